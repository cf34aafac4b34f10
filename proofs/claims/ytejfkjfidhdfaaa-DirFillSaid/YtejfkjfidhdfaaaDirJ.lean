/- The statements of stage 12: entries that are handed in; DirFinds. -/
import Derived.Test.YtejfkjfidhdfaaaDirI
import Derived.Deep.Slices
import Derived.Deep.Fields
import Derived.ChangeSame
namespace Go.Proofs.Ytejfkjfidhdfaaa
open Go.RowKit Go.Shelf Go.WideShapes Go.ChangeShapes Go.Deep
set_option linter.unusedSimpArgs false
set_option linter.unusedVariables false

theorem spot_noneS {w : World} {x : Addr} {n : ByteArray} (h : w.cell? x = some (.string n)) : x.spot = none := by
  unfold World.cell? at h
  cases hs : x.spot with
  | none => rfl
  | some q => simp [hs] at h; split at h <;> simp_all

theorem open_ents {H : Type} {enc : TypeId × Value → H} {W : World} {base : Nat} {held : Bool} {a : Option Addr} {n c : Nat} {d : DataW H} {p : List MemPlace}
    (h : DataW.Trod enc Try.prog W base (fun _ => true) held 22 (.slice a n c) d p) : ∃ L : List EntT, n = L.length ∧ RowE W a c L := by
  have kC : Try.prog.cellsOf 24 = 2 := by kernel_rfl
  have k1 : Try.prog.cellsOf 3 = 1 := by kernel_rfl
  have k3 : Try.prog.cellsOf 9 = 1 := by kernel_rfl
  obtain ⟨fuel, hf⟩ := h
  rcases open_slice Try.underlying22 hf with ⟨hcs, _⟩ | ⟨x, len, cap, m, q, D, Pl, hcs, _, hl, hm, hmm, _, hi⟩
  · simp [Value.cells] at hcs
    obtain ⟨rfl, rfl, rfl⟩ := hcs
    exact ⟨[], rfl, Row.nil _ _⟩
  · simp [Value.cells] at hcs
    obtain ⟨rfl, rfl, rfl⟩ := hcs
    have hnm : n ≤ m := by rw [hmm]; split <;> omega
    have one : ∀ i, ∃ v : EntT, i < n → ∀ j u, (entC v)[j]? = some u → W.cell? ((x.add (i * 2)).add j) = some u := by
      intro i
      by_cases hlt : i < n
      · obtain ⟨cs', hc, ht⟩ := hi i (by omega)
        rw [kC] at hc
        obtain ⟨_, hlen, hat⟩ := World.cells?_some hc
        obtain ⟨ys, r, _, _, _, hyl, hg⟩ := DataW.trod_struct Try.underlying24 ht
        have hyl' : ys.length = 2 := hyl
        match cs', hlen with
        | [u0, u1], _ =>
          have g0 := hg 0 _ rfl
          have g1 := hg 1 _ rfl
          simp [k1, k3] at g0 g1
          rw [List.getElem?_eq_getElem (by omega)] at g0 g1
          obtain ⟨n0, e0, _⟩ := DataW.trod_string Try.underlying9 g0
          obtain ⟨n1, e1, _, w1⟩ := DataW.trod_int Try.underlying3 g1
          simp only [List.cons.injEq, and_true] at e0 e1
          subst e0 e1
          refine ⟨⟨n0, n1⟩, fun _ j u hu => ?_⟩
          have hj : j < 2 := (List.getElem?_eq_some_iff.1 hu).1
          have hh := hat j (by simpa using hj)
          exact hh.trans hu
      · exact ⟨e0D, fun h => absurd h hlt⟩
    obtain ⟨f, hf⟩ := Classical.skolem.1 one
    have hlenf : (tabC ((List.range n).map f)).length = n * 2 := by rw [tabC_len]; simp; omega
    refine ⟨(List.range n).map f, by simp, by rw [hlenf]; simp, by simpa using hl, hm, (fun h => by cases h), fun hn => ?_⟩
    have hn' : 0 < n := by simpa using hn
    have hq := hf 0 hn' 0 _ rfl
    rw [Nat.zero_mul, show x.add 0 = x from by unfold Addr.add; simp] at hq
    have hq' : W.cell? x = some (.string (f 0).nm) := by
      have e : x.add 0 = x := by unfold Addr.add; simp
      rw [e] at hq; exact hq
    have hsp := spot_noneS hq'
    obtain ⟨b, off, sp⟩ := x
    simp at hsp
    subst hsp
    refine ⟨b, off, rfl, ?_, fun j u hu => ?_⟩
    · exact World.block_lt_of_cell? W _ hq'
    · have hjl : j < n * 2 := by
        have := (List.getElem?_eq_some_iff.1 hu).1
        rw [hlenf] at this
        exact this
      have hlt : j / 2 < ((List.range n).map f).length := by simp; omega
      have hg := flat_get entC 2 (fun _ => rfl) ((List.range n).map f) (j / 2) (j % 2) hlt (by omega)
      rw [show j / 2 * 2 + j % 2 = j by omega] at hg
      have hu' : (((List.range n).map f).flatMap entC)[j]? = some u := hu
      rw [hu'] at hg
      simp only [List.getElem_map, List.getElem_range] at hg
      have := hf (j / 2) (by omega) (j % 2) u hg.symm
      rw [Addr.add_mid, Addr.add_mid] at this
      rw [show off + j = off + j / 2 * 2 + j % 2 by omega]
      exact this

theorem own_entAt {w : World} {B g c : Nat} {t : List EntT} (ht : t.length = 16) (h : Own w B 24 2 (some ⟨g, 0, none⟩) 16 c (tabC t)) : EntAt w g 0 t := by
  have r : RowE w (some ⟨g, 0, none⟩) c t := by unfold RowE; rw [ht]; exact h.row
  obtain ⟨b, off, e, hlt, hc⟩ := rowE_cells r (by omega)
  cases e
  exact ⟨hlt, hc⟩

theorem EntAt.grown {w w' : World} {b off k : Nat} {t : List EntT} (h : EntAt w b off t) (G : w.grownBy w' (some k)) (hne : b ≠ k) : EntAt w' b off t :=
  ⟨Nat.lt_of_lt_of_le h.1 G.size, fun i hi => ⟨(World.cell?_of_block (a := ⟨b, off + i * 2, none⟩) (G.block b h.1 (by simpa using hne))).trans (h.2 i hi).1, (World.cell?_of_block (a := ⟨b, off + i * 2 + 1, none⟩) (G.block b h.1 (by simpa using hne))).trans (h.2 i hi).2⟩⟩

set_option maxHeartbeats 1000000 in
set_option maxRecDepth 100000 in
theorem DirFinds_walk (w : World) (a : Option Addr) (c : Nat) (L : List EntT) (r : RowE w a c L) (s : ByteArray) (ws : s.size ≤ maxLen) :
    Calls Try.prog 3 #[.slice a L.length c, .string s] w fun e w' => e = .returned (.bool true) ∧ Below w.heap.size w w' := by
  obtain ⟨z, hz⟩ : ∃ z, z = zeroT := ⟨_, rfl⟩
  have HZE := hid hz
  have HZ := hid (show z.length = 16 by rw [hz]; exact zero_len)
  have HL := hid (tab_len HZ.out)
  have HT := hid (tabE_len L)
  have HTab := hid (table_any a c L w r)
  have hs20 := shortB_size s
  have HSh := hid (fun w1 => short_any s w1)
  have hs : (shortB s).size ≤ 1000 := by omega
  clear hz r ws hs20
  generalize tabE L = t at *
  generalize shortB s = q at *
  have HF := hid (fun w1 => findT_any t q HT.out hs w1)
  have HP := hid (fun w1 => placeT_any t q HT.out hs w1)
  have HFr := hid (fun b off c w1 h => findRef_any t q b off c HT.out hs w1 h)
  have HPr := hid (fun b off c w1 h => placeRef_any t q b off c HT.out hs w1 h)
  clear hs
  generalize findT t q = ft at *
  generalize placeT t q = pt at *
  go_enter Try.func3, Try.ntmps3
  go_wp2_with (go_at_call 10; fail)
  refine (HTab.out).mono ?_
  rintro e w1 ⟨g, c1, rfl, o1, b1⟩
  have hE1 := own_entAt HT.out o1
  have HE1 := hid hE1; have B1 := hid b1
  clear o1 b1 hE1
  go_wp2_with (first
    | ((with_reducible refine wpl_allocT (z := z) HZE.out rfl rfl ?_); intro w2 k2 b2 s2; have K2 := hid k2; have B2 := hid (kept_trans B1.out b2); have E2 := hid (HE1.out.mono b2); clear k2 b2 s2)
    | ((with_reducible refine wpl_storeT rfl _ _ rfl w1.heap.size rfl t HT.out rfl K2.out HL.out ?_); intro w3 k3 g3; have K3 := hid k3; have B3 := hid (below_grownS B2.out g3 B1.out.size B2.out.size); have G3 := hid g3; clear k3 g3)
    | (go_at_call 11; fail))
  have E3 := hid (E2.out.grown G3.out (by have := HE1.out.1; omega))
  refine (HSh.out w3).mono ?_
  rintro e w4 ⟨rfl, rfl⟩
  go_wp2_with (first
    | (with_reducible refine wpl_loadT rfl _ rfl w1.heap.size rfl t HT.out K3.out ?_)
    | (go_at_call 12; fail))
  refine (HF.out w3).mono ?_
  rintro e w5 ⟨rfl, b5⟩
  have K5 := hid (K3.out.mono b5); have E5 := hid (E3.out.mono b5); have B5 := hid (kept_trans B3.out b5)
  clear b5
  go_wp2_with (go_at_call 13; fail)
  refine (HFr.out g 0 c1 w5 E5.out).mono ?_
  rintro e w6 ⟨rfl, b6⟩
  have K6 := hid (K5.out.mono b6); have E6 := hid (E5.out.mono b6); have B6 := hid (kept_trans B5.out b6)
  clear b6
  go_wp2_with (first
    | (with_reducible refine wpl_loadGT (by kernel_rfl) _ rfl w1.heap.size rfl t HT.out K6.out ?_)
    | (go_at_call 14; fail))
  refine (HP.out w6).mono ?_
  rintro e w7 ⟨rfl, b7⟩
  have K7 := hid (K6.out.mono b7); have E7 := hid (E6.out.mono b7); have B7 := hid (kept_trans B6.out b7)
  clear b7
  go_wp2_with (go_at_call 15; fail)
  refine (HPr.out g 0 c1 w7 E7.out).mono ?_
  rintro e w8 ⟨rfl, b8⟩
  have B8 := hid (kept_trans B7.out b8)
  clear b8
  go_wp2_with (go_at_call 16; fail)
  refine (lives12_any w8).mono ?_
  rintro e w9 ⟨rfl, b9⟩
  go_wp2_with fail
  go_ret
  exact ⟨rfl, kept_trans B8.out b9⟩
end Go.Proofs.Ytejfkjfidhdfaaa
