import Derived.Test.YtoagjlaoboldgaaCrcE
import Derived.Test.YtoagjlaoboldgaaLibBB
namespace Go.Proofs.Ytoagjlaoboldgaa
open Go.RowKit
set_option linter.unusedSimpArgs false
set_option linter.unusedVariables false

theorem own_grown {w w' : World} {B : Nat} {e : TypeId} {sz : Nat} {a : Option Addr} {n c k : Nat} {cs : List Value} (h : Own w B e sz a n c cs) (g : w.grownBy w' (some k)) (hk : k < B) : Own w' B e sz a n c cs := by
  refine World.ownsRow.kept h g ?_
  cases ha : (Value.slice a n c).ownBlock with
  | none => exact .inl rfl
  | some q => exact .inr (by have := (World.ownsRow.lt h q ha).1; simp; omega)

theorem reg_below {w w' : World} {h r B : Nat} (H : Reg w h r) (hb : Below B w w') (hh : h < B) : Reg w' h r := (hb.block h hh).trans H

set_option maxHeartbeats 1000000 in
theorem CrcCuts_walk (w : World) (a : Option Addr) (c : Nat) (l : List (Option Addr × Nat × List UInt8)) (r : RowBB w a c l) :
    Calls Try.prog 4 #[.slice a l.length c] w fun e w' => e = .returned (.bool true) ∧ Below w.heap.size w w' := by
  have hll : l.length ≤ 9223372036854775807 := by have h1 := r.1.2.1; have h2 := r.1.2.2.1; unfold maxLen at h2; omega
  go_enter Try.func4, Try.ntmps4
  go_wp2_with fail
  refine (new_any w).mono ?_
  rintro e w1 ⟨rfl, H1, b1⟩
  have hlt1 := H1.lt
  go_wp2_with fail
  go_loopw [4, 5] (fun al i wr => ∃ (j : Nat) (acc : List UInt8) (a' : Option Addr) (c' : Nat), j ≤ l.length ∧ j ≤ 12 ∧ i = .int .i64 j ∧ al = .slice a' acc.length c' ∧ acc.length ≤ 60 * j ∧ Own wr w1.heap.size 5 1 a' acc.length c' (acc.map byteV) ∧ Reg wr w.heap.size (crcReg 4294967295 acc) ∧ Below w.heap.size w wr ∧ w1.heap.size ≤ wr.heap.size)
    (fun _ i _ => l.length - (intOf i).toNat)
  case atStart => exact ⟨0, [], none, 0, by omega, by omega, rfl, rfl, by simp, Own.nil _ _ _ _, by rw [crcReg_nil]; exact H1, b1, Nat.le_refl _⟩
  case round =>
    clear H1 b1
    obtain ⟨j, acc, a', c', hj, hj12, rfl, rfl, hal, hown, H, hbel, hsz⟩ := hrel
    have hq := crcReg_lt (r := 4294967295) (by omega) acc
    by_cases hin : j < l.length ∧ j < 12
    · obtain ⟨h1, h2⟩ := hin
      have h2' : (j : Int) < 12 := by omega
      have d1 : decide ((j : Int) < 12) = true := decide_eq_true h2'
      obtain ⟨b, off, rfl, hb, hc⟩ := (r.1.mono hbel).at (by omega)
      obtain ⟨bw, offw, ew, hbw, _⟩ := r.1.at (by omega)
      cases ew
      obtain ⟨⟨pa, pc, px⟩, hp⟩ : ∃ p, l[j]? = some p := ⟨_, List.getElem?_eq_getElem h1⟩
      have hcj := hc j (.slice pa px.length pc) (by rw [List.getElem?_map, hp]; rfl)
      have rp := (r.2 _ (List.mem_of_getElem? hp)).mono hbel
      have rp0 := r.2 _ (List.mem_of_getElem? hp)
      simp only at rp rp0
      clear hc hp
      have r60 := rowB_take rp 60
      have h60 := len60 px
      have hap : ∀ b off, pa = some ⟨b, off, none⟩ → b ≠ w.heap.size ∨ px.take 60 = [] := fun b off e => by
        by_cases hn : 0 < (px.take 60).length
        · obtain ⟨b', off', e', hlt, _⟩ := (rowB_take rp0 60).at hn
          rw [e] at e'; cases e'
          exact .inl (by omega)
        · exact .inr (List.eq_nil_of_length_eq_zero (by omega))
      have hfew := fun w' (h : RowB w' pa pc px) => few_any pa pc px w' h
      have HF := hid hfew; clear hfew
      go_wp2_with fail
      refine (HF.out wr rp).mono ?_
      rintro e w' ⟨rfl, rfl⟩
      generalize hy : px.take 60 = ys at *
      have HY := hid hy; clear hy
      go_wp2_with fail
      refine (add_any w.heap.size _ pa pc ys wr H hq r60 hap).mono ?_
      rintro e w3 ⟨rfl, H3, g3⟩
      rw [← crcReg_append] at H3
      have bel3 : Below w.heap.size w w3 := hbel.grown g3 hbel.size (fun k hk => by cases hk; exact Nat.le_refl _)
      have own3 := own_grown hown g3 hlt1
      have rp3 := rp0.mono bel3
      have cj3 : w3.cell? ⟨b, off + j, none⟩ = some (.slice pa px.length pc) := by
        have e1 := hbel.cell (p := ⟨b, off + j, none⟩) hbw
        have e2 := bel3.cell (p := ⟨b, off + j, none⟩) hbw
        rw [e2, ← e1]; exact hcj
      have hs3 : w1.heap.size ≤ w3.heap.size := Nat.le_trans hsz g3.size
      clear hown hbel H hcj rp r60 g3 hsz
      go_wp2_with fail
      refine (HF.out w3 rp3).mono ?_
      rintro e w' ⟨rfl, rfl⟩
      have ry3 := rowB_take rp3 60
      rw [HY.out] at ry3
      have t1 : True := trivial
      go_wp2_with (first
        | (at_builtin; have _t := t1; refine wpl_append rfl (.tmp 26) (.tmp 31) rfl E8 w1.heap.size rfl rfl own3 ry3 (byteV_one ys) (by omega) (by omega) hs3 ?_; clear t1; intro a4 c4 w4 own4 g4 b4))
      rw [← List.map_append] at own4
      have hlen4 : acc.length + ys.length = (acc ++ ys).length := by simp
      rw [hlen4] at own4
      rw [hlen4]
      have H4 := reg_below H3 b4 hlt1
      have bel4 : Below w.heap.size w w4 := bel3.trans (b4.mono (Nat.le_of_lt hlt1))
      have hq4 := crcReg_lt (r := 4294967295) (by omega) (acc ++ ys)
      have hal4 : (acc ++ ys).length ≤ 60 * (j + 1) := by rw [← hlen4]; omega
      have hs4 : w1.heap.size ≤ w4.heap.size := Nat.le_trans hs3 b4.size
      clear own3 H3 bel3 g4 b4 ry3 rp3 cj3 hlen4 hal
      generalize acc ++ ys = zs at *
      go_wp2_with fail
      refine (hsum_any w.heap.size _ w4 H4 hq4).mono ?_
      rintro e w' ⟨rfl, rfl⟩
      go_wp2_with fail
      refine (sum_any a4 c4 zs w4 own4.row).mono ?_
      rintro e w5 ⟨rfl, b5⟩
      have hne : (((4294967295 - crcReg 4294967295 zs : Nat) : Int) != (crcF zs : Int)) = false := by simp [crcF]
      have H5 := H4.mono b5
      have own5 := own4.mono b5
      have bel5 := kept_trans bel4 b5
      have hs5 := Nat.le_trans hs4 b5.size
      clear H4 own4 bel4 b5
      go_wp2_with fail
      refine (hsum_any w.heap.size _ w5 H5 hq4).mono ?_
      rintro e w' ⟨rfl, rfl⟩
      go_wp2_with fail
      refine (hsum_any w.heap.size _ w5 H5 hq4).mono ?_
      rintro e w' ⟨rfl, rfl⟩
      have hne2 : (((4294967295 - crcReg 4294967295 zs : Nat) : Int) != ((4294967295 - crcReg 4294967295 zs : Nat) : Int)) = false := by simp
      go_wp2_with fail
      go_roundw
      case rel => exact ⟨j + 1, zs, a4, c4, by omega, by omega, by go_num, rfl, hal4, own5, H5, bel5, hs5⟩
      case measure => simp [intOf]; omega
    · have hout : decide ((j : Int) < (l.length : Int)) = false ∨ (j < l.length ∧ decide ((j : Int) < 12) = false) := by
        by_cases h1 : j < l.length
        · exact .inr ⟨h1, decide_eq_false (by omega)⟩
        · exact .inl (decide_eq_false (by omega))
      have hjc : l.length ≤ j ∨ (j < l.length ∧ (12 : Int) ≤ (j : Int)) := by omega
      clear hin
      have e0 : crcF ([] : List UInt8) = 0 := by decide +kernel
      rcases hjc with h1 | ⟨h1, h2⟩
      all_goals
        go_wp2_with fail
        refine (reset_any w.heap.size _ wr H).mono ?_
        rintro e w3 ⟨rfl, H3, g3⟩
        have own3 := own_grown hown g3 hlt1
        have bel3 : Below w.heap.size w w3 := hbel.grown g3 hbel.size (fun k hk => by cases hk; exact Nat.le_refl _)
        clear hown H hbel
        go_wp2_with fail
        refine (hsum_any w.heap.size _ w3 H3 (by omega)).mono ?_
        rintro e w' ⟨rfl, rfl⟩
        go_wp2_with fail
        refine (sum_any a' c' acc w3 own3.row).mono ?_
        rintro e w5 ⟨rfl, b5⟩
        have hf := crcF_lt acc
        go_wp2_with fail
        refine (sumRef_any a' c' acc w5 (own3.mono b5).row).mono ?_
        rintro e w' ⟨rfl, rfl⟩
        have hbb : ((crcF acc : Int) == (crcF acc : Int)) = true := by simp
        go_wp2_with fail
        refine (lives_any _).mono ?_
        rintro e w6 ⟨rfl, b6⟩
        go_wp2_with fail
        go_ret
        exact ⟨rfl, kept_trans (kept_trans bel3 b5) b6⟩

end Go.Proofs.Ytoagjlaoboldgaa
