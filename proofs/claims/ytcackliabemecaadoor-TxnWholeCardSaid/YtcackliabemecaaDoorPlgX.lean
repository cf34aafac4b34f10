/- Patches that are handed in. -/
import Derived.Test.YtcackliabemecaaDoorPlgA
import Derived.Deep.Slices
import Derived.Deep.Fields
import Derived.ChangeSame
namespace Go.Proofs.YtcackliabemecaaDoor
open Go.RowKit Go.WideShapes Go.ChangeShapes Go.Deep
set_option linter.unusedSimpArgs false
set_option linter.unusedVariables false
set_option maxRecDepth 100000

theorem spot_noneP {w : World} {x : Addr} {n : Int} (h : w.cell? x = some (.int .i64 n)) : x.spot = none := by
  unfold World.cell? at h
  cases hs : x.spot with
  | none => rfl
  | some q => simp [hs] at h; split at h <;> simp_all
def gPt : PtM := ⟨0, []⟩
def inPts (L : List PtM) : Prop := okPts L ∧ (∀ p ∈ L, p.d.length ≤ maxLen) ∧ L.length ≤ maxLen
theorem open_ptsF {H : Type} {enc : TypeId × Value → H} {W : World} {base fuel : Nat} {held : Bool} {cs : List Value} {X : DataW H × List MemPlace}
    (hf : DataW.trod enc Tryd.prog W base (fun _ => true) held fuel 34 cs = some X) : ∃ a c, ∃ L : List PtM, cs = [.slice a L.length c] ∧ RowPt W a c L ∧ inPts L := by
  have kC : Tryd.prog.cellsOf 37 = 2 := by kernel_rfl
  have k1 : Tryd.prog.cellsOf 3 = 1 := by kernel_rfl
  have k3 : Tryd.prog.cellsOf 9 = 1 := by kernel_rfl
  rcases open_slice Tryd.underlying34 hf with ⟨hcs, _⟩ | ⟨x, len, cap, m, q, D, Pl, hcs, _, hl, hm, hmm, _, hi⟩
  · exact ⟨none, 0, [], hcs, Row.nil _ _, fun p h => (by cases h), fun p h => (by cases h), Nat.zero_le _⟩
  · have hnm : len ≤ m := by rw [hmm]; split <;> omega
    have one : ∀ i, ∃ v : PtM, i < len → (∀ j u, (ptC v)[j]? = some u → W.cell? ((x.add (i * 2)).add j) = some u) ∧ okI v.at_ ∧ v.d.length ≤ maxLen := by
      intro i
      by_cases hlt : i < len
      · obtain ⟨cs', hc, ht⟩ := hi i (by omega)
        rw [kC] at hc
        obtain ⟨_, hlen, hat⟩ := World.cells?_some hc
        obtain ⟨ys, r, _, _, _, hyl, hg⟩ := DataW.trod_struct Tryd.underlying37 ht
        have hyl' : ys.length = 2 := hyl
        match cs', hlen with
        | [u0, u1], _ =>
          have g0 := hg 0 _ rfl
          have g1 := hg 1 _ rfl
          simp [k1, k3] at g0 g1
          rw [List.getElem?_eq_getElem (by omega)] at g0 g1
          obtain ⟨n0, e0, _, w0⟩ := DataW.trod_int Tryd.underlying3 g0
          obtain ⟨n1, e1, _, w1⟩ := DataW.trod_string Tryd.underlying9 g1
          simp only [List.cons.injEq, and_true] at e0 e1
          subst e0 e1
          refine ⟨⟨n0, n1.data.toList⟩, fun _ => ⟨fun j u hu => ?_, i64_bd w0, ?_⟩⟩
          · have hj : j < 2 := (List.getElem?_eq_some_iff.1 hu).1
            have hh := hat j (by simpa using hj)
            refine hh.trans ?_
            rw [← hu]
            show [Value.int .i64 n0, .string n1][j]? = [Value.int .i64 n0, .string (bsB n1.data.toList)][j]?
            rw [bsB_of]
          · show n1.data.toList.length ≤ _
            rw [Array.length_toList]; exact w1
      · exact ⟨gPt, fun h => absurd h hlt⟩
    obtain ⟨f, hfn⟩ := Classical.skolem.1 one
    have hlenf : (((List.range len).map f).flatMap ptC).length = len * 2 := by rw [pts_len]; simp
    refine ⟨some x, cap, (List.range len).map f, by rw [hcs]; simp, ⟨by rw [hlenf]; simp, by simpa using hl, hm, (fun h => by cases h), fun hn => ?_⟩, fun p hp => ?_, fun p hp => ?_, by simp; omega⟩
    · have hn' : 0 < len := by simpa using hn
      have hq := (hfn 0 hn').1 0 _ rfl
      rw [Nat.zero_mul] at hq
      have hq' : W.cell? x = some (.int .i64 (f 0).at_) := by
        have e : x.add 0 = x := by unfold Addr.add; simp
        rw [e, e] at hq; exact hq
      have hsp := spot_noneP hq'
      obtain ⟨b, off, sp⟩ := x
      simp at hsp
      subst hsp
      refine ⟨b, off, rfl, World.block_lt_of_cell? W _ hq', fun j u hu => ?_⟩
      have hjl : j < len * 2 := by
        have := (List.getElem?_eq_some_iff.1 hu).1
        rw [hlenf] at this
        exact this
      have hg := flat_get ptC 2 ptC_len ((List.range len).map f) (j / 2) (j % 2) (by simp; omega) (by omega)
      rw [show j / 2 * 2 + j % 2 = j by omega, hu] at hg
      simp only [List.getElem_map, List.getElem_range] at hg
      have := (hfn (j / 2) (by omega)).1 (j % 2) u hg.symm
      rw [Addr.add_mid, Addr.add_mid] at this
      rw [show off + j = off + j / 2 * 2 + j % 2 by omega]
      exact this
    · obtain ⟨i, hi, rfl⟩ := List.mem_map.1 hp
      exact (hfn i (List.mem_range.1 hi)).2.1
    · obtain ⟨i, hi, rfl⟩ := List.mem_map.1 hp
      exact (hfn i (List.mem_range.1 hi)).2.2
theorem open_pts {H : Type} {enc : TypeId × Value → H} {W : World} {base : Nat} {held : Bool} {a : Option Addr} {n c : Nat} {d : DataW H} {p : List MemPlace}
    (h : DataW.Trod enc Tryd.prog W base (fun _ => true) held 34 (.slice a n c) d p) : ∃ L : List PtM, n = L.length ∧ RowPt W a c L ∧ inPts L := by
  obtain ⟨fuel, hf⟩ := h
  obtain ⟨a', c', L, e, r, k⟩ := open_ptsF hf
  simp [Value.cells] at e
  obtain ⟨rfl, rfl, rfl⟩ := e
  exact ⟨L, rfl, r, k⟩
end Go.Proofs.YtcackliabemecaaDoor
