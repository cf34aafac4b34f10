import Derived.Test.YtngfpndikjbioaaClogZi
import Derived.Deep.Slices
import Derived.Deep.Fields
import Derived.ChangeSame
namespace Go.Proofs.Ytngfpndikjbioaa
open Go.RowKit Go.WideShapes Go.ChangeShapes Go.Deep
set_option linter.unusedSimpArgs false
set_option linter.unusedVariables false

theorem spot_none16 {w : World} {x : Addr} {n : Int} (h : w.cell? x = some (.int .i64 n)) : x.spot = none := by
  unfold World.cell? at h
  cases hs : x.spot with
  | none => rfl
  | some q => simp [hs] at h; split at h <;> simp_all

theorem open_recs {H : Type} {enc : TypeId × Value → H} {W : World} {base : Nat} {held : Bool} {a : Option Addr} {n c : Nat} {d : DataW H} {p : List MemPlace}
    (h : DataW.Trod enc Try.prog W base (fun _ => true) held 43 (.slice a n c) d p) : ∃ L : List RecT, n = L.length ∧ RowR W a c L := by
  have kC : Try.prog.cellsOf 23 = 5 := by kernel_rfl
  have k1 : Try.prog.cellsOf 3 = 1 := by kernel_rfl
  have k2 : Try.prog.cellsOf 4 = 1 := by kernel_rfl
  have k3 : Try.prog.cellsOf 9 = 1 := by kernel_rfl
  obtain ⟨fuel, hf⟩ := h
  rcases open_slice Try.underlying43 hf with ⟨hcs, _⟩ | ⟨x, len, cap, m, q, D, Pl, hcs, _, hl, hm, hmm, _, hi⟩
  · simp [Value.cells] at hcs
    obtain ⟨rfl, rfl, rfl⟩ := hcs
    exact ⟨[], rfl, Row.nil _ _⟩
  · simp [Value.cells] at hcs
    obtain ⟨rfl, rfl, rfl⟩ := hcs
    have hnm : n ≤ m := by rw [hmm]; split <;> omega
    have one : ∀ i, ∃ v : RecT, i < n → ∀ j u, (recCells v)[j]? = some u → W.cell? ((x.add (i * 5)).add j) = some u := by
      intro i
      by_cases hlt : i < n
      · obtain ⟨cs', hc, ht⟩ := hi i (by omega)
        rw [kC] at hc
        obtain ⟨_, hlen, hat⟩ := World.cells?_some hc
        obtain ⟨ys, r, _, _, _, hyl, hg⟩ := DataW.trod_struct Try.underlying23 ht
        have hyl' : ys.length = 5 := hyl
        match cs', hlen with
        | [u0, u1, u2, u3, u4], _ =>
          have g0 := hg 0 _ rfl
          have g1 := hg 1 _ rfl
          have g2 := hg 2 _ rfl
          have g3 := hg 3 _ rfl
          have g4 := hg 4 _ rfl
          simp [k1, k2, k3] at g0 g1 g2 g3 g4
          rw [List.getElem?_eq_getElem (by omega)] at g0 g1 g2 g3 g4
          obtain ⟨n0, e0, _, w0⟩ := DataW.trod_int Try.underlying3 g0
          obtain ⟨n1, e1, _, w1⟩ := DataW.trod_int Try.underlying3 g1
          obtain ⟨n2, e2, _⟩ := DataW.trod_bool Try.underlying4 g2
          obtain ⟨n3, e3, _, w3⟩ := DataW.trod_int Try.underlying3 g3
          obtain ⟨n4, e4, _⟩ := DataW.trod_string Try.underlying9 g4
          simp only [List.cons.injEq, and_true] at e0 e1 e2 e3 e4
          subst e0 e1 e2 e3 e4
          refine ⟨⟨n0, n1, n2, n3, n4⟩, fun _ j u hu => ?_⟩
          have hj : j < 5 := (List.getElem?_eq_some_iff.1 hu).1
          have hh := hat j (by simpa using hj)
          exact hh.trans hu
      · exact ⟨rec0, fun h => absurd h hlt⟩
    obtain ⟨f, hf⟩ := Classical.skolem.1 one
    refine ⟨(List.range n).map f, by simp, by rw [flat5_len], by simpa using hl, hm, (fun h => by cases h), fun hn => ?_⟩
    have hn' : 0 < n := by simpa using hn
    have hq := hf 0 hn' 0 _ rfl
    rw [Nat.zero_mul, show x.add 0 = x from by unfold Addr.add; simp] at hq
    have hq' : W.cell? x = some (.int .i64 (f 0).c) := by
      have e : x.add 0 = x := by unfold Addr.add; simp
      rw [e] at hq; exact hq
    have hsp := spot_none16 hq'
    obtain ⟨b, off, sp⟩ := x
    simp at hsp
    subst hsp
    refine ⟨b, off, rfl, ?_, fun j u hu => ?_⟩
    · exact World.block_lt_of_cell? W _ hq'
    · have hjl : j < n * 5 := by
        have := (List.getElem?_eq_some_iff.1 hu).1
        rw [flat5_len] at this
        simpa using this
      have hg := flat5_get ((List.range n).map f) (j / 5) (j % 5) (by simp; omega) (by omega)
      rw [show j / 5 * 5 + j % 5 = j by omega, hu] at hg
      have hd : ((List.range n).map f).getD (j / 5) rec0 = f (j / 5) := by
        have hlt : j / 5 < n := by omega
        rw [List.getD_eq_getElem?_getD]
        simp [hlt]
      rw [hd] at hg
      have := hf (j / 5) (by omega) (j % 5) u hg.symm
      rw [Addr.add_mid, Addr.add_mid] at this
      rw [show off + j = off + j / 5 * 5 + j % 5 by omega]
      exact this

/-- an element of one's own row set -/
theorem Own.set1 {w : World} {B : Nat} {e : TypeId} {g n c : Nat} {cs : List Value} (h : Own w B e 1 (some ⟨g, 0, none⟩) n c cs) (j : Nat) (v : Value) (hj : j < n) : Own (w.setCell ⟨g, j, none⟩ v) B e 1 (some ⟨g, 0, none⟩) n c (cs.set j v) := by
  obtain ⟨L, hb, hl, hB, ht, hnc, hc⟩ := Own.blk h
  have hb' := hb.set j v
  refine ⟨?_, .inr ⟨g, c, (L.set j v).toArray, rfl, hB, hb', hnc, hc, by simp [hl], ?_⟩⟩
  · rw [List.length_set]; exact h.1
  · simp only [List.take_set]
    rw [Nat.mul_one] at ht ⊢
    rw [← ht]

end Go.Proofs.Ytngfpndikjbioaa
