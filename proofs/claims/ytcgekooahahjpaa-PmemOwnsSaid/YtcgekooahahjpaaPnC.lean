/- Memories of 256 bytes, whole: what is seen and what lasts; one byte written over. -/
import Derived.Test.YtcgekooahahjpaaPnB
namespace Go.Proofs.Ytcgekooahahjpaa
open Go.RowKit
set_option linter.unusedSimpArgs false
set_option linter.unusedVariables false

theorem load256 {w : World} {g v d p : Nat} {M : MemM} {X : List UInt8} (h : MemP w g v d p M) (hl : M.V.length = 256) (hX : M.V = X) :
    Calls Try.prog 17 #[.pointer (some ⟨g, 0, none⟩), .int .i64 0, .int .i64 256] w fun e w' => ∃ a c, e = .returned (.tuple #[.slice a 256 c, .int .i64 0]) ∧ OwnB w' w.heap.size a c X ∧ Below w.heap.size w w' := by
  have := load_ok h 0 256 (by omega)
  rw [List.drop_zero, List.take_of_length_le (by omega), hX] at this
  exact this
theorem lasts256 {w : World} {g v d p : Nat} {M : MemM} {X : List UInt8} (h : MemP w g v d p M) (hl : M.V.length = 256) (hX : M.D = X) :
    Calls Try.prog 20 #[.pointer (some ⟨g, 0, none⟩), .int .i64 0, .int .i64 256] w fun e w' => ∃ a c, e = .returned (.tuple #[.slice a 256 c, .int .i64 0]) ∧ OwnB w' w.heap.size a c X ∧ Below w.heap.size w w' := by
  have := lasts_ok h 0 256 (by omega)
  have hD := h.1.1
  rw [List.drop_zero, List.take_of_length_le (by omega), hX] at this
  exact this
theorem store_v {w X : World} {g v d p : Nat} {M : MemM} {q : Int} (h : MemP X g v d p M) (bel : Below w.heap.size w X) (qb : i64B q) {a : Option Addr} {c : Nat} {b : List UInt8} (hr : RowB w a c b) (k : Nat) (hk : k = b.length) (E : Int) (hE : errM M q b.length = E) :
    Calls Try.prog 22 #[.pointer (some ⟨g, 0, none⟩), .int .i64 q, .slice a k c] X fun e w' => e = .returned (.int .i64 E) ∧ MemP w' g v d p (storeU M q b) ∧ Turns (fun k => k = v ∨ k = p) X w' := by
  subst hk; subst hE
  exact store_u h q qb a c b (hr.mono bel)
theorem storeU_D (M : MemM) (q : Int) (b : List UInt8) : (storeU M q b).D = M.D := by unfold storeU; split <;> rfl
theorem storeU_in {M : MemM} {q : Nat} {b : List UInt8} (h : q + b.length ≤ M.V.length) : (storeU M q b).V = splice M.V q b ∧ errM M q b.length = 0 := by
  unfold storeU errM
  have := inM_mk (M := M) h
  rw [if_pos this, if_pos this]; exact ⟨rfl, rfl⟩
theorem storeU_out {M : MemM} {q : Int} {b : List UInt8} (h : ¬ inM M q b.length = true) : (storeU M q b).V = M.V ∧ errM M q b.length = 1 := by
  unfold storeU errM
  rw [if_neg h, if_neg h]; exact ⟨rfl, rfl⟩
theorem inM_cases (M : MemM) (q : Int) (b : List UInt8) : (∃ k : Nat, q = k ∧ k + b.length ≤ M.V.length) ∨ ¬ inM M q b.length = true := by
  by_cases h : inM M q b.length = true
  · obtain ⟨a, m, e1, e2, hl⟩ := inM_true h
    exact .inl ⟨a, e1, by omega⟩
  · exact .inr h
theorem splice_nil {α : Type} (L : List α) (q : Nat) : splice L q ([] : List α) = L := by simp [splice]
theorem splice_put {V b : List UInt8} {q j : Nat} (hl : q + b.length ≤ V.length) (hj : j < b.length) : (splice V q (b.take j)).set (q + j) (b.getD j 0) = splice V q (b.take (j + 1)) := by
  have l1 : (b.take j).length = j := by simp; omega
  have l2 : (b.take (j + 1)).length = j + 1 := by simp; omega
  have e1 : (splice V q (b.take j)).length = V.length := length_splice _ _ _ (by omega)
  have e2 : (splice V q (b.take (j + 1))).length = V.length := length_splice _ _ _ (by omega)
  refine list8_ext (by simp [e1, e2]) fun i hi => ?_
  rw [getD_splice _ _ _ (by omega), l2]
  simp only [List.getD_eq_getElem?_getD, List.getElem?_set, e1]
  by_cases h0 : q + j = i
  · rw [if_pos h0, if_pos (by omega), if_pos (by omega)]
    have : i - q = j := by omega
    simp [List.getElem?_take, this]
  · rw [if_neg h0]
    have g1 := getD_splice V q (b.take j) (by omega) i
    rw [List.getD_eq_getElem?_getD] at g1
    rw [g1, l1]
    by_cases h1 : q ≤ i ∧ i < q + j
    · rw [if_pos h1, if_pos (by omega)]
      simp only [List.getD_eq_getElem?_getD, List.getElem?_take]
      rw [if_pos (by omega), if_pos (by omega)]
    · rw [if_neg h1, if_neg (by omega), List.getD_eq_getElem?_getD]
theorem bytes_set (xs : List UInt8) (Z : List Value) {k : Nat} (hk : k < xs.length) (x : UInt8) : (xs.map byteV ++ Z).set k (byteV x) = (xs.set k x).map byteV ++ Z := by
  rw [List.set_append_left _ _ (by simpa using hk), List.map_set]
theorem Turns.setIn {X : Nat → Prop} {w w' : World} (h : Turns X w w') {g : Nat} (hp : X g) (i : Nat) (v : Value) : Turns X w (w'.setCell ⟨g, i, none⟩ v) := h.setCell (p := ⟨g, i, none⟩) hp v
theorem same_256 {w : World} {a b : Option Addr} {c d : Nat} {X : List UInt8} (hX : X.length = 256) (ha : RowB w a c X) (hb : RowB w b d X) :
    Calls Try.prog 19 #[.slice a 256 c, .slice b 256 d] w fun e w' => e = .returned (.bool true) ∧ Below w.heap.size w w' := by
  have := same_any a b c d X X w ha hb (by omega) (by omega)
  rw [decide_eq_true rfl, hX] at this
  exact this
end Go.Proofs.Ytcgekooahahjpaa
