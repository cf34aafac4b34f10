/- What a crash leaves of a cell; a second crash. -/
import Derived.Test.YtcgekooahahjpaaPnC
namespace Go.Proofs.Ytcgekooahahjpaa
open Go.RowKit
set_option linter.unusedSimpArgs false
set_option linter.unusedVariables false

theorem crash_cell {M : MemM} (h : M.ok) (P : List Int) {k : Nat} (hk : 8 * k + 8 ≤ M.V.length) : cell8 (crashD M P) k = cell8 M.V k ∨ cell8 (crashD M P) k = cell8 M.D k := by
  have hD := h.1
  have e (i : Nat) (hi : i < 8) : (cell8 (crashD M P) k).getD i 0 = if selF (dirtyL M) P (dirtyL M).length k then M.V.getD (8 * k + i) 0 else M.D.getD (8 * k + i) 0 := by
    rw [cell8_get hi]
    have := mixF_get (selF (dirtyL M) P (dirtyL M).length) M.V M.D (i := 8 * k + i) (by omega)
    rw [show (8 * k + i) / 8 = k by omega] at this
    exact this
  have l0 := cell8_len (X := crashD M P) (k := k) (by rw [crashD_len]; omega)
  by_cases hs : selF (dirtyL M) P (dirtyL M).length k = true
  · left
    have l1 := cell8_len (X := M.V) (k := k) hk
    refine list8_ext (by omega) fun i hi => ?_
    rw [e i (by omega), if_pos hs, cell8_get (by omega)]
  · right
    have l1 := cell8_len (X := M.D) (k := k) (by omega)
    refine list8_ext (by omega) fun i hi => ?_
    rw [e i (by omega), if_neg hs, cell8_get (by omega)]
theorem mixF_same (f : Nat → Bool) (X : List UInt8) : mixF f X X = X := by
  refine list8_ext (mixF_len _ _ _) fun i hi => ?_
  rw [mixF_get _ _ _ hi]; split <;> rfl
theorem crash_twice (M : MemM) (P P2 : List Int) : (crashM (crashM M P) P2).V = crashD M P := mixF_same _ _
theorem dirty_none (M : MemM) (P : List Int) : dirtyL (crashM M P) = [] := by
  unfold dirtyL
  rw [List.filter_eq_nil_iff]
  intro k _ h
  have h2 : decide (cell8 (crashD M P) k ≠ cell8 (crashD M P) k) = true := h
  simp at h2
theorem dirty0 {w : World} {g v d p : Nat} {M : MemM} {P : List Int} (h : MemP w g v d p (crashM M P)) :
    Calls Try.prog 21 #[.pointer (some ⟨g, 0, none⟩)] w fun e w' => ∃ a c, e = .returned (.slice a 0 c) ∧ Below w.heap.size w w' := by
  refine (dirtyAll_any h).mono ?_
  rintro e w' ⟨a, c, rfl, _, b⟩
  rw [dirty_none]
  exact ⟨a, c, rfl, b⟩
/-- eight bytes of two rows compared -/
theorem same_cell {w : World} {g1 g2 c1 c2 : Nat} {X Y : List UInt8} (hX : X.length = 256) (hY : Y.length = 256) (h1 : RowB w (some ⟨g1, 0, none⟩) c1 X) (h2 : RowB w (some ⟨g2, 0, none⟩) c2 Y) (k K : Nat) (hK : K = 8 * k) (hk : k < 32) (o : Bool) (ho : decide (cell8 X k = cell8 Y k) = o) :
    Calls Try.prog 19 #[.slice (some ⟨g1, K, none⟩) 8 (c1 - K), .slice (some ⟨g2, K, none⟩) 8 (c2 - K)] w fun e w' => e = .returned (.bool o) ∧ Below w.heap.size w w' := by
  subst hK; subst ho
  have r1 := rowB_sub h1 (8 * k) 8 (by omega)
  have r2 := rowB_sub h2 (8 * k) 8 (by omega)
  have l1 := cell8_len (X := X) (k := k) (by omega)
  have l2 := cell8_len (X := Y) (k := k) (by omega)
  have := same_any _ _ _ _ _ _ w r1 r2 (by unfold cell8 at l1; omega) (by unfold cell8 at l2; omega)
  rw [show ((X.drop (8 * k)).take 8).length = 8 from l1, show ((Y.drop (8 * k)).take 8).length = 8 from l2, Nat.zero_add] at this
  exact this
theorem own_cap {w : World} {B g c : Nat} {X : List UInt8} (h : OwnB w B (some ⟨g, 0, none⟩) c X) (hX : X.length = 256) : 256 ≤ c ∧ c ≤ 9223372036854775807 := by
  have h1 := h.row.2.1
  have h2 := h.row.2.2.1
  unfold maxLen at h2
  omega
end Go.Proofs.Ytcgekooahahjpaa
