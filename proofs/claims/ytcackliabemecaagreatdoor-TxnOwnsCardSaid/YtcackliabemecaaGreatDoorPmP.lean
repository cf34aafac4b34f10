/- Persistent memory, pure: what a memory has, and what is done to it. -/
import Derived.Test.YtcackliabemecaaGreatDoorLibO
namespace Go.Proofs.YtcackliabemecaaGreatDoor
open Go.RowKit
set_option linter.unusedSimpArgs false
set_option linter.unusedVariables false

/-- what is seen, what lasts, which cells are on their way -/
structure MemM where
  V : List UInt8
  D : List UInt8
  A : List Bool
def MemM.ok (M : MemM) : Prop := M.D.length = M.V.length ∧ M.A.length * 8 = M.V.length ∧ M.V.length % 64 = 0 ∧ 64 ≤ M.V.length ∧ M.V.length ≤ 1048576

/-- is a unit of s bytes touched by n bytes from at on -/
def inT (at_ n s k : Nat) : Bool := decide (0 < n ∧ at_ / s ≤ k ∧ k * s < at_ + n)
def mixF (f : Nat → Bool) (V D : List UInt8) : List UInt8 := (List.range D.length).map fun i => if f (i / 8) then V.getD i 0 else D.getD i 0
def tabF (n : Nat) (f : Nat → Bool) : List Bool := (List.range n).map f
def cell8 (X : List UInt8) (k : Nat) : List UInt8 := (X.drop (8 * k)).take 8
def dirtyB (V D : List UInt8) (k : Nat) : Bool := decide (cell8 V k ≠ cell8 D k)
def dirtyL (M : MemM) : List Nat := (List.range M.A.length).filter (dirtyB M.V M.D)
def oddP (p : Int) : Bool := decide ((if p < 0 then -(p + 1) else p) % 2 = 1)
def pickB (picks : List Int) (j : Nat) : Bool := decide (j < picks.length) && oddP (picks.getD j 0)
def selF (L : List Nat) (picks : List Int) (n : Nat) (k : Nat) : Bool := (List.range n).any fun j => (L.getD j 0 == k) && pickB picks j

def storeM (M : MemM) (at_ : Nat) (b : List UInt8) : MemM := ⟨splice M.V at_ b, M.D, tabF M.A.length fun k => M.A.getD k false && !inT at_ b.length 8 k⟩
def flushM (M : MemM) (at_ n : Nat) : MemM := ⟨M.V, M.D, tabF M.A.length fun k => M.A.getD k false || (inT at_ n 64 (k / 8) && dirtyB M.V M.D k)⟩
def fenceM (M : MemM) : MemM := ⟨M.V, mixF (fun k => M.A.getD k false) M.V M.D, tabF M.A.length fun _ => false⟩
def evictM (M : MemM) (line : Nat) : MemM := ⟨M.V, mixF (fun k => k / 8 == line) M.V M.D, tabF M.A.length fun k => M.A.getD k false && !(k / 8 == line)⟩
def crashD (M : MemM) (picks : List Int) : List UInt8 := mixF (selF (dirtyL M) picks (dirtyL M).length) M.V M.D
def crashM (M : MemM) (picks : List Int) : MemM := ⟨crashD M picks, crashD M picks, tabF M.A.length fun _ => false⟩

theorem tabF_len (n : Nat) (f : Nat → Bool) : (tabF n f).length = n := by simp [tabF]
theorem tabF_get {n : Nat} (f : Nat → Bool) {k : Nat} (h : k < n) : (tabF n f).getD k false = f k := by simp [tabF, h]
theorem tabF_ext {L : List Bool} {n : Nat} {f : Nat → Bool} (hl : L.length = n) (h : ∀ k, k < n → L.getD k false = f k) : L = tabF n f := by
  apply List.ext_getElem
  · rw [hl, tabF_len]
  · intro k h1 h2
    have := h k (by omega)
    simp [h1] at this
    simp [tabF, this]
theorem tabF_self (L : List Bool) : tabF L.length (fun k => L.getD k false) = L := (tabF_ext rfl (fun _ _ => rfl)).symm
theorem tabF_congr {n : Nat} {f g : Nat → Bool} (h : ∀ k, k < n → f k = g k) : tabF n f = tabF n g := by
  refine tabF_ext (tabF_len _ _) fun k hk => ?_
  rw [tabF_get f hk]; exact h k hk
theorem tabF_set (n : Nat) (f : Nat → Bool) (k : Nat) (b : Bool) : (tabF n f).set k b = tabF n fun i => if i = k then b else f i := by
  refine tabF_ext (by simp [tabF_len]) fun i hi => ?_
  by_cases e : i = k
  · subst e; simp [tabF_len, hi]
  · have h0 := tabF_get f hi
    rw [if_neg e, ← h0]
    simp only [List.getD_eq_getElem?_getD, List.getElem?_set]
    rw [if_neg (fun h => e h.symm)]

theorem mixF_len (f : Nat → Bool) (V D : List UInt8) : (mixF f V D).length = D.length := by simp [mixF]
theorem mixF_get (f : Nat → Bool) (V D : List UInt8) {i : Nat} (h : i < D.length) : (mixF f V D).getD i 0 = if f (i / 8) then V.getD i 0 else D.getD i 0 := by simp [mixF, h]
theorem list8_ext {A B : List UInt8} (h : A.length = B.length) (k : ∀ i, i < B.length → A.getD i 0 = B.getD i 0) : A = B := by
  apply List.ext_getElem h
  intro i h1 h2
  have := k i h2
  simpa [h1, h2] using this
theorem mixF_congr {f g : Nat → Bool} {V D : List UInt8} (h : ∀ k, k * 8 < D.length → f k = g k) : mixF f V D = mixF g V D := by
  refine list8_ext (by simp [mixF_len]) fun i hi => ?_
  rw [mixF_len] at hi
  rw [mixF_get f V D hi, mixF_get g V D hi, h (i / 8) (by omega)]
theorem mixF_mixF (f g : Nat → Bool) (V D : List UInt8) : mixF f V (mixF g V D) = mixF (fun k => f k || g k) V D := by
  refine list8_ext (by simp [mixF_len]) fun i hi => ?_
  rw [mixF_len] at hi
  rw [mixF_get f _ _ (by rw [mixF_len]; exact hi), mixF_get g V D hi, mixF_get _ V D hi]
  cases f (i / 8) <;> cases g (i / 8) <;> simp
theorem mixF_none (V D : List UInt8) : mixF (fun _ => false) V D = D := by
  refine list8_ext (by simp [mixF_len]) fun i hi => ?_
  rw [mixF_get _ V D hi]; simp
theorem cell8_len {X : List UInt8} {k : Nat} (h : 8 * k + 8 ≤ X.length) : (cell8 X k).length = 8 := by simp [cell8]; omega
theorem cell8_get {X : List UInt8} {k i : Nat} (h : i < 8) : (cell8 X k).getD i 0 = X.getD (8 * k + i) 0 := by
  simp only [cell8, List.getD_eq_getElem?_getD, List.getElem?_take, List.getElem?_drop, if_pos h]
theorem getD_splice (L : List UInt8) (off : Nat) (cs : List UInt8) (h : off + cs.length ≤ L.length) (i : Nat) :
    (splice L off cs).getD i 0 = if off ≤ i ∧ i < off + cs.length then cs.getD (i - off) 0 else L.getD i 0 := by
  simp only [List.getD_eq_getElem?_getD, getElem?_splice L off cs h]
  split <;> rfl
/-- one cell made to last -/
theorem splice_mix {V D : List UInt8} {k : Nat} (hl : D.length = V.length) (h : 8 * k + 8 ≤ D.length) : splice D (8 * k) (cell8 V k) = mixF (fun i => i == k) V D := by
  have h8 := cell8_len (X := V) (k := k) (by omega)
  refine list8_ext (by rw [length_splice _ _ _ (by omega), mixF_len]) fun i hi => ?_
  rw [mixF_len] at hi
  rw [getD_splice _ _ _ (by omega), h8, mixF_get _ V D hi]
  by_cases hc : 8 * k ≤ i ∧ i < 8 * k + 8
  · have : i / 8 = k := by omega
    rw [if_pos hc, cell8_get (by omega), show 8 * k + (i - 8 * k) = i by omega]
    simp [this]
  · have : ¬ (i / 8 = k) := by omega
    rw [if_neg hc]
    simp [this]
theorem mixF_setA (f : Nat → Bool) (k : Nat) (V D : List UInt8) : mixF (fun i => i == k) V (mixF f V D) = mixF (fun i => f i || i == k) V D := by
  rw [mixF_mixF]; exact mixF_congr fun i _ => Bool.or_comm _ _

theorem storeM_ok {M : MemM} (h : M.ok) {at_ : Nat} {b : List UInt8} (hb : at_ + b.length ≤ M.V.length) : (storeM M at_ b).ok := by
  obtain ⟨h1, h2, h3, h4, h5⟩ := h
  simp only [MemM.ok, storeM, tabF_len, length_splice _ _ _ hb]
  exact ⟨h1, h2, h3, h4, h5⟩
theorem flushM_ok {M : MemM} (h : M.ok) (a n : Nat) : (flushM M a n).ok := by
  simpa only [MemM.ok, flushM, tabF_len] using h
theorem fenceM_ok {M : MemM} (h : M.ok) : (fenceM M).ok := by
  simpa only [MemM.ok, fenceM, tabF_len, mixF_len] using h
theorem crashD_len (M : MemM) (picks : List Int) : (crashD M picks).length = M.D.length := by simp [crashD, mixF_len]
theorem selF_zero (L : List Nat) (p : List Int) (k : Nat) : selF L p 0 k = false := rfl
theorem selF_succ (L : List Nat) (p : List Int) (n k : Nat) : selF L p (n + 1) k = (selF L p n k || ((L.getD n 0 == k) && pickB p n)) := by
  simp [selF, List.range_succ]
theorem selF_stop {L : List Nat} {p : List Int} {n : Nat} (h : p.length ≤ n) : ∀ m, n ≤ m → ∀ k, selF L p m k = selF L p n k := by
  intro m hm k
  induction m with
  | zero => rw [show n = 0 by omega]
  | succ m ih =>
    rcases Nat.eq_or_lt_of_le hm with e | e
    · rw [e]
    · rw [selF_succ, ih (by omega)]
      have : pickB p m = false := by simp [pickB]; intro q; omega
      simp [this]
theorem dirtyL_lt {M : MemM} : ∀ k ∈ dirtyL M, k < M.A.length := fun k hk => List.mem_range.1 (List.mem_filter.1 hk).1

end Go.Proofs.YtcackliabemecaaGreatDoor
