/- Memories: what is told, inside or not; what a flush, a fence and a crash leave there. -/
import Derived.Test.YtcgekooahahjpaaPmZ
namespace Go.Proofs.Ytcgekooahahjpaa
open Go.RowKit
set_option linter.unusedSimpArgs false
set_option linter.unusedVariables false

def seenL (X : List UInt8) (M : MemM) (at_ n : Int) : List UInt8 := if inM M at_ n = true then (X.drop at_.toNat).take n.toNat else []
def errM (M : MemM) (at_ n : Int) : Int := if inM M at_ n = true then 0 else 1
def flushU (M : MemM) (at_ n : Int) : MemM := if inM M at_ n = true then flushM M at_.toNat n.toNat else M
def storeU (M : MemM) (at_ : Int) (b : List UInt8) : MemM := if inM M at_ b.length = true then storeM M at_.toNat b else M
theorem inM_congr {M M' : MemM} (h : M'.V.length = M.V.length) (at_ n : Int) : inM M' at_ n = inM M at_ n := by unfold inM; rw [h]
theorem errM_congr {M M' : MemM} (h : M'.V.length = M.V.length) (at_ n : Int) : errM M' at_ n = errM M at_ n := by unfold errM; rw [inM_congr h]
theorem seenL_len {X : List UInt8} {M : MemM} (hX : X.length = M.V.length) {at_ n : Int} (h : inM M at_ n = true) : ((X.drop at_.toNat).take n.toNat).length = n.toNat := by
  obtain ⟨a, m, rfl, rfl, hl⟩ := inM_true h
  simp; omega
theorem seenL_le {X : List UInt8} {M : MemM} (hX : X.length = M.V.length) (at_ n : Int) : (seenL X M at_ n).length ≤ X.length := by
  unfold seenL; split
  · simp; omega
  · simp
theorem load_u {w : World} {g v d p : Nat} {M : MemM} (h : MemP w g v d p M) (at_ n : Int) (ha : i64B at_) (hn : i64B n) :
    Calls Try.prog 17 #[.pointer (some ⟨g, 0, none⟩), .int .i64 at_, .int .i64 n] w fun e w' => ∃ a c, e = .returned (.tuple #[.slice a (seenL M.V M at_ n).length c, .int .i64 (errM M at_ n)]) ∧ OwnB w' w.heap.size a c (seenL M.V M at_ n) ∧ Below w.heap.size w w' := by
  refine (load_any h at_ n ha hn).mono ?_
  intro e w' z
  unfold LoadP at z
  unfold seenL errM
  by_cases hi : inM M at_ n = true
  · rw [if_pos hi] at z
    obtain ⟨a, c, rfl, o, b⟩ := z
    refine ⟨a, c, ?_, ?_, b⟩
    · simp only [if_pos hi]; rw [seenL_len rfl hi]
    · rw [if_pos hi]; exact o
  · rw [if_neg hi] at z
    obtain ⟨rfl, rfl⟩ := z
    refine ⟨none, 0, ?_, ?_, Below.refl _ _⟩
    · simp only [if_neg hi]; rfl
    · rw [if_neg hi]; exact Own.nil _ _ _ _
theorem flushU_len (M : MemM) (at_ n : Int) : (flushU M at_ n).V.length = M.V.length := by unfold flushU; split <;> rfl
theorem flush_u {w : World} {g v d p : Nat} {M : MemM} (h : MemP w g v d p M) (at_ n : Int) (ha : i64B at_) (hn : i64B n) :
    Calls Try.prog 15 #[.pointer (some ⟨g, 0, none⟩), .int .i64 at_, .int .i64 n] w fun e w' => e = .returned (.int .i64 (errM M at_ n)) ∧ MemP w' g v d p (flushU M at_ n) ∧ Turns (fun k => k = p) w w' := by
  refine (flush_any h at_ n ha hn).mono ?_
  intro e w' z
  unfold FlushP at z
  unfold flushU errM
  by_cases hi : inM M at_ n = true
  · rw [if_pos hi] at z
    simp only [if_pos hi]; exact z
  · rw [if_neg hi] at z
    simp only [if_neg hi]
    exact ⟨z.1, h.mono z.2, Turns.of_below z.2⟩
theorem storeU_len (M : MemM) (at_ : Int) (b : List UInt8) : (storeU M at_ b).V.length = M.V.length := by
  unfold storeU; split
  · rename_i hi
    obtain ⟨a, m, rfl, hm, hl⟩ := inM_true hi
    exact length_splice _ _ _ (by simp; omega)
  · rfl
theorem store_u {w : World} {g v d p : Nat} {M : MemM} (h : MemP w g v d p M) (at_ : Int) (ha : i64B at_) (a : Option Addr) (c : Nat) (b : List UInt8) (hr : RowB w a c b) :
    Calls Try.prog 22 #[.pointer (some ⟨g, 0, none⟩), .int .i64 at_, .slice a b.length c] w fun e w' => e = .returned (.int .i64 (errM M at_ b.length)) ∧ MemP w' g v d p (storeU M at_ b) ∧ Turns (fun k => k = v ∨ k = p) w w' := by
  refine (store_any h at_ ha a c b hr).mono ?_
  intro e w' z
  unfold StoreP at z
  unfold storeU errM
  by_cases hi : inM M at_ b.length = true
  · rw [if_pos hi] at z
    simp only [if_pos hi]; exact z
  · rw [if_neg hi] at z
    simp only [if_neg hi]
    exact ⟨z.1, h.mono z.2, Turns.of_below z.2⟩

theorem crash_get (M : MemM) (P : List Int) {i : Nat} (h : i < M.D.length) : (crashM M P).V.getD i 0 = if selF (dirtyL M) P (dirtyL M).length (i / 8) then M.V.getD i 0 else M.D.getD i 0 := mixF_get _ _ _ h
theorem fence_get (M : MemM) {i : Nat} (h : i < M.D.length) : (fenceM M).D.getD i 0 = if M.A.getD (i / 8) false then M.V.getD i 0 else M.D.getD i 0 := mixF_get (fun k => M.A.getD k false) M.V M.D h
theorem fence_V (M : MemM) : (fenceM M).V = M.V := rfl
theorem flush_V (M : MemM) (a m : Nat) : (flushM M a m).V = M.V := rfl
theorem flush_D (M : MemM) (a m : Nat) : (flushM M a m).D = M.D := rfl
theorem fence_Dlen (M : MemM) : (fenceM M).D.length = M.D.length := mixF_len (fun k => M.A.getD k false) M.V M.D
theorem flush_get (M : MemM) (a m : Nat) {k : Nat} (h : k < M.A.length) : (flushM M a m).A.getD k false = (M.A.getD k false || (inT a m 64 (k / 8) && dirtyB M.V M.D k)) := tabF_get _ h
/-- what was flushed and fenced stays, whatever a crash takes -/
theorem stays_pure {M : MemM} (h : M.ok) (a m : Nat) (hl : a + m ≤ M.V.length) (P : List Int) (i : Nat) (h1 : a ≤ i) (h2 : i < a + m) : (crashM (fenceM (flushM M a m)) P).V.getD i 0 = M.V.getD i 0 := by
  have hD := h.1
  have hA := h.2.1
  rw [crash_get _ _ (by rw [fence_Dlen, flush_D]; omega), fence_get _ (by rw [flush_D]; omega), fence_V, flush_V, flush_D, flush_get _ _ _ (by omega)]
  have key : (M.A.getD (i / 8) false || (inT a m 64 (i / 8 / 8) && dirtyB M.V M.D (i / 8))) = true ∨ M.V.getD i 0 = M.D.getD i 0 := by
    by_cases hq : cell8 M.V (i / 8) = cell8 M.D (i / 8)
    · right
      have : (cell8 M.V (i / 8)).getD (i % 8) 0 = (cell8 M.D (i / 8)).getD (i % 8) 0 := by rw [hq]
      rw [cell8_get (by omega), cell8_get (by omega), show 8 * (i / 8) + i % 8 = i by omega] at this
      exact this
    · left
      have h1 : dirtyB M.V M.D (i / 8) = true := decide_eq_true hq
      have h2 : inT a m 64 (i / 8 / 8) = true := decide_eq_true ⟨by omega, by omega, by omega⟩
      rw [h1, h2]; simp
  split
  · rfl
  · rcases key with k | k
    · rw [if_pos k]
    · split
      · rfl
      · exact k.symm
theorem lasts_pure {M : MemM} (h : M.ok) (at_ n : Int) (P : List Int) :
    seenL (crashM (fenceM (flushU M at_ n)) P).V (crashM (fenceM (flushU M at_ n)) P) at_ n = seenL (fenceM (flushU M at_ n)).V (fenceM (flushU M at_ n)) at_ n := by
  have hF : (flushU M at_ n).V.length = M.V.length := flushU_len _ _ _
  have hFo : (flushU M at_ n).ok := by unfold flushU; split; exact flushM_ok h _ _; exact h
  have hN : (fenceM (flushU M at_ n)).V.length = M.V.length := hF
  have hC : (crashM (fenceM (flushU M at_ n)) P).V.length = M.V.length := (crashM_len (fenceM_ok hFo) P).trans hN
  unfold seenL
  rw [inM_congr hC, inM_congr hN]
  by_cases hi : inM M at_ n = true
  · rw [if_pos hi, if_pos hi]
    obtain ⟨a, m, rfl, rfl, hl⟩ := inM_true hi
    have e0 : flushU M a m = flushM M a m := by unfold flushU; rw [if_pos hi]; rfl
    rw [e0] at hC ⊢
    show List.take m (List.drop a _) = List.take m (List.drop a _)
    rw [fence_V, flush_V]
    refine list8_ext (by rw [List.length_take, List.length_drop, List.length_take, List.length_drop, hC]) fun i hi2 => ?_
    rw [List.length_take, List.length_drop] at hi2
    have e1 : ∀ X : List UInt8, ((X.drop a).take m).getD i 0 = X.getD (a + i) 0 := by
      intro X
      simp only [List.getD_eq_getElem?_getD, List.getElem?_take, List.getElem?_drop]
      rw [if_pos (by omega)]
    rw [e1, e1]
    exact stays_pure h a m hl P (a + i) (by omega) (by omega)
  · rw [if_neg hi, if_neg hi]

theorem take_le {α : Type} {L : List α} {n : Nat} (h : L.length ≤ n) : L.take n = L := List.take_of_length_le h
theorem Both.turns {X : Nat → Prop} {w w' : World} {B : Nat} {K : MemK} {M : MemM} (h : Both w B K M) (t : Turns X w w') (hx : ∀ k, X k → B ≤ k → ¬ K.all k ∧ k ≠ K.gm ∧ k ≠ K.gr) : Both w' B K M := by
  obtain ⟨h1, h2, h3, h4⟩ := h
  obtain ⟨q1, q2, q3, q4, q5, q6, q7, q8⟩ := h3
  have n (k : Nat) (hB : B ≤ k) (hk : K.all k ∨ k = K.gm ∨ k = K.gr) : ¬ X k := fun x => by
    obtain ⟨a, b, c⟩ := hx k x hB
    rcases hk with hk | hk | hk
    · exact a hk
    · exact b hk
    · exact c hk
  exact ⟨h1.turns t (n _ q1 (.inr (.inl rfl))) (n _ q2 (.inl (.inl rfl))) (n _ q3 (.inl (.inr (.inl rfl)))) (n _ q4 (.inl (.inr (.inr (.inl rfl))))),
    h2.turns t (n _ q5 (.inr (.inr rfl))) (n _ q6 (.inl (.inr (.inr (.inr (.inl rfl)))))) (n _ q7 (.inl (.inr (.inr (.inr (.inr (.inl rfl))))))) (n _ q8 (.inl (.inr (.inr (.inr (.inr (.inr rfl))))))), ⟨q1, q2, q3, q4, q5, q6, q7, q8⟩, h4⟩
end Go.Proofs.Ytcgekooahahjpaa
