import Derived.Test.YtpkmkmkknhnihaaSlotI
namespace Go.Proofs.Ytpkmkmkknhnihaa
open Go.RowKit
set_option linter.unusedSimpArgs false
set_option linter.unusedVariables false

def sl (xs : List UInt8) (a k : Nat) : List UInt8 := (xs.drop a).take k
theorem sl_len {xs : List UInt8} {a k : Nat} (h : a + k ≤ xs.length) : (sl xs a k).length = k := by simp [sl]; omega
theorem take_sl (xs : List UInt8) (a k : Nat) : xs.take (a + k) = xs.take a ++ sl xs a k := by unfold sl; exact List.take_add
theorem getF_sl {xs : List UInt8} {a k v : Nat} (h : getF xs a k = some v) : a + k ≤ xs.length ∧ v = ofLE (sl xs a k) ∧ v ≤ 9223372036854775807 := by
  unfold getF at h
  split at h
  · next hc =>
    split at h
    · next h2 =>
      simp only [Option.some.injEq] at h
      simp only [Int.toNat_natCast] at h h2
      exact ⟨by omega, by rw [← h]; rfl, by rw [← h]; exact h2⟩
    · simp at h
  · simp at h
theorem le_getF {xs : List UInt8} {a k v : Nat} (h : getF xs a k = some v) : le k v = sl xs a k := by
  obtain ⟨h1, rfl, _⟩ := getF_sl h
  have := le_ofLE (sl xs a k)
  rwa [sl_len h1] at this
theorem getF_mk {xs : List UInt8} {a k : Nat} (h : a + k ≤ xs.length) (hk : widthB k = true) (hv : ofLE (sl xs a k) ≤ 9223372036854775807) : getF xs a k = some (ofLE (sl xs a k)) := by
  unfold getF
  rw [if_pos ⟨hk, by omega, by omega⟩]
  simp only [Int.toNat_natCast]
  exact if_pos hv
theorem getF_gN {xs : List UInt8} {a k : Nat} (h : (getF xs a k).isSome = true) : getF xs a k = some (gN xs a k) := by
  obtain ⟨v, hv⟩ := Option.isSome_iff_exists.1 h
  unfold gN; rw [hv]; rfl
theorem getF_small {xs : List UInt8} {a k : Nat} (h : a + k ≤ xs.length) (hk : k = 1 ∨ k = 4) : getF xs a k = some (gN xs a k) := by
  refine getF_gN ?_
  rw [getF_mk h (by rcases hk with rfl | rfl <;> rfl) (ofLE_small (by rw [sl_len h]; omega))]; rfl
theorem gN1 {xs : List UInt8} {a : Nat} (h : a + 1 ≤ xs.length) : gN xs a 1 = bAt xs a := by
  obtain ⟨_, h2, _⟩ := getF_sl (getF_small h (.inl rfl))
  rw [h2]
  unfold sl
  rw [List.drop_eq_getElem_cons (by omega), List.take_succ_cons, List.take_zero, bAt_eq (show a < xs.length by omega)]
  show (xs[a]).toNat + 256 * 0 = _
  omega
theorem drop_le (k m n : Nat) (h : k ≤ m) : (le k n).drop m = [] := List.drop_eq_nil_of_le (by rw [le_length]; exact h)

/-- the 26 bytes of a slot's numbers -/
def body26 (e h r er i wr : Nat) : List UInt8 := le 4 e ++ le 4 h ++ le 8 r ++ le 1 er ++ le 1 i ++ le 8 wr
theorem body26_length (e h r er i wr : Nat) : (body26 e h r er i wr).length = 26 := by simp [body26, le_length]
theorem body_eq {e h r er i wr : Nat} (hm : mayS e h r er i wr = true) : foldF [] (slotF e h r er i wr) = body26 e h r er i wr := by
  obtain ⟨a1, a2, a3, a4, a5, a6, a7, a8, a9, a10, a11, a12⟩ := mayS_iff hm
  have f4 : ∀ (l : List UInt8) (n : Nat), n < 4294967296 → putF l (n : Int) 4 = l ++ le 4 n := fun l n hn => by
    unfold putF; rw [if_pos (fits4 hn)]; simp
  have f8 : ∀ (l : List UInt8) (n : Nat), putF l (n : Int) 8 = l ++ le 8 n := fun l n => by
    have : fitsB (n : Int) 8 = true := by unfold fitsB; simp
    unfold putF; rw [if_pos this]; simp
  have f1 : ∀ (l : List UInt8) (n : Nat), n < 256 → putF l (n : Int) 1 = l ++ le 1 n := fun l n hn => by
    have : fitsB (n : Int) 1 = true := by unfold fitsB; simp; omega
    unfold putF; rw [if_pos this]; simp
  simp only [foldF, slotF, List.foldl_cons, List.foldl_nil]
  rw [f4 _ e (by omega), f4 _ h (by omega), f8, f1 _ er (by omega), f1 _ i (by omega), f8]
  simp [body26]
theorem slotL_eq {e h r er i wr : Nat} (hm : mayS e h r er i wr = true) : slotL e h r er i wr = body26 e h r er i wr ++ List.replicate 34 0 ++ le 4 (crcF (body26 e h r er i wr ++ List.replicate 34 0)) := by
  unfold slotL; rw [if_pos hm, body_eq hm]
  unfold sealF padF
  rw [body26_length]

theorem body_of {xs : List UInt8} (h64 : 64 ≤ xs.length) (h8 : (getF xs 8 8).isSome = true) (h18 : (getF xs 18 8).isSome = true) :
    xs.take 26 = body26 (gN xs 0 4) (gN xs 4 4) (gN xs 8 8) (gN xs 16 1) (gN xs 17 1) (gN xs 18 8) := by
  have e1 := le_getF (getF_small (xs := xs) (a := 0) (k := 4) (by omega) (.inr rfl))
  have e2 := le_getF (getF_small (xs := xs) (a := 4) (k := 4) (by omega) (.inr rfl))
  have e3 := le_getF (getF_gN (xs := xs) (a := 8) (k := 8) h8)
  have e4 := le_getF (getF_small (xs := xs) (a := 16) (k := 1) (by omega) (.inl rfl))
  have e5 := le_getF (getF_small (xs := xs) (a := 17) (k := 1) (by omega) (.inl rfl))
  have e6 := le_getF (getF_gN (xs := xs) (a := 18) (k := 8) h18)
  unfold body26
  rw [e1, e2, e3, e4, e5, e6]
  rw [show (26 : Nat) = 18 + 8 from rfl, take_sl, show (18 : Nat) = 17 + 1 from rfl, take_sl, show (17 : Nat) = 16 + 1 from rfl, take_sl, show (16 : Nat) = 8 + 8 from rfl, take_sl, show (8 : Nat) = 4 + 4 from rfl, take_sl, show (4 : Nat) = 0 + 4 from rfl, take_sl]
  simp

theorem zeros_of {xs : List UInt8} (h64 : 64 ≤ xs.length) (hz : ∀ j, 26 ≤ j → j < 60 → bAt xs j = 0) : sl xs 26 34 = List.replicate 34 0 := by
  rw [List.eq_replicate_iff]
  refine ⟨sl_len (by omega), fun b hb => ?_⟩
  obtain ⟨i, hi, rfl⟩ := List.mem_iff_getElem.1 hb
  have hi' : i < 34 := by rwa [sl_len (by omega)] at hi
  have := hz (26 + i) (by omega) (by omega)
  rw [bAt_eq (by omega)] at this
  apply UInt8.toNat_inj.1
  simp only [sl, List.getElem_take, List.getElem_drop]
  exact this

theorem good_of {xs : List UInt8} (hc : chk xs = 0) (h8 : (getF xs 8 8).isSome = true) (h18 : (getF xs 18 8).isSome = true) (hm : rsM xs = true) (hz : ∀ j, 26 ≤ j → j < 60 → bAt xs j = 0) : rsGood xs = true := by
  have h64 := chk_len hc
  have hs : getF xs 60 4 = some (crcF (xs.take 60)) := by
    unfold chk at hc; rw [if_pos h64] at hc
    by_cases h : getF xs 60 4 = some (crcF (xs.take 60))
    · exact h
    · rw [if_neg h] at hc; simp at hc
  have e60 : xs.take 60 = body26 (gN xs 0 4) (gN xs 4 4) (gN xs 8 8) (gN xs 16 1) (gN xs 17 1) (gN xs 18 8) ++ List.replicate 34 0 := by
    rw [show (60 : Nat) = 26 + 34 from rfl, take_sl, body_of h64 h8 h18, zeros_of h64 hz]
  unfold rsGood rsL
  unfold rsM at hm
  rw [show rsM xs = true from hm, Bool.true_and, slotL_eq hm, ← e60]
  have := le_getF (a := 60) (k := 4) hs
  rw [this, show (64 : Nat) = 60 + 4 from rfl, take_sl]
  simp

theorem of_good {xs : List UInt8} (h64 : 64 ≤ xs.length) (hg : rsGood xs = true) : (getF xs 8 8).isSome = true ∧ (getF xs 18 8).isSome = true ∧ rsM xs = true ∧ ∀ j, 26 ≤ j → j < 60 → bAt xs j = 0 := by
  unfold rsGood at hg
  simp only [Bool.and_eq_true, decide_eq_true_eq] at hg
  obtain ⟨hm, he⟩ := hg
  have hm' := hm
  unfold rsM at hm'
  unfold rsL at he
  rw [slotL_eq hm'] at he
  obtain ⟨a1, a2, a3, a4, a5, a6, a7, a8, a9, a10, a11, a12⟩ := mayS_iff hm'
  generalize gN xs 0 4 = E at *
  generalize gN xs 4 4 = H at *
  generalize gN xs 8 8 = R at *
  generalize gN xs 16 1 = Er at *
  generalize gN xs 17 1 = I at *
  generalize gN xs 18 8 = W at *
  have g8 := getF_take h64 8 8 (by omega)
  have g18 := getF_take h64 18 8 (by omega)
  rw [he] at g8 g18
  have hl : ∀ z, (body26 E H R Er I W ++ List.replicate 34 0 ++ le 4 z).length = 64 := fun z => by simp [body26_length, le_length]
  refine ⟨?_, ?_, hm, ?_⟩
  · rw [show ((8 : Nat) : Int) = 8 from rfl] at g8
    rw [← g8]
    have hs : sl (body26 E H R Er I W ++ List.replicate 34 0 ++ le 4 (crcF (body26 E H R Er I W ++ List.replicate 34 0))) 8 8 = le 8 R := by
      simp [sl, body26, le_length, List.take_append, List.drop_append, drop_le]
    have := getF_mk (xs := body26 E H R Er I W ++ List.replicate 34 0 ++ le 4 (crcF (body26 E H R Er I W ++ List.replicate 34 0))) (a := 8) (k := 8) (by rw [hl]; omega) rfl (by rw [hs, ofLE_le' 8 R (by omega)]; omega)
    rw [show ((8 : Nat) : Int) = 8 from rfl] at this
    rw [this]; rfl
  · rw [show ((8 : Nat) : Int) = 8 from rfl, show ((18 : Nat) : Int) = 18 from rfl] at g18
    rw [← g18]
    have hs : sl (body26 E H R Er I W ++ List.replicate 34 0 ++ le 4 (crcF (body26 E H R Er I W ++ List.replicate 34 0))) 18 8 = le 8 W := by
      simp [sl, body26, le_length, List.take_append, List.drop_append, drop_le]
    have := getF_mk (xs := body26 E H R Er I W ++ List.replicate 34 0 ++ le 4 (crcF (body26 E H R Er I W ++ List.replicate 34 0))) (a := 18) (k := 8) (by rw [hl]; omega) rfl (by rw [hs, ofLE_le' 8 W (by omega)]; omega)
    rw [show ((8 : Nat) : Int) = 8 from rfl, show ((18 : Nat) : Int) = 18 from rfl] at this
    rw [this]; rfl
  · intro j h1 h2
    have e : (xs.take 64)[j]? = some 0 := by
      rw [he, List.getElem?_append_left (by simp [body26_length]; omega), List.getElem?_append_right (by rw [body26_length]; omega), body26_length]
      rw [List.getElem?_replicate, if_pos (by omega)]
    rw [List.getElem?_take, if_pos (by omega)] at e
    unfold bAt
    rw [List.getD_eq_getElem?_getD, e]; rfl

end Go.Proofs.Ytpkmkmkknhnihaa
