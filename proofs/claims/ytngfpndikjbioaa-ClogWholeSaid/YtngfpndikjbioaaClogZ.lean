import Derived.Test.YtngfpndikjbioaaClogX
namespace Go.Proofs.Ytngfpndikjbioaa
open Go.RowKit
set_option linter.unusedSimpArgs false
set_option linter.unusedVariables false

def slx (xs : List UInt8) (a k : Nat) : List UInt8 := (xs.drop a).take k
theorem slx_len {xs : List UInt8} {a k : Nat} (h : a + k ≤ xs.length) : (slx xs a k).length = k := by simp [slx]; omega
theorem take_slx (xs : List UInt8) (a k : Nat) : xs.take (a + k) = xs.take a ++ slx xs a k := by unfold slx; exact List.take_add
theorem le_ofLE16 (ys : List UInt8) : le ys.length (ofLE ys) = ys := by
  induction ys with
  | nil => rfl
  | cons y ys ih =>
    have hy := y.toNat_lt
    simp only [List.length_cons, le, ofLE]
    have e1 : (y.toNat + 256 * ofLE ys) / 256 = ofLE ys := by omega
    have e2 : UInt8.ofNat (y.toNat + 256 * ofLE ys) = y := by
      apply UInt8.toNat_inj.1; simp
    rw [e1, ih, e2]
theorem getF_slx {xs : List UInt8} {a k : Nat} (h : a + k ≤ xs.length) (hk : widthB k = true) (hv : ofLE (slx xs a k) ≤ 9223372036854775807) : getF xs (a : Int) (k : Int) = some (ofLE (slx xs a k)) := by
  unfold getF
  rw [if_pos ⟨hk, by omega, by omega⟩]
  simp only [Int.toNat_natCast]
  exact if_pos hv
theorem getF_some {xs : List UInt8} {a k v : Nat} (h : getF xs (a : Int) (k : Int) = some v) : a + k ≤ xs.length ∧ le k v = slx xs a k := by
  unfold getF at h
  split at h
  · next hc =>
    split at h
    · next h2 =>
      simp only [Option.some.injEq] at h
      simp only [Int.toNat_natCast] at h h2
      have hl : a + k ≤ xs.length := by omega
      refine ⟨hl, ?_⟩
      rw [← h]
      have := le_ofLE16 (slx xs a k)
      rw [slx_len hl] at this
      exact this
    · simp at h
  · simp at h
theorem getF_no {xs : List UInt8} {a k : Nat} (h : ¬ a + k ≤ xs.length) : getF xs (a : Int) (k : Int) = none := by
  unfold getF; rw [if_neg (by omega)]
theorem slx1 {xs : List UInt8} {a : Nat} (h : a < xs.length) : slx xs a 1 = [xs[a]] := by
  unfold slx; rw [List.drop_eq_getElem_cons h]; rfl
theorem slx2 {xs : List UInt8} {a : Nat} (h : a + 1 < xs.length) : slx xs a 2 = [xs[a]'(by omega), xs[a + 1]] := by
  unfold slx; rw [List.drop_eq_getElem_cons (by omega), List.drop_eq_getElem_cons (by omega)]; rfl
theorem getF_b1 {xs : List UInt8} {a : Nat} (h : a < xs.length) : getF xs (a : Int) 1 = some (bAt xs a) := by
  have hb := bAt_lt xs a
  have e : ofLE (slx xs a 1) = bAt xs a := by rw [slx1 h, bAt_eq h]; simp [ofLE]
  have := getF_slx (xs := xs) (a := a) (k := 1) (by omega) rfl (by omega)
  rw [e] at this; exact this
theorem getF_b2 {xs : List UInt8} {a : Nat} (h : a + 1 < xs.length) : getF xs (a : Int) 2 = some (bAt xs a + 256 * bAt xs (a + 1)) := by
  have hb := bAt_lt xs a; have hb2 := bAt_lt xs (a + 1)
  have e : ofLE (slx xs a 2) = bAt xs a + 256 * bAt xs (a + 1) := by rw [slx2 h, bAt_eq (show a < xs.length by omega), bAt_eq h]; simp [ofLE]
  have := getF_slx (xs := xs) (a := a) (k := 2) (by omega) rfl (by omega)
  rw [e] at this; exact this
theorem getF_4 {xs : List UInt8} {a : Nat} (h : a + 4 ≤ xs.length) : getF xs (a : Int) 4 = some (ofLE (slx xs a 4)) := by
  have hl := ofLE_lt (slx xs a 4)
  rw [slx_len h] at hl
  exact getF_slx (k := 4) h rfl (by omega)

/-- what the bytes say, if they are a record's -/
def dZ (xs : List UInt8) : Nat := bAt xs 12
def dC (xs : List UInt8) : Nat := (getF xs 0 8).getD 0
def dI (xs : List UInt8) : Nat := bAt xs 8
def dT (xs : List UInt8) : Bool := (bAt xs 9 : Int) == 1
def dO (xs : List UInt8) : Nat := bAt xs 10 + 256 * bAt xs 11
def dS (xs : List UInt8) : ByteArray := ⟨(slx xs 13 (dZ xs)).toArray⟩
def dL (xs : List UInt8) : List UInt8 := recL (dC xs) (dI xs) (dT xs) (dO xs) (dS xs)
def dMay (xs : List UInt8) : Bool := recMay (dC xs) (dI xs) (dT xs) (dO xs) (dS xs)
def dPre (xs : List UInt8) : Bool := decide ((dL xs).length ≤ xs.length) && decide (xs.take (dL xs).length = dL xs)
def dGood (xs : List UInt8) : Bool := dMay xs && dPre xs
def dAll (xs : List UInt8) : Nat := 17 + dZ xs + (8 - (17 + dZ xs) % 8) % 8
def dZeros (xs : List UInt8) : Prop := ∀ j, 17 + dZ xs ≤ j → j < dAll xs → bAt xs j = 0

theorem dS_size {xs : List UInt8} (h : 13 + dZ xs ≤ xs.length) : (dS xs).size = dZ xs := by
  have := slx_len (xs := xs) (a := 13) (k := dZ xs) h
  show (slx xs 13 (dZ xs)).toArray.size = _
  simpa using this
theorem dS_list (xs : List UInt8) : (dS xs).data.toList = slx xs 13 (dZ xs) := by simp [dS]
theorem le_b1 {xs : List UInt8} {a : Nat} (h : a < xs.length) : le 1 (bAt xs a) = slx xs a 1 := (getF_some (getF_b1 h)).2
theorem dGood_of {xs : List UInt8} (hlen : 17 + dZ xs ≤ xs.length) (hsum : getF xs ((13 + dZ xs : Nat) : Int) 4 = some (crcF (xs.take (13 + dZ xs))))
    (hok : (getF xs 0 8).isSome = true) (hm : dMay xs = true) (h9 : bAt xs 9 ≤ 1) (hall : dAll xs ≤ xs.length) (hz : dZeros xs) : dL xs = xs.take (dAll xs) ∧ (dL xs).length = dAll xs := by
  have h0 : getF xs ((0 : Nat) : Int) ((8 : Nat) : Int) = some (dC xs) := by
    obtain ⟨v, hv⟩ := Option.isSome_iff_exists.1 hok
    unfold dC; rw [hv]; exact hv
  have e0 := (getF_some h0).2
  have e8 := le_b1 (xs := xs) (a := 8) (by omega)
  have e9 := le_b1 (xs := xs) (a := 9) (by omega)
  have e12 := le_b1 (xs := xs) (a := 12) (by omega)
  have e10 := (getF_some (k := 2) (getF_b2 (xs := xs) (a := 10) (by omega))).2
  have es := (getF_some (k := 4) hsum).2
  have hsz := dS_size (xs := xs) (by omega)
  have ht : tB (dT xs) = bAt xs 9 := by
    unfold dT tB
    rcases (by omega : bAt xs 9 = 0 ∨ bAt xs 9 = 1) with h | h <;> rw [h] <;> rfl
  have hh : head13 (dC xs) (dI xs) (dT xs) (dO xs) (dS xs).size = xs.take 13 := by
    unfold head13
    rw [hsz, ht, e0, show le 1 (dI xs) = slx xs 8 1 from e8, e9, show le 2 (dO xs) = slx xs 10 2 from e10, show le 1 (dZ xs) = slx xs 12 1 from e12]
    rw [show (13 : Nat) = 12 + 1 from rfl, take_slx, show (12 : Nat) = 10 + 2 from rfl, take_slx, show (10 : Nat) = 9 + 1 from rfl, take_slx, show (9 : Nat) = 8 + 1 from rfl, take_slx, show (8 : Nat) = 0 + 8 from rfl, take_slx]
    simp
  have hm' := hm
  unfold dMay at hm'
  have hX : recX (dC xs) (dI xs) (dT xs) (dO xs) (dS xs) = xs.take (13 + dZ xs) := by
    rw [recX_eq hm', hh, dS_list, ← take_slx]
  have hY : recY (dC xs) (dI xs) (dT xs) (dO xs) (dS xs) = xs.take (17 + dZ xs) := by
    have hp : ∀ l : List UInt8, putF l (crcF l : Nat) 4 = l ++ le 4 (crcF l) := fun l => put_sum l
    unfold recY
    rw [hp, hX, es, show 17 + dZ xs = (13 + dZ xs) + 4 by omega]
    exact (take_slx xs (13 + dZ xs) 4).symm
  have hYl : (xs.take (17 + dZ xs)).length = 17 + dZ xs := by simp; omega
  have hL : dL xs = xs.take (17 + dZ xs) ++ List.replicate ((8 - (17 + dZ xs) % 8) % 8) 0 := by
    unfold dL recL
    rw [if_pos hm']
    unfold padTo8
    rw [hY, hYl]
  have hze : List.replicate ((8 - (17 + dZ xs) % 8) % 8) (0 : UInt8) = slx xs (17 + dZ xs) ((8 - (17 + dZ xs) % 8) % 8) := by
    symm
    rw [List.eq_replicate_iff]
    have hll : 17 + dZ xs + (8 - (17 + dZ xs) % 8) % 8 ≤ xs.length := hall
    refine ⟨slx_len hll, fun b hb => ?_⟩
    obtain ⟨i, hi, rfl⟩ := List.mem_iff_getElem.1 hb
    have hi' : i < (8 - (17 + dZ xs) % 8) % 8 := by rwa [slx_len hll] at hi
    have := hz (17 + dZ xs + i) (by omega) (by unfold dAll; omega)
    rw [bAt_eq (by omega)] at this
    apply UInt8.toNat_inj.1
    simp only [slx, List.getElem_take, List.getElem_drop]
    exact this
  refine ⟨?_, ?_⟩
  · rw [hL, hze, ← take_slx]; rfl
  · rw [hL, List.length_append, hYl, List.length_replicate]; rfl

theorem of_dGood {xs : List UInt8} (hlen : 17 + dZ xs ≤ xs.length) (hg : dGood xs = true) :
    (getF xs 0 8).isSome = true ∧ dMay xs = true ∧ bAt xs 9 ≤ 1 ∧ dAll xs ≤ xs.length ∧ dZeros xs ∧ (dL xs).length = dAll xs := by
  unfold dGood dPre at hg
  simp only [Bool.and_eq_true, decide_eq_true_eq] at hg
  obtain ⟨hm, hl, hp⟩ := hg
  have hm' := hm
  unfold dMay at hm'
  have hx : xs = recL (dC xs) (dI xs) (dT xs) (dO xs) (dS xs) ++ xs.drop (dL xs).length := by
    have := (List.take_append_drop (dL xs).length xs).symm
    rw [hp] at this
    exact this
  obtain ⟨_, _, f3, _, _, f6, _, _, _, _⟩ := dec_facts hm' hx
  have hsz := dS_size (xs := xs) (by omega)
  have hlX : (recX (dC xs) (dI xs) (dT xs) (dO xs) (dS xs)).length = 13 + dZ xs := by
    rw [recX_eq hm', List.length_append, head13_length, dS_list, slx_len (by omega)]
  have hlY : (recY (dC xs) (dI xs) (dT xs) (dO xs) (dS xs)).length = 17 + dZ xs := by
    have hp : ∀ l : List UInt8, putF l (crcF l : Nat) 4 = l ++ le 4 (crcF l) := fun l => put_sum l
    unfold recY
    rw [hp, List.length_append, hlX, le_length]; omega
  have hL : dL xs = recY (dC xs) (dI xs) (dT xs) (dO xs) (dS xs) ++ List.replicate ((8 - (17 + dZ xs) % 8) % 8) 0 := by
    unfold dL recL
    rw [if_pos hm']
    unfold padTo8
    rw [hlY]
  have hlen2 : (dL xs).length = dAll xs := by rw [hL, List.length_append, hlY, List.length_replicate]; rfl
  refine ⟨by rw [f3]; rfl, hm, by rw [f6]; cases dT xs <;> simp [tB], by omega, fun j h1 h2 => ?_, hlen2⟩
  have e : (xs.take (dL xs).length)[j]? = some 0 := by
    rw [hp, hL, List.getElem?_append_right (by omega), hlY, List.getElem?_replicate, if_pos (by unfold dAll at h2; omega)]
  rw [List.getElem?_take, if_pos (by omega)] at e
  unfold bAt
  rw [List.getD_eq_getElem?_getD, e]; rfl

end Go.Proofs.Ytngfpndikjbioaa
