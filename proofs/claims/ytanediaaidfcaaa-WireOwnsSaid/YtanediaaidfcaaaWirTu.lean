/- Pure: one byte turned. -/
import Derived.Test.YtanediaaidfcaaaWirRt
import Derived.BigRegion
namespace Go.Proofs.Ytanediaaidfcaaa
open Go.RowKit
set_option linter.unusedSimpArgs false
set_option linter.unusedVariables false

theorem xor_ne {x y : UInt8} (h : x ≠ 0) : y ^^^ x ≠ y := by
  intro e
  apply h
  apply UInt8.toNat_inj.1
  have e2 := congrArg UInt8.toNat e
  rw [UInt8.toNat_xor] at e2
  have : y.toNat ^^^ (y.toNat ^^^ x.toNat) = y.toNat ^^^ y.toNat := by rw [e2]
  rw [← Nat.xor_assoc, Nat.xor_self, Nat.zero_xor] at this
  rw [this]; rfl

theorem crcReg_set (r : Nat) (l : List UInt8) (m : Nat) (x : UInt8) (h : m < l.length) : crcReg r (l.set m (l.getD m 0 ^^^ x)) = crcReg r l ^^^ crcSteps (8 * (l.length - m)) x.toNat := by
  induction l generalizing r m with
  | nil => simp at h
  | cons y ys ih =>
    cases m with
    | zero =>
      have e1 : (y :: ys).set 0 ((y :: ys).getD 0 0 ^^^ x) = (y ^^^ x) :: ys := rfl
      rw [e1, crcReg_cons, crcReg_cons]
      have e2 : crcByte r (y ^^^ x) = crcByte r y ^^^ crcSteps 8 x.toNat := by
        rw [crcByte_eq, crcByte_eq, UInt8.toNat_xor, ← Nat.xor_assoc, crcSteps_xor]
      rw [e2, crcReg_xor, ← crcSteps_add, show 8 * ((y :: ys).length - 0) = 8 * ys.length + 8 from by simp only [List.length_cons]; omega]
    | succ m =>
      have e1 : (y :: ys).set (m + 1) ((y :: ys).getD (m + 1) 0 ^^^ x) = y :: ys.set m (ys.getD m 0 ^^^ x) := rfl
      rw [e1, crcReg_cons, crcReg_cons, ih _ _ (by simpa using h), show 8 * ((y :: ys).length - (m + 1)) = 8 * (ys.length - m) from by simp only [List.length_cons]; omega]

theorem crcF_set {l : List UInt8} {m : Nat} {x : UInt8} (h : m < l.length) (hx : x ≠ 0) : crcF (l.set m (l.getD m 0 ^^^ x)) ≠ crcF l := by
  intro e
  unfold crcF at e
  have h1 := crcReg_lt (r := 4294967295) (by omega) l
  have h2 := crcReg_lt (r := 4294967295) (by omega) (l.set m (l.getD m 0 ^^^ x))
  have e2 : crcReg 4294967295 (l.set m (l.getD m 0 ^^^ x)) = crcReg 4294967295 l := by omega
  rw [crcReg_set _ _ _ _ h] at e2
  have e3 : crcReg 4294967295 l ^^^ (crcReg 4294967295 l ^^^ crcSteps (8 * (l.length - m)) x.toNat) = crcReg 4294967295 l ^^^ crcReg 4294967295 l := by rw [e2]
  rw [← Nat.xor_assoc, Nat.xor_self, Nat.zero_xor] at e3
  have hx8 := x.toNat_lt
  have e4 := crcSteps_eq_zero (by omega) e3
  exact hx (UInt8.toNat_inj.1 e4)
theorem le_ofLEt (ys : List UInt8) : le ys.length (ofLE ys) = ys := by
  induction ys with
  | nil => rfl
  | cons y ys ih =>
    have hy := y.toNat_lt
    simp only [List.length_cons, le, ofLE]
    have e1 : (y.toNat + 256 * ofLE ys) / 256 = ofLE ys := by omega
    have e2 : UInt8.ofNat (y.toNat + 256 * ofLE ys) = y := by
      apply UInt8.toNat_inj.1; simp
    rw [e1, ih, e2]
theorem okSum_app (e t : List UInt8) (ht : t.length = 4) : okSumW (e ++ t) = decide (ofLE t = crcF e) := by
  unfold okSumW
  rw [seal_take e t ht]
  have h1 : (e ++ t).length - 4 = e.length := by rw [List.length_append, ht]; omega
  rw [h1]
  have hb := ofLE_lt t
  rw [ht] at hb
  have h2 : getF (e ++ t) (e.length : Int) 4 = some (ofLE t) := by
    unfold getF
    have h3 : ((e ++ t).drop (e.length : Int).toNat).take (4 : Int).toNat = t := by
      rw [Int.toNat_natCast, List.drop_left]
      exact List.take_of_length_le (by rw [ht]; decide)
    rw [if_pos ⟨rfl, by omega, by rw [List.length_append, ht]; omega⟩, h3, if_pos (by omega)]
  rw [h2]
  simp only [Option.some.injEq]
theorem turned07 {e : List UInt8} {m : Nat} {x : UInt8} (hm : m < (e ++ le 4 (crcF e)).length) (hx : x ≠ 0) : rwE ((e ++ le 4 (crcF e)).set m ((e ++ le 4 (crcF e)).getD m 0 ^^^ x)) = 4 := by
  have hl : (le 4 (crcF e)).length = 4 := le_length ..
  have h4 : ¬ ((e ++ le 4 (crcF e)).set m ((e ++ le 4 (crcF e)).getD m 0 ^^^ x)).length < 4 := by rw [List.length_set, List.length_append, hl]; omega
  have hok : okSumW ((e ++ le 4 (crcF e)).set m ((e ++ le 4 (crcF e)).getD m 0 ^^^ x)) = false := by
    by_cases hme : m < e.length
    · rw [List.set_append_left _ _ hme, List.getD_eq_getElem?_getD, List.getElem?_append_left hme, ← List.getD_eq_getElem?_getD, okSum_app _ _ hl, le_ofLEw 4 _ (by have := crcF_lt e; omega)]
      exact decide_eq_false fun q => crcF_set hme hx q.symm
    · rw [List.set_append_right _ _ (by omega), okSum_app _ _ (by rw [List.length_set, hl])]
      refine decide_eq_false fun q => ?_
      have h1 := le_ofLEt ((le 4 (crcF e)).set (m - e.length) ((e ++ le 4 (crcF e)).getD m 0 ^^^ x))
      rw [q, List.length_set, hl] at h1
      have hm4 : m - e.length < (le 4 (crcF e)).length := by rw [List.length_append] at hm; omega
      have h2 := congrArg (fun t => t[m - e.length]?) h1
      rw [List.getElem?_set_self hm4, List.getElem?_eq_getElem hm4, List.getD_eq_getElem?_getD, List.getElem?_append_right (by omega), List.getElem?_eq_getElem hm4, Option.getD_some] at h2
      exact xor_ne hx (Option.some.inj h2).symm
  unfold rwE
  rw [if_neg h4, hok, if_neg (by decide)]
theorem set_blk {w : World} {g : Nat} {ys : List UInt8} {Z : List Value} (h : Blk w g 5 (ys.map byteV ++ Z)) {A : Nat} (hA : A < ys.length) (b : UInt8) :
    Blk (w.setCell ⟨g, A, none⟩ (byteV b)) g 5 ((ys.set A b).map byteV ++ Z) := by
  have := h.set A (byteV b)
  rwa [List.set_append_left _ _ (by simpa using hA), ← List.map_set] at this

theorem neg_tmod_of' {n m d : Int} (h : n < 0) (hd : 0 < d) (hm : -(n + 1) % d = m) : (n + 1).tmod d = -m := by
  have h1 := Int.tmod_eq_emod_of_nonneg (a := -(n + 1)) (b := d) (by omega)
  rw [Int.neg_tmod] at h1
  omega

theorem xor_byte (ys : List UInt8) (A : Nat) {x : Nat} (hx : x < 256) : byteV (ys.getD A 0 ^^^ UInt8.ofNat x) = .int .u8 (bits .xor .u8 (bAt ys A : Int) (x : Int)) := by
  rw [u8_xor_nat _ _ (bAt_lt ys _) hx]
  unfold byteV bAt
  rw [UInt8.toNat_xor, show (UInt8.ofNat x).toNat = x from by simp; omega]

end Go.Proofs.Ytanediaaidfcaaa
