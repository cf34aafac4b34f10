import Derived.Test.YtpkmkmkknhnihaaSlotN
import Derived.BigRegion
namespace Go.Proofs.Ytpkmkmkknhnihaa
open Go.RowKit
set_option linter.unusedSimpArgs false
set_option linter.unusedVariables false

theorem xor_ne {x y : UInt8} (h : x ≠ 0) : y ^^^ x ≠ y := by
  intro e
  apply h
  apply UInt8.toNat_inj.1
  have e2 := congrArg UInt8.toNat e
  rw [UInt8.toNat_xor] at e2
  have : y.toNat ^^^ (y.toNat ^^^ x.toNat) = y.toNat ^^^ y.toNat := by rw [e2]
  rw [← Nat.xor_assoc, Nat.xor_self, Nat.zero_xor] at this
  rw [this]; rfl

theorem crcReg_set (r : Nat) (l : List UInt8) (m : Nat) (x : UInt8) (h : m < l.length) : crcReg r (l.set m (l.getD m 0 ^^^ x)) = crcReg r l ^^^ crcSteps (8 * (l.length - m)) x.toNat := by
  induction l generalizing r m with
  | nil => simp at h
  | cons y ys ih =>
    cases m with
    | zero =>
      have e1 : (y :: ys).set 0 ((y :: ys).getD 0 0 ^^^ x) = (y ^^^ x) :: ys := rfl
      rw [e1, crcReg_cons, crcReg_cons]
      have e2 : crcByte r (y ^^^ x) = crcByte r y ^^^ crcSteps 8 x.toNat := by
        rw [crcByte_eq, crcByte_eq, UInt8.toNat_xor, ← Nat.xor_assoc, crcSteps_xor]
      rw [e2, crcReg_xor, ← crcSteps_add, show 8 * ((y :: ys).length - 0) = 8 * ys.length + 8 from by simp only [List.length_cons]; omega]
    | succ m =>
      have e1 : (y :: ys).set (m + 1) ((y :: ys).getD (m + 1) 0 ^^^ x) = y :: ys.set m (ys.getD m 0 ^^^ x) := rfl
      rw [e1, crcReg_cons, crcReg_cons, ih _ _ (by simpa using h), show 8 * ((y :: ys).length - (m + 1)) = 8 * (ys.length - m) from by simp only [List.length_cons]; omega]

theorem crcF_set {l : List UInt8} {m : Nat} {x : UInt8} (h : m < l.length) (hx : x ≠ 0) : crcF (l.set m (l.getD m 0 ^^^ x)) ≠ crcF l := by
  intro e
  unfold crcF at e
  have h1 := crcReg_lt (r := 4294967295) (by omega) l
  have h2 := crcReg_lt (r := 4294967295) (by omega) (l.set m (l.getD m 0 ^^^ x))
  have e2 : crcReg 4294967295 (l.set m (l.getD m 0 ^^^ x)) = crcReg 4294967295 l := by omega
  rw [crcReg_set _ _ _ _ h] at e2
  have e3 : crcReg 4294967295 l ^^^ (crcReg 4294967295 l ^^^ crcSteps (8 * (l.length - m)) x.toNat) = crcReg 4294967295 l ^^^ crcReg 4294967295 l := by rw [e2]
  rw [← Nat.xor_assoc, Nat.xor_self, Nat.zero_xor] at e3
  have hx8 := x.toNat_lt
  have e4 := crcSteps_eq_zero (by omega) e3
  exact hx (UInt8.toNat_inj.1 e4)

theorem ofLE_inj {a b : List UInt8} (h : a.length = b.length) (e : ofLE a = ofLE b) : a = b := by
  have h1 := le_ofLE a
  have h2 := le_ofLE b
  rw [e, h] at h1
  rw [← h1, h2]

theorem chk_turned {l : List UInt8} (h : l.length ≤ 60) {m : Nat} {x : UInt8} (hm : m < 64) (hx : x ≠ 0) : chk ((sealF l).set m ((sealF l).getD m 0 ^^^ x)) = 4 := by
  have hl := sealF_length h
  have hl2 : ((sealF l).set m ((sealF l).getD m 0 ^^^ x)).length = 64 := by rw [List.length_set, hl]
  have hne : getF ((sealF l).set m ((sealF l).getD m 0 ^^^ x)) 60 4 ≠ some (crcF (((sealF l).set m ((sealF l).getD m 0 ^^^ x)).take 60)) := by
    intro e
    obtain ⟨_, e1, _⟩ := getF_sl (a := 60) (k := 4) e
    have e0 := (getF_sl (a := 60) (k := 4) (getF_seal h)).2.1
    by_cases h60 : m < 60
    · have hs : sl ((sealF l).set m ((sealF l).getD m 0 ^^^ x)) 60 4 = sl (sealF l) 60 4 := by
        unfold sl; rw [List.drop_set_of_lt h60]
      have ht : ((sealF l).set m ((sealF l).getD m 0 ^^^ x)).take 60 = (padF l).set m ((padF l).getD m 0 ^^^ x) := by
        rw [List.take_set, sealF_take h]
        congr 2
        unfold sealF
        rw [List.getD_eq_getElem?_getD, List.getD_eq_getElem?_getD, List.getElem?_append_left (by rw [padF_length h]; exact h60)]
      rw [hs, ← e0, ht] at e1
      exact crcF_set (by rw [padF_length h]; exact h60) hx e1
    · have ht : ((sealF l).set m ((sealF l).getD m 0 ^^^ x)).take 60 = padF l := by
        rw [List.take_set_of_le (by omega), sealF_take h]
      rw [ht, e0] at e1
      have e2 := ofLE_inj (by rw [sl_len (by omega), sl_len (by omega)]) e1
      have e3 := congrArg (fun t => t[m - 60]?) e2
      simp only [sl, List.getElem?_take, List.getElem?_drop] at e3
      rw [if_pos (by omega), if_pos (by omega), show 60 + (m - 60) = m from by omega, List.getElem?_set_self (by omega)] at e3
      rw [List.getD_eq_getElem?_getD, List.getElem?_eq_getElem (by omega)] at e3
      simp only [Option.some.injEq, Option.getD_some] at e3
      exact xor_ne hx e3.symm
  unfold chk
  rw [if_pos (by omega), if_neg hne]

theorem set_blk {w : World} {g : Nat} {ys : List UInt8} {Z : List Value} (h : Blk w g 5 (ys.map byteV ++ Z)) {A : Nat} (hA : A < ys.length) (b : UInt8) :
    Blk (w.setCell ⟨g, A, none⟩ (byteV b)) g 5 ((ys.set A b).map byteV ++ Z) := by
  have := h.set A (byteV b)
  rwa [List.set_append_left _ _ (by simpa using hA), ← List.map_set] at this

theorem rsE_turned {l : List UInt8} (h : l.length ≤ 60) {m : Nat} {x : UInt8} (hm : m < 64) (hx : x ≠ 0) : rsE ((sealF l).set m ((sealF l).getD m 0 ^^^ x)) = 4 := by
  unfold rsE; rw [chk_turned h hm hx]; rfl

theorem neg_tmod_of' {n m d : Int} (h : n < 0) (hd : 0 < d) (hm : -(n + 1) % d = m) : (n + 1).tmod d = -m := by
  have h1 := Int.tmod_eq_emod_of_nonneg (a := -(n + 1)) (b := d) (by omega)
  rw [Int.neg_tmod] at h1
  omega

theorem xor_byte (ys : List UInt8) (A : Nat) {x : Nat} (hx : x < 256) : byteV (ys.getD A 0 ^^^ UInt8.ofNat x) = .int .u8 (bits .xor .u8 (bAt ys A : Int) (x : Int)) := by
  rw [u8_xor_nat _ _ (bAt_lt ys _) hx]
  unfold byteV bAt
  rw [UInt8.toNat_xor, show (UInt8.ofNat x).toNat = x from by simp; omega]

end Go.Proofs.Ytpkmkmkknhnihaa
