import Derived.Test.YtnmblbkbiehodaaInoV
namespace Go.Proofs.Ytnmblbkbiehodaa
open Go.RowKit Go.WideShapes
set_option linter.unusedSimpArgs false
set_option linter.unusedVariables false

theorem ofLE_leI (k n : Nat) (h : n < 256 ^ k) : ofLE (le k n) = n := by
  induction k generalizing n with
  | zero => simp [le, ofLE] at *; omega
  | succ k ih =>
    have h' : n / 256 < 256 ^ k := by
      rw [Nat.div_lt_iff_lt_mul (by omega)]; rw [Nat.pow_succ] at h; exact h
    simp only [le, ofLE]
    rw [ih _ h']
    have : (UInt8.ofNat n).toNat = n % 256 := by simp
    rw [this]; omega
theorem ino_ext0 {i : InoT} (h : inoL i = zeroL) : i = ino0 := by
  cases i
  unfold inoL zeroL at h
  simp only [List.cons.injEq, and_true] at h
  obtain ⟨h0, h1, h2, h3, h4, h5, h6, h7, h8, h9, h10, h11, h12, h13, h14⟩ := h
  subst h0 h1 h2 h3 h4 h5 h6 h7 h8 h9 h10 h11 h12 h13 h14
  rfl
theorem mayI_zero {i : InoT} (hm : mayI i = true) (hk : i.k = 0) : i = ino0 := by
  have := mayI_else (i := i) (by omega) (by omega)
  rw [hm] at this
  exact ino_ext0 (of_decide_eq_true this.symm)
theorem putL_parts {i : InoT} (hm : mayI i = true) (hk : i.k ≠ 0) : putL i = inoY i ++ le 4 (crcF (inoY i)) := by rw [putL_some hm hk, put_sum]
theorem putL_64 {i : InoT} (hm : mayI i = true) : (putL i).length = 64 := by
  by_cases hk : i.k = 0
  · rw [putL_zero hm hk]; simp
  · rw [putL_parts hm hk, List.length_append, inoY_len, le_length]
theorem fields_put {i : InoT} (hm : mayI i = true) (hk : i.k ≠ 0) : fieldsI (putL i) = i := by
  have hkd := mayI_kind hm
  have hlow := mayI_low hm
  have hX := inoX_bytes hm
  rw [putL_parts hm hk]
  generalize crcF (inoY i) = z
  unfold inoY
  rw [hX]
  have e : ∀ n : Int, 0 ≤ n → n ≤ 255 → ((UInt8.ofNat n.toNat).toNat : Int) = n := by
    intro n h0 h1
    have : (UInt8.ofNat n.toNat).toNat = n.toNat % 256 := by simp
    rw [this]; omega
  have es : ∀ n : Int, 0 ≤ n → n ≤ 256 → ((UInt8.ofNat n.toNat).toNat : Int) + 256 * ((UInt8.ofNat (n.toNat / 256)).toNat : Int) = n := by
    intro n h0 h1
    have e1 : (UInt8.ofNat n.toNat).toNat = n.toNat % 256 := by simp
    have e2 : (UInt8.ofNat (n.toNat / 256)).toNat = n.toNat / 256 % 256 := by simp
    rw [e1, e2]; omega
  clear hX
  obtain ⟨k, l, s, b0, b1, b2, b3, o0, o1, o2, o3, o4, o5, o6, o7⟩ := i
  simp only [InoT.B, InoT.O] at *
  show (⟨((UInt8.ofNat k.toNat).toNat : Int), ((UInt8.ofNat l.toNat).toNat : Int), ((UInt8.ofNat s.toNat).toNat : Int) + 256 * ((UInt8.ofNat (s.toNat / 256)).toNat : Int), ((UInt8.ofNat b0.toNat).toNat : Int), ((UInt8.ofNat b1.toNat).toNat : Int), ((UInt8.ofNat b2.toNat).toNat : Int), ((UInt8.ofNat b3.toNat).toNat : Int), ((UInt8.ofNat o0.toNat).toNat : Int), ((UInt8.ofNat o1.toNat).toNat : Int), ((UInt8.ofNat o2.toNat).toNat : Int), ((UInt8.ofNat o3.toNat).toNat : Int), ((UInt8.ofNat o4.toNat).toNat : Int), ((UInt8.ofNat o5.toNat).toNat : Int), ((UInt8.ofNat o6.toNat).toNat : Int), ((UInt8.ofNat o7.toNat).toNat : Int)⟩ : InoT) = _
  have H : ∀ n ∈ [b0, b1, b2, b3] ++ [o0, o1, o2, o3, o4, o5, o6, o7], ((UInt8.ofNat n.toNat).toNat : Int) = n := fun n hn => e n (hlow n hn).1 (hlow n hn).2
  rw [e k hkd.1 (by omega), e l hkd.2.2.1 (by omega), es s hkd.2.2.2.2.1 hkd.2.2.2.2.2, H b0 (by simp), H b1 (by simp), H b2 (by simp), H b3 (by simp), H o0 (by simp), H o1 (by simp), H o2 (by simp), H o3 (by simp), H o4 (by simp), H o5 (by simp), H o6 (by simp), H o7 (by simp)]
theorem sum_tail {Y t : List UInt8} (hY : Y.length = 60) (ht : t.length = 4) : (Y ++ t).take 60 = Y ∧ slI (Y ++ t) 60 4 = t := by
  refine ⟨by rw [← hY]; exact List.take_left, ?_⟩
  unfold slI
  rw [← hY, List.drop_left, ← ht, List.take_length]
theorem sumOk_put {i : InoT} (hm : mayI i = true) (hk : i.k ≠ 0) : sumOk (putL i) = true := by
  rw [putL_parts hm hk]
  obtain ⟨h1, h2⟩ := sum_tail (inoY_len i) (le_length 4 (crcF (inoY i)))
  unfold sumOk
  rw [h1, h2]
  exact decide_eq_true (ofLE_leI 4 _ (Nat.lt_of_lt_of_le (crcF_lt _) (by decide)))
theorem bAt_put {i : InoT} (hm : mayI i = true) (hk : i.k ≠ 0) : (bAt (putL i) 0 : Int) = i.k := congrArg InoT.k (fields_put hm hk)
theorem put_ne0 {i : InoT} (hm : mayI i = true) (hk : i.k ≠ 0) : putL i ≠ zer64 := by
  intro e
  have := bAt_put hm hk
  rw [e] at this
  exact hk this.symm
theorem put_readI {i : InoT} (hm : mayI i = true) : rdI (putL i) = i ∧ rdE (putL i) = 0 := by
  have hl := putL_64 hm
  have ht : (putL i).take 64 = putL i := List.take_of_length_le (by omega)
  by_cases hk : i.k = 0
  · have e0 := mayI_zero hm hk
    obtain ⟨h1, h2⟩ := rd_zero (xs := putL i) (by omega) (by rw [ht]; exact putL_zero hm hk)
    exact ⟨by rw [h1, e0], h2⟩
  · have hf := fields_put hm hk
    obtain ⟨h1, h2⟩ := rd_good (xs := putL i) (by omega) (by rw [ht]; exact put_ne0 hm hk) (by rw [ht]; exact sumOk_put hm hk) (by
      rw [ht]; unfold rdGood; rw [hf, hm, Bool.true_and]; exact decide_eq_true rfl)
    rw [ht, hf] at h1
    exact ⟨h1, h2⟩
theorem read_putI {xs : List UInt8} (he : rdE xs = 0) : 64 ≤ xs.length ∧ mayI (rdI xs) = true ∧ putL (rdI xs) = xs.take 64 := by
  by_cases h : xs.length < 64
  · obtain ⟨_, h2⟩ := rd_short h
    rw [h2] at he; omega
  refine ⟨by omega, ?_⟩
  by_cases hz : xs.take 64 = zer64
  · obtain ⟨h1, _⟩ := rd_zero h hz
    rw [h1, hz]; exact ⟨by decide +kernel, put0⟩
  cases hs : sumOk (xs.take 64)
  · obtain ⟨_, h2⟩ := rd_sum h hz hs
    rw [h2] at he; omega
  cases hg : rdGood (xs.take 64)
  · obtain ⟨_, h2⟩ := rd_bad h hz hs hg
    rw [h2] at he; omega
  · obtain ⟨h1, _⟩ := rd_good h hz hs hg
    rw [h1]
    unfold rdGood at hg
    rw [Bool.and_eq_true] at hg
    exact ⟨hg.1, of_decide_eq_true hg.2⟩

/-! one byte turned -/
theorem xor_neI {x y : UInt8} (h : x ≠ 0) : y ^^^ x ≠ y := by
  intro e
  apply h
  apply UInt8.toNat_inj.1
  have e2 := congrArg UInt8.toNat e
  rw [UInt8.toNat_xor] at e2
  have : y.toNat ^^^ (y.toNat ^^^ x.toNat) = y.toNat ^^^ y.toNat := by rw [e2]
  rw [← Nat.xor_assoc, Nat.xor_self, Nat.zero_xor] at this
  rw [this]; rfl
theorem crcReg_setI (r : Nat) (l : List UInt8) (m : Nat) (x : UInt8) (h : m < l.length) : crcReg r (l.set m (l.getD m 0 ^^^ x)) = crcReg r l ^^^ crcSteps (8 * (l.length - m)) x.toNat := by
  induction l generalizing r m with
  | nil => simp at h
  | cons y ys ih =>
    cases m with
    | zero =>
      have e1 : (y :: ys).set 0 ((y :: ys).getD 0 0 ^^^ x) = (y ^^^ x) :: ys := rfl
      rw [e1, crcReg_cons, crcReg_cons]
      have e2 : crcByte r (y ^^^ x) = crcByte r y ^^^ crcSteps 8 x.toNat := by
        rw [crcByte_eq, crcByte_eq, UInt8.toNat_xor, ← Nat.xor_assoc, crcSteps_xor]
      rw [e2, crcReg_xor, ← crcSteps_add, show 8 * ((y :: ys).length - 0) = 8 * ys.length + 8 from by simp only [List.length_cons]; omega]
    | succ m =>
      have e1 : (y :: ys).set (m + 1) ((y :: ys).getD (m + 1) 0 ^^^ x) = y :: ys.set m (ys.getD m 0 ^^^ x) := rfl
      rw [e1, crcReg_cons, crcReg_cons, ih _ _ (by simpa using h), show 8 * ((y :: ys).length - (m + 1)) = 8 * (ys.length - m) from by simp only [List.length_cons]; omega]
theorem crcF_setI {l : List UInt8} {m : Nat} {x : UInt8} (h : m < l.length) (hx : x ≠ 0) : crcF (l.set m (l.getD m 0 ^^^ x)) ≠ crcF l := by
  intro e
  unfold crcF at e
  have h1 := crcReg_lt (r := 4294967295) (by omega) l
  have h2 := crcReg_lt (r := 4294967295) (by omega) (l.set m (l.getD m 0 ^^^ x))
  have e2 : crcReg 4294967295 (l.set m (l.getD m 0 ^^^ x)) = crcReg 4294967295 l := by omega
  rw [crcReg_setI _ _ _ _ h] at e2
  have e3 : crcReg 4294967295 l ^^^ (crcReg 4294967295 l ^^^ crcSteps (8 * (l.length - m)) x.toNat) = crcReg 4294967295 l ^^^ crcReg 4294967295 l := by rw [e2]
  rw [← Nat.xor_assoc, Nat.xor_self, Nat.zero_xor] at e3
  have hx8 := x.toNat_lt
  have e4 := crcSteps_eq_zero (by omega) e3
  exact hx (UInt8.toNat_inj.1 e4)
theorem ofLE_injI {a b : List UInt8} (h : a.length = b.length) (e : ofLE a = ofLE b) : a = b := by
  have h1 := le_ofLEI a
  have h2 := le_ofLEI b
  rw [e, h] at h1
  rw [← h1, h2]
theorem sumOk_turned {Y : List UInt8} (hY : Y.length = 60) {m : Nat} {x : UInt8} (hm : m < 64) (hx : x ≠ 0) : sumOk ((Y ++ le 4 (crcF Y)).set m ((Y ++ le 4 (crcF Y)).getD m 0 ^^^ x)) = false := by
  obtain ⟨hT, hS⟩ := sum_tail hY (le_length 4 (crcF Y))
  have hl : (Y ++ le 4 (crcF Y)).length = 64 := by rw [List.length_append, hY, le_length]
  have h0 : ofLE (slI (Y ++ le 4 (crcF Y)) 60 4) = crcF Y := by rw [hS]; exact ofLE_leI 4 _ (Nat.lt_of_lt_of_le (crcF_lt _) (by decide))
  have hd : ∀ m, m < 60 → (Y ++ le 4 (crcF Y)).getD m 0 = Y.getD m 0 := fun m h => by
    rw [List.getD_eq_getElem?_getD, List.getD_eq_getElem?_getD, List.getElem?_append_left (by omega)]
  generalize le 4 (crcF Y) = t at *
  generalize hys : Y ++ t = ys at *
  unfold sumOk
  apply decide_eq_false
  intro e
  by_cases h60 : m < 60
  · have hs : slI (ys.set m (ys.getD m 0 ^^^ x)) 60 4 = slI ys 60 4 := by
      unfold slI; rw [List.drop_set_of_lt h60]
    have ht : (ys.set m (ys.getD m 0 ^^^ x)).take 60 = Y.set m (Y.getD m 0 ^^^ x) := by
      rw [List.take_set, hT, hd m h60]
    rw [hs, h0, ht] at e
    exact crcF_setI (by omega) hx e.symm
  · have ht : (ys.set m (ys.getD m 0 ^^^ x)).take 60 = Y := by
      rw [List.take_set_of_le (by omega), hT]
    rw [ht, ← h0] at e
    have e2 := ofLE_injI (by rw [slI_len (by rw [List.length_set]; omega), slI_len (by omega)]) e
    have e3 := congrArg (fun t => t[m - 60]?) e2
    simp only [slI, List.getElem?_take, List.getElem?_drop] at e3
    rw [if_pos (by omega), if_pos (by omega), show 60 + (m - 60) = m from by omega, List.getElem?_set_self (by omega)] at e3
    rw [List.getD_eq_getElem?_getD, List.getElem?_eq_getElem (by omega)] at e3
    simp only [Option.some.injEq, Option.getD_some] at e3
    exact xor_neI hx e3
def ino1 : InoT := ⟨1, 0, 0, 0, 0, 0, 0, 0, 0, 0, 0, 0, 0, 0, 0⟩
theorem ino1_tail : ¬ (bAt (putL ino1) 60 = 0 ∧ bAt (putL ino1) 61 = 0 ∧ bAt (putL ino1) 62 = 0 ∧ bAt (putL ino1) 63 = 0) := by decide +kernel
theorem turned_ne0 {i : InoT} (hi : mayI i = true) (hk : i.k ≠ 0) {m : Nat} {x : UInt8} (hm : m < 64) : (putL i).set m x ≠ zer64 := by
  intro e
  have hl := putL_64 hi
  have hf := fields_put hi hk
  have h0 : ∀ j, j < 64 → j ≠ m → bAt (putL i) j = 0 := by
    intro j hj hne
    have e1 := congrArg (fun t => t[j]?) e
    simp only [List.getElem?_set_ne (Ne.symm hne)] at e1
    unfold bAt
    rw [List.getD_eq_getElem?_getD, e1]
    unfold zer64
    rw [List.getElem?_replicate, if_pos hj]; rfl
  have hk0 := bAt_put hi hk
  have hm0 : m = 0 := by
    rcases Nat.eq_zero_or_pos m with h | h
    · exact h
    · have := h0 0 (by omega) (by omega)
      rw [this] at hk0
      exact absurd hk0.symm hk
  subst hm0
  have hkd := mayI_kind hi
  have hfz : i = ⟨i.k, 0, 0, 0, 0, 0, 0, 0, 0, 0, 0, 0, 0, 0, 0⟩ := by
    have q : fieldsI (putL i) = ⟨i.k, 0, 0, 0, 0, 0, 0, 0, 0, 0, 0, 0, 0, 0, 0⟩ := by
      unfold fieldsI
      rw [hk0, h0 1 (by omega) (by omega), h0 2 (by omega) (by omega), h0 3 (by omega) (by omega), h0 4 (by omega) (by omega), h0 5 (by omega) (by omega), h0 6 (by omega) (by omega), h0 7 (by omega) (by omega), h0 8 (by omega) (by omega), h0 9 (by omega) (by omega), h0 10 (by omega) (by omega), h0 11 (by omega) (by omega), h0 12 (by omega) (by omega), h0 13 (by omega) (by omega), h0 14 (by omega) (by omega), h0 15 (by omega) (by omega)]
      rfl
    rw [← q, hf]
  rcases (by omega : i.k = 1 ∨ i.k = 2) with h1 | h1
  · rw [h1] at hfz
    have : i = ino1 := hfz
    subst this
    exact ino1_tail ⟨h0 60 (by omega) (by omega), h0 61 (by omega) (by omega), h0 62 (by omega) (by omega), h0 63 (by omega) (by omega)⟩
  · have h2 := ((mayI_dir h1).1 hi).1.1
    rw [hfz] at h2
    exact absurd (show (0 : Int) = 1 from h2) (by decide)
theorem rdE_turnedI {i : InoT} (hi : mayI i = true) (hk : i.k ≠ 0) {m : Nat} {x : UInt8} (hm : m < 64) (hx : x ≠ 0) : rdE ((putL i).set m ((putL i).getD m 0 ^^^ x)) = 4 := by
  have hl : ((putL i).set m ((putL i).getD m 0 ^^^ x)).length = 64 := by rw [List.length_set, putL_64 hi]
  have ht : ((putL i).set m ((putL i).getD m 0 ^^^ x)).take 64 = (putL i).set m ((putL i).getD m 0 ^^^ x) := List.take_of_length_le (by omega)
  refine (rd_sum (by omega) ?_ ?_).2
  · rw [ht]; exact turned_ne0 hi hk hm
  · rw [ht, putL_parts hi hk]; exact sumOk_turned (inoY_len i) hm hx

end Go.Proofs.Ytnmblbkbiehodaa
