import Derived.RowKit
namespace Go.Proofs.YtcackliabemecaaDoor
set_option linter.unusedSimpArgs false
set_option linter.unusedVariables false

/-- one bit of the register -/
def crcStep (q : Nat) : Nat := if q % 2 = 1 then (q / 2) ^^^ 3988292384 else q / 2
def crcSteps : Nat → Nat → Nat
  | 0, q => q
  | k + 1, q => crcStep (crcSteps k q)
def crcByte (r : Nat) (x : UInt8) : Nat := crcSteps 8 (r ^^^ x.toNat)
def crcReg (r : Nat) (xs : List UInt8) : Nat := xs.foldl crcByte r
def crcF (xs : List UInt8) : Nat := 4294967295 - crcReg 4294967295 xs

theorem xor_lt32 {a b : Nat} (ha : a < 4294967296) (hb : b < 4294967296) : a ^^^ b < 4294967296 := by
  have := Nat.xor_lt_two_pow (n := 32) (x := a) (y := b) (by omega) (by omega)
  omega
theorem crcStep_lt {q : Nat} (h : q < 4294967296) : crcStep q < 4294967296 := by
  unfold crcStep
  split
  · exact xor_lt32 (by omega) (by omega)
  · omega
theorem crcSteps_lt {q : Nat} (h : q < 4294967296) (k : Nat) : crcSteps k q < 4294967296 := by
  induction k with
  | zero => exact h
  | succ k ih => exact crcStep_lt ih
theorem crcByte_lt {r : Nat} (h : r < 4294967296) (x : UInt8) : crcByte r x < 4294967296 :=
  crcSteps_lt (xor_lt32 h (by have := x.toNat_lt; omega)) 8
theorem crcReg_lt {r : Nat} (h : r < 4294967296) (xs : List UInt8) : crcReg r xs < 4294967296 := by
  induction xs generalizing r with
  | nil => exact h
  | cons x xs ih => unfold crcReg; rw [List.foldl_cons]; exact ih (crcByte_lt h x)
theorem crcF_lt (xs : List UInt8) : crcF xs < 4294967296 := by unfold crcF; omega
theorem crcReg_append (r : Nat) (xs ys : List UInt8) : crcReg r (xs ++ ys) = crcReg (crcReg r xs) ys := by
  unfold crcReg; rw [List.foldl_append]
theorem crcReg_snoc (r : Nat) (xs : List UInt8) (x : UInt8) : crcReg r (xs ++ [x]) = crcByte (crcReg r xs) x := by
  unfold crcReg; rw [List.foldl_append, List.foldl_cons, List.foldl_nil]

/-! the bits one by one -/
theorem xor_odd (a b : Nat) : (a ^^^ b) % 2 = 1 ↔ a % 2 ≠ b % 2 := by
  rw [Nat.xor_mod_two_eq_one]; omega

theorem crcStep_xor (a b : Nat) : crcStep (a ^^^ b) = crcStep a ^^^ crcStep b := by
  unfold crcStep
  rw [Nat.xor_div_two]
  by_cases ha : a % 2 = 1 <;> by_cases hb : b % 2 = 1
  · rw [if_neg (by rw [xor_odd]; omega), if_pos ha, if_pos hb]
    rw [Nat.xor_assoc, Nat.xor_comm 3988292384, Nat.xor_assoc, Nat.xor_self, Nat.xor_zero]
  · rw [if_pos (by rw [xor_odd]; omega), if_pos ha, if_neg hb]
    rw [Nat.xor_assoc, Nat.xor_assoc, Nat.xor_comm (b / 2)]
  · rw [if_pos (by rw [xor_odd]; omega), if_neg ha, if_pos hb, Nat.xor_assoc]
  · rw [if_neg (by rw [xor_odd]; omega), if_neg ha, if_neg hb]

theorem crcSteps_xor (k a b : Nat) : crcSteps k (a ^^^ b) = crcSteps k a ^^^ crcSteps k b := by
  induction k with
  | zero => rfl
  | succ k ih => simp only [crcSteps, ih, crcStep_xor]

theorem crcSteps_zero (k : Nat) : crcSteps k 0 = 0 := by
  induction k with
  | zero => rfl
  | succ k ih => simp [crcSteps, ih, crcStep]

theorem crcSteps_add (j k q : Nat) : crcSteps (j + k) q = crcSteps j (crcSteps k q) := by
  induction j with
  | zero => simp [crcSteps]
  | succ j ih => rw [Nat.succ_add]; simp only [crcSteps, ih]

/-- the definition's bit: the register's and the byte's lowest bit are held against each other -/
def crcMix (r c : Nat) : Nat := if r % 2 ≠ c % 2 then (r / 2) ^^^ 3988292384 else r / 2
theorem crcMix_eq (r c : Nat) : crcMix r c ^^^ (c / 2) = crcStep (r ^^^ c) := by
  unfold crcMix crcStep
  rw [Nat.xor_div_two]
  by_cases h : r % 2 ≠ c % 2
  · rw [if_pos h, if_pos ((xor_odd r c).2 h), Nat.xor_assoc, Nat.xor_comm 3988292384, Nat.xor_assoc]
  · rw [if_neg h, if_neg (fun h2 => h ((xor_odd r c).1 h2))]

/-! a burst -/
theorem xor_zero_eq {a b : Nat} (h : a ^^^ b = 0) : a = b := by
  have h2 : (a ^^^ b) ^^^ b = 0 ^^^ b := by rw [h]
  rwa [Nat.xor_assoc, Nat.xor_self, Nat.xor_zero, Nat.zero_xor] at h2

theorem crcStep_eq_zero {q : Nat} (hq : q < 4294967296) (h : crcStep q = 0) : q = 0 := by
  unfold crcStep at h
  split at h
  · have h2 := xor_zero_eq h
    omega
  · omega

theorem crcSteps_eq_zero {k q : Nat} (hq : q < 4294967296) (h : crcSteps k q = 0) : q = 0 := by
  induction k with
  | zero => exact h
  | succ k ih => exact ih (crcStep_eq_zero (crcSteps_lt hq k) h)

theorem crcSteps_pow (i : Nat) : crcSteps i (2 ^ i) = 1 := by
  induction i with
  | zero => rfl
  | succ i ih =>
    rw [crcSteps_add i 1]
    have : crcSteps 1 (2 ^ (i + 1)) = 2 ^ i := by
      simp [crcSteps, crcStep, Nat.pow_succ]
    rw [this, ih]

theorem crcSteps_0 (q : Nat) : crcSteps 0 q = q := rfl
theorem crcSteps_succ (k q : Nat) : crcSteps (k + 1) q = crcStep (crcSteps k q) := rfl
theorem crcByte_eq (r : Nat) (x : UInt8) : crcByte r x = crcSteps 8 (r ^^^ x.toNat) := rfl
theorem crcReg_cons (r : Nat) (x : UInt8) (xs : List UInt8) : crcReg r (x :: xs) = crcReg (crcByte r x) xs := List.foldl_cons ..
theorem crcReg_nil (r : Nat) : crcReg r [] = r := List.foldl_nil
attribute [irreducible] crcStep crcSteps crcByte crcReg

theorem crcReg_xor (r d : Nat) (xs : List UInt8) : crcReg (r ^^^ d) xs = crcReg r xs ^^^ crcSteps (8 * xs.length) d := by
  induction xs generalizing r d with
  | nil => rw [crcReg_nil, crcReg_nil, List.length_nil, Nat.mul_zero, crcSteps_0]
  | cons x xs ih =>
    have e : crcByte (r ^^^ d) x = crcByte r x ^^^ crcSteps 8 d := by
      rw [crcByte_eq, crcByte_eq, Nat.xor_assoc, Nat.xor_comm d, ← Nat.xor_assoc, crcSteps_xor]
    rw [crcReg_cons, crcReg_cons, e, ih, ← crcSteps_add, show 8 * (x :: xs).length = 8 * xs.length + 8 from by simp only [List.length_cons]; omega]

/-- one bit of a text turned -/
def flip (l : List UInt8) (k : Nat) : List UInt8 := l.set (k / 8) ((l.getD (k / 8) 0) ^^^ UInt8.ofNat (2 ^ (k % 8)))

theorem crcReg_flip (r : Nat) (l : List UInt8) (k : Nat) (h : k < 8 * l.length) : crcReg r (flip l k) = crcReg r l ^^^ crcSteps (8 * l.length - k) 1 := by
  induction l generalizing r k with
  | nil => simp at h
  | cons x xs ih =>
    by_cases h8 : k < 8
    · have e0 : k / 8 = 0 := by omega
      have e1 : flip (x :: xs) k = (x ^^^ UInt8.ofNat (2 ^ k)) :: xs := by
        unfold flip; rw [e0, Nat.mod_eq_of_lt h8]; rfl
      rw [e1]
      rw [crcReg_cons, crcReg_cons]
      have hp : 2 ^ k < 256 := by
        have := Nat.pow_lt_pow_right (a := 2) (by omega) h8
        omega
      have e2 : crcByte r (x ^^^ UInt8.ofNat (2 ^ k)) = crcByte r x ^^^ crcSteps (8 - k) 1 := by
        rw [crcByte_eq, crcByte_eq, UInt8.toNat_xor, show (UInt8.ofNat (2 ^ k)).toNat = 2 ^ k from by simp; omega, ← Nat.xor_assoc, crcSteps_xor]
        congr 1
        rw [show 8 = (8 - k) + k from by omega, crcSteps_add, crcSteps_pow, show 8 - k + k - k = 8 - k from by omega]
      rw [e2, crcReg_xor, ← crcSteps_add, show 8 * (x :: xs).length - k = 8 * xs.length + (8 - k) from by simp only [List.length_cons]; omega]
    · have e0 : k / 8 = (k - 8) / 8 + 1 := by omega
      have e1 : flip (x :: xs) k = x :: flip xs (k - 8) := by
        unfold flip; rw [e0, show k % 8 = (k - 8) % 8 from by omega]; rfl
      rw [e1]
      rw [crcReg_cons, crcReg_cons, ih _ _ (by simp only [List.length_cons] at h; omega), show 8 * (x :: xs).length - k = 8 * xs.length - (k - 8) from by simp only [List.length_cons]; omega]

end Go.Proofs.YtcackliabemecaaDoor
