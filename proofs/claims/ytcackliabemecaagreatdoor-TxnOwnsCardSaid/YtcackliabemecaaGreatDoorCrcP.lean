import Derived.RowKit
namespace Go.Proofs.YtcackliabemecaaGreatDoor
set_option linter.unusedSimpArgs false
set_option linter.unusedVariables false

/-- one bit of the register -/
def crcStep (q : Nat) : Nat := if q % 2 = 1 then (q / 2) ^^^ 3988292384 else q / 2
def crcSteps : Nat → Nat → Nat
  | 0, q => q
  | k + 1, q => crcStep (crcSteps k q)
def crcByte (r : Nat) (x : UInt8) : Nat := crcSteps 8 (r ^^^ x.toNat)
def crcReg (r : Nat) (xs : List UInt8) : Nat := xs.foldl crcByte r
def crcF (xs : List UInt8) : Nat := 4294967295 - crcReg 4294967295 xs

theorem xor_lt32 {a b : Nat} (ha : a < 4294967296) (hb : b < 4294967296) : a ^^^ b < 4294967296 := by
  have := Nat.xor_lt_two_pow (n := 32) (x := a) (y := b) (by omega) (by omega)
  omega
theorem crcStep_lt {q : Nat} (h : q < 4294967296) : crcStep q < 4294967296 := by
  unfold crcStep
  split
  · exact xor_lt32 (by omega) (by omega)
  · omega
theorem crcSteps_lt {q : Nat} (h : q < 4294967296) (k : Nat) : crcSteps k q < 4294967296 := by
  induction k with
  | zero => exact h
  | succ k ih => exact crcStep_lt ih
theorem crcByte_lt {r : Nat} (h : r < 4294967296) (x : UInt8) : crcByte r x < 4294967296 :=
  crcSteps_lt (xor_lt32 h (by have := x.toNat_lt; omega)) 8
theorem crcReg_lt {r : Nat} (h : r < 4294967296) (xs : List UInt8) : crcReg r xs < 4294967296 := by
  induction xs generalizing r with
  | nil => exact h
  | cons x xs ih => unfold crcReg; rw [List.foldl_cons]; exact ih (crcByte_lt h x)
theorem crcF_lt (xs : List UInt8) : crcF xs < 4294967296 := by unfold crcF; omega
theorem crcReg_snoc (r : Nat) (xs : List UInt8) (x : UInt8) : crcReg r (xs ++ [x]) = crcByte (crcReg r xs) x := by
  unfold crcReg; rw [List.foldl_append, List.foldl_cons, List.foldl_nil]

/-! the bits one by one -/
theorem xor_odd (a b : Nat) : (a ^^^ b) % 2 = 1 ↔ a % 2 ≠ b % 2 := by
  rw [Nat.xor_mod_two_eq_one]; omega

/-- the definition's bit: the register's and the byte's lowest bit are held against each other -/
def crcMix (r c : Nat) : Nat := if r % 2 ≠ c % 2 then (r / 2) ^^^ 3988292384 else r / 2
theorem crcMix_eq (r c : Nat) : crcMix r c ^^^ (c / 2) = crcStep (r ^^^ c) := by
  unfold crcMix crcStep
  rw [Nat.xor_div_two]
  by_cases h : r % 2 ≠ c % 2
  · rw [if_pos h, if_pos ((xor_odd r c).2 h), Nat.xor_assoc, Nat.xor_comm 3988292384, Nat.xor_assoc]
  · rw [if_neg h, if_neg (fun h2 => h ((xor_odd r c).1 h2))]

/-! a burst -/
theorem crcSteps_0 (q : Nat) : crcSteps 0 q = q := rfl
theorem crcSteps_succ (k q : Nat) : crcSteps (k + 1) q = crcStep (crcSteps k q) := rfl
theorem crcByte_eq (r : Nat) (x : UInt8) : crcByte r x = crcSteps 8 (r ^^^ x.toNat) := rfl
theorem crcReg_nil (r : Nat) : crcReg r [] = r := List.foldl_nil
attribute [irreducible] crcStep crcSteps crcByte crcReg

/-- one bit of a text turned -/
def flip (l : List UInt8) (k : Nat) : List UInt8 := l.set (k / 8) ((l.getD (k / 8) 0) ^^^ UInt8.ofNat (2 ^ (k % 8)))

end Go.Proofs.YtcackliabemecaaGreatDoor
