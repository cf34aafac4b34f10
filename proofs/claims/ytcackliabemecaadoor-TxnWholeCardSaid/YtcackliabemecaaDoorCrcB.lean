import Derived.Test.YtcackliabemecaaDoorCrcA
namespace Go.Proofs.YtcackliabemecaaDoor
open Go.RowKit
set_option linter.unusedSimpArgs false
set_option linter.unusedVariables false

theorem xor_pow_step (a b i : Nat) : (a ^^^ b) % 2 ^ (i + 1) = (a ^^^ b) % 2 ^ i + (if (a / 2 ^ i) % 2 ≠ (b / 2 ^ i) % 2 then 2 ^ i else 0) := by
  have e : ((a ^^^ b) / 2 ^ i) % 2 = if (a / 2 ^ i) % 2 ≠ (b / 2 ^ i) % 2 then 1 else 0 := by
    have h := xor_odd (a / 2 ^ i) (b / 2 ^ i)
    rw [← Nat.shiftRight_eq_div_pow, ← Nat.shiftRight_eq_div_pow, ← Nat.shiftRight_xor_distrib] at h
    rw [← Nat.shiftRight_eq_div_pow, ← Nat.shiftRight_eq_div_pow, ← Nat.shiftRight_eq_div_pow]
    by_cases hc : (a >>> i) % 2 ≠ (b >>> i) % 2
    · rw [if_pos hc]; exact h.2 hc
    · rw [if_neg hc]
      have := fun h2 => hc (h.1 h2)
      omega
  rw [Nat.pow_succ, Nat.mod_mul, e]
  split <;> simp

theorem div_pow_succ (a i : Nat) : a / 2 ^ (i + 1) = a / 2 ^ i / 2 := by rw [Nat.pow_succ, Nat.div_div_eq_div_mul]

theorem pow31 {i : Nat} (h : i < 32) : 2 ^ i ≤ 2147483648 := by
  have := Nat.pow_le_pow_right (n := 2) (by omega) (by omega : i ≤ 31)
  simpa using this

theorem crcMix_lt {r c : Nat} (h : r < 4294967296) : crcMix r c < 4294967296 := by
  unfold crcMix; split
  · exact xor_lt32 (by omega) (by omega)
  · omega
theorem mix_yes {r c : Nat} (h : r % 2 ≠ c % 2) : crcMix r c = (r / 2) ^^^ 3988292384 := by unfold crcMix; rw [if_pos h]
theorem mix_no {r c : Nat} (h : ¬ r % 2 ≠ c % 2) : crcMix r c = r / 2 := by unfold crcMix; rw [if_neg h]
