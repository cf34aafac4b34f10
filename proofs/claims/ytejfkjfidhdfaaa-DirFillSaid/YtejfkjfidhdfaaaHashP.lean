/- A text's number (pure). -/
import Derived.Test.YtejfkjfidhdfaaaLib
import Derived.Laws.BitsAllLaws
namespace Go.Proofs.Ytejfkjfidhdfaaa
open Go.RowKit
set_option linter.unusedSimpArgs false
set_option linter.unusedVariables false

theorem xor_odd2 (a b : Nat) : (a ^^^ b) % 2 = 1 ↔ a % 2 ≠ b % 2 := by
  have h := Nat.testBit_xor a b 0
  simp only [Nat.testBit_zero] at h
  have ha : a % 2 = 0 ∨ a % 2 = 1 := by omega
  have hb : b % 2 = 0 ∨ b % 2 = 1 := by omega
  have hx : (a ^^^ b) % 2 = 0 ∨ (a ^^^ b) % 2 = 1 := by omega
  rcases ha with ha | ha <;> rcases hb with hb | hb <;> rcases hx with hx | hx <;> simp [ha, hb, hx] at h ⊢
theorem xor_low (a b i : Nat) : (a ^^^ b) % 2 ^ (i + 1) = (a ^^^ b) % 2 ^ i + (if (a / 2 ^ i) % 2 ≠ (b / 2 ^ i) % 2 then 2 ^ i else 0) := by
  have e : ((a ^^^ b) / 2 ^ i) % 2 = if (a / 2 ^ i) % 2 ≠ (b / 2 ^ i) % 2 then 1 else 0 := by
    have h := xor_odd2 (a / 2 ^ i) (b / 2 ^ i)
    rw [← Nat.shiftRight_eq_div_pow, ← Nat.shiftRight_eq_div_pow, ← Nat.shiftRight_xor_distrib] at h
    rw [← Nat.shiftRight_eq_div_pow, ← Nat.shiftRight_eq_div_pow, ← Nat.shiftRight_eq_div_pow]
    by_cases hc : (a >>> i) % 2 ≠ (b >>> i) % 2
    · rw [if_pos hc]; exact h.2 hc
    · rw [if_neg hc]
      have := fun h2 => hc (h.1 h2)
      omega
  rw [Nat.pow_succ, Nat.mod_mul, e]
  split <;> simp
theorem xor_byte_low (h : Nat) {c : Nat} (hc : c < 256) : h ^^^ c = h - h % 256 + (h ^^^ c) % 256 := by
  have e : (h ^^^ c) / 256 = h / 256 := by
    rw [show 256 = 2 ^ 8 from rfl, ← Nat.shiftRight_eq_div_pow, ← Nat.shiftRight_eq_div_pow, Nat.shiftRight_xor_distrib]
    have : c >>> 8 = 0 := by rw [Nat.shiftRight_eq_div_pow]; exact Nat.div_eq_of_lt hc
    rw [this, Nat.xor_zero]
  omega
def stepG (p M h : Nat) (c : UInt8) : Nat := ((h ^^^ c.toNat) * p) % M
def hashG (s p M : Nat) (l : List UInt8) : Nat := l.foldl (stepG p M) s
theorem hashG_snoc (s p M : Nat) (l : List UInt8) (c : UInt8) : hashG s p M (l ++ [c]) = stepG p M (hashG s p M l) c := by
  simp only [hashG, List.foldl_append, List.foldl_cons, List.foldl_nil]
theorem hashG_lt (s p M : Nat) (h : s < M) (l : List UInt8) : hashG s p M l < M := by
  rcases List.eq_nil_or_concat l with e | ⟨q, c, e⟩
  · rw [e]; exact h
  · rw [e, List.concat_eq_append, hashG_snoc]; exact Nat.mod_lt _ (by omega)
abbrev hashStep : Nat → UInt8 → Nat := stepG 16777619 4294967296
abbrev hashR : List UInt8 → Nat := hashG 2166136261 16777619 4294967296
def hashF (l : List UInt8) : Nat := hashR l / 268435456
theorem hashR_snoc (l : List UInt8) (c : UInt8) : hashR (l ++ [c]) = hashStep (hashR l) c := hashG_snoc _ _ _ l c
theorem hashR_lt (l : List UInt8) : hashR l < 4294967296 := hashG_lt _ _ _ (by omega) l
theorem hashF_lt (l : List UInt8) : hashF l < 16 := by have := hashR_lt l; unfold hashF; omega
theorem xor_lt32h {a : Nat} (ha : a < 4294967296) (c : UInt8) : a ^^^ c.toNat < 4294967296 := Nat.xor_lt_two_pow (n := 32) ha (by have := c.toNat_lt; omega)
theorem take_snocB (s : ByteArray) (k : Nat) (h : k < s.size) : s.data.toList.take (k + 1) = s.data.toList.take k ++ [s[k]] := by
  rw [List.take_succ_eq_append_getElem (by simpa using h)]; rfl

end Go.Proofs.Ytejfkjfidhdfaaa
