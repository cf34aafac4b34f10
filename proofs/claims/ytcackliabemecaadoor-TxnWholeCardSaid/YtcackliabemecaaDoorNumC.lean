import Derived.Test.YtcackliabemecaaDoorNumB
namespace Go.Proofs.YtcackliabemecaaDoor
open Go.RowKit
set_option linter.unusedSimpArgs false
set_option linter.unusedVariables false

theorem ofLE_drop_le (xs : List UInt8) (m : Nat) : ofLE (xs.drop m) ≤ ofLE xs := by
  induction xs generalizing m with
  | nil => simp
  | cons x xs ih =>
    cases m with
    | zero => simp
    | succ m => have := ih m; simp only [List.drop_succ_cons, ofLE]; omega

theorem ofLE_drop {xs : List UInt8} {m : Nat} (h : m < xs.length) : ofLE (xs.drop m) = bAt xs m + 256 * ofLE (xs.drop (m + 1)) := by
  rw [List.drop_eq_getElem_cons h, bAt_eq h]; rfl

theorem ofLE_top {xs : List UInt8} (h : xs.length = 8) : ofLE xs ≤ 9223372036854775807 ↔ bAt xs 7 < 128 := by
  match xs, h with
  | [a, b, c, d, e, f, g, i], _ =>
    have := a.toNat_lt; have := b.toNat_lt; have := c.toNat_lt; have := d.toNat_lt
    have := e.toNat_lt; have := f.toNat_lt; have := g.toNat_lt; have := i.toNat_lt
    simp [ofLE, bAt]; omega

theorem ofLE_small {xs : List UInt8} (h : xs.length ≤ 4) : ofLE xs ≤ 9223372036854775807 := by
  have h1 := ofLE_lt xs
  have h2 : 256 ^ xs.length ≤ 256 ^ 4 := Nat.pow_le_pow_right (by omega) h
  omega

theorem bAt_take_drop (xs : List UInt8) {A K m : Nat} (h : m < K) : bAt ((xs.drop A).take K) m = bAt xs (A + m) := by
  simp [bAt, h]
