import Derived.Test.YtcgekooahahjpaaLib
import Derived.Deep.QuietTactic
import Derived.BigQuiet

namespace Go.Proofs.Ytcgekooahahjpaa
open Go.RowKit
set_option linter.unusedSimpArgs false
set_option linter.unusedVariables false

/-- does a number fit a width? -/
def fitsB (n k : Int) : Bool :=
  if k = 1 then decide (0 ≤ n) && decide (n < 256) else if k = 2 then decide (0 ≤ n) && decide (n < 65536)
  else if k = 4 then decide (0 ≤ n) && decide (n < 4294967296) else if k = 8 then decide (0 ≤ n) else false

theorem fitsB_neg {n : Int} (k : Int) (h : n < 0) : fitsB n k = false := by
  unfold fitsB
  repeat' split
  all_goals simp <;> omega
theorem fitsB_else (n : Int) {k : Int} (k1 : k ≠ 1) (k2 : k ≠ 2) (k4 : k ≠ 4) (k8 : k ≠ 8) : fitsB n k = false := by
  simp [fitsB, *]

theorem pow_le (k : Nat) (h : k ≤ 6) : 256 ^ k ≤ 256 ^ 6 := Nat.pow_le_pow_right (by omega) h

/-- the little-endian bytes of a number -/
def le : Nat → Nat → List UInt8
  | 0, _ => []
  | k + 1, n => UInt8.ofNat n :: le k (n / 256)
theorem le_length (k n : Nat) : (le k n).length = k := by
  induction k generalizing n with
  | zero => rfl
  | succ k ih => simp [le, ih]
/-- what Put hands back -/
def putF (xs : List UInt8) (n k : Int) : List UInt8 := if fitsB n k then xs ++ le k.toNat n.toNat else xs

theorem le_snoc (j n : Nat) : le (j + 1) n = le j n ++ [UInt8.ofNat (n / 256 ^ j)] := by
  induction j generalizing n with
  | zero => simp [le]
  | succ j ih =>
    show UInt8.ofNat n :: le (j + 1) (n / 256) = UInt8.ofNat n :: le j (n / 256) ++ [_]
    rw [ih, Nat.div_div_eq_div_mul, Nat.pow_succ, Nat.mul_comm 256]; rfl

theorem fitsB_width {n k : Int} (h : fitsB n k = true) : 0 ≤ n ∧ 1 ≤ k ∧ k ≤ 8 := by
  by_cases h0 : 0 ≤ n
  · refine ⟨h0, ?_⟩
    by_cases k1 : k = 1
    · omega
    by_cases k2 : k = 2
    · omega
    by_cases k4 : k = 4
    · omega
    by_cases k8 : k = 8
    · omega
    rw [fitsB_else n k1 k2 k4 k8] at h; cases h
  · rw [fitsB_neg k (by omega)] at h; cases h

theorem u8_byte (q : Nat) : IntKind.u8.wrap ((q % 256 : Nat) : Int) = ((UInt8.ofNat q).toNat : Int) := by
  simp [IntKind.wrap, IntKind.signed, IntKind.bits]

/-- Are bytes the same? Two slices of bytes: 'Same'. -/
theorem bAt_ext {xs ys : List UInt8} (hl : xs.length = ys.length) (h : ∀ i, i < ys.length → bAt xs i = bAt ys i) : xs = ys := by
  apply List.ext_getElem hl
  intro i h1 h2
  have := h i h2
  rw [bAt_eq h1, bAt_eq h2] at this
  exact UInt8.toNat_inj.1 this

set_option maxHeartbeats 400000 in
theorem same_any (a b : Option Addr) (c d : Nat) (xs ys : List UInt8) (w : World) (ha : RowB w a c xs) (hb : RowB w b d ys) (hl : xs.length ≤ 9223372036854775807) (hm : ys.length ≤ 9223372036854775807) :
    Calls Try.prog 19 #[.slice a xs.length c, .slice b ys.length d] w fun e w' => e = .returned (.bool (decide (xs = ys))) ∧ Below w.heap.size w w' := by
  by_cases hne : xs.length = ys.length
  · rw [hne]
    have hne2 := hid hne
    go_enter Try.func19, Try.ntmps19
    clear hne
    go_wp2
    go_loopw [5] (fun i wr => ∃ j : Nat, j ≤ ys.length ∧ i = .int .i64 j ∧ (∀ i, i < j → bAt xs i = bAt ys i) ∧ Below w.heap.size w wr)
      (fun i _ => ys.length - (intOf i).toNat)
    case atStart => exact ⟨0, Nat.zero_le _, rfl, fun i h => absurd h (by omega), Below.refl _ _⟩
    case round =>
      obtain ⟨j, hj, rfl, hp, hbel⟩ := hrel
      have HP := hid hp; clear hp
      by_cases hlt : j < ys.length
      · obtain ⟨ba, oa, rfl, hba, hca⟩ := (ha.mono hbel).bytes (by have := hne2.out; omega)
        obtain ⟨bb, ob, rfl, hbb, hcb⟩ := (hb.mono hbel).bytes (by omega)
        have ca := hca j (by have := hne2.out; omega)
        have cb := hcb j hlt
        clear hca hcb ha hb
        have hlt' : (j : Int) < (ys.length : Int) := by omega
        by_cases hxy : bAt xs j = bAt ys j
        · have HX := hid hxy
          rw [hxy] at ca
          clear hxy
          go_wp2
          go_quiet (fail)
          go_wp2
          go_roundw
          case rel => exact ⟨j + 1, by omega, by go_num, fun i hi => (by rcases Nat.lt_succ_iff_lt_or_eq.1 hi with h | rfl; exact HP.out i h; exact HX.out), bel_drewN hbel _⟩
          case measure => simp [intOf]; omega
        · have hxy' : ((bAt xs j : Int) != (bAt ys j : Int)) = true := by simp; omega
          have HX := hid hxy
          clear hxy
          go_wp2
          go_quiet (fail)
          go_wp2
          go_ret
          exact ⟨ret_bool (decide_eq_false (by rintro rfl; exact HX.out rfl)).symm, bel_drewN hbel _⟩
      · obtain rfl : j = ys.length := by omega
        go_wp2
        go_ret
        exact ⟨ret_bool (decide_eq_true (bAt_ext hne2.out HP.out)).symm, hbel⟩
  · go_enter Try.func19, Try.ntmps19
    go_wp2
    go_ret
    exact ⟨ret_bool (by simp; intro h; exact hne (by rw [h])), Below.refl _ _⟩

end Go.Proofs.Ytcgekooahahjpaa
