import Derived.Test.YtcackliabemecaaGreatDoorNumD
namespace Go.Proofs.YtcackliabemecaaGreatDoor
open Go.RowKit
set_option linter.unusedSimpArgs false
set_option linter.unusedVariables false

def roundsB (n to : Int) : Bool := decide (0 ≤ n) && decide (n ≤ 1152921504606846976) && decide (1 ≤ to) && decide (to ≤ 1073741824)
def upF (n to : Int) : Int := if roundsB n to = true then (if n % to = 0 then n else n - n % to + to) else n
def downF (n to : Int) : Int := if roundsB n to = true then n - n % to else n

theorem rounds_and {n to : Int} : roundsB n to = true ↔ 0 ≤ n ∧ n ≤ 1152921504606846976 ∧ 1 ≤ to ∧ to ≤ 1073741824 := by
  simp [roundsB, and_assoc]

set_option maxHeartbeats 400000 in
theorem rounds_any (n to : Int) (w : World) :
    Calls Tryz.prog 89 #[.int .i64 n, .int .i64 to] w fun e w' => e = .returned (.bool (roundsB n to)) ∧ w = w' := by
  by_cases h0 : 0 ≤ n
  · by_cases h1 : n ≤ 1152921504606846976
    · by_cases h2 : 1 ≤ to
      · go_enter Tryz.func89, Tryz.ntmps89; go_wp2; go_ret; exact ⟨ret_bool (by simp [roundsB, h0, h1, h2]), rfl⟩
      · go_enter Tryz.func89, Tryz.ntmps89; go_wp2; go_ret; exact ⟨ret_bool (by simp [roundsB, h0, h1]; omega), rfl⟩
    · go_enter Tryz.func89, Tryz.ntmps89; go_wp2; go_ret; exact ⟨ret_bool (by simp [roundsB, h0]; omega), rfl⟩
  · go_enter Tryz.func89, Tryz.ntmps89; go_wp2; go_ret; exact ⟨ret_bool (by simp [roundsB]; omega), rfl⟩

theorem up_eq {n to : Int} (h0 : 0 ≤ n) (h : 1 ≤ to) : (n + to - 1) / to * to = if n % to = 0 then n else n - n % to + to := by
  have h1 := Int.emod_add_mul_ediv n to
  have h2 := Int.emod_nonneg n (by omega : to ≠ 0)
  have h3 := Int.emod_lt_of_pos n (by omega : 0 < to)
  generalize n % to = r at *
  generalize n / to = q at *
  split
  · next hr =>
    subst hr
    have : (n + to - 1) / to = q := by
      rw [show n + to - 1 = (to - 1) + to * q from by omega, Int.add_mul_ediv_left _ _ (by omega), Int.ediv_eq_zero_of_lt (by omega) (by omega)]; omega
    rw [this, Int.mul_comm]; omega
  · next hr =>
    have : (n + to - 1) / to = 1 + q := by
      rw [show n + to - 1 = (r - 1) + to * (1 + q) from by rw [Int.mul_add]; omega, Int.add_mul_ediv_left _ _ (by omega), Int.ediv_eq_zero_of_lt (by omega) (by omega)]; omega
    rw [this, Int.mul_comm, Int.mul_add]; omega

theorem mod_bd {n to : Int} (h : 1 ≤ to) : 0 ≤ n % to ∧ n % to < to := ⟨Int.emod_nonneg n (by omega), Int.emod_lt_of_pos n (by omega)⟩

set_option maxHeartbeats 400000 in
theorem up_any (n to : Int) (w : World) :
    Calls Tryz.prog 77 #[.int .i64 n, .int .i64 to] w fun e w' => e = .returned (.int .i64 (upF n to)) ∧ w = w' := by
  by_cases hr : roundsB n to = true
  · have h := rounds_and.1 hr
    have hb := mod_bd (n := n) h.2.2.1
    have e := up_eq h.1 h.2.2.1
    have hle : (n + to - 1) / to * to ≤ n + to - 1 ∧ 0 ≤ (n + to - 1) / to * to := by rw [e]; split <;> omega
    have HE := hid e; clear e
    go_enter Tryz.func77, Tryz.ntmps77
    go_wp2_with fail
    refine (rounds_any _ _ _).mono ?_
    rintro e w' ⟨rfl, rfl⟩
    rw [hr]
    have HR := hid hr; clear hr
    go_wp2_with fail
    go_ret
    exact ⟨ret_int (by rw [upF, if_pos HR.out, ← HE.out]), rfl⟩
  · have hr' : roundsB n to = false := by simpa using hr
    have HR := hid hr; clear hr
    go_enter Tryz.func77, Tryz.ntmps77
    go_wp2_with fail
    refine (rounds_any _ _ _).mono ?_
    rintro e w' ⟨rfl, rfl⟩
    rw [hr']
    clear hr'
    go_wp2_with fail
    go_ret
    exact ⟨ret_int (by rw [upF, if_neg HR.out]), rfl⟩

def rot1 (x : Nat) : Nat := (2 * x) % 4294967296 + x / 2147483648
def rotN : Nat → Nat → Nat
  | 0, x => x
  | m + 1, x => rot1 (rotN m x)
def rotL (m x : Nat) : Nat := (x * 2 ^ m) % 4294967296 + x / 2 ^ (32 - m)

def rotF (x : Nat) (n : Int) : Nat := rotN ((if n < 0 then -(n + 1) else n) % 32).toNat x
