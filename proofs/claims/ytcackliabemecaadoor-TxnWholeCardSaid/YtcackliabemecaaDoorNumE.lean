import Derived.Test.YtcackliabemecaaDoorNumD
namespace Go.Proofs.YtcackliabemecaaDoor
open Go.RowKit
set_option linter.unusedSimpArgs false
set_option linter.unusedVariables false

def roundsB (n to : Int) : Bool := decide (0 ≤ n) && decide (n ≤ 1152921504606846976) && decide (1 ≤ to) && decide (to ≤ 1073741824)
def upF (n to : Int) : Int := if roundsB n to = true then (if n % to = 0 then n else n - n % to + to) else n
def downF (n to : Int) : Int := if roundsB n to = true then n - n % to else n

theorem rounds_and {n to : Int} : roundsB n to = true ↔ 0 ≤ n ∧ n ≤ 1152921504606846976 ∧ 1 ≤ to ∧ to ≤ 1073741824 := by
  simp [roundsB, and_assoc]

set_option maxHeartbeats 400000 in
theorem rounds_any (n to : Int) (w : World) :
    Calls Tryd.prog 58 #[.int .i64 n, .int .i64 to] w fun e w' => e = .returned (.bool (roundsB n to)) ∧ w = w' := by
  by_cases h0 : 0 ≤ n
  · by_cases h1 : n ≤ 1152921504606846976
    · by_cases h2 : 1 ≤ to
      · go_enter Tryd.func58, Tryd.ntmps58; go_wp2; go_ret; exact ⟨ret_bool (by simp [roundsB, h0, h1, h2]), rfl⟩
      · go_enter Tryd.func58, Tryd.ntmps58; go_wp2; go_ret; exact ⟨ret_bool (by simp [roundsB, h0, h1]; omega), rfl⟩
    · go_enter Tryd.func58, Tryd.ntmps58; go_wp2; go_ret; exact ⟨ret_bool (by simp [roundsB, h0]; omega), rfl⟩
  · go_enter Tryd.func58, Tryd.ntmps58; go_wp2; go_ret; exact ⟨ret_bool (by simp [roundsB]; omega), rfl⟩

theorem up_eq {n to : Int} (h0 : 0 ≤ n) (h : 1 ≤ to) : (n + to - 1) / to * to = if n % to = 0 then n else n - n % to + to := by
  have h1 := Int.emod_add_mul_ediv n to
  have h2 := Int.emod_nonneg n (by omega : to ≠ 0)
  have h3 := Int.emod_lt_of_pos n (by omega : 0 < to)
  generalize n % to = r at *
  generalize n / to = q at *
  split
  · next hr =>
    subst hr
    have : (n + to - 1) / to = q := by
      rw [show n + to - 1 = (to - 1) + to * q from by omega, Int.add_mul_ediv_left _ _ (by omega), Int.ediv_eq_zero_of_lt (by omega) (by omega)]; omega
    rw [this, Int.mul_comm]; omega
  · next hr =>
    have : (n + to - 1) / to = 1 + q := by
      rw [show n + to - 1 = (r - 1) + to * (1 + q) from by rw [Int.mul_add]; omega, Int.add_mul_ediv_left _ _ (by omega), Int.ediv_eq_zero_of_lt (by omega) (by omega)]; omega
    rw [this, Int.mul_comm, Int.mul_add]; omega

theorem down_eq {n to : Int} : n / to * to = n - n % to := by
  have h1 := Int.emod_add_mul_ediv n to
  rw [Int.mul_comm]; omega

theorem mod_bd {n to : Int} (h : 1 ≤ to) : 0 ≤ n % to ∧ n % to < to := ⟨Int.emod_nonneg n (by omega), Int.emod_lt_of_pos n (by omega)⟩

set_option maxHeartbeats 400000 in
theorem up_any (n to : Int) (w : World) :
    Calls Tryd.prog 49 #[.int .i64 n, .int .i64 to] w fun e w' => e = .returned (.int .i64 (upF n to)) ∧ w = w' := by
  by_cases hr : roundsB n to = true
  · have h := rounds_and.1 hr
    have hb := mod_bd (n := n) h.2.2.1
    have e := up_eq h.1 h.2.2.1
    have hle : (n + to - 1) / to * to ≤ n + to - 1 ∧ 0 ≤ (n + to - 1) / to * to := by rw [e]; split <;> omega
    have HE := hid e; clear e
    go_enter Tryd.func49, Tryd.ntmps49
    go_wp2_with fail
    refine (rounds_any _ _ _).mono ?_
    rintro e w' ⟨rfl, rfl⟩
    rw [hr]
    have HR := hid hr; clear hr
    go_wp2_with fail
    go_ret
    exact ⟨ret_int (by rw [upF, if_pos HR.out, ← HE.out]), rfl⟩
  · have hr' : roundsB n to = false := by simpa using hr
    have HR := hid hr; clear hr
    go_enter Tryd.func49, Tryd.ntmps49
    go_wp2_with fail
    refine (rounds_any _ _ _).mono ?_
    rintro e w' ⟨rfl, rfl⟩
    rw [hr']
    clear hr'
    go_wp2_with fail
    go_ret
    exact ⟨ret_int (by rw [upF, if_neg HR.out]), rfl⟩

def rot1 (x : Nat) : Nat := (2 * x) % 4294967296 + x / 2147483648
def rotN : Nat → Nat → Nat
  | 0, x => x
  | m + 1, x => rot1 (rotN m x)
def rotL (m x : Nat) : Nat := (x * 2 ^ m) % 4294967296 + x / 2 ^ (32 - m)

theorem rot1_lt {x : Nat} (h : x < 4294967296) : rot1 x < 4294967296 := by unfold rot1; omega
theorem rotN_lt {x : Nat} (h : x < 4294967296) (m : Nat) : rotN m x < 4294967296 := by
  induction m with
  | zero => exact h
  | succ m ih => exact rot1_lt ih
theorem rotN_add (a b x : Nat) : rotN (a + b) x = rotN b (rotN a x) := by
  induction b with
  | zero => rfl
  | succ b ih => show rot1 (rotN (a + b) x) = rot1 _; rw [ih]

theorem rot_step {P R x : Nat} (h : P * R = 2147483648) (hx : x < 4294967296) : (x * (P * 2)) % 4294967296 + x / R = rot1 ((x * P) % 4294967296 + x / (R * 2)) := by
  have hR : 0 < R := by
    rcases Nat.eq_zero_or_pos R with e | e
    · subst e; simp at h
    · exact e
  have hP : 0 < P := by
    rcases Nat.eq_zero_or_pos P with e | e
    · subst e; simp at h
    · exact e
  have e0 := Nat.div_add_mod x R
  have hr := Nat.mod_lt x hR
  have eA : x / (R * 2) = x / R / 2 := by rw [Nat.div_div_eq_div_mul]
  rw [eA]
  generalize x / R = q at *
  generalize x % R = r at *
  have exP : x * P = q * 2147483648 + r * P := by
    rw [← e0, ← h, Nat.add_mul, Nat.mul_comm R q, Nat.mul_assoc, Nat.mul_comm R P]
  have hrP : r * P + P ≤ 2147483648 := by
    have := Nat.mul_le_mul_right P (by omega : r + 1 ≤ R)
    rw [Nat.add_mul, Nat.mul_comm R P, h] at this; omega
  have hx2 : x * P < 4294967296 * P := Nat.mul_lt_mul_of_pos_right hx hP
  rw [← Nat.mul_assoc x P 2]
  unfold rot1
  generalize x * P = y at *
  generalize r * P = s at *
  have hA : q / 2 < P := by omega
  have hq : q = 2 * (q / 2) + q % 2 := by omega
  have hb : q % 2 < 2 := Nat.mod_lt _ (by omega)
  generalize q / 2 = A at *
  generalize q % 2 = b at *
  have e1 : y % 4294967296 = b * 2147483648 + s := by omega
  have e2 : y * 2 % 4294967296 = s * 2 := by omega
  rw [e1, e2]
  have e3 : (b * 2147483648 + s + A) / 2147483648 = b := by omega
  have e4 : 2 * (b * 2147483648 + s + A) % 4294967296 = 2 * (s + A) := by omega
  rw [e3, e4]
  omega

theorem rotL_succ {m x : Nat} (hm : m < 32) (h : x < 4294967296) : rotL (m + 1) x = rot1 (rotL m x) := by
  unfold rotL
  have e1 : 2 ^ (32 - m) = 2 ^ (31 - m) * 2 := by rw [← Nat.pow_succ]; congr 1; omega
  rw [e1, Nat.pow_succ, show 32 - (m + 1) = 31 - m from by omega]
  exact rot_step (by rw [← Nat.pow_add, show m + (31 - m) = 31 from by omega]) h

theorem rotL_eq {m x : Nat} (hm : m ≤ 32) (h : x < 4294967296) : rotL m x = rotN m x := by
  induction m with
  | zero => simp [rotL, rotN]; omega
  | succ m ih => rw [rotL_succ (by omega) h, ih (by omega)]; rfl

theorem rotN_32 {x : Nat} (h : x < 4294967296) : rotN 32 x = x := by
  rw [← rotL_eq (Nat.le_refl _) h]; simp [rotL]

def rotF (x : Nat) (n : Int) : Nat := rotN ((if n < 0 then -(n + 1) else n) % 32).toNat x

theorem rot_bits {x m : Nat} (hx : x < 4294967296) (hm : m < 32) : bits BinOp.or IntKind.u32 ((x : Int) * 2 ^ m % 4294967296) ((x : Int) / 2 ^ (32 - m)) = (rotN m x : Nat) := by
  have e1 : (x : Int) * 2 ^ m % 4294967296 = ((x * 2 ^ m % 4294967296 : Nat) : Int) := by simp
  have e2 : (x : Int) / 2 ^ (32 - m) = ((x / 2 ^ (32 - m) : Nat) : Int) := by simp
  have hb : x / 2 ^ (32 - m) < 2 ^ m := by
    rw [Nat.div_lt_iff_lt_mul (Nat.two_pow_pos _), ← Nat.pow_add, show m + (32 - m) = 32 from by omega]; exact hx
  have hb2 : x / 2 ^ (32 - m) < 4294967296 := Nat.lt_of_le_of_lt (Nat.div_le_self _ _) hx
  have ha : (x * 2 ^ m % 4294967296) % 2 ^ m = 0 := by
    rw [show 4294967296 = 2 ^ m * 2 ^ (32 - m) from by rw [← Nat.pow_add, show m + (32 - m) = 32 from by omega], Nat.mod_mul_right_mod]; simp
  rw [e1, e2, u32_or_nat _ _ (Nat.mod_lt _ (by omega)) hb2, nat_join m _ _ ha hb, ← rotL_eq (by omega) hx]; rfl

theorem neg_tmod_of {n m : Int} (h : n < 0) (hm : -(n + 1) % 32 = m) : (n + 1).tmod 32 = -m := by
  have h1 := Int.tmod_eq_emod_of_nonneg (a := -(n + 1)) (b := 32) (by omega)
  rw [Int.neg_tmod] at h1
  omega

theorem rot_step_u32 {q : Nat} (h : q < 4294967296) : ((q : Int) * 2 % 4294967296 + (q : Int) / 2147483648) = (rot1 q : Nat) := by
  unfold rot1; omega
