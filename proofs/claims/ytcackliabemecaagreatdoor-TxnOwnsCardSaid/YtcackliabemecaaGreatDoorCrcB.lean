import Derived.Test.YtcackliabemecaaGreatDoorCrcA
namespace Go.Proofs.YtcackliabemecaaGreatDoor
open Go.RowKit
set_option linter.unusedSimpArgs false
set_option linter.unusedVariables false

theorem xor_pow_step (a b i : Nat) : (a ^^^ b) % 2 ^ (i + 1) = (a ^^^ b) % 2 ^ i + (if (a / 2 ^ i) % 2 ≠ (b / 2 ^ i) % 2 then 2 ^ i else 0) := by
  have e : ((a ^^^ b) / 2 ^ i) % 2 = if (a / 2 ^ i) % 2 ≠ (b / 2 ^ i) % 2 then 1 else 0 := by
    have h := xor_odd (a / 2 ^ i) (b / 2 ^ i)
    rw [← Nat.shiftRight_eq_div_pow, ← Nat.shiftRight_eq_div_pow, ← Nat.shiftRight_xor_distrib] at h
    rw [← Nat.shiftRight_eq_div_pow, ← Nat.shiftRight_eq_div_pow, ← Nat.shiftRight_eq_div_pow]
    by_cases hc : (a >>> i) % 2 ≠ (b >>> i) % 2
    · rw [if_pos hc]; exact h.2 hc
    · rw [if_neg hc]
      have := fun h2 => hc (h.1 h2)
      omega
  rw [Nat.pow_succ, Nat.mod_mul, e]
  split <;> simp

theorem div_pow_succ (a i : Nat) : a / 2 ^ (i + 1) = a / 2 ^ i / 2 := by rw [Nat.pow_succ, Nat.div_div_eq_div_mul]

theorem pow31 {i : Nat} (h : i < 32) : 2 ^ i ≤ 2147483648 := by
  have := Nat.pow_le_pow_right (n := 2) (by omega) (by omega : i ≤ 31)
  simpa using this

set_option maxHeartbeats 1000000 in
theorem plus_any (a b : Nat) (w : World) (ha : a < 4294967296) (hb : b < 4294967296) :
    Calls Tryz.prog 98 #[.int .i64 a, .int .i64 b] w fun e w' => e = .returned (.int .i64 ((a ^^^ b : Nat) : Int)) ∧ w = w' := by
  go_enter Tryz.func98, Tryz.ntmps98
  go_wp2
  go_loop [0, 1, 5, 6, 7] (fun x y n p i => ∃ j : Nat, j ≤ 32 ∧ i = .int .i64 j ∧ x = .int .i64 (a / 2 ^ j : Nat) ∧ y = .int .i64 (b / 2 ^ j : Nat) ∧ n = .int .i64 ((a ^^^ b) % 2 ^ j : Nat) ∧ p = .int .i64 (2 ^ j : Nat)) (fun _ _ _ _ i => 32 - (intOf i).toNat)
  case atStart => exact ⟨0, by omega, rfl, by simp, by simp, by simp [Nat.mod_one], by simp⟩
  case round =>
    obtain ⟨j, hj, rfl, rfl, rfl, rfl, rfl⟩ := hrel
    by_cases hlt : j < 32
    · have s1 := div_pow_succ a j
      have s2 := div_pow_succ b j
      have s3 := xor_pow_step a b j
      have s4 : 2 ^ (j + 1) = 2 ^ j * 2 := Nat.pow_succ ..
      have b1 := pow31 hlt
      have b2 : (a ^^^ b) % 2 ^ j < 2 ^ j := Nat.mod_lt _ (Nat.two_pow_pos _)
      have b3 : a / 2 ^ j ≤ a := Nat.div_le_self _ _
      have b4 : b / 2 ^ j ≤ b := Nat.div_le_self _ _
      have S1 := hid s1; have S2 := hid s2; have S3 := hid s3; have S4 := hid s4
      clear s1 s2 s3 s4
      generalize a / 2 ^ j = A at *
      generalize b / 2 ^ j = B at *
      generalize (a ^^^ b) % 2 ^ j = n at *
      generalize 2 ^ j = p at *
      by_cases hne : A % 2 ≠ B % 2
      · have hb1 : ((A : Int) % 2 != (B : Int) % 2) = true := by simp; omega
        rw [if_pos hne] at S3
        clear hne
        go_wp2
        go_round
        case rel => exact ⟨j + 1, by omega, by go_num, by rw [S1.out]; go_num, by rw [S2.out]; go_num, by rw [S3.out]; go_num, by rw [S4.out]; go_num⟩
        case measure => simp [intOf]; omega
      · have hb1 : ((A : Int) % 2 != (B : Int) % 2) = false := by simp; omega
        rw [if_neg hne] at S3
        clear hne
        go_wp2
        go_round
        case rel => exact ⟨j + 1, by omega, by go_num, by rw [S1.out]; go_num, by rw [S2.out]; go_num, by rw [S3.out]; go_num, by rw [S4.out]; go_num⟩
        case measure => simp [intOf]; omega
    · obtain rfl : j = 32 := by omega
      have e : (a ^^^ b) % 2 ^ 32 = a ^^^ b := Nat.mod_eq_of_lt (by have := xor_lt32 ha hb; omega)
      have E := hid e; clear e
      go_wp2
      go_ret
      exact ⟨ret_int (by rw [← E.out]; simp), rfl⟩

theorem crcMix_lt {r c : Nat} (h : r < 4294967296) : crcMix r c < 4294967296 := by
  unfold crcMix; split
  · exact xor_lt32 (by omega) (by omega)
  · omega
theorem mix_yes {r c : Nat} (h : r % 2 ≠ c % 2) : crcMix r c = (r / 2) ^^^ 3988292384 := by unfold crcMix; rw [if_pos h]
theorem mix_no {r c : Nat} (h : ¬ r % 2 ≠ c % 2) : crcMix r c = r / 2 := by unfold crcMix; rw [if_neg h]

set_option maxHeartbeats 1000000 in
theorem more_any (r : Nat) (a : Option Addr) (c : Nat) (xs : List UInt8) (w : World) (hr : r < 4294967296) (ha : RowB w a c xs) :
    Calls Tryz.prog 84 #[.int .i64 r, .slice a xs.length c] w fun e w' => e = .returned (.int .i64 (crcReg r xs : Nat)) ∧ w = w' := by
  have hl := rowB_len ha
  go_enter Tryz.func84, Tryz.ntmps84
  go_wp2
  go_loop [0, 5, 6, 7, 8] (fun q i _ _ _ => ∃ j : Nat, j ≤ xs.length ∧ i = .int .i64 j ∧ q = .int .i64 (crcReg r (xs.take j) : Nat)) (fun _ i _ _ _ => xs.length - (intOf i).toNat)
  case atStart => exact ⟨0, Nat.zero_le _, rfl, by rw [List.take_zero, crcReg_nil]⟩
  case round =>
    obtain ⟨j, hj, rfl, rfl⟩ := hrel
    by_cases hlt : j < xs.length
    · obtain ⟨b, off, rfl, hb, hc⟩ := ha.bytes (by omega)
      have hcj := hc j hlt
      have hst := reg_bAt (r := r) hlt
      rw [crcByte_eq, ← bAt_eq hlt] at hst
      have hq := crcReg_lt hr (xs.take j)
      have hx := bAt_lt xs j
      have HS := hid hst; clear hst hc ha
      generalize crcReg r (xs.take j) = q0 at *
      generalize bAt xs j = x at *
      go_wp2
      go_loop [0, 6, 7, 8] (fun q c' k _ => ∃ n R : Nat, n ≤ 8 ∧ k = .int .i64 n ∧ q = .int .i64 R ∧ c' = .int .i64 (x / 2 ^ n : Nat) ∧ R < 4294967296 ∧ crcSteps n (q0 ^^^ x) = R ^^^ (x / 2 ^ n)) (fun _ _ k _ => 8 - (intOf k).toNat)
      case atStart => exact ⟨0, q0, by omega, rfl, rfl, by simp, hq, by simp [crcSteps_0]⟩
      case round =>
        obtain ⟨n, R, hn, rfl, rfl, rfl, hR, he⟩ := hrel
        by_cases hn8 : n < 8
        · have s1 := div_pow_succ x n
          have hC : x / 2 ^ n ≤ x := Nat.div_le_self _ _
          have hm := crcMix_eq R (x / 2 ^ n)
          rw [← he, ← crcSteps_succ, ← s1] at hm
          have hml := crcMix_lt (c := x / 2 ^ n) hR
          have S1 := hid s1; have HM := hid hm
          clear s1 hm he
          generalize x / 2 ^ n = C at *
          by_cases hne : R % 2 ≠ C % 2
          · have hb1 : ((R : Int) % 2 != (C : Int) % 2) = true := by simp; omega
            have hy := mix_yes hne
            have HY := hid hy; clear hy hne
            have hp := plus_any (R / 2) 3988292384
            have HP := hid hp; clear hp
            go_wp2_with fail
            refine (HP.out _ (by omega) (by omega)).mono ?_
            rintro e w' ⟨rfl, rfl⟩
            go_wp2_with fail
            go_round
            case rel => exact ⟨n + 1, crcMix R C, by omega, by go_num, by rw [HY.out], by rw [S1.out]; go_num, hml, HM.out.symm⟩
            case measure => simp [intOf]; omega
          · have hb1 : ((R : Int) % 2 != (C : Int) % 2) = false := by simp; omega
            have hy := mix_no hne
            have HY := hid hy; clear hy hne
            go_wp2
            go_round
            case rel => exact ⟨n + 1, crcMix R C, by omega, by go_num, by rw [HY.out]; go_num, by rw [S1.out]; go_num, hml, HM.out.symm⟩
            case measure => simp [intOf]; omega
        · obtain rfl : n = 8 := by omega
          have e0 : x / 2 ^ 8 = 0 := by omega
          rw [e0, Nat.xor_zero] at he
          have HE := hid he
          clear he e0
          go_wp2
          go_round
          case rel => exact ⟨j + 1, by omega, by go_num, by rw [HS.out, HE.out]⟩
          case measure => simp [intOf]; omega
    · obtain rfl : j = xs.length := by omega
      go_wp2
      go_ret
      first | exact ⟨rfl, rfl⟩ | exact ⟨ret_int (by rw [List.take_length]), rfl⟩

set_option maxHeartbeats 400000 in
theorem sumRef_any (a : Option Addr) (c : Nat) (xs : List UInt8) (w : World) (ha : RowB w a c xs) :
    Calls Tryz.prog 70 #[.slice a xs.length c] w fun e w' => e = .returned (.int .i64 (crcF xs : Nat)) ∧ w = w' := by
  have hq := crcReg_lt (r := 4294967295) (by omega) xs
  go_enter Tryz.func70, Tryz.ntmps70
  go_wp2_with fail
  refine (more_any 4294967295 a c xs w (by omega) ha).mono ?_
  rintro e w' ⟨rfl, rfl⟩
  go_wp2_with fail
  go_ret
  exact ⟨ret_int (by unfold crcF; omega), rfl⟩

end Go.Proofs.YtcackliabemecaaGreatDoor
