/- The hashes of a name: names.Hash, and the document's. -/
import Derived.Test.YtejfkjfidhdfaaaHashP
namespace Go.Proofs.Ytejfkjfidhdfaaa
open Go.RowKit
set_option linter.unusedSimpArgs false
set_option linter.unusedVariables false

set_option maxHeartbeats 1000000 in
theorem bit_any (n i : Nat) (hn : n < 4294967296) (hi : i ≤ 8) (w : World) :
    Calls Try.prog 41 #[.int .i64 (n : Int), .int .i64 (i : Int)] w fun e w' => e = .returned (.int .i64 ((n / 2 ^ i % 2 : Nat) : Int)) ∧ w = w' := by
  go_enter Try.func41, Try.ntmps41
  go_wp2_with fail
  go_loopw [0, 5] (fun x k wr => ∃ j : Nat, j ≤ i ∧ k = .int .i64 j ∧ x = .int .i64 ((n / 2 ^ j : Nat) : Int) ∧ wr = w) (fun _ k _ => i - (intOf k).toNat)
  case atStart => exact ⟨0, by omega, rfl, by simp, rfl⟩
  case round =>
    obtain ⟨j, hj, rfl, rfl, rfl⟩ := hrel
    have hq : n / 2 ^ j ≤ n := Nat.div_le_self _ _
    have hh : n / 2 ^ (j + 1) = n / 2 ^ j / 2 := by rw [Nat.div_div_eq_div_mul, Nat.pow_succ]
    have HH := hid hh
    clear hh
    by_cases hlt : j < i
    · have hltd : decide ((j : Int) < (i : Int)) = true := decide_eq_true (by omega)
      generalize n / 2 ^ j = q at *
      have d2 : (q : Int).tdiv 2 = ((q / 2 : Nat) : Int) := rfl
      have e2 : IntKind.i64.wrap ((q / 2 : Nat) : Int) = (q / 2 : Nat) := IntWalk.i64_in _ (by omega)
      generalize q / 2 = qh at *
      go_wp2_with fail
      go_roundw
      case rel => exact ⟨j + 1, by omega, by go_num, by rw [HH.out], by first | rfl | trivial⟩
      case measure => simp [intOf]; omega
    · obtain rfl : j = i := by omega
      have hltd : decide ((j : Int) < (j : Int)) = false := decide_eq_false (by omega)
      generalize hqq : n / 2 ^ j = q at *
      have HQ := hid hqq
      clear hqq
      have d1 : (q : Int).tmod 2 = ((q % 2 : Nat) : Int) := rfl
      have e1 : IntKind.i64.wrap ((q % 2 : Nat) : Int) = (q % 2 : Nat) := IntWalk.i64_in _ (by omega)
      generalize hqm : q % 2 = qm at *
      have HQM := hid hqm
      clear hqm
      go_wp2_with fail
      go_ret
      exact ⟨ret_int (by rw [HQ.out, HQM.out]), by first | rfl | trivial⟩

set_option maxHeartbeats 1000000 in
theorem hash_any (s : ByteArray) (hs : s.size ≤ 1000) (w : World) :
    Calls Try.prog 40 #[.string s] w fun e w' => e = .returned (.int .i64 (hashF s.data.toList : Int)) ∧ w = w' := by
  go_enter Try.func40, Try.ntmps40
  go_wp2_with fail
  go_loopw [3, 7] (fun x k wr => ∃ j : Nat, j ≤ s.size ∧ k = .int .i64 j ∧ x = .int .u32 (hashR (s.data.toList.take j) : Int) ∧ wr = w) (fun _ k _ => s.size - (intOf k).toNat)
  case atStart => exact ⟨0, by omega, rfl, rfl, rfl⟩
  case round =>
    obtain ⟨j, hj, rfl, rfl, rfl⟩ := hrel
    have hr := hashR_lt (s.data.toList.take j)
    by_cases hlt : j < s.size
    · have hltd : decide ((j : Int) < (s.size : Int)) = true := decide_eq_true (by omega)
      have htk := take_snocB s j hlt
      have hst := hashR_snoc (s.data.toList.take j) s[j]
      rw [← htk] at hst
      generalize hashR (s.data.toList.take j) = h at *
      go_wp2_with fail
      go_roundw
      case rel =>
        refine ⟨j + 1, by omega, by go_num, ?_, by first | rfl | trivial⟩
        rw [hst]
        have hc := (s[j]).toNat_lt
        have hx := u32_xor_nat h (s[j]).toNat hr (by omega)
        have em : (((s[j]).toNat : Int) % 4294967296) = ((s[j]).toNat : Int) := by omega
        rw [em, hx]
        exact congrArg (Value.int IntKind.u32) rfl
      case measure => simp [intOf]; omega
    · obtain rfl : j = s.size := by omega
      have hltd : decide ((s.size : Int) < (s.size : Int)) = false := decide_eq_false (by omega)
      have htk : s.data.toList.take s.size = s.data.toList := List.take_of_length_le (by rw [Array.length_toList]; exact Nat.le_refl _)
      have HF : Hid (hashF s.data.toList = hashR (s.data.toList.take s.size) / 268435456) := by rw [htk]; rfl
      clear htk
      generalize hashR (s.data.toList.take s.size) = h at *
      go_wp2_with fail
      go_ret
      exact ⟨ret_int (by rw [HF.out]; rfl), by first | rfl | trivial⟩

set_option maxHeartbeats 4000000 in
theorem hashRef_any (s : ByteArray) (hs : s.size ≤ 1000) (w : World) :
    Calls Try.prog 33 #[.string s] w fun e w' => e = .returned (.int .i64 (hashF s.data.toList : Int)) ∧ Below w.heap.size w w' := by
  go_enter Try.func33, Try.ntmps33
  go_wp2_with fail
  go_loopw [3, 4] (fun x k wr => ∃ j : Nat, j ≤ s.size ∧ k = .int .i64 j ∧ x = .int .i64 (hashR (s.data.toList.take j) : Int) ∧ Below w.heap.size w wr) (fun _ k _ => s.size - (intOf k).toNat)
  case atStart => exact ⟨0, by omega, rfl, rfl, Below.refl _ _⟩
  case round =>
    obtain ⟨j, hj, rfl, rfl, br⟩ := hrel
    have hr := hashR_lt (s.data.toList.take j)
    by_cases hlt : j < s.size
    · have hltd : decide ((j : Int) < (s.size : Int)) = true := decide_eq_true (by omega)
      have htk := take_snocB s j hlt
      have hst := hashR_snoc (s.data.toList.take j) s[j]
      have hc := (s[j]).toNat_lt
      rw [← htk] at hst
      generalize hashR (s.data.toList.take j) = h at *
      have HST := hid hst
      clear hst htk
      go_wp2_with fail
      go_loopw [5, 6, 7] (fun x p k w2 => ∃ m : Nat, m ≤ 8 ∧ k = .int .i64 m ∧ p = .int .i64 ((2 ^ m : Nat) : Int) ∧ x = .int .i64 (((h ^^^ (s[j]).toNat) % 2 ^ m : Nat) : Int) ∧ Below w.heap.size w w2) (fun _ _ k _ => 8 - (intOf k).toNat)
      case atStart => exact ⟨0, by omega, rfl, rfl, by simp [Nat.mod_one], br⟩
      case round =>
        obtain ⟨m, hm, rfl, rfl, rfl, br⟩ := hrel
        by_cases hlt2 : m < 8
        · have hltm : decide ((m : Int) < 8) = true := decide_eq_true (by omega)
          have HB1 := hid (fun w1 => bit_any h m hr hm w1)
          have HB2 := hid (fun w1 => bit_any (s[j]).toNat m (by omega) hm w1)
          have hxl := xor_low h (s[j]).toNat m
          have hp7 : 2 ^ m ≤ 2 ^ 7 := Nat.pow_le_pow_right (by omega) (by omega)
          have hp2 : 2 ^ (m + 1) = 2 ^ m * 2 := Nat.pow_succ ..
          have hX : (h ^^^ (s[j]).toNat) % 2 ^ m < 2 ^ m := Nat.mod_lt _ (Nat.pow_pos (by omega))
          have l1 : h / 2 ^ m % 2 < 2 := Nat.mod_lt _ (by omega)
          have l2 : (s[j]).toNat / 2 ^ m % 2 < 2 := Nat.mod_lt _ (by omega)
          generalize h / 2 ^ m % 2 = b1 at *
          generalize (s[j]).toNat / 2 ^ m % 2 = b2 at *
          generalize hpe : 2 ^ (m + 1) = p2 at *
          generalize hye : (h ^^^ (s[j]).toNat) % p2 = Y at *
          generalize (h ^^^ (s[j]).toNat) % 2 ^ m = X at *
          have HPE := hid hpe
          have HYE := hid hye
          clear hpe hye
          generalize 2 ^ m = p at *
          have hp8 : p ≤ 128 := hp7
          have eW : IntKind.i64.wrap ((p : Int) * 2) = p * 2 := IntWalk.i64_in _ (by omega)
          have eX : IntKind.i64.wrap ((X : Int) + p) = X + p := IntWalk.i64_in _ (by omega)
          have HP2 := hid hp2
          clear hp2 hp7
          rcases (by omega : (b1 = 0 ∧ b2 = 0) ∨ (b1 = 0 ∧ b2 = 1) ∨ (b1 = 1 ∧ b2 = 0) ∨ (b1 = 1 ∧ b2 = 1)) with ⟨rfl, rfl⟩ | ⟨rfl, rfl⟩ | ⟨rfl, rfl⟩ | ⟨rfl, rfl⟩
          · have HC1 : Hid (∀ w1, Calls Try.prog 41 #[.int .i64 (h : Int), .int .i64 (m : Int)] w1 fun e w' => e = .returned (.int .i64 0) ∧ w1 = w') := fun w1 => HB1.out w1
            have HC2 : Hid (∀ w1, Calls Try.prog 41 #[.int .i64 ((s[j]).toNat : Int), .int .i64 (m : Int)] w1 fun e w' => e = .returned (.int .i64 0) ∧ w1 = w') := fun w1 => HB2.out w1
            clear HB1 HB2
            simp (config := { decide := true }) only [if_true, if_false, Nat.add_zero] at hxl
            have HXL := hid hxl
            clear hxl
            go_wp2_with fail
            go_quiet (first
              | (go_at_call 41; with_reducible exact Calls.quiet_of_same (v := .int .i64 0) ((HC1.out _).mono (fun e w6 hh => ⟨hh.1, hh.2.symm⟩)))
              | (go_at_call 41; with_reducible exact Calls.quiet_of_same (v := .int .i64 0) ((HC2.out _).mono (fun e w6 hh => ⟨hh.1, hh.2.symm⟩))))
            go_wp2_with fail
            go_roundw
            case rel => exact ⟨m + 1, by omega, by go_num, by rw [HPE.out, HP2.out]; go_num, by rw [HPE.out, HYE.out, HXL.out] <;> go_num, bel_drewN br _⟩
            case measure => simp [intOf]; omega
          · have HC1 : Hid (∀ w1, Calls Try.prog 41 #[.int .i64 (h : Int), .int .i64 (m : Int)] w1 fun e w' => e = .returned (.int .i64 0) ∧ w1 = w') := fun w1 => HB1.out w1
            have HC2 : Hid (∀ w1, Calls Try.prog 41 #[.int .i64 ((s[j]).toNat : Int), .int .i64 (m : Int)] w1 fun e w' => e = .returned (.int .i64 1) ∧ w1 = w') := fun w1 => HB2.out w1
            clear HB1 HB2
            simp (config := { decide := true }) only [if_true, if_false, Nat.add_zero] at hxl
            have HXL := hid hxl
            clear hxl
            go_wp2_with fail
            go_quiet (first
              | (go_at_call 41; with_reducible exact Calls.quiet_of_same (v := .int .i64 0) ((HC1.out _).mono (fun e w6 hh => ⟨hh.1, hh.2.symm⟩)))
              | (go_at_call 41; with_reducible exact Calls.quiet_of_same (v := .int .i64 1) ((HC2.out _).mono (fun e w6 hh => ⟨hh.1, hh.2.symm⟩))))
            go_wp2_with fail
            go_roundw
            case rel => exact ⟨m + 1, by omega, by go_num, by rw [HPE.out, HP2.out]; go_num, by rw [HPE.out, HYE.out, HXL.out] <;> go_num, bel_drewN br _⟩
            case measure => simp [intOf]; omega
          · have HC1 : Hid (∀ w1, Calls Try.prog 41 #[.int .i64 (h : Int), .int .i64 (m : Int)] w1 fun e w' => e = .returned (.int .i64 1) ∧ w1 = w') := fun w1 => HB1.out w1
            have HC2 : Hid (∀ w1, Calls Try.prog 41 #[.int .i64 ((s[j]).toNat : Int), .int .i64 (m : Int)] w1 fun e w' => e = .returned (.int .i64 0) ∧ w1 = w') := fun w1 => HB2.out w1
            clear HB1 HB2
            simp (config := { decide := true }) only [if_true, if_false, Nat.add_zero] at hxl
            have HXL := hid hxl
            clear hxl
            go_wp2_with fail
            go_quiet (first
              | (go_at_call 41; with_reducible exact Calls.quiet_of_same (v := .int .i64 1) ((HC1.out _).mono (fun e w6 hh => ⟨hh.1, hh.2.symm⟩)))
              | (go_at_call 41; with_reducible exact Calls.quiet_of_same (v := .int .i64 0) ((HC2.out _).mono (fun e w6 hh => ⟨hh.1, hh.2.symm⟩))))
            go_wp2_with fail
            go_roundw
            case rel => exact ⟨m + 1, by omega, by go_num, by rw [HPE.out, HP2.out]; go_num, by rw [HPE.out, HYE.out, HXL.out] <;> go_num, bel_drewN br _⟩
            case measure => simp [intOf]; omega
          · have HC1 : Hid (∀ w1, Calls Try.prog 41 #[.int .i64 (h : Int), .int .i64 (m : Int)] w1 fun e w' => e = .returned (.int .i64 1) ∧ w1 = w') := fun w1 => HB1.out w1
            have HC2 : Hid (∀ w1, Calls Try.prog 41 #[.int .i64 ((s[j]).toNat : Int), .int .i64 (m : Int)] w1 fun e w' => e = .returned (.int .i64 1) ∧ w1 = w') := fun w1 => HB2.out w1
            clear HB1 HB2
            simp (config := { decide := true }) only [if_true, if_false, Nat.add_zero] at hxl
            have HXL := hid hxl
            clear hxl
            go_wp2_with fail
            go_quiet (first
              | (go_at_call 41; with_reducible exact Calls.quiet_of_same (v := .int .i64 1) ((HC1.out _).mono (fun e w6 hh => ⟨hh.1, hh.2.symm⟩)))
              | (go_at_call 41; with_reducible exact Calls.quiet_of_same (v := .int .i64 1) ((HC2.out _).mono (fun e w6 hh => ⟨hh.1, hh.2.symm⟩))))
            go_wp2_with fail
            go_roundw
            case rel => exact ⟨m + 1, by omega, by go_num, by rw [HPE.out, HP2.out]; go_num, by rw [HPE.out, HYE.out, HXL.out] <;> go_num, bel_drewN br _⟩
            case measure => simp [intOf]; omega
        · obtain rfl : m = 8 := by omega
          have hxb := xor_byte_low h (c := (s[j]).toNat) (by omega)
          have hxlt := xor_lt32h hr s[j]
          have hst : hashStep h s[j] = ((h ^^^ (s[j]).toNat) * 16777619) % 4294967296 := rfl
          have hp8 : (h ^^^ (s[j]).toNat) % 2 ^ 8 = (h ^^^ (s[j]).toNat) % 256 := rfl
          rw [hp8]
          have hXl : (h ^^^ (s[j]).toNat) % 256 < 256 := Nat.mod_lt _ (by omega)
          have hrl : h % 256 ≤ h := Nat.mod_le _ _
          generalize (h ^^^ (s[j]).toNat) % 256 = X at *
          generalize h ^^^ (s[j]).toNat = y at *
          have d1 : (h : Int).tmod 256 = ((h % 256 : Nat) : Int) := rfl
          generalize h % 256 = r at *
          have e1 : IntKind.i64.wrap (r : Int) = r := IntWalk.i64_in _ (by omega)
          have e2 : IntKind.i64.wrap ((h : Int) - r) = h - r := IntWalk.i64_in _ (by omega)
          have e3 : IntKind.i64.wrap ((h : Int) - r + X) = y := by rw [show (h : Int) - r + X = y by omega]; exact IntWalk.i64_in _ (by omega)
          have e4 : IntKind.i64.wrap ((y : Int) * 16777619) = y * 16777619 := IntWalk.i64_in _ (by omega)
          have hz : y * 16777619 % 4294967296 < 4294967296 := Nat.mod_lt _ (by omega)
          have d2 : ((y : Int) * 16777619).tmod 4294967296 = ((y * 16777619 % 4294967296 : Nat) : Int) := by
            rw [show (y : Int) * 16777619 = ((y * 16777619 : Nat) : Int) by omega]; rfl
          generalize y * 16777619 % 4294967296 = z at *
          have e5 : IntKind.i64.wrap (z : Int) = z := IntWalk.i64_in _ (by omega)
          have HS := hid hst
          clear hst hp8 hxb
          go_wp2_with fail
          go_roundw
          case rel => exact ⟨j + 1, by omega, by go_num, by rw [HST.out, HS.out], br⟩
          case measure => simp [intOf]; omega
    · obtain rfl : j = s.size := by omega
      have hltd : decide ((s.size : Int) < (s.size : Int)) = false := decide_eq_false (by omega)
      have htk : s.data.toList.take s.size = s.data.toList := List.take_of_length_le (by rw [Array.length_toList]; exact Nat.le_refl _)
      have HF : Hid (hashF s.data.toList = hashR (s.data.toList.take s.size) / 268435456) := by rw [htk]; rfl
      clear htk
      generalize hashR (s.data.toList.take s.size) = h at *
      have d1 : (h : Int).tdiv 268435456 = ((h / 268435456 : Nat) : Int) := rfl
      have e1 : IntKind.i64.wrap ((h / 268435456 : Nat) : Int) = (h / 268435456 : Nat) := IntWalk.i64_in _ (by omega)
      go_wp2_with fail
      go_ret
      exact ⟨ret_int (by rw [HF.out]; rfl), br⟩
end Go.Proofs.Ytejfkjfidhdfaaa
