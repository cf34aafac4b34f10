import Derived.Test.YtcackliabemecaaGreatDoorLib
import Derived.Deep.QuietTactic
import Derived.BigQuiet

namespace Go.Proofs.YtcackliabemecaaGreatDoor
open Go.RowKit
set_option linter.unusedSimpArgs false
set_option linter.unusedVariables false

/-- does a number fit a width? -/
def fitsB (n k : Int) : Bool :=
  if k = 1 then decide (0 ≤ n) && decide (n < 256) else if k = 2 then decide (0 ≤ n) && decide (n < 65536)
  else if k = 4 then decide (0 ≤ n) && decide (n < 4294967296) else if k = 8 then decide (0 ≤ n) else false

set_option maxHeartbeats 400000 in
theorem fits_any (n k : Int) (w : World) :
    Calls Tryz.prog 62 #[.int .i64 n, .int .i64 k] w fun e w' => e = .returned (.bool (fitsB n k)) ∧ w = w' := by
  rcases (by omega : k = 1 ∨ k = 2 ∨ k = 4 ∨ k = 8 ∨ (k ≠ 1 ∧ k ≠ 2 ∧ k ≠ 4 ∧ k ≠ 8)) with rfl | rfl | rfl | rfl | ⟨k1, k2, k4, k8⟩
  all_goals
    by_cases h0 : 0 ≤ n
    all_goals
      go_enter Tryz.func62, Tryz.ntmps62; go_wp2; go_ret
      refine ⟨ret_bool ?_, rfl⟩
      simp [fitsB, *] <;> omega

theorem fitsB_neg {n : Int} (k : Int) (h : n < 0) : fitsB n k = false := by
  unfold fitsB
  repeat' split
  all_goals simp <;> omega
theorem fitsB_else (n : Int) {k : Int} (k1 : k ≠ 1) (k2 : k ≠ 2) (k4 : k ≠ 4) (k8 : k ≠ 8) : fitsB n k = false := by
  simp [fitsB, *]

theorem pow_le (k : Nat) (h : k ≤ 6) : 256 ^ k ≤ 256 ^ 6 := Nat.pow_le_pow_right (by omega) h

set_option maxHeartbeats 400000 in
theorem power_any (n : Nat) (hn : n ≤ 7) (w : World) :
    Calls Tryz.prog 83 #[.int .i64 n] w fun e w' => e = .returned (.int .i64 (256 ^ n : Nat)) ∧ w = w' := by
  go_enter Tryz.func83, Tryz.ntmps83
  go_wp2
  go_loop [3, 4] (fun p i => ∃ k : Nat, k ≤ n ∧ i = .int .i64 k ∧ p = .int .i64 (256 ^ k : Nat)) (fun _ i => n - (intOf i).toNat)
  case atStart => exact ⟨0, Nat.zero_le _, rfl, rfl⟩
  case round =>
    obtain ⟨k, hk, rfl, rfl⟩ := hrel
    by_cases hlt : k < n
    · have hb := pow_le k (by omega)
      have e7 : 256 ^ 6 = 281474976710656 := by decide
      rw [e7] at hb; clear e7
      have hs : 256 ^ (k + 1) = 256 ^ k * 256 := Nat.pow_succ ..
      have HS := hid hs; clear hs
      generalize 256 ^ k = q at *
      go_wp2
      go_round
      case rel => exact ⟨k + 1, by omega, by go_num, by rw [HS.out]; go_num⟩
      case measure => simp [intOf]; omega
    · obtain rfl : k = n := by omega
      go_wp2
      go_ret
      exact ⟨rfl, rfl⟩

set_option maxHeartbeats 400000 in
theorem fitsRef_any (n k : Int) (w : World) :
    Calls Tryz.prog 69 #[.int .i64 n, .int .i64 k] w fun e w' => e = .returned (.bool (fitsB n k)) ∧ w = w' := by
  by_cases h0 : 0 ≤ n
  · rcases (by omega : k = 1 ∨ k = 2 ∨ k = 4 ∨ k = 8 ∨ (k ≠ 1 ∧ k ≠ 2 ∧ k ≠ 4 ∧ k ≠ 8)) with rfl | rfl | rfl | rfl | ⟨k1, k2, k4, k8⟩
    case inl =>
      go_enter Tryz.func69, Tryz.ntmps69
      go_wp2_with (go_at_call 83; refine (power_any 1 (by omega) _).mono ?_; rintro e w' ⟨rfl, rfl⟩)
      go_ret
      exact ⟨ret_bool (by simp [fitsB, h0]), rfl⟩
    case inr.inl =>
      go_enter Tryz.func69, Tryz.ntmps69
      go_wp2_with (go_at_call 83; refine (power_any 2 (by omega) _).mono ?_; rintro e w' ⟨rfl, rfl⟩)
      go_ret
      exact ⟨ret_bool (by simp [fitsB, h0]), rfl⟩
    case inr.inr.inl =>
      go_enter Tryz.func69, Tryz.ntmps69
      go_wp2_with (go_at_call 83; refine (power_any 4 (by omega) _).mono ?_; rintro e w' ⟨rfl, rfl⟩)
      go_ret
      exact ⟨ret_bool (by simp [fitsB, h0]), rfl⟩
    case inr.inr.inr.inl =>
      go_enter Tryz.func69, Tryz.ntmps69
      go_wp2_with fail
      go_ret
      exact ⟨ret_bool (by simp [fitsB, *]), rfl⟩
    case inr.inr.inr.inr =>
      have b1 : (k != 1) = true := by simpa using k1
      have b2 : (k != 2) = true := by simpa using k2
      have b4 : (k != 4) = true := by simpa using k4
      have b8 : (k == 8) = false := by simpa using k8
      go_enter Tryz.func69, Tryz.ntmps69
      go_wp2_with fail
      go_ret
      exact ⟨ret_bool (fitsB_else n k1 k2 k4 k8).symm, rfl⟩
  · go_enter Tryz.func69, Tryz.ntmps69
    go_wp2_with fail
    go_ret
    exact ⟨ret_bool (fitsB_neg k (by omega)).symm, rfl⟩

/-- the little-endian bytes of a number -/
def le : Nat → Nat → List UInt8
  | 0, _ => []
  | k + 1, n => UInt8.ofNat n :: le k (n / 256)
theorem le_length (k n : Nat) : (le k n).length = k := by
  induction k generalizing n with
  | zero => rfl
  | succ k ih => simp [le, ih]
/-- what Put hands back -/
def putF (xs : List UInt8) (n k : Int) : List UInt8 := if fitsB n k then xs ++ le k.toNat n.toNat else xs

theorem le_snoc (j n : Nat) : le (j + 1) n = le j n ++ [UInt8.ofNat (n / 256 ^ j)] := by
  induction j generalizing n with
  | zero => simp [le]
  | succ j ih =>
    show UInt8.ofNat n :: le (j + 1) (n / 256) = UInt8.ofNat n :: le j (n / 256) ++ [_]
    rw [ih, Nat.div_div_eq_div_mul, Nat.pow_succ, Nat.mul_comm 256]; rfl

theorem fitsB_width {n k : Int} (h : fitsB n k = true) : 0 ≤ n ∧ 1 ≤ k ∧ k ≤ 8 := by
  by_cases h0 : 0 ≤ n
  · refine ⟨h0, ?_⟩
    by_cases k1 : k = 1
    · omega
    by_cases k2 : k = 2
    · omega
    by_cases k4 : k = 4
    · omega
    by_cases k8 : k = 8
    · omega
    rw [fitsB_else n k1 k2 k4 k8] at h; cases h
  · rw [fitsB_neg k (by omega)] at h; cases h

theorem u8_byte (q : Nat) : IntKind.u8.wrap ((q % 256 : Nat) : Int) = ((UInt8.ofNat q).toNat : Int) := by
  simp [IntKind.wrap, IntKind.signed, IntKind.bits]

set_option maxHeartbeats 400000 in
theorem putRef_any (a : Option Addr) (c : Nat) (xs : List UInt8) (n k : Int) (w : World) (ha : RowB w a c xs) (hl : xs.length ≤ 70368744177664) (hn9 : n ≤ 9223372036854775807) :
    Calls Tryz.prog 54 #[.slice a xs.length c, .int .i64 n, .int .i64 k] w (RetB w (putF xs n k)) := by
  have t1 : True := trivial
  by_cases hf : fitsB n k = true
  · have hk := fitsB_width hf
    obtain ⟨N, rfl⟩ := Int.eq_ofNat_of_zero_le hk.1
    obtain ⟨K, rfl⟩ := Int.eq_ofNat_of_zero_le (by omega : 0 ≤ k)
    go_enter Tryz.func54, Tryz.ntmps54
    go_wp2_with (first
      | (at_builtin; have _t := t1; refine wpl_append rfl (.tmp 10) (.tmp 11) rfl E8 w.heap.size rfl rfl (Own.nil _ _ _ _) ha (byteV_one xs) (by omega) (by omega) (Nat.le_refl _) ?_; clear t1; intro a1 c1 w1 hown hgrow hbel; simp only [Nat.zero_add, List.nil_append] at hown))
    refine (fitsRef_any _ _ _).mono ?_
    rintro e w' ⟨rfl, rfl⟩
    clear hgrow ha
    rw [hf]
    have HF := hid hf; clear hf
    go_wp2_with fail
    have hb0 := hbel.size
    go_loopw [7, 9, 1] (fun v i m wr => ∃ (j : Nat) (a' : Option Addr) (c' : Nat), j ≤ K ∧ i = .int .i64 j ∧ m = .int .i64 (N / 256 ^ j : Nat) ∧ v = .slice a' (xs.length + j) c' ∧ Own wr w.heap.size 5 1 a' (xs.length + j) c' ((xs ++ le j N).map byteV) ∧ Below w.heap.size w wr)
      (fun _ i _ _ => K - (intOf i).toNat)
    case atStart => exact ⟨0, a1, c1, Nat.zero_le _, rfl, by simp, by simp, by simpa [le] using hown, hbel⟩
    case round =>
      obtain ⟨j, a', c', hj, rfl, rfl, rfl, hown, hbel⟩ := hrel
      by_cases hlt : j < K
      · have hq : N / 256 ^ j ≤ N := Nat.div_le_self _ _
        have hs : N / 256 ^ (j + 1) = N / 256 ^ j / 256 := by rw [Nat.div_div_eq_div_mul, Nat.pow_succ]
        have hle := le_snoc j N
        have HS := hid hs; have HL := hid hle; clear hs hle
        generalize N / 256 ^ j = q at *
        go_wp2_with (first
          | (at_builtin; refine wpl_append rfl (.tmp 24) (.tmp 28) rfl E8 w.heap.size rfl rfl (hown.alloc _) (row_new1 _ _ _) (by simp [Value.oneCell']) (by omega) (by omega) (by have := hbel.size; simp; omega) ?_; intro a2 c2 w2 hown2 hgrow2 hbel2))
        go_roundw
        case rel => exact ⟨j + 1, a2, c2, by omega, by go_num, by rw [HS.out]; go_num, rfl, by
          rw [HL.out]; simpa [Nat.add_assoc, u8_byte, byteV] using hown2, (hbel.alloc hbel.size _).trans hbel2⟩
        case measure => simp [intOf]; omega
      · obtain rfl : j = K := by omega
        go_wp2
        go_ret
        exact ⟨a', c', by simp [putF, HF.out, le_length], by simpa [putF, HF.out, OwnB, le_length] using hown, hbel⟩
  · have hf' : fitsB n k = false := by simpa using hf
    clear hf
    go_enter Tryz.func54, Tryz.ntmps54
    go_wp2_with (first
      | (at_builtin; have _t := t1; refine wpl_append rfl (.tmp 10) (.tmp 11) rfl E8 w.heap.size rfl rfl (Own.nil _ _ _ _) ha (byteV_one xs) (by omega) (by omega) (Nat.le_refl _) ?_; clear t1; intro a1 c1 w1 hown hgrow hbel; simp only [Nat.zero_add, List.nil_append] at hown))
    refine (fitsRef_any _ _ _).mono ?_
    rintro e w' ⟨rfl, rfl⟩
    clear hgrow ha
    rw [hf']
    have HF := hid hf'; clear hf'
    go_wp2_with fail
    go_ret
    exact ⟨a1, c1, by simp [putF, HF.out], by simpa [putF, HF.out, OwnB] using hown, hbel⟩

set_option maxHeartbeats 400000 in
theorem inside_any (a : Option Addr) (n c : Nat) (at_ k : Int) (w : World) (hn : n ≤ 9223372036854775807) (hk : 1 ≤ k ∧ k ≤ 8) :
    Calls Tryz.prog 90 #[.slice a n c, .int .i64 at_, .int .i64 k] w fun e w' => e = .returned (.bool (decide (0 ≤ at_) && decide (at_ + k ≤ n))) ∧ w = w' := by
  by_cases h0 : 0 ≤ at_
  · go_enter Tryz.func90, Tryz.ntmps90
    go_wp2
    go_ret
    exact ⟨ret_bool (by simp [h0]; omega), rfl⟩
  · go_enter Tryz.func90, Tryz.ntmps90
    go_wp2
    go_ret
    exact ⟨ret_bool (by simp; omega), rfl⟩

/-- Are bytes the same? Two slices of bytes: 'Same'. -/
theorem bAt_ext {xs ys : List UInt8} (hl : xs.length = ys.length) (h : ∀ i, i < ys.length → bAt xs i = bAt ys i) : xs = ys := by
  apply List.ext_getElem hl
  intro i h1 h2
  have := h i h2
  rw [bAt_eq h1, bAt_eq h2] at this
  exact UInt8.toNat_inj.1 this

set_option maxHeartbeats 400000 in
theorem same_any (a b : Option Addr) (c d : Nat) (xs ys : List UInt8) (w : World) (ha : RowB w a c xs) (hb : RowB w b d ys) (hl : xs.length ≤ 9223372036854775807) (hm : ys.length ≤ 9223372036854775807) :
    Calls Tryz.prog 11 #[.slice a xs.length c, .slice b ys.length d] w fun e w' => e = .returned (.bool (decide (xs = ys))) ∧ Below w.heap.size w w' := by
  by_cases hne : xs.length = ys.length
  · rw [hne]
    have hne2 := hid hne
    go_enter Tryz.func11, Tryz.ntmps11
    clear hne
    go_wp2
    go_loopw [5] (fun i wr => ∃ j : Nat, j ≤ ys.length ∧ i = .int .i64 j ∧ (∀ i, i < j → bAt xs i = bAt ys i) ∧ Below w.heap.size w wr)
      (fun i _ => ys.length - (intOf i).toNat)
    case atStart => exact ⟨0, Nat.zero_le _, rfl, fun i h => absurd h (by omega), Below.refl _ _⟩
    case round =>
      obtain ⟨j, hj, rfl, hp, hbel⟩ := hrel
      have HP := hid hp; clear hp
      by_cases hlt : j < ys.length
      · obtain ⟨ba, oa, rfl, hba, hca⟩ := (ha.mono hbel).bytes (by have := hne2.out; omega)
        obtain ⟨bb, ob, rfl, hbb, hcb⟩ := (hb.mono hbel).bytes (by omega)
        have ca := hca j (by have := hne2.out; omega)
        have cb := hcb j hlt
        clear hca hcb ha hb
        have hlt' : (j : Int) < (ys.length : Int) := by omega
        by_cases hxy : bAt xs j = bAt ys j
        · have HX := hid hxy
          rw [hxy] at ca
          clear hxy
          go_wp2
          go_quiet (fail)
          go_wp2
          go_roundw
          case rel => exact ⟨j + 1, by omega, by go_num, fun i hi => (by rcases Nat.lt_succ_iff_lt_or_eq.1 hi with h | rfl; exact HP.out i h; exact HX.out), bel_drewN hbel _⟩
          case measure => simp [intOf]; omega
        · have hxy' : ((bAt xs j : Int) != (bAt ys j : Int)) = true := by simp; omega
          have HX := hid hxy
          clear hxy
          go_wp2
          go_quiet (fail)
          go_wp2
          go_ret
          exact ⟨ret_bool (decide_eq_false (by rintro rfl; exact HX.out rfl)).symm, bel_drewN hbel _⟩
      · obtain rfl : j = ys.length := by omega
        go_wp2
        go_ret
        exact ⟨ret_bool (decide_eq_true (bAt_ext hne2.out HP.out)).symm, hbel⟩
  · go_enter Tryz.func11, Tryz.ntmps11
    go_wp2
    go_ret
    exact ⟨ret_bool (by simp; intro h; exact hne (by rw [h])), Below.refl _ _⟩

end Go.Proofs.YtcackliabemecaaGreatDoor
