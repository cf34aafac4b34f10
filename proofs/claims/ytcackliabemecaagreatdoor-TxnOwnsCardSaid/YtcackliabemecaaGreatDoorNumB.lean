import Derived.Test.YtcackliabemecaaGreatDoorNumA
namespace Go.Proofs.YtcackliabemecaaGreatDoor
open Go.RowKit
set_option linter.unusedSimpArgs false
set_option linter.unusedVariables false

/-- the number of some bytes, the lowest first -/
def ofLE : List UInt8 → Nat
  | [] => 0
  | x :: xs => x.toNat + 256 * ofLE xs

theorem ofLE_lt (xs : List UInt8) : ofLE xs < 256 ^ xs.length := by
  induction xs with
  | nil => simp [ofLE]
  | cons x xs ih =>
    have := x.toNat_lt
    simp only [ofLE, List.length_cons, Nat.pow_succ]
    omega

theorem ofLE_append (xs ys : List UInt8) : ofLE (xs ++ ys) = ofLE xs + 256 ^ xs.length * ofLE ys := by
  induction xs with
  | nil => simp [ofLE]
  | cons x xs ih =>
    simp only [List.cons_append, ofLE, ih, List.length_cons, Nat.pow_succ, Nat.mul_add]
    rw [Nat.mul_comm (256 ^ xs.length) 256, Nat.mul_assoc]; omega

def widthB (k : Int) : Bool := decide (k = 1 ∨ k = 2 ∨ k = 4 ∨ k = 8)

/-- what Get finds -/
def getF (xs : List UInt8) (at_ k : Int) : Option Nat :=
  if widthB k = true ∧ 0 ≤ at_ ∧ at_ + k ≤ xs.length then
    (if ofLE ((xs.drop at_.toNat).take k.toNat) ≤ 9223372036854775807 then some (ofLE ((xs.drop at_.toNat).take k.toNat)) else none)
  else none

theorem fits0 (k : Int) : fitsB 0 k = widthB k := by
  unfold fitsB widthB
  repeat' split
  all_goals simp [*]

theorem ofInt64_wrap (n : Int) : BitVec.ofInt 64 (wrap64 n) = BitVec.ofInt 64 n := by
  apply BitVec.eq_of_toNat_eq
  simp only [BitVec.toNat_ofInt]
  congr 1
  unfold wrap64
  omega

theorem wrap64_mod (n : Int) : wrap64 (n % 18446744073709551616) = wrap64 n := by unfold wrap64; omega
theorem wrap_i64 (n : Int) : IntKind.i64.wrap n = wrap64 n := by simp only [IntKind.wrap_i64, wrap64]

theorem or_join (i A B : Nat) (hA : A < 2 ^ i) (hB : B % 2 ^ i = 0) : bits .or .i64 (wrap64 A) (wrap64 B) = wrap64 ((A + B : Nat) : Int) := by
  unfold bits
  show IntKind.i64.wrap (((BitVec.ofInt 64 (wrap64 A) ||| BitVec.ofInt 64 (wrap64 B)).toNat : Nat) : Int) = _
  rw [ofInt64_wrap, ofInt64_wrap, wrap_i64]
  rw [show BitVec.ofInt 64 (A : Int) = BitVec.ofNat 64 A from rfl, show BitVec.ofInt 64 (B : Int) = BitVec.ofNat 64 B from rfl, ← BitVec.ofNat_or, Nat.or_comm, nat_join i B A hB hA, Nat.add_comm]
  rw [BitVec.toNat_ofNat, show ((((A + B) % 2 ^ 64 : Nat)) : Int) = ((A + B : Nat) : Int) % 18446744073709551616 from by omega, wrap64_mod]

theorem take_drop_snoc {xs : List UInt8} {A j : Nat} (h : A + j < xs.length) : (xs.drop A).take (j + 1) = (xs.drop A).take j ++ [xs[A + j]] := by
  rw [List.take_succ_eq_append_getElem (by simp; omega)]; simp

theorem pow_8 (j : Nat) : 2 ^ (8 * j) = 256 ^ j := by rw [Nat.pow_mul]

theorem get_step {xs : List UInt8} {A j : Nat} (h : A + j < xs.length) :
    bits .or .i64 (wrap64 (ofLE ((xs.drop A).take j) : Nat)) (wrap64 (wrap64 (bAt xs (A + j) : Int) * 2 ^ (8 * j))) = wrap64 (ofLE ((xs.drop A).take (j + 1)) : Nat) := by
  have hx := bAt_lt xs (A + j)
  rw [IntWalk.wrap64_in (bAt xs (A + j) : Int) (by omega)]
  have e : (bAt xs (A + j) : Int) * 2 ^ (8 * j) = ((bAt xs (A + j) * 256 ^ j : Nat) : Int) := by
    rw [← pow_8]; simp
  have hl := ofLE_lt ((xs.drop A).take j)
  have hlen : ((xs.drop A).take j).length = j := by simp; omega
  rw [hlen] at hl
  rw [e, or_join (8 * j) _ _ (by rw [pow_8]; exact hl) (by rw [pow_8]; simp), take_drop_snoc h, ofLE_append, hlen]
  simp [ofLE, Nat.mul_comm, bAt_eq h]

theorem fits_wrap (v k : Nat) (hk : widthB k = true) (hv : v < 256 ^ k) : fitsB (wrap64 (v : Int)) k = decide (v ≤ 9223372036854775807) := by
  simp only [widthB, decide_eq_true_eq] at hk
  have hk' : k = 1 ∨ k = 2 ∨ k = 4 ∨ k = 8 := by omega
  rcases hk' with rfl | rfl | rfl | rfl
  · rw [IntWalk.wrap64_in _ (by omega)]; simp [fitsB]; omega
  · rw [IntWalk.wrap64_in _ (by omega)]; simp [fitsB]; omega
  · rw [IntWalk.wrap64_in _ (by omega)]; simp [fitsB]; omega
  · simp [fitsB, wrap64]; omega

theorem widthB_le {k : Int} (h : widthB k = true) : 1 ≤ k ∧ k ≤ 8 := by
  simp only [widthB, decide_eq_true_eq] at h; omega

/-- what Get hands back -/
def getV (o : Option Nat) : Value := .tuple #[.int .i64 ((o.getD 0 : Nat) : Int), .bool o.isSome]

set_option maxHeartbeats 400000 in
theorem get_any (a : Option Addr) (c : Nat) (xs : List UInt8) (at_ k : Int) (w : World) (ha : RowB w a c xs) (hl : xs.length ≤ 9223372036854775807) :
    Calls Tryz.prog 78 #[.slice a xs.length c, .int .i64 at_, .int .i64 k] w fun e w' => e = .returned (getV (getF xs at_ k)) ∧ w = w' := by
  by_cases hk : widthB k = true
  case neg =>
    have hk' : widthB k = false := by simpa using hk
    go_enter Tryz.func78, Tryz.ntmps78
    go_wp2_with fail
    refine (fits_any _ _ _).mono ?_
    rintro e w' ⟨rfl, rfl⟩
    rw [fits0, hk']
    go_wp2_with fail
    go_ret2
    exact ⟨by simp [getV, getF, hk'], rfl⟩
  case pos =>
  have hk8 := widthB_le hk
  by_cases h1 : 0 ≤ at_ ∧ at_ + k ≤ xs.length
  case neg =>
    have H1 := hid h1
    clear h1
    go_enter Tryz.func78, Tryz.ntmps78
    go_wp2_with fail
    refine (fits_any _ _ _).mono ?_
    rintro e w' ⟨rfl, rfl⟩
    rw [fits0, hk]
    have HK := hid hk; clear hk
    go_wp2_with fail
    refine (inside_any _ _ _ _ _ _ hl hk8).mono ?_
    rintro e w' ⟨rfl, rfl⟩
    rw [show (decide (0 ≤ at_) && decide (at_ + k ≤ xs.length)) = false from by simpa using H1.out]
    go_wp2_with fail
    go_ret2
    exact ⟨by simp [getV, getF, H1.out], rfl⟩
  case pos =>
  have hw := hid hk
  have hv := fits_wrap (ofLE ((xs.drop at_.toNat).take k.toNat)) k.toNat (by rw [Int.toNat_of_nonneg (by omega)]; exact hk) (by
    have := ofLE_lt ((xs.drop at_.toNat).take k.toNat)
    rwa [show ((xs.drop at_.toNat).take k.toNat).length = k.toNat from by simp; omega] at this)
  rw [Int.toNat_of_nonneg (by omega : 0 ≤ k)] at hv
  have HV := hid hv; clear hv
  go_enter Tryz.func78, Tryz.ntmps78
  go_wp2_with fail
  refine (fits_any _ _ _).mono ?_
  rintro e w' ⟨rfl, rfl⟩
  rw [fits0, hk]
  clear hk
  go_wp2_with fail
  refine (inside_any _ _ _ _ _ _ hl hk8).mono ?_
  rintro e w' ⟨rfl, rfl⟩
  rw [show (decide (0 ≤ at_) && decide (at_ + k ≤ xs.length)) = true from by simp [h1]]
  go_wp2_with fail
  obtain ⟨K, rfl⟩ := Int.eq_ofNat_of_zero_le (by omega : 0 ≤ k)
  obtain ⟨A, rfl⟩ := Int.eq_ofNat_of_zero_le (by omega : 0 ≤ at_)
  obtain ⟨b, off, rfl, hlt, hc⟩ := ha.bytes (by omega)
  clear ha
  simp only [Int.toNat_natCast] at HV
  go_loop [8, 9, 21] (fun n i j' => ∃ j : Nat, j ≤ K ∧ j' = .int .i64 j ∧ n = .int .i64 (wrap64 (ofLE ((xs.drop A).take j) : Nat))) (fun _ _ i => K - (intOf i).toNat)
  case atStart => exact ⟨0, Nat.zero_le _, rfl, by simp [ofLE, wrap64]⟩
  case round =>
    obtain ⟨j, hj, rfl, rfl⟩ := hrel
    by_cases hjk : j < K
    · have hcj := hc (A + j) (by omega)
      have hst := get_step (xs := xs) (A := A) (j := j) (by omega)
      have HS := hid hst; clear hst
      generalize wrap64 (ofLE ((xs.drop A).take j) : Nat) = q at *
      generalize bAt xs (A + j) = x at *
      clear hc
      go_wp2
      go_round
      case rel => exact ⟨j + 1, by omega, by go_num, by rw [HS.out]⟩
      case measure => simp [intOf]; omega
    · obtain rfl : j = K := by omega
      clear hc
      go_wp2_with fail
      refine (fits_any _ _ _).mono ?_
      rintro e w' ⟨rfl, rfl⟩
      rw [HV.out]
      by_cases hbig : ofLE ((xs.drop A).take j) ≤ 9223372036854775807
      · have hww : wrap64 (ofLE ((xs.drop A).take j) : Nat) = (ofLE ((xs.drop A).take j) : Nat) := IntWalk.wrap64_in _ (by omega)
        rw [decide_eq_true hbig]
        rw [hww]
        have e : getF xs A j = some (ofLE ((xs.drop A).take j)) := by simp [getF, hw.out, hbig]; omega
        have E := hid e; clear e
        clear hww
        go_wp2
        go_ret2
        exact ⟨by simp [getV, E.out], rfl⟩
      · rw [decide_eq_false hbig]
        have e : getF xs A j = none := by simp [getF, hbig]
        have E := hid e; clear e
        go_wp2
        go_ret2
        exact ⟨by simp [getV, E.out], rfl⟩

end Go.Proofs.YtcackliabemecaaGreatDoor
