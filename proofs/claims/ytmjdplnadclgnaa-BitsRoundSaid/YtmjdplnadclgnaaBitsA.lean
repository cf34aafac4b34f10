import Derived.Test.YtmjdplnadclgnaaBitsP
import Derived.Deep.MidRow
import Derived.OpenShut
import Derived.Deep.RegionWith
import Derived.Laws.BitsAllLaws
namespace Go.Proofs.Ytmjdplnadclgnaa
open Go.RowKit Go.WideShapes
set_option linter.unusedSimpArgs false
set_option linter.unusedVariables false

theorem isBlock_any (n : Int) (w : World) :
    Calls Try.prog 26 #[.int .i64 n] w fun e w' => e = .returned (.bool (decide (1 ≤ n ∧ n ≤ 128))) ∧ w = w' := by
  rcases (by omega : n < 1 ∨ (1 ≤ n ∧ n ≤ 128) ∨ (1 ≤ n ∧ 128 < n)) with h | ⟨h1, h2⟩ | ⟨h1, h2⟩
  · rw [decide_eq_false (by omega)]
    go_enter Try.func26, Try.ntmps26
    go_wp2
    go_ret
    exact ⟨rfl, rfl⟩
  · rw [decide_eq_true (by omega)]
    go_enter Try.func26, Try.ntmps26
    go_wp2
    go_ret
    exact ⟨ret_bool (by first | rfl | (simp; done) | (simp; omega)), rfl⟩
  · rw [decide_eq_false (by omega)]
    go_enter Try.func26, Try.ntmps26
    go_wp2
    go_ret
    exact ⟨ret_bool (by first | rfl | (simp; done) | (simp; omega)), rfl⟩

theorem bit_any (k : Nat) (w : World) (hk : k < 128) :
    Calls Try.prog 27 #[.int .i64 ((k : Int) + 1)] w fun e w' => e = .returned (.int .u8 ((2 ^ (k % 8) : Nat) : Int)) ∧ w = w' := by
  have h1 : (k : Int) + 1 - 1 = k := by omega
  have h2 : (k : Int).tmod 8 = ((k % 8 : Nat) : Int) := rfl
  have h3 : IntKind.i64.wrap (k : Int) = k := IntWalk.i64_in _ (by omega)
  have h4 : k % 8 < 8 := Nat.mod_lt _ (by omega)
  generalize k % 8 = r at *
  have h5 : IntKind.i64.wrap (r : Int) = r := IntWalk.i64_in _ (by omega)
  rcases (by omega : r = 0 ∨ r = 1 ∨ r = 2 ∨ r = 3 ∨ r = 4 ∨ r = 5 ∨ r = 6 ∨ r = 7) with rfl | rfl | rfl | rfl | rfl | rfl | rfl | rfl
  all_goals
    go_enter Try.func27, Try.ntmps27
    go_wp2
    go_ret
    exact ⟨rfl, rfl⟩

theorem map_cell (xs : List UInt8) (w : World) {j : Nat} (hj : j < xs.length) : ∀ n, ((w.alloc (.cells (mapC xs) 24)).drewN n).cell? ⟨w.heap.size, j, none⟩ = some (.int .u8 (bAt xs j : Int)) := by
  intro n
  have H : Blk ((w.alloc (.cells (mapC xs) 24)).drewN n) w.heap.size 24 (xs.map byteV) := heap_alloc_new w _
  rw [Blk.cell H (i := j) (by simpa using hj)]
  simp [byteV, bAt_eq hj]

set_option maxHeartbeats 1000000 in
theorem used_any (xs : List UInt8) (n : Int) (w : World) (hx : xs.length = 16) (hn : -9223372036854775808 ≤ n ∧ n ≤ 9223372036854775807) :
    Calls Try.prog 16 #[.agg (mapC xs), .int .i64 n] w fun e w' => e = .returned (.bool (usedB xs n)) ∧ Below w.heap.size w w' := by
  by_cases h : 1 ≤ n ∧ n ≤ 128
  · obtain ⟨k, rfl⟩ : ∃ k : Nat, n = (k : Int) + 1 := ⟨(n - 1).toNat, by omega⟩
    have hk : k < 128 := by omega
    have hU : usedB xs ((k : Int) + 1) = bitB xs k := by
      unfold usedB; rw [decide_eq_true h]; simp
    rw [hU]
    have d1 : decide (1 ≤ (k : Int) + 1 ∧ (k : Int) + 1 ≤ 128) = true := decide_eq_true h
    have h1 : (k : Int) + 1 - 1 = k := by omega
    have h2 : (k : Int).tdiv 8 = ((k / 8 : Nat) : Int) := rfl
    have h3 : IntKind.i64.wrap (k : Int) = k := IntWalk.i64_in _ (by omega)
    have h4 : k / 8 < 16 := by omega
    have h5 : IntKind.i64.wrap ((k / 8 : Nat) : Int) = (k / 8 : Nat) := IntWalk.i64_in _ (by omega)
    have hc := map_cell xs w (show k / 8 < xs.length by omega) 0
    change (w.alloc (.cells (mapC xs) 24)).cell? _ = _ at hc
    have hand := u8_and_nat (bAt xs (k / 8)) (2 ^ (k % 8)) (bAt_lt _ _) (by have : k % 8 < 8 := Nat.mod_lt _ (by omega); calc 2 ^ (k % 8) ≤ 2 ^ 7 := Nat.pow_le_pow_right (by omega) (by omega)
                                                                                 _ < 256 := by omega)
    have hbit := and_pow (bAt xs (k / 8)) (k % 8)
    have hbb : bitB xs k = (bAt xs (k / 8)).testBit (k % 8) := rfl
    rw [hbb]
    have HB := hid (fun w1 => bit_any k w1 hk)
    generalize k / 8 = q at *
    generalize k % 8 = r at *
    generalize bAt xs q = x at *
    generalize (x.testBit r) = tb at *
    generalize ((2 ^ r : Nat) : Int) = p at *
    go_enter Try.func16, Try.ntmps16
    go_wp2_with fail
    go_region_with (first
      | (go_at_call 26; refine (isBlock_any _ _).mono ?_; rintro e w1 ⟨rfl, rfl⟩; rw [d1])
      | (go_at_call 27; refine (HB.out _).mono ?_; rintro e w1 ⟨rfl, rfl⟩))
    all_goals
      go_wp2_with fail
      go_ret
      exact ⟨rfl, ((Below.refl _ w).alloc (Nat.le_refl _) _).drew⟩
  · have hU : usedB xs n = false := by unfold usedB; rw [decide_eq_false h]; rfl
    rw [hU]
    have d1 : decide (1 ≤ n ∧ n ≤ 128) = false := decide_eq_false h
    go_enter Try.func16, Try.ntmps16
    go_wp2_with fail
    first
    | (go_region_with (first
      | (go_at_call 26; refine (isBlock_any _ _).mono ?_; rintro e w1 ⟨rfl, rfl⟩; rw [d1])))
    | fail
    all_goals
      go_wp2_with fail
      go_ret
      exact ⟨rfl, ((Below.refl _ w).alloc (Nat.le_refl _) _).drew⟩


end Go.Proofs.Ytmjdplnadclgnaa
