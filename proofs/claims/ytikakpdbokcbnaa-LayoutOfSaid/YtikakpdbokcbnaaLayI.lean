/- The examples of the document. -/
import Derived.Test.YtikakpdbokcbnaaLayH
namespace Go.Proofs.Ytikakpdbokcbnaa
open Go.RowKit
set_option linter.unusedSimpArgs false
set_option linter.unusedVariables false

theorem eqPartR (x0 x1 x2 x3 : Int) (w : World) : (Op.equalIn 10000 23 (.agg #[.int .i64 x0, .int .i64 x1, .int .i64 x2, .int .i64 x3]) (.agg #[.int .i64 x0, .int .i64 x1, .int .i64 x2, .int .i64 x3])).run Try.prog w = .ok true w := by
  have h := eqPart4 x0 x1 x2 x3 x0 x1 x2 x3 w
  rwa [decide_eq_true rfl] at h
theorem find_at {kd nm : Int} {k n a s : Int} (h : findP kd nm = some ⟨k, n, a, s⟩) (w : World) : Calls Try.prog 7 #[.int .i64 kd, .int .i64 nm] w fun e w' => e = .returned (.tuple #[.agg #[.int .i64 k, .int .i64 n, .int .i64 a, .int .i64 s], .bool true]) ∧ Below w.heap.size w w' := by
  have q := find_any kd nm w
  rw [h] at q
  exact q
theorem find_no {kd nm : Int} (h : findP kd nm = none) (w : World) : Calls Try.prog 7 #[.int .i64 kd, .int .i64 nm] w fun e w' => e = .returned (.tuple #[.agg #[.int .i64 0, .int .i64 0, .int .i64 0, .int .i64 0], .bool false]) ∧ Below w.heap.size w w' := by
  have q := find_any kd nm w
  rw [h] at q
  exact q
theorem of_at {at_ : Int} (ha : wfI at_) {k n a s : Int} (h : ofP at_ = some ⟨k, n, a, s⟩) (w : World) : Calls Try.prog 10 #[.int .i64 at_] w fun e w' => e = .returned (.tuple #[.agg #[.int .i64 k, .int .i64 n, .int .i64 a, .int .i64 s], .bool true]) ∧ Below w.heap.size w w' := by
  have q := of_any at_ w ha
  rw [h] at q
  exact q
theorem of_no {at_ : Int} (ha : wfI at_) (h : ofP at_ = none) (w : World) : Calls Try.prog 10 #[.int .i64 at_] w fun e w' => e = .returned (.tuple #[.agg #[.int .i64 0, .int .i64 0, .int .i64 0, .int .i64 0], .bool false]) ∧ Below w.heap.size w w' := by
  have q := of_any at_ w ha
  rw [h] at q
  exact q
theorem ofP_end : ofP 23168 = none := ofP_none (fun p hp h1 => by unfold kindsP at hp; unfold inF at h1; have h1 := of_decide_eq_true h1; omega)

set_option maxHeartbeats 4000000 in
set_option maxRecDepth 100000 in
theorem lives04_any (w : World) : Calls Try.prog 9 #[] w fun e w' => e = .returned (.bool true) ∧ Below w.heap.size w w' := by
  have H0 := hid (fun w1 => find_at (kd := (2)) (nm := (1)) (k := 2) (n := 1) (a := 64) (s := 64) (findP_some (mem_2 (n := 1) (by omega) (by omega))) w1)
  have H1 := hid (fun w1 => find_at (kd := (4)) (nm := (1)) (k := 4) (n := 1) (a := 640) (s := 64) (findP_some (mem_4 (n := 1) (by omega) (by omega))) w1)
  have H2 := hid (fun w1 => find_at (kd := (5)) (nm := (0)) (k := 5) (n := 0) (a := 2688) (s := 4096) (findP_some (mem_5)) w1)
  have H3 := hid (fun w1 => find_at (kd := (6)) (nm := (2)) (k := 6) (n := 2) (a := 7808) (s := 1024) (findP_some (mem_6 (n := 2) (by omega) (by omega))) w1)
  have H4 := hid (fun w1 => find_at (kd := (7)) (nm := (128)) (k := 7) (n := 128) (a := 23104) (s := 64) (findP_some (mem_7 (n := 128) (by omega) (by omega))) w1)
  have H5 := hid (fun w1 => of_no (at_ := 23168) (by unfold wfI; omega) ofP_end w1)
  go_enter Try.func9, Try.ntmps9
  go_wp2_with fail
  refine (H0.out _).mono ?_
  rintro e w0 ⟨rfl, b0⟩
  have HB0 := hid (b0)
  clear b0
  go_wp2_with fail
  have HU0 : Hid (Below w.heap.size w (w0.alloc (.cells #[.int .i64 2, .int .i64 1, .int .i64 64, .int .i64 64] 23))) := HB0.out.alloc HB0.out.size _
  have K0_0u : Hid (Blk (w0.alloc (.cells #[.int .i64 2, .int .i64 1, .int .i64 64, .int .i64 64] 23)) w0.heap.size 23 [.int .i64 2, .int .i64 1, .int .i64 64, .int .i64 64]) := heap_alloc_new w0 _
  refine (H1.out _).mono ?_
  rintro e w1 ⟨rfl, b1⟩
  have HB1 := hid (kept_trans HU0.out b1)
  have K0_1 := hid (K0_0u.out.mono b1)
  clear b1
  go_wp2_with fail
  have HU1 : Hid (Below w.heap.size w (w1.alloc (.cells #[.int .i64 4, .int .i64 1, .int .i64 640, .int .i64 64] 23))) := HB1.out.alloc HB1.out.size _
  have K0_1u : Hid (Blk (w1.alloc (.cells #[.int .i64 4, .int .i64 1, .int .i64 640, .int .i64 64] 23)) w0.heap.size 23 [.int .i64 2, .int .i64 1, .int .i64 64, .int .i64 64]) := K0_1.out.mono ((Below.refl _ _).alloc (Nat.le_refl _) _)
  have K1_1u : Hid (Blk (w1.alloc (.cells #[.int .i64 4, .int .i64 1, .int .i64 640, .int .i64 64] 23)) w1.heap.size 23 [.int .i64 4, .int .i64 1, .int .i64 640, .int .i64 64]) := heap_alloc_new w1 _
  refine (H2.out _).mono ?_
  rintro e w2 ⟨rfl, b2⟩
  have HB2 := hid (kept_trans HU1.out b2)
  have K0_2 := hid (K0_1u.out.mono b2)
  have K1_2 := hid (K1_1u.out.mono b2)
  clear b2
  go_wp2_with fail
  have HU2 : Hid (Below w.heap.size w (w2.alloc (.cells #[.int .i64 5, .int .i64 0, .int .i64 2688, .int .i64 4096] 23))) := HB2.out.alloc HB2.out.size _
  have K0_2u : Hid (Blk (w2.alloc (.cells #[.int .i64 5, .int .i64 0, .int .i64 2688, .int .i64 4096] 23)) w0.heap.size 23 [.int .i64 2, .int .i64 1, .int .i64 64, .int .i64 64]) := K0_2.out.mono ((Below.refl _ _).alloc (Nat.le_refl _) _)
  have K1_2u : Hid (Blk (w2.alloc (.cells #[.int .i64 5, .int .i64 0, .int .i64 2688, .int .i64 4096] 23)) w1.heap.size 23 [.int .i64 4, .int .i64 1, .int .i64 640, .int .i64 64]) := K1_2.out.mono ((Below.refl _ _).alloc (Nat.le_refl _) _)
  have K2_2u : Hid (Blk (w2.alloc (.cells #[.int .i64 5, .int .i64 0, .int .i64 2688, .int .i64 4096] 23)) w2.heap.size 23 [.int .i64 5, .int .i64 0, .int .i64 2688, .int .i64 4096]) := heap_alloc_new w2 _
  refine (H3.out _).mono ?_
  rintro e w3 ⟨rfl, b3⟩
  have HB3 := hid (kept_trans HU2.out b3)
  have K0_3 := hid (K0_2u.out.mono b3)
  have K1_3 := hid (K1_2u.out.mono b3)
  have K2_3 := hid (K2_2u.out.mono b3)
  clear b3
  go_wp2_with fail
  have HU3 : Hid (Below w.heap.size w (w3.alloc (.cells #[.int .i64 6, .int .i64 2, .int .i64 7808, .int .i64 1024] 23))) := HB3.out.alloc HB3.out.size _
  have K0_3u : Hid (Blk (w3.alloc (.cells #[.int .i64 6, .int .i64 2, .int .i64 7808, .int .i64 1024] 23)) w0.heap.size 23 [.int .i64 2, .int .i64 1, .int .i64 64, .int .i64 64]) := K0_3.out.mono ((Below.refl _ _).alloc (Nat.le_refl _) _)
  have K1_3u : Hid (Blk (w3.alloc (.cells #[.int .i64 6, .int .i64 2, .int .i64 7808, .int .i64 1024] 23)) w1.heap.size 23 [.int .i64 4, .int .i64 1, .int .i64 640, .int .i64 64]) := K1_3.out.mono ((Below.refl _ _).alloc (Nat.le_refl _) _)
  have K2_3u : Hid (Blk (w3.alloc (.cells #[.int .i64 6, .int .i64 2, .int .i64 7808, .int .i64 1024] 23)) w2.heap.size 23 [.int .i64 5, .int .i64 0, .int .i64 2688, .int .i64 4096]) := K2_3.out.mono ((Below.refl _ _).alloc (Nat.le_refl _) _)
  have K3_3u : Hid (Blk (w3.alloc (.cells #[.int .i64 6, .int .i64 2, .int .i64 7808, .int .i64 1024] 23)) w3.heap.size 23 [.int .i64 6, .int .i64 2, .int .i64 7808, .int .i64 1024]) := heap_alloc_new w3 _
  refine (H4.out _).mono ?_
  rintro e w4 ⟨rfl, b4⟩
  have HB4 := hid (kept_trans HU3.out b4)
  have K0_4 := hid (K0_3u.out.mono b4)
  have K1_4 := hid (K1_3u.out.mono b4)
  have K2_4 := hid (K2_3u.out.mono b4)
  have K3_4 := hid (K3_3u.out.mono b4)
  clear b4
  go_wp2_with fail
  have HU4 : Hid (Below w.heap.size w (w4.alloc (.cells #[.int .i64 7, .int .i64 128, .int .i64 23104, .int .i64 64] 23))) := HB4.out.alloc HB4.out.size _
  have K0_4u : Hid (Blk (w4.alloc (.cells #[.int .i64 7, .int .i64 128, .int .i64 23104, .int .i64 64] 23)) w0.heap.size 23 [.int .i64 2, .int .i64 1, .int .i64 64, .int .i64 64]) := K0_4.out.mono ((Below.refl _ _).alloc (Nat.le_refl _) _)
  have K1_4u : Hid (Blk (w4.alloc (.cells #[.int .i64 7, .int .i64 128, .int .i64 23104, .int .i64 64] 23)) w1.heap.size 23 [.int .i64 4, .int .i64 1, .int .i64 640, .int .i64 64]) := K1_4.out.mono ((Below.refl _ _).alloc (Nat.le_refl _) _)
  have K2_4u : Hid (Blk (w4.alloc (.cells #[.int .i64 7, .int .i64 128, .int .i64 23104, .int .i64 64] 23)) w2.heap.size 23 [.int .i64 5, .int .i64 0, .int .i64 2688, .int .i64 4096]) := K2_4.out.mono ((Below.refl _ _).alloc (Nat.le_refl _) _)
  have K3_4u : Hid (Blk (w4.alloc (.cells #[.int .i64 7, .int .i64 128, .int .i64 23104, .int .i64 64] 23)) w3.heap.size 23 [.int .i64 6, .int .i64 2, .int .i64 7808, .int .i64 1024]) := K3_4.out.mono ((Below.refl _ _).alloc (Nat.le_refl _) _)
  have K4_4u : Hid (Blk (w4.alloc (.cells #[.int .i64 7, .int .i64 128, .int .i64 23104, .int .i64 64] 23)) w4.heap.size 23 [.int .i64 7, .int .i64 128, .int .i64 23104, .int .i64 64]) := heap_alloc_new w4 _
  refine (H5.out _).mono ?_
  rintro e w5 ⟨rfl, b5⟩
  have HB5 := hid (kept_trans HU4.out b5)
  have K0_5 := hid (K0_4u.out.mono b5)
  have K1_5 := hid (K1_4u.out.mono b5)
  have K2_5 := hid (K2_4u.out.mono b5)
  have K3_5 := hid (K3_4u.out.mono b5)
  have K4_5 := hid (K4_4u.out.mono b5)
  clear b5
  have HU5 : Hid (Below w.heap.size w (w5.alloc (.cells #[.int .i64 0, .int .i64 0, .int .i64 0, .int .i64 0] 23))) := HB5.out.alloc HB5.out.size _
  have K0_5u : Hid (Blk (w5.alloc (.cells #[.int .i64 0, .int .i64 0, .int .i64 0, .int .i64 0] 23)) w0.heap.size 23 [.int .i64 2, .int .i64 1, .int .i64 64, .int .i64 64]) := K0_5.out.mono ((Below.refl _ _).alloc (Nat.le_refl _) _)
  have K1_5u : Hid (Blk (w5.alloc (.cells #[.int .i64 0, .int .i64 0, .int .i64 0, .int .i64 0] 23)) w1.heap.size 23 [.int .i64 4, .int .i64 1, .int .i64 640, .int .i64 64]) := K1_5.out.mono ((Below.refl _ _).alloc (Nat.le_refl _) _)
  have K2_5u : Hid (Blk (w5.alloc (.cells #[.int .i64 0, .int .i64 0, .int .i64 0, .int .i64 0] 23)) w2.heap.size 23 [.int .i64 5, .int .i64 0, .int .i64 2688, .int .i64 4096]) := K2_5.out.mono ((Below.refl _ _).alloc (Nat.le_refl _) _)
  have K3_5u : Hid (Blk (w5.alloc (.cells #[.int .i64 0, .int .i64 0, .int .i64 0, .int .i64 0] 23)) w3.heap.size 23 [.int .i64 6, .int .i64 2, .int .i64 7808, .int .i64 1024]) := K3_5.out.mono ((Below.refl _ _).alloc (Nat.le_refl _) _)
  have K4_5u : Hid (Blk (w5.alloc (.cells #[.int .i64 0, .int .i64 0, .int .i64 0, .int .i64 0] 23)) w4.heap.size 23 [.int .i64 7, .int .i64 128, .int .i64 23104, .int .i64 64]) := K4_5.out.mono ((Below.refl _ _).alloc (Nat.le_refl _) _)
  have K5_5u : Hid (Blk (w5.alloc (.cells #[.int .i64 0, .int .i64 0, .int .i64 0, .int .i64 0] 23)) w5.heap.size 23 [.int .i64 0, .int .i64 0, .int .i64 0, .int .i64 0]) := heap_alloc_new w5 _
  have z0 : (w5.alloc (.cells #[.int .i64 0, .int .i64 0, .int .i64 0, .int .i64 0] 23)).cell? ⟨w0.heap.size, 2, none⟩ = some (.int .i64 64) := K0_5u.out.cell (i := 2) (by simp)
  have z1 : (w5.alloc (.cells #[.int .i64 0, .int .i64 0, .int .i64 0, .int .i64 0] 23)).cell? ⟨w1.heap.size, 2, none⟩ = some (.int .i64 640) := K1_5u.out.cell (i := 2) (by simp)
  have z2 : (w5.alloc (.cells #[.int .i64 0, .int .i64 0, .int .i64 0, .int .i64 0] 23)).cell? ⟨w2.heap.size, 2, none⟩ = some (.int .i64 2688) := K2_5u.out.cell (i := 2) (by simp)
  have z3 : (w5.alloc (.cells #[.int .i64 0, .int .i64 0, .int .i64 0, .int .i64 0] 23)).cell? ⟨w3.heap.size, 2, none⟩ = some (.int .i64 7808) := K3_5u.out.cell (i := 2) (by simp)
  have z4 : (w5.alloc (.cells #[.int .i64 0, .int .i64 0, .int .i64 0, .int .i64 0] 23)).cell? ⟨w4.heap.size, 2, none⟩ = some (.int .i64 23104) := K4_5u.out.cell (i := 2) (by simp)
  go_wp2_with (go_at_call 13; refine (size_any _).mono ?_; rintro e w9 ⟨rfl, b9⟩; have HB9 := hid (kept_trans HU5.out b9); clear b9)
  go_ret
  exact ⟨rfl, HB9.out⟩

end Go.Proofs.Ytikakpdbokcbnaa
