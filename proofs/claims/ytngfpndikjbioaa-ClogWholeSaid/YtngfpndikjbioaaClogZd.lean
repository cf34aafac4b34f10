import Derived.Test.YtngfpndikjbioaaClogZc
namespace Go.Proofs.Ytngfpndikjbioaa
open Go.RowKit Go.WideShapes
set_option linter.unusedSimpArgs false
set_option linter.unusedVariables false

set_option maxHeartbeats 8000000 in
set_option maxRecDepth 100000 in
theorem refdec_abs (a : Option Addr) (c : Nat) (xs : List UInt8) (w : World) (ha : RowB w a c xs) (z C cr A b8 b9 b10 b11 : Nat) (ok may : Bool) (s : ByteArray) (ans : Value)
    (hl : xs.length < 9223372036854775808) (hz : z ≤ 255) (hAA : 17 + z + (8 - (17 + z) % 8) % 8 = A) (h1 : 17 + z ≤ xs.length)
    (e12 : bAt xs 12 = z) (e8 : bAt xs 8 = b8) (e9 : bAt xs 9 = b9) (e10 : bAt xs 10 = b10) (e11 : bAt xs 11 = b11) (l8 : b8 < 256) (l9 : b9 < 256) (l10 : b10 < 256) (l11 : b11 < 256)
    (G13 : ∀ w1, RowB w1 a c xs → Calls Try.prog 34 #[.slice a xs.length c, .int .i64 (13 + (z : Int)), .int .i64 4] w1 fun e w' => e = .returned (.tuple #[.int .i64 (cr : Nat), .bool true]) ∧ w1 = w')
    (HSum : ∀ w1, RowB w1 a c (xs.take (13 + z)) → Calls Try.prog 31 #[.slice a (13 + z) c] w1 fun e w' => e = .returned (.int .i64 (cr : Nat)) ∧ w1 = w')
    (G0 : ∀ w1, RowB w1 a c xs → Calls Try.prog 34 #[.slice a xs.length c, .int .i64 0, .int .i64 8] w1 fun e w' => e = .returned (.tuple #[.int .i64 (C : Nat), .bool ok]) ∧ w1 = w')
    (HMay : ∀ w1, Calls Try.prog 29 #[.agg #[.int .i64 (C : Nat), .int .i64 (b8 : Nat), .bool ((b9 : Int) == 1), .int .i64 ((b10 : Int) + 256 * (b11 : Int)), .string s]] w1 fun en w' => en = .returned (.bool may) ∧ Below w1.heap.size w1 w')
    (hs : (⟨((xs.drop 13).take z).toArray⟩ : ByteArray) = s)
    (hbad : (ok = false ∨ may = false ∨ 1 < b9 ∨ xs.length < A ∨ ∃ j, 17 + z ≤ j ∧ j < A ∧ bAt xs j ≠ 0) → ans = .tuple #[.agg #[.int .i64 0, .int .i64 0, .bool false, .int .i64 0, .string ⟨#[]⟩], .int .i64 0, .int .i64 2])
    (hgood : ok = true → may = true → ¬ 1 < b9 → ¬ xs.length < A → (∀ j, 17 + z ≤ j → j < A → bAt xs j = 0) → ans = .tuple #[.agg #[(.int .i64 (C : Nat)), (.int .i64 (b8 : Nat)), (.bool ((b9 : Int) == 1)), (.int .i64 ((b10 : Nat) + 256 * (b11 : Nat) : Int)), (.string s)], .int .i64 (A : Nat), .int .i64 0]) :
    Calls Try.prog 15 #[.slice a xs.length c] w fun e w' => e = .returned ans ∧ Below w.heap.size w w' := by
  have hcap : xs.length ≤ c := ha.2.1
  have hbad := hid hbad; have hgood := hid hgood
  have K1 : Blk (w.alloc (.cells #[.int .i64 0, .int .i64 0, .bool false, .int .i64 0, .string ⟨#[]⟩] 23)) w.heap.size 23 [.int .i64 0, .int .i64 0, .bool false, .int .i64 0, .string ⟨#[]⟩] := heap_alloc_new w _
  have B0 : Below w.heap.size w (w.alloc (.cells #[.int .i64 0, .int .i64 0, .bool false, .int .i64 0, .string ⟨#[]⟩] 23)) := (Below.refl _ w).alloc (Nat.le_refl _) _
  have HR := hid (fun (w1 : World) (hb : Below w.heap.size w w1) => Row.mono ha hb)
  have HX := hid (fun (w1 : World) (hb : Below w.heap.size w w1) => Row.mono (rowB_take ha (13 + z)) hb)
  have r0 := Row.mono ha B0
  obtain ⟨b, off, rfl, hb, hcell⟩ := ha.bytes (by omega)
  have hcw := fun j (hj : j < xs.length) => (B0.cell (p := ⟨b, off + j, none⟩) hb).trans (hcell j hj)
  have c12 := hcw 12 (by omega)
  have C8 := hcell 8 (by omega); have C9 := hcell 9 (by omega); have C10 := hcell 10 (by omega); have C11 := hcell 11 (by omega)
  rw [e12] at c12; rw [e8] at C8; rw [e9] at C9; rw [e10] at C10; rw [e11] at C11
  have C8 := hid C8; have C9 := hid C9; have C10 := hid C10; have C11 := hid C11
  clear e8 e9 e10 e11 e12
  have d1 : decide ((xs.length : Int) < 13) = false := decide_eq_false (by omega)
  have d1' : decide (xs.length < 13) = false := decide_eq_false (by omega)
  have i12 : (12 : Int) < (xs.length : Int) := by omega
  have G13 := hid G13; have HSum := hid HSum; have G0 := hid G0; have HMay := hid HMay
  have hsub := fun (w1 : World) (r1 : RowB w1 (some ⟨b, off, none⟩) c xs) => rowB_sub r1 13 z (by omega)
  have hstr : ∀ w1, RowB w1 (some ⟨b, off, none⟩) c xs → (convert 25 9 (.slice (some ⟨b, off + 13, none⟩) z (c - 13))).run Try.prog w1 = .ok (.string s) w1 := fun w1 r1 => by
    have h := run_str (hsub w1 r1)
    have e1 : ((xs.drop 13).take z).length = z := by simp; omega
    rw [e1, hs] at h
    exact h
  have HStr := hid hstr
  clear hs
  have z0 : (w.alloc (.cells #[.int .i64 0, .int .i64 0, .bool false, .int .i64 0, .string ⟨#[]⟩] 23)).cell? ⟨w.heap.size, 0, none⟩ = some (.int .i64 0) := Blk.cell K1 (i := 0) (by simp)
  have zf0 : (w.alloc (.cells #[.int .i64 0, .int .i64 0, .bool false, .int .i64 0, .string ⟨#[]⟩] 23)).frozen? ⟨w.heap.size, 0, none⟩ = false := Blk.frozen K1 0
  have z1 : (w.alloc (.cells #[.int .i64 0, .int .i64 0, .bool false, .int .i64 0, .string ⟨#[]⟩] 23)).cell? ⟨w.heap.size, 1, none⟩ = some (.int .i64 0) := Blk.cell K1 (i := 1) (by simp)
  have zf1 : (w.alloc (.cells #[.int .i64 0, .int .i64 0, .bool false, .int .i64 0, .string ⟨#[]⟩] 23)).frozen? ⟨w.heap.size, 1, none⟩ = false := Blk.frozen K1 1
  have z2 : (w.alloc (.cells #[.int .i64 0, .int .i64 0, .bool false, .int .i64 0, .string ⟨#[]⟩] 23)).cell? ⟨w.heap.size, 2, none⟩ = some (.bool false) := Blk.cell K1 (i := 2) (by simp)
  have zf2 : (w.alloc (.cells #[.int .i64 0, .int .i64 0, .bool false, .int .i64 0, .string ⟨#[]⟩] 23)).frozen? ⟨w.heap.size, 2, none⟩ = false := Blk.frozen K1 2
  have z3 : (w.alloc (.cells #[.int .i64 0, .int .i64 0, .bool false, .int .i64 0, .string ⟨#[]⟩] 23)).cell? ⟨w.heap.size, 3, none⟩ = some (.int .i64 0) := Blk.cell K1 (i := 3) (by simp)
  have zf3 : (w.alloc (.cells #[.int .i64 0, .int .i64 0, .bool false, .int .i64 0, .string ⟨#[]⟩] 23)).frozen? ⟨w.heap.size, 3, none⟩ = false := Blk.frozen K1 3
  have z4 : (w.alloc (.cells #[.int .i64 0, .int .i64 0, .bool false, .int .i64 0, .string ⟨#[]⟩] 23)).cell? ⟨w.heap.size, 4, none⟩ = some (.string ⟨#[]⟩) := Blk.cell K1 (i := 4) (by simp)
  have zf4 : (w.alloc (.cells #[.int .i64 0, .int .i64 0, .bool false, .int .i64 0, .string ⟨#[]⟩] 23)).frozen? ⟨w.heap.size, 4, none⟩ = false := Blk.frozen K1 4
  have HR0 := hid (HR.out _ B0); have HX0 := hid (HX.out _ B0)
  have ez : IntKind.i64.wrap (z : Int) = z := IntWalk.i64_in _ (by omega)
  have ez2 : IntKind.i64.wrap (17 + (z : Int)) = 17 + z := IntWalk.i64_in _ (by omega)
  have ez3 : IntKind.i64.wrap (13 + (z : Int)) = 13 + z := IntWalk.i64_in _ (by omega)
  have d2 : decide ((xs.length : Int) < 17 + (z : Int)) = false := decide_eq_false (by omega)
  have g3 : 0 ≤ (13 : Int) + (z : Int) := by omega
  have g2 : (13 : Int) + (z : Int) ≤ (c : Int) := by omega
  have g4 : (13 : Int) ≤ (13 : Int) + (z : Int) := by omega
  have g5 : ((13 : Int) + (z : Int)).toNat = 13 + z := by omega
  have hC13 : ¬ c = 13 := by omega
  have KS0 : Blk ((w.alloc (.cells #[.int .i64 0, .int .i64 0, .bool false, .int .i64 0, .string ⟨#[]⟩] 23)).alloc (.cells #[.int .i64 0, .int .i64 0, .bool false, .int .i64 0, .string ⟨#[]⟩] 23)) (w.heap.size + 1) 23 [.int .i64 0, .int .i64 0, .bool false, .int .i64 0, .string ⟨#[]⟩] := blk2 w _ _
  have K00 : Blk ((w.alloc (.cells #[.int .i64 0, .int .i64 0, .bool false, .int .i64 0, .string ⟨#[]⟩] 23)).alloc (.cells #[.int .i64 0, .int .i64 0, .bool false, .int .i64 0, .string ⟨#[]⟩] 23)) w.heap.size 23 [.int .i64 0, .int .i64 0, .bool false, .int .i64 0, .string ⟨#[]⟩] := K1.mono ((Below.refl _ _).alloc (Nat.le_refl _) _)
  have B00 : Below w.heap.size w ((w.alloc (.cells #[.int .i64 0, .int .i64 0, .bool false, .int .i64 0, .string ⟨#[]⟩] 23)).alloc (.cells #[.int .i64 0, .int .i64 0, .bool false, .int .i64 0, .string ⟨#[]⟩] 23)) := B0.alloc (by simp) _
  have HKS := hid KS0; have HK0 := hid K00; have HBB := hid B00
  have HCell := hid hcell
  have HAA := hid hAA
  clear hAA hcw hcell K1 B0 KS0 K00 B00 hsub hstr r0 ha HX
  go_enter Try.func15, Try.ntmps15
  go_wp2_with (first
    | (go_at_call_of 34 (Value.int IntKind.i64 4); refine (G13.out _ HR0.out).mono ?_; rintro e w4 ⟨rfl, rfl⟩)
    | (go_at_call 31; refine (HSum.out _ HX0.out).mono ?_; rintro e w4 ⟨rfl, rfl⟩))
  have KS := HKS.out; have K0 := HK0.out; have B6 := HBB.out
  clear HKS HK0 HBB HR0 HX0 G13 HSum c12
  generalize World.alloc (World.alloc _ _) _ = w6 at *
  refine (G0.out w6 (HR.out w6 B6)).mono ?_
  rintro e w6' ⟨rfl, rfl⟩
  have c8 := (B6.cell (p := ⟨b, off + 8, none⟩) hb).trans C8.out
  have c9 := (B6.cell (p := ⟨b, off + 9, none⟩) hb).trans C9.out
  have hbS0 : b ≠ w.heap.size + 1 := by omega
  have i8 : (8 : Int) < (xs.length : Int) := by omega
  have i9 : (9 : Int) < (xs.length : Int) := by omega
  have i10 : (10 : Int) < (xs.length : Int) := by omega
  have i11 : (11 : Int) < (xs.length : Int) := by omega
  have e8 : IntKind.i64.wrap (b8 : Int) = b8 := IntWalk.i64_in _ (by omega)
  have k0 : w6.cell? ⟨w.heap.size + 1, 0, none⟩ = some (.int .i64 0) := Blk.cell KS (i := 0) (by simp)
  have kf0 : w6.frozen? ⟨w.heap.size + 1, 0, none⟩ = false := Blk.frozen KS 0
  have k1 : w6.cell? ⟨w.heap.size + 1, 1, none⟩ = some (.int .i64 0) := Blk.cell KS (i := 1) (by simp)
  have kf1 : w6.frozen? ⟨w.heap.size + 1, 1, none⟩ = false := Blk.frozen KS 1
  have k2 : w6.cell? ⟨w.heap.size + 1, 2, none⟩ = some (.bool false) := Blk.cell KS (i := 2) (by simp)
  have kf2 : w6.frozen? ⟨w.heap.size + 1, 2, none⟩ = false := Blk.frozen KS 2
  have k3 : w6.cell? ⟨w.heap.size + 1, 3, none⟩ = some (.int .i64 0) := Blk.cell KS (i := 3) (by simp)
  have kf3 : w6.frozen? ⟨w.heap.size + 1, 3, none⟩ = false := Blk.frozen KS 3
  have k4 : w6.cell? ⟨w.heap.size + 1, 4, none⟩ = some (.string ⟨#[]⟩) := Blk.cell KS (i := 4) (by simp)
  have kf4 : w6.frozen? ⟨w.heap.size + 1, 4, none⟩ = false := Blk.frozen KS 4
  have HKS := hid (((KS.set 0 (.int .i64 (C : Nat))).set 1 (.int .i64 (b8 : Nat))).set 2 (.bool ((b9 : Int) == 1)))
  have HK0 := hid (((K0.setOtherX (show w.heap.size ≠ w.heap.size + 1 by omega) 0 (.int .i64 (C : Nat))).setOtherX (show w.heap.size ≠ w.heap.size + 1 by omega) 1 (.int .i64 (b8 : Nat))).setOtherX (show w.heap.size ≠ w.heap.size + 1 by omega) 2 (.bool ((b9 : Int) == 1)))
  have HBB := hid (((B6.setCell (p := ⟨w.heap.size + 1, 0, none⟩) (by show w.heap.size ≤ w.heap.size + 1; omega) (.int .i64 (C : Nat))).setCell (p := ⟨w.heap.size + 1, 1, none⟩) (by show w.heap.size ≤ w.heap.size + 1; omega) (.int .i64 (b8 : Nat))).setCell (p := ⟨w.heap.size + 1, 2, none⟩) (by show w.heap.size ≤ w.heap.size + 1; omega) (.bool ((b9 : Int) == 1)))
  clear KS K0 B6
  go_wp2_with fail
  have KS := HKS.out; have K0 := HK0.out; have B7 := HBB.out
  clear HKS HK0 HBB c8 c9 k0 kf0 k1 kf1 k2 kf2 k3 kf3 k4 kf4
  generalize World.setCell (World.setCell (World.setCell _ _ _) _ _) _ _ = w7 at *
  have KS : Blk w7 (w.heap.size + 1) 23 [(.int .i64 (C : Nat)), (.int .i64 (b8 : Nat)), (.bool ((b9 : Int) == 1)), .int .i64 0, .string ⟨#[]⟩] := KS
  have c10 := (B7.cell (p := ⟨b, off + 10, none⟩) hb).trans C10.out
  have c11 := (B7.cell (p := ⟨b, off + 11, none⟩) hb).trans C11.out
  have k3 : w7.cell? ⟨w.heap.size + 1, 3, none⟩ = some (.int .i64 0) := Blk.cell KS (i := 3) (by simp)
  have kf3 : w7.frozen? ⟨w.heap.size + 1, 3, none⟩ = false := Blk.frozen KS 3
  have hbS : b < w.heap.size + 1 := by omega
  have e10 : IntKind.i64.wrap (b10 : Int) = b10 := IntWalk.i64_in _ (by omega)
  have e11 : IntKind.i64.wrap (b11 : Int) = b11 := IntWalk.i64_in _ (by omega)
  have e12 : IntKind.i64.wrap (256 * (b11 : Int)) = 256 * (b11 : Int) := IntWalk.i64_in _ (by omega)
  have e13 : IntKind.i64.wrap ((b10 : Int) + 256 * (b11 : Int)) = (b10 : Int) + 256 * (b11 : Int) := IntWalk.i64_in _ (by omega)
  have hS0 : w7.drew.cell? ⟨b, off + 10, none⟩ = some (.int .u8 (b10 : Nat)) ∧ w7.drew.cell? ⟨b, off + 11, none⟩ = some (.int .u8 (b11 : Nat)) := ⟨c10, c11⟩
  refine wp_region_held_drew (S := fun w' => w'.cell? ⟨b, off + 10, none⟩ = some (.int .u8 (b10 : Nat)) ∧ w'.cell? ⟨b, off + 11, none⟩ = some (.int .u8 (b11 : Nat))) (by kernel_rfl) hS0 (fun hS_0 => ?_)
  refine takeR (i := 0) (v := .slice (some ⟨b, off, none⟩) xs.length c) rfl rfl (by kernel_rfl) (by kernel_rfl) (by kernel_rfl) (fun _ _ _ h => h) (Or.inl ⟨Eq.refl true, fun w1 hSw => ?_⟩) hS_0 ?_
  · first | rfl | (clear hSw; go_simp; done) | (clear hSw; go_simp; rfl)
  (try simp only [Act.put, List.setIfInBounds_toArray, List.set_cons_zero, List.set_cons_succ])
  refine takeR (i := 1) (v := .pointer (some ⟨b, off + 10, none⟩)) rfl rfl (by kernel_rfl) (by kernel_rfl) (by kernel_rfl) (fun _ _ _ h => h) (Or.inl ⟨Eq.refl true, fun w1 hSw => ?_⟩) hS_0 ?_
  · first | rfl | (clear hSw; go_simp; done) | (clear hSw; go_simp; rfl)
  (try simp only [Act.put, List.setIfInBounds_toArray, List.set_cons_zero, List.set_cons_succ])
  refine takeR (i := 2) (v := .int .u8 (b10 : Nat)) rfl rfl (by kernel_rfl) (by kernel_rfl) (by kernel_rfl) (fun _ _ _ h => h) (Or.inl ⟨Eq.refl true, fun w1 hSw => ?_⟩) hS_0 ?_
  · (obtain ⟨q1, q2⟩ := hSw; go_simp; try rfl)
  (try simp only [Act.put, List.setIfInBounds_toArray, List.set_cons_zero, List.set_cons_succ])
  refine takeR (i := 3) (v := .int .i64 (b10 : Nat)) rfl rfl (by kernel_rfl) (by kernel_rfl) (by kernel_rfl) (fun _ _ _ h => h) (Or.inl ⟨Eq.refl true, fun w1 hSw => ?_⟩) hS_0 ?_
  · first | rfl | (clear hSw; go_simp; done) | (clear hSw; go_simp; rfl)
  (try simp only [Act.put, List.setIfInBounds_toArray, List.set_cons_zero, List.set_cons_succ])
  refine takeR (i := 4) (v := .slice (some ⟨b, off, none⟩) xs.length c) rfl rfl (by kernel_rfl) (by kernel_rfl) (by kernel_rfl) (fun _ _ _ h => h) (Or.inl ⟨Eq.refl true, fun w1 hSw => ?_⟩) hS_0 ?_
  · first | rfl | (clear hSw; go_simp; done) | (clear hSw; go_simp; rfl)
  (try simp only [Act.put, List.setIfInBounds_toArray, List.set_cons_zero, List.set_cons_succ])
  refine takeR (i := 5) (v := .pointer (some ⟨b, off + 11, none⟩)) rfl rfl (by kernel_rfl) (by kernel_rfl) (by kernel_rfl) (fun _ _ _ h => h) (Or.inl ⟨Eq.refl true, fun w1 hSw => ?_⟩) hS_0 ?_
  · first | rfl | (clear hSw; go_simp; done) | (clear hSw; go_simp; rfl)
  (try simp only [Act.put, List.setIfInBounds_toArray, List.set_cons_zero, List.set_cons_succ])
  refine takeR (i := 6) (v := .int .u8 (b11 : Nat)) rfl rfl (by kernel_rfl) (by kernel_rfl) (by kernel_rfl) (fun _ _ _ h => h) (Or.inl ⟨Eq.refl true, fun w1 hSw => ?_⟩) hS_0 ?_
  · (obtain ⟨q1, q2⟩ := hSw; go_simp; try rfl)
  (try simp only [Act.put, List.setIfInBounds_toArray, List.set_cons_zero, List.set_cons_succ])
  refine takeR (i := 7) (v := .int .i64 (b11 : Nat)) rfl rfl (by kernel_rfl) (by kernel_rfl) (by kernel_rfl) (fun _ _ _ h => h) (Or.inl ⟨Eq.refl true, fun w1 hSw => ?_⟩) hS_0 ?_
  · first | rfl | (clear hSw; go_simp; done) | (clear hSw; go_simp; rfl)
  (try simp only [Act.put, List.setIfInBounds_toArray, List.set_cons_zero, List.set_cons_succ])
  refine takeR (i := 8) (v := .int .i64 (256 * (b11 : Nat))) rfl rfl (by kernel_rfl) (by kernel_rfl) (by kernel_rfl) (fun _ _ _ h => h) (Or.inl ⟨Eq.refl true, fun w1 hSw => ?_⟩) hS_0 ?_
  · first | rfl | (clear hSw; go_simp; done) | (clear hSw; go_simp; rfl)
  (try simp only [Act.put, List.setIfInBounds_toArray, List.set_cons_zero, List.set_cons_succ])
  refine takeR (i := 9) (v := .int .i64 ((b10 : Nat) + 256 * (b11 : Nat))) rfl rfl (by kernel_rfl) (by kernel_rfl) (by kernel_rfl) (fun _ _ _ h => h) (Or.inl ⟨Eq.refl true, fun w1 hSw => ?_⟩) hS_0 ?_
  · first | rfl | (clear hSw; go_simp; done) | (clear hSw; go_simp; rfl)
  (try simp only [Act.put, List.setIfInBounds_toArray, List.set_cons_zero, List.set_cons_succ])
  refine takeR (i := 10) (v := .pointer (some ⟨w.heap.size + 1, 3, none⟩)) rfl rfl (by kernel_rfl) (by kernel_rfl) (by kernel_rfl) (fun _ _ _ h => h) (Or.inl ⟨Eq.refl true, fun w1 hSw => ?_⟩) hS_0 ?_
  · first | rfl | (clear hSw; go_simp; done) | (clear hSw; go_simp; rfl)
  (try simp only [Act.put, List.setIfInBounds_toArray, List.set_cons_zero, List.set_cons_succ])
  refine wpAnyH_ready (rs := [11]) (by kernel_rfl) (by simp) (AllReadyH.cons rfl (fun K hK => ?_) AllReadyH.nil)
  go_simp
  refine hK.out _ _ ?_ (fun hS_1 => ?_)
  · exact ⟨(Below.cell ((Below.refl (w.heap.size + 1) w7).drew.setCell (Nat.le_refl _) _) (p := ⟨b, off + 10, none⟩) hbS).trans c10, (Below.cell ((Below.refl (w.heap.size + 1) w7).drew.setCell (Nat.le_refl _) _) (p := ⟨b, off + 11, none⟩) hbS).trans c11⟩
  clear hK K
  refine wpAnyH_done (by kernel_rfl) ?_ _
  have KS8 : Blk (w7.setCell ⟨w.heap.size + 1, 3, none⟩ (.int .i64 ((b10 : Nat) + 256 * (b11 : Nat) : Int))).drew (w.heap.size + 1) 23 [(.int .i64 (C : Nat)), (.int .i64 (b8 : Nat)), (.bool ((b9 : Int) == 1)), (.int .i64 ((b10 : Nat) + 256 * (b11 : Nat) : Int)), .string ⟨#[]⟩] := (KS.set 3 (.int .i64 ((b10 : Nat) + 256 * (b11 : Nat) : Int))).drew
  have K08 : Blk (w7.setCell ⟨w.heap.size + 1, 3, none⟩ (.int .i64 ((b10 : Nat) + 256 * (b11 : Nat) : Int))).drew w.heap.size 23 [.int .i64 0, .int .i64 0, .bool false, .int .i64 0, .string ⟨#[]⟩] := (K0.setOtherX (show w.heap.size ≠ w.heap.size + 1 by omega) 3 (.int .i64 ((b10 : Nat) + 256 * (b11 : Nat) : Int))).drew
  have B8 : Below w.heap.size w (w7.setCell ⟨w.heap.size + 1, 3, none⟩ (.int .i64 ((b10 : Nat) + 256 * (b11 : Nat) : Int))).drew := (B7.setCell (p := ⟨w.heap.size + 1, 3, none⟩) (by show w.heap.size ≤ w.heap.size + 1; omega) (.int .i64 ((b10 : Nat) + 256 * (b11 : Nat) : Int))).drew
  clear hS0 hS_0 hS_1 c10 c11 k3 kf3 KS K0 B7
  generalize (w7.setCell ⟨w.heap.size + 1, 3, none⟩ (.int .i64 ((b10 : Nat) + 256 * (b11 : Nat) : Int))).drew = w8 at *
  have hcv := HStr.out w8 (HR.out w8 B8)
  have k4 : w8.cell? ⟨w.heap.size + 1, 4, none⟩ = some (.string ⟨#[]⟩) := Blk.cell KS8 (i := 4) (by simp)
  have kf4 : w8.frozen? ⟨w.heap.size + 1, 4, none⟩ = false := Blk.frozen KS8 4
  have KS9 : Blk (w8.setCell ⟨w.heap.size + 1, 4, none⟩ (.string s)) (w.heap.size + 1) 23 [(.int .i64 (C : Nat)), (.int .i64 (b8 : Nat)), (.bool ((b9 : Int) == 1)), (.int .i64 ((b10 : Nat) + 256 * (b11 : Nat) : Int)), (.string s)] := KS8.set 4 (.string s)
  have m0 : (w8.setCell ⟨w.heap.size + 1, 4, none⟩ (.string s)).cell? ⟨w.heap.size + 1, 0, none⟩ = some ((.int .i64 (C : Nat))) := Blk.cell KS9 (i := 0) (by simp)
  have m1 : (w8.setCell ⟨w.heap.size + 1, 4, none⟩ (.string s)).cell? ⟨w.heap.size + 1, 1, none⟩ = some ((.int .i64 (b8 : Nat))) := Blk.cell KS9 (i := 1) (by simp)
  have m2 : (w8.setCell ⟨w.heap.size + 1, 4, none⟩ (.string s)).cell? ⟨w.heap.size + 1, 2, none⟩ = some ((.bool ((b9 : Int) == 1))) := Blk.cell KS9 (i := 2) (by simp)
  have m3 : (w8.setCell ⟨w.heap.size + 1, 4, none⟩ (.string s)).cell? ⟨w.heap.size + 1, 3, none⟩ = some ((.int .i64 ((b10 : Nat) + 256 * (b11 : Nat) : Int))) := Blk.cell KS9 (i := 3) (by simp)
  have m4 : (w8.setCell ⟨w.heap.size + 1, 4, none⟩ (.string s)).cell? ⟨w.heap.size + 1, 4, none⟩ = some ((.string s)) := Blk.cell KS9 (i := 4) (by simp)
  have HKS := hid KS9
  have HK0 := hid (K08.setOtherX (show w.heap.size ≠ w.heap.size + 1 by omega) 4 (.string s))
  have HBB := hid (B8.setCell (p := ⟨w.heap.size + 1, 4, none⟩) (by show w.heap.size ≤ w.heap.size + 1; omega) (.string s))
  clear KS8 K08 B8 KS9
  go_wp2_with fail
  have KS := HKS.out; have K0 := HK0.out; have B9 := HBB.out
  clear HKS HK0 HBB m0 m1 m2 m3 m4 k4 kf4 hcv
  generalize World.setCell _ _ _ = w9 at *
  refine (HMay.out w9).mono ?_
  rintro e w10 ⟨rfl, b10'⟩
  have KS10 := KS.mono b10'
  have K010 := K0.mono b10'
  have B10 := kept_trans B9 b10'
  have z0 : w10.cell? ⟨w.heap.size, 0, none⟩ = some (.int .i64 0) := Blk.cell K010 (i := 0) (by simp)
  have zf0 : w10.frozen? ⟨w.heap.size, 0, none⟩ = false := Blk.frozen K010 0
  have z1 : w10.cell? ⟨w.heap.size, 1, none⟩ = some (.int .i64 0) := Blk.cell K010 (i := 1) (by simp)
  have zf1 : w10.frozen? ⟨w.heap.size, 1, none⟩ = false := Blk.frozen K010 1
  have z2 : w10.cell? ⟨w.heap.size, 2, none⟩ = some (.bool false) := Blk.cell K010 (i := 2) (by simp)
  have zf2 : w10.frozen? ⟨w.heap.size, 2, none⟩ = false := Blk.frozen K010 2
  have z3 : w10.cell? ⟨w.heap.size, 3, none⟩ = some (.int .i64 0) := Blk.cell K010 (i := 3) (by simp)
  have zf3 : w10.frozen? ⟨w.heap.size, 3, none⟩ = false := Blk.frozen K010 3
  have z4 : w10.cell? ⟨w.heap.size, 4, none⟩ = some (.string ⟨#[]⟩) := Blk.cell K010 (i := 4) (by simp)
  have zf4 : w10.frozen? ⟨w.heap.size, 4, none⟩ = false := Blk.frozen K010 4
  have p0 : w10.cell? ⟨w.heap.size + 1, 0, none⟩ = some ((.int .i64 (C : Nat))) := Blk.cell KS10 (i := 0) (by simp)
  have p1 : w10.cell? ⟨w.heap.size + 1, 1, none⟩ = some ((.int .i64 (b8 : Nat))) := Blk.cell KS10 (i := 1) (by simp)
  have p2 : w10.cell? ⟨w.heap.size + 1, 2, none⟩ = some ((.bool ((b9 : Int) == 1))) := Blk.cell KS10 (i := 2) (by simp)
  have p3 : w10.cell? ⟨w.heap.size + 1, 3, none⟩ = some ((.int .i64 ((b10 : Nat) + 256 * (b11 : Nat) : Int))) := Blk.cell KS10 (i := 3) (by simp)
  have p4 : w10.cell? ⟨w.heap.size + 1, 4, none⟩ = some ((.string s)) := Blk.cell KS10 (i := 4) (by simp)
  have HSetZ := hid (set5 K010 rfl (.int .i64 0) (.int .i64 0) (.bool false) (.int .i64 0) (.string ⟨#[]⟩))
  have HBelZ := hid (bel5 B10 (Nat.le_refl _) (.int .i64 0) (.int .i64 0) (.bool false) (.int .i64 0) (.string ⟨#[]⟩))
  have HSetR := hid (set5 K010 rfl (.int .i64 (C : Nat)) (.int .i64 (b8 : Nat)) (.bool ((b9 : Int) == 1)) (.int .i64 ((b10 : Nat) + 256 * (b11 : Nat) : Int)) (.string s))
  have HBelR := hid (bel5 B10 (Nat.le_refl _) (.int .i64 (C : Nat)) (.int .i64 (b8 : Nat)) (.bool ((b9 : Int) == 1)) (.int .i64 ((b10 : Nat) + 256 * (b11 : Nat) : Int)) (.string s))
  have HCell10 := hid (fun j (hj : j < xs.length) => (B10.cell (p := ⟨b, off + j, none⟩) hb).trans (HCell.out j hj))
  have c9 := (B10.cell (p := ⟨b, off + 9, none⟩) hb).trans C9.out
  clear KS K0 B9 b10' KS10 K010 B10 HCell HMay G0 HStr HR C8 C9 C10 C11
  go_wp2_with fail
  go_loopw [11] (fun i wr => ∃ k : Nat, k ≤ (8 - (17 + z) % 8) % 8 ∧ i = .int .i64 ((17 + z + k : Nat) : Int) ∧ wr = w10) (fun i _ => 17 + z + 8 - (intOf i).toNat)
  case atStart => exact ⟨0, by omega, by rw [show ((17 + z + 0 : Nat) : Int) = 17 + (z : Int) by omega], rfl⟩
  case round =>
  obtain ⟨k, hk, rfl, rfl⟩ := hrel
  by_cases hkp : k < (8 - (17 + z) % 8) % 8
  · generalize hn : 17 + z + k = n at *
    have etm : ((n : Nat) : Int).tmod 8 = ((n % 8 : Nat) : Int) := rfl
    have hne : (((n % 8 : Nat) : Int) != 0) = true := by simp; omega
    have hn300 : n ≤ 300 := by omega
    have ew : IntKind.i64.wrap ((n % 8 : Nat) : Int) = (n % 8 : Nat) := IntWalk.i64_in _ (by omega)
    have HN := hid hn
    clear hn
    generalize n % 8 = n8 at *
    go_wp2_with fail
    go_roundw
    case rel => exact ⟨k + 1, by omega, by rw [show ((17 + z + (k + 1) : Nat) : Int) = (n : Int) + 1 by have := HN.out; omega], by first | rfl | trivial⟩
    case measure => have := HN.out; simp [intOf]; omega
  · obtain rfl : k = (8 - (17 + z) % 8) % 8 := by omega
    rw [HAA.out]
    have hAA := HAA.out
    have hd8 : A % 8 = 0 := by omega
    have etm : ((A : Nat) : Int).tmod 8 = ((A % 8 : Nat) : Int) := rfl
    rw [hd8] at etm
    have hdz : 17 + z ≤ A := by omega
    have hd300 : A ≤ 300 := by omega
    clear hAA hd8 HAA hk hkp d2 g2 g3 g4 g5 e8 e10 e11 e12 e13 d1 d1' ez ez2 ez3
    cases ok
    · have HG := hid (hbad.out (.inl rfl))
      go_wp2_with fail
      refine bodyPost_ret (results_rec3 rfl rfl HSetZ.out rfl) rfl ⟨by first | rfl | (rw [HG.out]; rfl), HBelZ.out⟩
    · cases may
      · have HG := hid (hbad.out (.inr (.inl rfl)))
        go_wp2_with fail
        refine bodyPost_ret (results_rec3 rfl rfl HSetZ.out rfl) rfl ⟨by first | rfl | (rw [HG.out]; rfl), HBelZ.out⟩
      · by_cases h9 : 1 < b9
        · have HG := hid (hbad.out (.inr (.inr (.inl h9))))
          have d9 : decide ((1 : Int) < (b9 : Int)) = true := decide_eq_true (by omega)
          go_wp2_with fail
          refine bodyPost_ret (results_rec3 rfl rfl HSetZ.out rfl) rfl ⟨by first | rfl | (rw [HG.out]; rfl), HBelZ.out⟩
        · have d9 : decide ((1 : Int) < (b9 : Int)) = false := decide_eq_false (by omega)
          by_cases hAl : xs.length < A
          · have HG := hid (hbad.out (.inr (.inr (.inr (.inl hAl)))))
            have dA : decide ((xs.length : Int) < (A : Int)) = true := decide_eq_true (by omega)
            have dA' : decide (xs.length < A) = true := decide_eq_true hAl
            go_wp2_with fail
            refine bodyPost_ret (results_rec3 rfl rfl HSetZ.out rfl) rfl ⟨by first | rfl | (rw [HG.out]; rfl), HBelZ.out⟩
          · have dA : decide ((xs.length : Int) < (A : Int)) = false := decide_eq_false (by omega)
            have dA' : decide (xs.length < A) = false := decide_eq_false hAl
            obtain ⟨wo, hwo⟩ : ∃ x, x = wr := ⟨_, rfl⟩
            subst hwo
            go_wp2_with fail
            go_loopw [12] (fun i wr => ∃ j : Nat, 17 + z ≤ j ∧ j ≤ A ∧ i = .int .i64 j ∧ (∀ k, 17 + z ≤ k → k < j → bAt xs k = 0) ∧ wr = wo) (fun i _ => A - (intOf i).toNat)
            case atStart => exact ⟨17 + z, by omega, hdz, by rw [show ((17 + z : Nat) : Int) = 17 + (z : Int) by omega], fun k h1 h2 => absurd h2 (by omega), rfl⟩
            case round =>
            obtain ⟨j, hj1, hj2, rfl, hzz, rfl⟩ := hrel
            have HZZ := hid hzz
            clear hzz
            by_cases hjl : j < A
            · have cj := HCell10.out j (by omega)
              have hbj := bAt_lt xs j
              have dj : decide ((j : Int) < (A : Int)) = true := decide_eq_true (by omega)
              have dj' : decide (j < A) = true := decide_eq_true hjl
              have ij : (j : Int) < (xs.length : Int) := by omega
              have HG := hid (fun h : bAt xs j ≠ 0 => hbad.out (.inr (.inr (.inr (.inr ⟨j, hj1, hjl, h⟩)))))
              have HB0 := hid (fun (h : bAt xs j = 0) k (h1 : 17 + z ≤ k) (h2 : k < j + 1) => show bAt xs k = 0 by rcases Nat.lt_succ_iff_lt_or_eq.1 h2 with h3 | rfl; exact HZZ.out k h1 h3; exact h)
              generalize bAt xs j = bj at *
              by_cases hb0 : bj = 0
              · subst hb0
                go_wp2_with fail
                go_roundw
                case rel => exact ⟨j + 1, by omega, by omega, by go_num, HB0.out rfl, by first | rfl | trivial⟩
                case measure => simp [intOf]; omega
              · have hne : ((bj : Int) != 0) = true := by simp; omega
                have HG := hid (HG.out hb0)
                go_wp2_with fail
                refine bodyPost_ret (results_rec3 rfl rfl HSetZ.out rfl) rfl ⟨by first | rfl | (rw [HG.out]; rfl), HBelZ.out⟩
            · have dj : decide ((j : Int) < (A : Int)) = false := decide_eq_false (by omega)
              have dj' : decide (j < A) = false := decide_eq_false hjl
              have hzq : ∀ k, 17 + z ≤ k → k < A → bAt xs k = 0 := fun k h1 h2 => HZZ.out k h1 (by omega)
              have HG : Hid (ans = .tuple #[.agg #[(.int .i64 (C : Nat)), (.int .i64 (b8 : Nat)), (.bool ((b9 : Int) == 1)), (.int .i64 ((b10 : Nat) + 256 * (b11 : Nat) : Int)), (.string s)], .int .i64 (A : Nat), .int .i64 0]) := by
                have hg := hgood.out
                first | exact hg rfl rfl h9 hAl hzq | exact hg trivial trivial h9 hAl hzq | (simp only [true_implies, forall_const] at hg; exact hg h9 hAl hzq) | (trace_state; fail)
              clear hzq
              go_wp2_with fail
              refine bodyPost_ret (results_rec3 rfl rfl HSetR.out rfl) rfl ⟨by first | rfl | (rw [HG.out]; rfl), HBelR.out⟩

end Go.Proofs.Ytngfpndikjbioaa
