import Derived.Test.YtnmblbkbiehodaaInoP
import Derived.Test.YtnmblbkbiehodaaInoI
import Derived.Test.YtnmblbkbiehodaaInoH
import Derived.Test.YtnmblbkbiehodaaLibV
namespace Go.Proofs.Ytnmblbkbiehodaa
open Go.RowKit Go.WideShapes
set_option linter.unusedSimpArgs false
set_option linter.unusedVariables false

theorem infoIno : (Try.prog.info? 25).map (·.size) = some 15 := by kernel_rfl
set_option maxHeartbeats 4000000 in
set_option maxRecDepth 100000 in
theorem InodePuts_walk (w : World) (i : InoT) :
    Calls Try.prog 3 #[inoV i] w fun e w' => e = .returned (.bool true) ∧ Below w.heap.size w w' := by
  have HP := fun w1 => putIno_any i w1
  have HR := fun w1 => putInoRef_any i w1
  have HM := fun w1 => mayIno_any i w1
  have HN := fun w1 => mayInoRef_any i w1
  unfold PutA at HP HR
  have hPL : (putL i).length ≤ 64 := by unfold putL; split; split; simp; rw [putI_len]; omega; simp
  generalize putL i = P at *
  generalize putE i = E at *
  generalize mayI i = M at *
  obtain ⟨k, l, s, b0, b1, b2, b3, o0, o1, o2, o3, o4, o5, o6, o7⟩ := i
  unfold inoV inoC at *
  have HB : Hid (Below w.heap.size w (w.alloc (.cells #[.int .i64 k, .int .i64 l, .int .i64 s, .int .i64 b0, .int .i64 b1, .int .i64 b2, .int .i64 b3, .int .i64 o0, .int .i64 o1, .int .i64 o2, .int .i64 o3, .int .i64 o4, .int .i64 o5, .int .i64 o6, .int .i64 o7] 25))) := (Below.refl w.heap.size w).alloc (Nat.le_refl _) _
  have K0 : Hid (Blk (w.alloc (.cells #[.int .i64 k, .int .i64 l, .int .i64 s, .int .i64 b0, .int .i64 b1, .int .i64 b2, .int .i64 b3, .int .i64 o0, .int .i64 o1, .int .i64 o2, .int .i64 o3, .int .i64 o4, .int .i64 o5, .int .i64 o6, .int .i64 o7] 25)) w.heap.size 25 [.int .i64 k, .int .i64 l, .int .i64 s, .int .i64 b0, .int .i64 b1, .int .i64 b2, .int .i64 b3, .int .i64 o0, .int .i64 o1, .int .i64 o2, .int .i64 o3, .int .i64 o4, .int .i64 o5, .int .i64 o6, .int .i64 o7]) := heap_alloc_new w _
  have HP := hid HP; have HR := hid HR; have HM := hid HM; have HN := hid HN
  go_enter Try.func3, Try.ntmps3
  go_wp2_with fail
  refine (HP.out _).mono ?_
  rintro e w1 ⟨a1, c1, rfl, o1', d1⟩
  have R1 := hid o1'.row
  have K1 := hid (K0.out.mono d1)
  have B1 := hid (kept_trans HB.out d1)
  have k1 := K1.out
  have z0 : w1.cell? ⟨w.heap.size, 0, none⟩ = some (.int .i64 k) := Blk.cell k1 (i := 0) (by simp)
  have z1 : w1.cell? ⟨w.heap.size, 1, none⟩ = some (.int .i64 l) := Blk.cell k1 (i := 1) (by simp)
  have z2 : w1.cell? ⟨w.heap.size, 2, none⟩ = some (.int .i64 s) := Blk.cell k1 (i := 2) (by simp)
  have z3 : w1.cell? ⟨w.heap.size, 3, none⟩ = some (.int .i64 b0) := Blk.cell k1 (i := 3) (by simp)
  have z4 : w1.cell? ⟨w.heap.size, 4, none⟩ = some (.int .i64 b1) := Blk.cell k1 (i := 4) (by simp)
  have z5 : w1.cell? ⟨w.heap.size, 5, none⟩ = some (.int .i64 b2) := Blk.cell k1 (i := 5) (by simp)
  have z6 : w1.cell? ⟨w.heap.size, 6, none⟩ = some (.int .i64 b3) := Blk.cell k1 (i := 6) (by simp)
  have z7 : w1.cell? ⟨w.heap.size, 7, none⟩ = some (.int .i64 o0) := Blk.cell k1 (i := 7) (by simp)
  have z8 : w1.cell? ⟨w.heap.size, 8, none⟩ = some (.int .i64 o1) := Blk.cell k1 (i := 8) (by simp)
  have z9 : w1.cell? ⟨w.heap.size, 9, none⟩ = some (.int .i64 o2) := Blk.cell k1 (i := 9) (by simp)
  have z10 : w1.cell? ⟨w.heap.size, 10, none⟩ = some (.int .i64 o3) := Blk.cell k1 (i := 10) (by simp)
  have z11 : w1.cell? ⟨w.heap.size, 11, none⟩ = some (.int .i64 o4) := Blk.cell k1 (i := 11) (by simp)
  have z12 : w1.cell? ⟨w.heap.size, 12, none⟩ = some (.int .i64 o5) := Blk.cell k1 (i := 12) (by simp)
  have z13 : w1.cell? ⟨w.heap.size, 13, none⟩ = some (.int .i64 o6) := Blk.cell k1 (i := 13) (by simp)
  have z14 : w1.cell? ⟨w.heap.size, 14, none⟩ = some (.int .i64 o7) := Blk.cell k1 (i := 14) (by simp)
  clear o1' d1 k1
  go_wp2_with fail
  refine (HR.out _).mono ?_
  rintro e w2 ⟨a2, c2, rfl, o2', d2⟩
  have R2 := hid o2'.row
  have R1' := hid (R1.out.mono d2)
  have K2 := hid (K1.out.mono d2)
  have B2 := hid (kept_trans B1.out d2)
  clear o2' d2 z0 z1 z2 z3 z4 z5 z6 z7 z8 z9 z10 z11 z12 z13 z14 R1 B1 K1 HP HR
  go_wp2_with fail
  refine (same_any a1 a2 c1 c2 P P w2 R1'.out R2.out (by omega) (by omega)).mono ?_
  rintro e w3 ⟨rfl, d3⟩
  rw [decide_eq_true rfl]
  have K3 := hid (K2.out.mono d3)
  have B3 := hid (kept_trans B2.out d3)
  clear d3 R1' R2 B2 K2
  have hS0 : w3.drew.rangeAt w.heap.size 0 [.int .i64 k, .int .i64 l, .int .i64 s, .int .i64 b0, .int .i64 b1, .int .i64 b2, .int .i64 b3, .int .i64 o0, .int .i64 o1, .int .i64 o2, .int .i64 o3, .int .i64 o4, .int .i64 o5, .int .i64 o6, .int .i64 o7] ∧ Below w3.heap.size w3 w3.drew := ⟨Blk.range (Blk.drew K3.out), (Below.refl _ _).drew⟩
  go_wp2_with fail
  refine wp_region_held_drew (S := fun w' => w'.rangeAt w.heap.size 0 [.int .i64 k, .int .i64 l, .int .i64 s, .int .i64 b0, .int .i64 b1, .int .i64 b2, .int .i64 b3, .int .i64 o0, .int .i64 o1, .int .i64 o2, .int .i64 o3, .int .i64 o4, .int .i64 o5, .int .i64 o6, .int .i64 o7] ∧ Below w3.heap.size w3 w') (by kernel_rfl) hS0 (fun hS_0 => ?_)
  refine takeR (i := 0) (v := .bool true) rfl rfl (by kernel_rfl) (by kernel_rfl) (by kernel_rfl) (fun _ _ _ h => h) (Or.inl ⟨Eq.refl true, fun w1 hSw => ?_⟩) hS_0 ?_
  · first | rfl | (clear hSw; go_simp; done) | (clear hSw; go_simp; rfl)
  (try simp only [Act.put, List.setIfInBounds_toArray, List.set_cons_zero, List.set_cons_succ])
  refine takeR (i := 1) (v := .bool true) rfl rfl (by kernel_rfl) (by kernel_rfl) (by kernel_rfl) (fun _ _ _ h => h) (Or.inl ⟨Eq.refl true, fun w1 hSw => ?_⟩) hS_0 ?_
  · first | rfl | (clear hSw; go_simp; done) | (clear hSw; go_simp; rfl)
  (try simp only [Act.put, List.setIfInBounds_toArray, List.set_cons_zero, List.set_cons_succ])
  refine takeR (i := 2) (v := .int .i64 E) rfl rfl (by kernel_rfl) (by kernel_rfl) (by kernel_rfl) (fun _ _ _ h => h) (Or.inl ⟨Eq.refl true, fun w1 hSw => ?_⟩) hS_0 ?_
  · first | rfl | (clear hSw; go_simp; done) | (clear hSw; go_simp; rfl)
  (try simp only [Act.put, List.setIfInBounds_toArray, List.set_cons_zero, List.set_cons_succ])
  refine takeR (i := 3) (v := .int .i64 E) rfl rfl (by kernel_rfl) (by kernel_rfl) (by kernel_rfl) (fun _ _ _ h => h) (Or.inl ⟨Eq.refl true, fun w1 hSw => ?_⟩) hS_0 ?_
  · first | rfl | (clear hSw; go_simp; done) | (clear hSw; go_simp; rfl)
  (try simp only [Act.put, List.setIfInBounds_toArray, List.set_cons_zero, List.set_cons_succ])
  refine takeR (i := 4) (v := .bool true) rfl rfl (by kernel_rfl) (by kernel_rfl) (by kernel_rfl) (fun _ _ _ h => h) (Or.inl ⟨Eq.refl true, fun w1 hSw => ?_⟩) hS_0 ?_
  · first | rfl | (clear hSw; go_simp; done) | (clear hSw; go_simp; rfl)
  (try simp only [Act.put, List.setIfInBounds_toArray, List.set_cons_zero, List.set_cons_succ])
  refine takeR (i := 5) (v := .bool true) rfl rfl (by kernel_rfl) (by kernel_rfl) (by kernel_rfl) (fun _ _ _ h => h) (Or.inl ⟨Eq.refl true, fun w1 hSw => ?_⟩) hS_0 ?_
  · first | rfl | (clear hSw; go_simp; done) | (clear hSw; go_simp; rfl)
  (try simp only [Act.put, List.setIfInBounds_toArray, List.set_cons_zero, List.set_cons_succ])
  refine takeR (i := 6) (v := .bool true) rfl rfl (by kernel_rfl) (by kernel_rfl) (by kernel_rfl) (fun _ _ _ h => h) (Or.inl ⟨Eq.refl true, fun w1 hSw => ?_⟩) hS_0 ?_
  · first | rfl | (clear hSw; go_simp; done) | (clear hSw; go_simp; rfl)
  (try simp only [Act.put, List.setIfInBounds_toArray, List.set_cons_zero, List.set_cons_succ])
  refine wpAnyH_loadC (i := 7) 25 _ (w.heap.size) 0 [.int .i64 k, .int .i64 l, .int .i64 s, .int .i64 b0, .int .i64 b1, .int .i64 b2, .int .i64 b3, .int .i64 o0, .int .i64 o1, .int .i64 o2, .int .i64 o3, .int .i64 o4, .int .i64 o5, .int .i64 o6, .int .i64 o7] _ rfl rfl rfl rfl (Eq.refl true) Try.underlying25 rfl (by rw [infoIno]; rfl) (by kernel_rfl) (by kernel_rfl) (by kernel_rfl) (fun _ _ _ h => h) (fun w' h' => h'.1) hS_0 ?_
  (try simp only [Act.put, List.setIfInBounds_toArray, List.set_cons_zero, List.set_cons_succ])
  refine wpAnyH_loadC (i := 9) 25 _ (w.heap.size) 0 [.int .i64 k, .int .i64 l, .int .i64 s, .int .i64 b0, .int .i64 b1, .int .i64 b2, .int .i64 b3, .int .i64 o0, .int .i64 o1, .int .i64 o2, .int .i64 o3, .int .i64 o4, .int .i64 o5, .int .i64 o6, .int .i64 o7] _ rfl rfl rfl rfl (Eq.refl true) Try.underlying25 rfl (by rw [infoIno]; rfl) (by kernel_rfl) (by kernel_rfl) (by kernel_rfl) (fun _ _ _ h => h) (fun w' h' => h'.1) hS_0 ?_
  (try simp only [Act.put, List.setIfInBounds_toArray, List.set_cons_zero, List.set_cons_succ])
  refine wpAnyH_ready (rs := [8]) (by kernel_rfl) (by simp) (AllReadyH.cons rfl (fun K hK => ?_) AllReadyH.nil)
  go_simp
  go_wp2_with (go_at_call 11; refine (HM.out _).mono ?_; rintro e w5 ⟨rfl, b5⟩)
  refine hK.out _ _ ?_ (fun hS_1 => ?_)
  · exact At.step hS_0 b5
  clear hK K
  refine wpAnyH_ready (rs := [10]) (by kernel_rfl) (by simp) (AllReadyH.cons rfl (fun K hK => ?_) AllReadyH.nil)
  go_simp
  go_wp2_with (go_at_call 12; refine (HN.out _).mono ?_; rintro e w6 ⟨rfl, b6⟩)
  refine hK.out _ _ ?_ (fun hS_2 => ?_)
  · exact At.step hS_1 b6
  clear hK K
  refine takeR (i := 11) (v := .bool true) rfl rfl (by kernel_rfl) (by kernel_rfl) (by kernel_rfl) (fun _ _ _ h => h) (Or.inl ⟨Eq.refl true, fun w1 hSw => ?_⟩) hS_2 ?_
  · first | rfl | (clear hSw; go_simp; done) | (clear hSw; go_simp; rfl)
  (try simp only [Act.put, List.setIfInBounds_toArray, List.set_cons_zero, List.set_cons_succ])
  refine takeR (i := 12) (v := .bool true) rfl rfl (by kernel_rfl) (by kernel_rfl) (by kernel_rfl) (fun _ _ _ h => h) (Or.inl ⟨Eq.refl true, fun w1 hSw => ?_⟩) hS_2 ?_
  · first | rfl | (clear hSw; go_simp; done) | (clear hSw; go_simp; rfl)
  (try simp only [Act.put, List.setIfInBounds_toArray, List.set_cons_zero, List.set_cons_succ])
  refine takeR (i := 13) (v := .bool true) rfl rfl (by kernel_rfl) (by kernel_rfl) (by kernel_rfl) (fun _ _ _ h => h) (Or.inl ⟨Eq.refl true, fun w1 hSw => ?_⟩) hS_2 ?_
  · first | rfl | (clear hSw; go_simp; done) | (clear hSw; go_simp; rfl)
  (try simp only [Act.put, List.setIfInBounds_toArray, List.set_cons_zero, List.set_cons_succ])
  refine wpAnyH_ready (rs := [14]) (by kernel_rfl) (by simp) (AllReadyH.cons rfl (fun K hK => ?_) AllReadyH.nil)
  go_simp
  go_wp2_with (go_at_call 13; refine (lives11_any _).mono ?_; rintro e w7 ⟨rfl, b7⟩)
  refine hK.out _ _ ?_ (fun hS_3 => ?_)
  · exact At.step hS_2 b7
  clear hK K
  refine takeR (i := 15) (v := .bool true) rfl rfl (by kernel_rfl) (by kernel_rfl) (by kernel_rfl) (fun _ _ _ h => h) (Or.inl ⟨Eq.refl true, fun w1 hSw => ?_⟩) hS_3 ?_
  · first | rfl | (clear hSw; go_simp; done) | (clear hSw; go_simp; rfl)
  (try simp only [Act.put, List.setIfInBounds_toArray, List.set_cons_zero, List.set_cons_succ])
  refine takeR (i := 16) (v := .bool true) rfl rfl (by kernel_rfl) (by kernel_rfl) (by kernel_rfl) (fun _ _ _ h => h) (Or.inl ⟨Eq.refl true, fun w1 hSw => ?_⟩) hS_3 ?_
  · first | rfl | (clear hSw; go_simp; done) | (clear hSw; go_simp; rfl)
  (try simp only [Act.put, List.setIfInBounds_toArray, List.set_cons_zero, List.set_cons_succ])
  refine wpAnyH_done (by kernel_rfl) ?_ _
  go_wp2_with fail
  go_ret
  exact ⟨rfl, kept_trans B3.out hS_3.2⟩

end Go.Proofs.Ytnmblbkbiehodaa
