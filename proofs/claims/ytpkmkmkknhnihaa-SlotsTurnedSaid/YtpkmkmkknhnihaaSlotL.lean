import Derived.Test.YtpkmkmkknhnihaaSlotK
namespace Go.Proofs.Ytpkmkmkknhnihaa
open Go.RowKit
set_option linter.unusedSimpArgs false
set_option linter.unusedVariables false

theorem rsV_slot (xs : List UInt8) : ∃ e h r er i wr : Int, rsV xs = slotV e h r er i wr := by
  unfold rsV rsS zero6
  split
  · split
    · exact ⟨_, _, _, _, _, _, rfl⟩
    · exact ⟨_, _, _, _, _, _, rfl⟩
  · exact ⟨_, _, _, _, _, _, rfl⟩

set_option maxHeartbeats 4000000 in
theorem SlotsReads_walk (w : World) (a : Option Addr) (c : Nat) (xs : List UInt8) (ha : RowB w a c xs) :
    Calls Try.prog 4 #[.slice a xs.length c] w fun e w' => e = .returned (.bool true) ∧ Below w.heap.size w w' := by
  have hl := rowB_len ha
  have HF := hid (few13_any a c xs w ha hl)
  have ry := rowB_take ha 100
  clear ha hl
  generalize xs.take 100 = ys at *
  have hyl := rowB_len ry
  have R1 := hid (fun w1 r1 => readS_any a c ys w1 r1)
  have R2 := hid (fun w1 r1 => readSRef_any a c ys w1 r1)
  have R3 := hid (fun a' c' w1 r1 => readS_any a' c' (sealF (ys.take 60)) w1 r1)
  have R4 := hid (fun a' c' w1 r1 => readSRef_any a' c' (sealF (ys.take 60)) w1 r1)
  have HS := hid (fun w1 r1 => sealed_any a c ys w1 r1)
  generalize sealF (ys.take 60) = zs at *
  obtain ⟨e1, h1, r1, er1, i1, wr1, hv1⟩ := rsV_slot ys
  obtain ⟨e2, h2, r2, er2, i2, wr2, hv2⟩ := rsV_slot zs
  rw [hv1] at R1 R2
  rw [hv2] at R3 R4
  unfold slotV at R1 R2 R3 R4
  generalize rsE ys = q1 at *
  generalize rsE zs = q2 at *
  clear hv1 hv2
  go_enter Try.func4, Try.ntmps4
  go_wp2_with fail
  refine HF.out.mono ?_
  rintro e w1 ⟨rfl, rfl⟩
  go_wp2_with fail
  refine (R1.out w ry).mono ?_
  rintro e w1 ⟨rfl, b1⟩
  go_wp2_with fail
  have K1 : Blk (w1.alloc (.cells #[.int .i64 e1, .int .i64 h1, .int .i64 r1, .int .i64 er1, .int .i64 i1, .int .i64 wr1] 26)) w1.heap.size 26 [.int .i64 e1, .int .i64 h1, .int .i64 r1, .int .i64 er1, .int .i64 i1, .int .i64 wr1] := heap_alloc_new w1 _
  have A1 := b1.alloc b1.size (.cells #[.int .i64 e1, .int .i64 h1, .int .i64 r1, .int .i64 er1, .int .i64 i1, .int .i64 wr1] 26)
  clear b1
  generalize w1.alloc _ = u1 at *
  generalize w1.heap.size = P1 at *
  refine (R2.out u1 (ry.mono A1)).mono ?_
  rintro e w2 ⟨rfl, c2⟩
  have K1' := Blk.mono K1 c2
  have b2 := below_trans A1 c2 A1.size
  clear K1 A1 c2 R1 R2
  go_wp2_with fail
  have K2 : Blk (w2.alloc (.cells #[.int .i64 e1, .int .i64 h1, .int .i64 r1, .int .i64 er1, .int .i64 i1, .int .i64 wr1] 26)) w2.heap.size 26 [.int .i64 e1, .int .i64 h1, .int .i64 r1, .int .i64 er1, .int .i64 i1, .int .i64 wr1] := heap_alloc_new w2 _
  have A2 := b2.alloc b2.size (.cells #[.int .i64 e1, .int .i64 h1, .int .i64 r1, .int .i64 er1, .int .i64 i1, .int .i64 wr1] 26)
  clear b2
  have K1 := Blk.mono K1' ((Below.refl _ w2).alloc (Nat.le_refl _) (.cells #[.int .i64 e1, .int .i64 h1, .int .i64 r1, .int .i64 er1, .int .i64 i1, .int .i64 wr1] 26))
  clear K1'
  generalize w2.alloc _ = u2 at *
  generalize w2.heap.size = P2 at *
  refine (HS.out u2 (ry.mono A2)).mono ?_
  rintro e w3 ⟨a3, c3, rfl, o3, d3⟩
  have K1' := Blk.mono K1 d3
  have K2' := Blk.mono K2 d3
  have b3 := below_trans A2 d3 A2.size
  have z3 := o3.row
  clear K1 K2 A2 d3 o3
  go_wp2_with fail
  refine (R3.out a3 c3 w3 z3).mono ?_
  rintro e w4 ⟨rfl, d4⟩
  have K1 := Blk.mono K1' d4
  have K2 := Blk.mono K2' d4
  have b4 := below_trans b3 d4 b3.size
  clear K1' K2' b3 d4 z3 R3
  go_wp2_with fail
  have K3 : Blk (w4.alloc (.cells #[.int .i64 e2, .int .i64 h2, .int .i64 r2, .int .i64 er2, .int .i64 i2, .int .i64 wr2] 26)) w4.heap.size 26 [.int .i64 e2, .int .i64 h2, .int .i64 r2, .int .i64 er2, .int .i64 i2, .int .i64 wr2] := heap_alloc_new w4 _
  have A3 := b4.alloc b4.size (.cells #[.int .i64 e2, .int .i64 h2, .int .i64 r2, .int .i64 er2, .int .i64 i2, .int .i64 wr2] 26)
  clear b4
  have K1' := Blk.mono K1 ((Below.refl _ w4).alloc (Nat.le_refl _) (.cells #[.int .i64 e2, .int .i64 h2, .int .i64 r2, .int .i64 er2, .int .i64 i2, .int .i64 wr2] 26))
  have K2' := Blk.mono K2 ((Below.refl _ w4).alloc (Nat.le_refl _) (.cells #[.int .i64 e2, .int .i64 h2, .int .i64 r2, .int .i64 er2, .int .i64 i2, .int .i64 wr2] 26))
  clear K1 K2
  generalize w4.alloc _ = u4 at *
  generalize w4.heap.size = P3 at *
  refine (HS.out u4 (ry.mono A3)).mono ?_
  rintro e w5 ⟨a5, c5, rfl, o5, d5⟩
  have K1 := Blk.mono K1' d5
  have K2 := Blk.mono K2' d5
  have K3' := Blk.mono K3 d5
  have b5 := below_trans A3 d5 A3.size
  have z5 := o5.row
  clear K1' K2' K3 A3 d5 o5
  go_wp2_with fail
  refine (R4.out a5 c5 w5 z5).mono ?_
  rintro e w6 ⟨rfl, d6⟩
  have K1' := Blk.mono K1 d6
  have K2' := Blk.mono K2 d6
  have K3 := Blk.mono K3' d6
  have b6 := below_trans b5 d6 b5.size
  clear K1 K2 K3' b5 d6 z5 R4
  have K4 : Blk (w6.alloc (.cells #[.int .i64 e2, .int .i64 h2, .int .i64 r2, .int .i64 er2, .int .i64 i2, .int .i64 wr2] 26)) w6.heap.size 26 [.int .i64 e2, .int .i64 h2, .int .i64 r2, .int .i64 er2, .int .i64 i2, .int .i64 wr2] := heap_alloc_new w6 _
  have A4 := b6.alloc b6.size (.cells #[.int .i64 e2, .int .i64 h2, .int .i64 r2, .int .i64 er2, .int .i64 i2, .int .i64 wr2] 26)
  clear b6
  have J1 := Blk.mono K1' ((Below.refl _ w6).alloc (Nat.le_refl _) (.cells #[.int .i64 e2, .int .i64 h2, .int .i64 r2, .int .i64 er2, .int .i64 i2, .int .i64 wr2] 26))
  have J2 := Blk.mono K2' ((Below.refl _ w6).alloc (Nat.le_refl _) (.cells #[.int .i64 e2, .int .i64 h2, .int .i64 r2, .int .i64 er2, .int .i64 i2, .int .i64 wr2] 26))
  have J3 := Blk.mono K3 ((Below.refl _ w6).alloc (Nat.le_refl _) (.cells #[.int .i64 e2, .int .i64 h2, .int .i64 r2, .int .i64 er2, .int .i64 i2, .int .i64 wr2] 26))
  have J4 := K4
  clear K1' K2' K3 K4
  have k10 : (w6.alloc (.cells #[.int .i64 e2, .int .i64 h2, .int .i64 r2, .int .i64 er2, .int .i64 i2, .int .i64 wr2] 26)).cell? ⟨P1, 0, none⟩ = some (.int .i64 e1) := Blk.cell J1 (i := 0) (by simp)
  have k11 : (w6.alloc (.cells #[.int .i64 e2, .int .i64 h2, .int .i64 r2, .int .i64 er2, .int .i64 i2, .int .i64 wr2] 26)).cell? ⟨P1, 1, none⟩ = some (.int .i64 h1) := Blk.cell J1 (i := 1) (by simp)
  have k12 : (w6.alloc (.cells #[.int .i64 e2, .int .i64 h2, .int .i64 r2, .int .i64 er2, .int .i64 i2, .int .i64 wr2] 26)).cell? ⟨P1, 2, none⟩ = some (.int .i64 r1) := Blk.cell J1 (i := 2) (by simp)
  have k13 : (w6.alloc (.cells #[.int .i64 e2, .int .i64 h2, .int .i64 r2, .int .i64 er2, .int .i64 i2, .int .i64 wr2] 26)).cell? ⟨P1, 3, none⟩ = some (.int .i64 er1) := Blk.cell J1 (i := 3) (by simp)
  have k14 : (w6.alloc (.cells #[.int .i64 e2, .int .i64 h2, .int .i64 r2, .int .i64 er2, .int .i64 i2, .int .i64 wr2] 26)).cell? ⟨P1, 4, none⟩ = some (.int .i64 i1) := Blk.cell J1 (i := 4) (by simp)
  have k15 : (w6.alloc (.cells #[.int .i64 e2, .int .i64 h2, .int .i64 r2, .int .i64 er2, .int .i64 i2, .int .i64 wr2] 26)).cell? ⟨P1, 5, none⟩ = some (.int .i64 wr1) := Blk.cell J1 (i := 5) (by simp)
  have k20 : (w6.alloc (.cells #[.int .i64 e2, .int .i64 h2, .int .i64 r2, .int .i64 er2, .int .i64 i2, .int .i64 wr2] 26)).cell? ⟨P2, 0, none⟩ = some (.int .i64 e1) := Blk.cell J2 (i := 0) (by simp)
  have k21 : (w6.alloc (.cells #[.int .i64 e2, .int .i64 h2, .int .i64 r2, .int .i64 er2, .int .i64 i2, .int .i64 wr2] 26)).cell? ⟨P2, 1, none⟩ = some (.int .i64 h1) := Blk.cell J2 (i := 1) (by simp)
  have k22 : (w6.alloc (.cells #[.int .i64 e2, .int .i64 h2, .int .i64 r2, .int .i64 er2, .int .i64 i2, .int .i64 wr2] 26)).cell? ⟨P2, 2, none⟩ = some (.int .i64 r1) := Blk.cell J2 (i := 2) (by simp)
  have k23 : (w6.alloc (.cells #[.int .i64 e2, .int .i64 h2, .int .i64 r2, .int .i64 er2, .int .i64 i2, .int .i64 wr2] 26)).cell? ⟨P2, 3, none⟩ = some (.int .i64 er1) := Blk.cell J2 (i := 3) (by simp)
  have k24 : (w6.alloc (.cells #[.int .i64 e2, .int .i64 h2, .int .i64 r2, .int .i64 er2, .int .i64 i2, .int .i64 wr2] 26)).cell? ⟨P2, 4, none⟩ = some (.int .i64 i1) := Blk.cell J2 (i := 4) (by simp)
  have k25 : (w6.alloc (.cells #[.int .i64 e2, .int .i64 h2, .int .i64 r2, .int .i64 er2, .int .i64 i2, .int .i64 wr2] 26)).cell? ⟨P2, 5, none⟩ = some (.int .i64 wr1) := Blk.cell J2 (i := 5) (by simp)
  have k30 : (w6.alloc (.cells #[.int .i64 e2, .int .i64 h2, .int .i64 r2, .int .i64 er2, .int .i64 i2, .int .i64 wr2] 26)).cell? ⟨P3, 0, none⟩ = some (.int .i64 e2) := Blk.cell J3 (i := 0) (by simp)
  have k31 : (w6.alloc (.cells #[.int .i64 e2, .int .i64 h2, .int .i64 r2, .int .i64 er2, .int .i64 i2, .int .i64 wr2] 26)).cell? ⟨P3, 1, none⟩ = some (.int .i64 h2) := Blk.cell J3 (i := 1) (by simp)
  have k32 : (w6.alloc (.cells #[.int .i64 e2, .int .i64 h2, .int .i64 r2, .int .i64 er2, .int .i64 i2, .int .i64 wr2] 26)).cell? ⟨P3, 2, none⟩ = some (.int .i64 r2) := Blk.cell J3 (i := 2) (by simp)
  have k33 : (w6.alloc (.cells #[.int .i64 e2, .int .i64 h2, .int .i64 r2, .int .i64 er2, .int .i64 i2, .int .i64 wr2] 26)).cell? ⟨P3, 3, none⟩ = some (.int .i64 er2) := Blk.cell J3 (i := 3) (by simp)
  have k34 : (w6.alloc (.cells #[.int .i64 e2, .int .i64 h2, .int .i64 r2, .int .i64 er2, .int .i64 i2, .int .i64 wr2] 26)).cell? ⟨P3, 4, none⟩ = some (.int .i64 i2) := Blk.cell J3 (i := 4) (by simp)
  have k35 : (w6.alloc (.cells #[.int .i64 e2, .int .i64 h2, .int .i64 r2, .int .i64 er2, .int .i64 i2, .int .i64 wr2] 26)).cell? ⟨P3, 5, none⟩ = some (.int .i64 wr2) := Blk.cell J3 (i := 5) (by simp)
  have k40 : (w6.alloc (.cells #[.int .i64 e2, .int .i64 h2, .int .i64 r2, .int .i64 er2, .int .i64 i2, .int .i64 wr2] 26)).cell? ⟨w6.heap.size, 0, none⟩ = some (.int .i64 e2) := Blk.cell J4 (i := 0) (by simp)
  have k41 : (w6.alloc (.cells #[.int .i64 e2, .int .i64 h2, .int .i64 r2, .int .i64 er2, .int .i64 i2, .int .i64 wr2] 26)).cell? ⟨w6.heap.size, 1, none⟩ = some (.int .i64 h2) := Blk.cell J4 (i := 1) (by simp)
  have k42 : (w6.alloc (.cells #[.int .i64 e2, .int .i64 h2, .int .i64 r2, .int .i64 er2, .int .i64 i2, .int .i64 wr2] 26)).cell? ⟨w6.heap.size, 2, none⟩ = some (.int .i64 r2) := Blk.cell J4 (i := 2) (by simp)
  have k43 : (w6.alloc (.cells #[.int .i64 e2, .int .i64 h2, .int .i64 r2, .int .i64 er2, .int .i64 i2, .int .i64 wr2] 26)).cell? ⟨w6.heap.size, 3, none⟩ = some (.int .i64 er2) := Blk.cell J4 (i := 3) (by simp)
  have k44 : (w6.alloc (.cells #[.int .i64 e2, .int .i64 h2, .int .i64 r2, .int .i64 er2, .int .i64 i2, .int .i64 wr2] 26)).cell? ⟨w6.heap.size, 4, none⟩ = some (.int .i64 i2) := Blk.cell J4 (i := 4) (by simp)
  have k45 : (w6.alloc (.cells #[.int .i64 e2, .int .i64 h2, .int .i64 r2, .int .i64 er2, .int .i64 i2, .int .i64 wr2] 26)).cell? ⟨w6.heap.size, 5, none⟩ = some (.int .i64 wr2) := Blk.cell J4 (i := 5) (by simp)
  have HA := hid A4
  clear A4 J1 J2 J3 J4
  go_wp2_with fail
  refine (lives13_any _).mono ?_
  rintro e w10 ⟨rfl, b10⟩
  go_wp2_with fail
  go_ret
  exact ⟨rfl, below_trans HA.out b10 HA.out.size⟩

end Go.Proofs.Ytpkmkmkknhnihaa
