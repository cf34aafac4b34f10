import Derived.Test.YtnmblbkbiehodaaInoG
namespace Go.Proofs.Ytnmblbkbiehodaa
open Go.RowKit Go.WideShapes
set_option linter.unusedSimpArgs false
set_option linter.unusedVariables false

def i65 : InoT := ⟨1, 1, 65, 3, 4, 0, 0, 0, 0, 0, 0, 0, 0, 0, 0⟩
theorem may65 : mayI i65 = true := by decide +kernel
theorem x65 : inoX i65 = [1, 1, 65, 0, 3, 4, 0, 0, 0, 0, 0, 0, 0, 0, 0, 0] := by decide +kernel
theorem put65 : putL i65 = putI i65 := by
  have hz : ¬ inoL i65 = zeroL := by decide +kernel
  unfold putL
  rw [may65, if_pos rfl, if_neg hz]
theorem take65 : (putI i65).take 8 = [1, 1, 65, 0, 3, 4, 0, 0] := by
  rw [putI_eq]
  unfold inoY
  rw [x65]
  rfl
set_option maxHeartbeats 4000000 in
set_option maxRecDepth 100000 in
theorem lives11_any (w : World) : Calls Try.prog 13 #[] w fun e w' => e = .returned (.bool true) ∧ Below w.heap.size w w' := by
  have HP := fun w1 => putIno_any i65 w1
  have HC := fun w1 => mayIno_any i65 w1
  rw [put65, show putE i65 = 0 from by unfold putE; rw [may65]; rfl] at HP
  rw [may65] at HC
  unfold PutA at HP
  rw [putI_len] at HP
  have HN1 := fun w1 => needs_any 64 w1 (by omega) (by omega)
  have HN2 := fun w1 => needs_any 65 w1 (by omega) (by omega)
  rw [show needsF 64 = 1 from rfl] at HN1
  rw [show needsF 65 = 2 from rfl] at HN2
  unfold inoV inoC i65 at HP HC
  simp only at HP HC
  have HP := hid HP; have HC := hid HC; have HN1 := hid HN1; have HN2 := hid HN2
  go_enter Try.func13, Try.ntmps13
  go_wp2_with fail
  have K0 : Hid (Blk (w.alloc (.cells #[.int .i64 1, .int .i64 1, .int .i64 65, .int .i64 3, .int .i64 4, .int .i64 0, .int .i64 0, .int .i64 0, .int .i64 0, .int .i64 0, .int .i64 0, .int .i64 0, .int .i64 0, .int .i64 0, .int .i64 0] 25)) w.heap.size 25 [.int .i64 1, .int .i64 1, .int .i64 65, .int .i64 3, .int .i64 4, .int .i64 0, .int .i64 0, .int .i64 0, .int .i64 0, .int .i64 0, .int .i64 0, .int .i64 0, .int .i64 0, .int .i64 0, .int .i64 0]) := heap_alloc_new w _
  have HB : Hid (Below w.heap.size w (w.alloc (.cells #[.int .i64 1, .int .i64 1, .int .i64 65, .int .i64 3, .int .i64 4, .int .i64 0, .int .i64 0, .int .i64 0, .int .i64 0, .int .i64 0, .int .i64 0, .int .i64 0, .int .i64 0, .int .i64 0, .int .i64 0] 25))) := (Below.refl w.heap.size w).alloc (Nat.le_refl _) _
  refine (HP.out _).mono ?_
  rintro e w4 ⟨a4, c4, rfl, o4, b4⟩
  have K4 := hid (K0.out.mono b4)
  have B4 := hid (kept_trans HB.out b4)
  have rt := rowB_take o4.row 8
  rw [show (⟨1, 1, 65, 3, 4, 0, 0, 0, 0, 0, 0, 0, 0, 0, 0⟩ : InoT) = i65 from rfl, take65] at rt
  obtain ⟨g4, rfl⟩ := own_addr (show Own w4 _ 5 1 a4 (putI i65).length c4 _ from o4) (by rw [putI_len]; omega)
  have hc64 : 8 ≤ c4 := by have := o4.row.2.1; rw [show (⟨1, 1, 65, 3, 4, 0, 0, 0, 0, 0, 0, 0, 0, 0, 0⟩ : InoT) = i65 from rfl, putI_len] at this; omega
  have k8 : Blk (w4.alloc (.cells #[.int .u8 1, .int .u8 1, .int .u8 65, .int .u8 0, .int .u8 3, .int .u8 4, .int .u8 0, .int .u8 0] 5)) w4.heap.size 5 (([1, 1, 65, 0, 3, 4, 0, 0] : List UInt8).map byteV ++ []) := heap_alloc_new w4 _
  have r8 := blk_row k8 (c := 8) rfl (by omega)
  have b8 := (Below.refl w4.heap.size w4).alloc (Nat.le_refl _) (.cells #[.int .u8 1, .int .u8 1, .int .u8 65, .int .u8 0, .int .u8 3, .int .u8 4, .int .u8 0, .int .u8 0] 5)
  have hS : Calls Try.prog 10 #[.slice (some ⟨g4, 0, none⟩) 8 c4, .slice (some ⟨w4.heap.size, 0, none⟩) 8 8] (w4.alloc (.cells #[.int .u8 1, .int .u8 1, .int .u8 65, .int .u8 0, .int .u8 3, .int .u8 4, .int .u8 0, .int .u8 0] 5)) fun e w' => e = .returned (.bool true) ∧ Below (w4.alloc (.cells #[.int .u8 1, .int .u8 1, .int .u8 65, .int .u8 0, .int .u8 3, .int .u8 4, .int .u8 0, .int .u8 0] 5)).heap.size (w4.alloc (.cells #[.int .u8 1, .int .u8 1, .int .u8 65, .int .u8 0, .int .u8 3, .int .u8 4, .int .u8 0, .int .u8 0] 5)) w' := by
    have q := same_any (some ⟨g4, 0, none⟩) (some ⟨w4.heap.size, 0, none⟩) c4 8 [1, 1, 65, 0, 3, 4, 0, 0] [1, 1, 65, 0, 3, 4, 0, 0] _ (rt.mono b8) r8 (by simp) (by simp)
    rw [decide_eq_true rfl] at q
    exact q
  have HS := hid hS; have B8 := hid (kept_trans B4.out b8); have K8 := hid (K4.out.mono b8)
  clear hS k8 r8 b8 rt o4 b4
  go_wp2_with fail
  refine (HS.out).mono ?_
  rintro e w5 ⟨rfl, b5⟩
  have B5 := hid (kept_trans B8.out b5)
  have k5 := K8.out.mono b5
  have z0 : w5.cell? ⟨w.heap.size, 0, none⟩ = some (.int .i64 1) := Blk.cell k5 (i := 0) (by simp)
  have z1 : w5.cell? ⟨w.heap.size, 1, none⟩ = some (.int .i64 1) := Blk.cell k5 (i := 1) (by simp)
  have z2 : w5.cell? ⟨w.heap.size, 2, none⟩ = some (.int .i64 65) := Blk.cell k5 (i := 2) (by simp)
  have z3 : w5.cell? ⟨w.heap.size, 3, none⟩ = some (.int .i64 3) := Blk.cell k5 (i := 3) (by simp)
  have z4 : w5.cell? ⟨w.heap.size, 4, none⟩ = some (.int .i64 4) := Blk.cell k5 (i := 4) (by simp)
  have z5 : w5.cell? ⟨w.heap.size, 5, none⟩ = some (.int .i64 0) := Blk.cell k5 (i := 5) (by simp)
  have z6 : w5.cell? ⟨w.heap.size, 6, none⟩ = some (.int .i64 0) := Blk.cell k5 (i := 6) (by simp)
  have z7 : w5.cell? ⟨w.heap.size, 7, none⟩ = some (.int .i64 0) := Blk.cell k5 (i := 7) (by simp)
  have z8 : w5.cell? ⟨w.heap.size, 8, none⟩ = some (.int .i64 0) := Blk.cell k5 (i := 8) (by simp)
  have z9 : w5.cell? ⟨w.heap.size, 9, none⟩ = some (.int .i64 0) := Blk.cell k5 (i := 9) (by simp)
  have z10 : w5.cell? ⟨w.heap.size, 10, none⟩ = some (.int .i64 0) := Blk.cell k5 (i := 10) (by simp)
  have z11 : w5.cell? ⟨w.heap.size, 11, none⟩ = some (.int .i64 0) := Blk.cell k5 (i := 11) (by simp)
  have z12 : w5.cell? ⟨w.heap.size, 12, none⟩ = some (.int .i64 0) := Blk.cell k5 (i := 12) (by simp)
  have z13 : w5.cell? ⟨w.heap.size, 13, none⟩ = some (.int .i64 0) := Blk.cell k5 (i := 13) (by simp)
  have z14 : w5.cell? ⟨w.heap.size, 14, none⟩ = some (.int .i64 0) := Blk.cell k5 (i := 14) (by simp)
  have K5 := hid k5
  clear b5 k5
  go_wp2_with (first
    | (go_at_call_of 17 (Value.int IntKind.i64 64); refine (HN1.out _).mono ?_; rintro e w6 ⟨rfl, rfl⟩)
    | (go_at_call_of 17 (Value.int IntKind.i64 65); refine (HN2.out _).mono ?_; rintro e w6 ⟨rfl, rfl⟩)
    | (go_at_call 11; refine (HC.out _).mono ?_; rintro e w7 ⟨rfl, b7⟩; have B7 := hid (kept_trans B5.out b7); clear b7))
  go_ret
  exact ⟨rfl, B7.out⟩

end Go.Proofs.Ytnmblbkbiehodaa
