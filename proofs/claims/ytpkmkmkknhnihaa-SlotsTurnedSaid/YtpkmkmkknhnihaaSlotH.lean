import Derived.Test.YtpkmkmkknhnihaaSlotG
namespace Go.Proofs.Ytpkmkmkknhnihaa
open Go.RowKit
set_option linter.unusedSimpArgs false
set_option linter.unusedVariables false

set_option maxHeartbeats 2000000 in
theorem SlotsPuts_walk (w : World) (e h r er i wr : Int) (hw : (Lit.int .i64 e).wf = true ∧ (Lit.int .i64 h).wf = true ∧ (Lit.int .i64 r).wf = true ∧ (Lit.int .i64 er).wf = true ∧ (Lit.int .i64 i).wf = true ∧ (Lit.int .i64 wr).wf = true) :
    Calls Try.prog 3 #[slotV e h r er i wr] w fun e w' => e = .returned (.bool true) ∧ Below w.heap.size w w' := by
  clear hw
  have HP := hid (fun w1 => putS_any e h r er i wr w1)
  have HR := hid (fun w1 => putSRef_any e h r er i wr w1)
  generalize (if mayS e h r er i wr = true then (0 : Int) else 1) = ern at *
  unfold slotV at *
  generalize slotL e h r er i wr = L at *
  go_enter Try.func3, Try.ntmps3
  go_wp2_with fail
  have H0 : Blk (w.alloc (.cells #[.int .i64 e, .int .i64 h, .int .i64 r, .int .i64 er, .int .i64 i, .int .i64 wr] 26)) w.heap.size 26 [.int .i64 e, .int .i64 h, .int .i64 r, .int .i64 er, .int .i64 i, .int .i64 wr] := heap_alloc_new w _
  refine (HP.out _).mono ?_
  rintro en w1 ⟨a1, c1, rfl, o1, b1⟩
  have H1 := Blk.mono H0 b1
  have B1 := below_trans ((Below.refl _ w).alloc (Nat.le_refl _) _) b1 (by simp)
  have r1 := o1.row
  have k0 := Blk.cell H1 (i := 0) (by simp)
  have k1 := Blk.cell H1 (i := 1) (by simp)
  have k2 := Blk.cell H1 (i := 2) (by simp)
  have k3 := Blk.cell H1 (i := 3) (by simp)
  have k4 := Blk.cell H1 (i := 4) (by simp)
  have k5 := Blk.cell H1 (i := 5) (by simp)
  simp only [List.getElem_cons_zero, List.getElem_cons_succ] at k0 k1 k2 k3 k4 k5
  clear H0 H1 b1 o1
  go_wp2_with fail
  refine (HR.out _).mono ?_
  rintro en w2 ⟨a2, c2, rfl, o2, b2⟩
  have B2 := below_trans B1 b2 B1.size
  have hhl := rowB_len r1
  clear k0 k1 k2 k3 k4 k5
  go_wp2_with fail
  refine (same_any a1 a2 c1 c2 _ _ w2 (r1.mono b2) o2.row hhl hhl).mono ?_
  rintro e w3 ⟨rfl, b3⟩
  have B3 := below_trans B2 b3 B2.size
  rw [decide_eq_true rfl]
  clear o2 r1 b2 b3 B2 hhl
  go_wp2_with fail
  refine (lives13_any w3).mono ?_
  rintro e w10 ⟨rfl, b10⟩
  go_wp2_with fail
  go_ret
  exact ⟨rfl, below_trans B3 b10 B3.size⟩

end Go.Proofs.Ytpkmkmkknhnihaa
