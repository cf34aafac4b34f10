/- Merged: PlgQ PlgR PlgS. -/
import Derived.Test.YtcackliabemecaaGreatDoorPlgMc
/- (*plog.Log).End, read. (genPlgQ.py) -/
namespace Go.Proofs.YtcackliabemecaaGreatDoor
open Go.RowKit
set_option linter.unusedSimpArgs false
set_option linter.unusedVariables false
set_option maxRecDepth 100000
theorem callP_14 (args : Array Value) (w : World) : (callFunc 66 args).run Tryz.prog w = .ok (.enter 66 args) w := by
  have h := Tryz.func66
  go_simp
theorem callP_27 (args : Array Value) (w : World) : (callFunc 65 args).run Tryz.prog w = .ok (.enter 65 args) w := by
  have h := Tryz.func65
  go_simp
theorem callP_55 (args : Array Value) (w : World) : (callFunc 10 args).run Tryz.prog w = .ok (.enter 10 args) w := by
  have h := Tryz.func10
  go_simp
theorem fa_73_0_1 (g : Nat) (w : World) : (Instr.fieldAt 74 (.pointer (some ⟨g, 0, none⟩)) 1).run Tryz.prog w = .ok (.pointer (some ⟨g, 1, none⟩)) w := rfl
theorem fa_73_0_2 (g : Nat) (w : World) : (Instr.fieldAt 74 (.pointer (some ⟨g, 0, none⟩)) 2).run Tryz.prog w = .ok (.pointer (some ⟨g, 2, none⟩)) w := rfl

theorem buildRec (a : Option Addr) (n c : Nat) (w : World) : (Instr.buildSlice 83 1 #[(0, .slice a n c)]).run Tryz.prog w = .ok (.slice (some ⟨w.heap.size, 0, none⟩) 1 1) (w.alloc (.cells #[.slice a n c] 44)) := by
  have u3 := Tryz.underlying83
  have u9 := Tryz.underlying44
  have z3 := Tryz.sizeOf44
  go_simp
theorem row_new1P (w : World) (v : Value) (e : TypeId) : Row (w.alloc (.cells #[v] e)) 1 (some ⟨w.heap.size, 0, none⟩) 1 1 [v] := row_new w [v] e (by simp)
theorem ERec : ElemT Tryz.prog 83 44 1 24 := elemT Tryz.underlying83 (z := .slice none 0 0) (by kernel_rfl) rfl (by omega)
/-- where a log lies -/
structure LogOk (at_ size : Nat) (M : MemM) : Prop where
  s1 : 128 ≤ size
  s2 : size ≤ 65536
  a : at_ + size ≤ M.V.length
  v : M.V.length ≤ 1048576
theorem LogP.below {w w' : World} {B lg g v d p at_ size : Nat} {M : MemM} (h : LogP w lg g v d p at_ size M) (b : Below B w w') (hb : lg < B ∧ g < B ∧ v < B ∧ d < B ∧ p < B) : LogP w' lg g v d p at_ size M := by
  have t : Turns (fun k => B ≤ k) w w' := ⟨b.os, b.tape, b.output, b.size, fun k _ hn => b.block k (by omega)⟩
  exact ⟨t.blk h.l (by omega), h.m.turns t (by omega) (by omega) (by omega) (by omega)⟩
theorem seenL_in {X : List UInt8} {M : MemM} {a n : Nat} (h : a + n ≤ M.V.length) : seenL X M (a : Int) (n : Int) = (X.drop a).take n := by
  unfold seenL
  rw [if_pos (by unfold inM; simp; omega), Int.toNat_natCast, Int.toNat_natCast]
theorem retN {w W : World} {act : Act} {n m : Nat} (hd : act.defers = []) (h2 : act.tmps[2]? = some (.int .i64 (m : Int))) (hn : n = m) (hb : Below w.heap.size w W) : bodyPost Tryz.prog Tryz.f65 (fun e w' => ∃ v, e = .returned v ∧ v = .int .i64 (n : Int) ∧ Below w.heap.size w w') .ret act W := by
  subst hn
  exact bodyPost_ret (results_tmp1 rfl h2) hd ⟨_, rfl, rfl, hb⟩
set_option maxHeartbeats 2000000 in
theorem end_any {w : World} {lg g v d p at_ size : Nat} {M : MemM} (hg0 : LogP w lg g v d p at_ size M) (hok : LogOk at_ size M) :
    Calls Tryz.prog 65 #[.pointer (some ⟨lg, 0, none⟩)] w fun e w' => ∃ v, e = .returned v ∧ v = .int .i64 (endL M.V at_ size : Int) ∧ Below w.heap.size w w' := by
  have HG0 := hid hg0
  obtain ⟨s1, s2, s3, s4⟩ := hok
  obtain ⟨b8, hb8⟩ : ∃ b, b = (M.V.drop at_).take 8 := ⟨_, rfl⟩
  have hl8 : b8.length = 8 := by rw [hb8, List.length_take, List.length_drop]; omega
  have hseen : seenL M.V M (at_ : Int) 8 = b8 := by rw [hb8]; exact seenL_in (n := 8) (by omega)
  have HB8 := hid hb8
  clear hg0 hb8
  go_enter Tryz.func65, Tryz.ntmps65
  iterate 3 go_step
  refine wpk_enter (N := 36) (l := [(0, .pointer (some ⟨lg, 0, none⟩))]) ⟨rfl, (by intro x hx; simp only [List.mem_cons, List.not_mem_nil, or_false] at hx; rcases hx with rfl <;> rfl), rfl⟩ fun a2 h1 => ?_
  refine wv h1 rfl rfl rfl rfl (.int .i64 0) rfl fun a4 h3 => ?_
  iterate 4 go_step
  have HG1 := hid (HG0.out.mono (Below.refl _ _).drew)
  refine wp_region_held_drew (S := fun w' => Blk w' lg 74 (logC g at_ size)) (by kernel_rfl) HG1.out.l (fun hS1 => ?_)
  refine wpk_take hS1 h3 0 rfl rfl (by decide) (fr rfl) (by kernel_rfl) (by kernel_rfl) (by kernel_rfl) (fun _ _ _ _ h => h) (.pointer (some ⟨lg, 0, none⟩)) (Or.inl ⟨Eq.refl true, fun w1 hSw => (by show (execOp _ (⟨_, .move (.tmp 0), _, _, _, _⟩ : Oper)).run _ _ = _; exact (by unfold execOp; simp only [h3.ev 0 rfl]; exact rfl))⟩) fun a6 h5 => ?_
  refine wpk_take hS1 h5 1 rfl rfl (by decide) (fr rfl) (by kernel_rfl) (by kernel_rfl) (by kernel_rfl) (fun _ _ _ _ h => h) (.pointer (some ⟨lg, 0, none⟩)) (Or.inl ⟨Eq.refl true, fun w1 hSw => (by show (execOp _ (⟨_, .nilCheck (.tmp 8), _, _, _, _⟩ : Oper)).run _ _ = _; exact (by unfold execOp; simp only [h5.ev 8 rfl]; exact rfl))⟩) fun a8 h7 => ?_
  refine wpk_take hS1 h7 2 rfl rfl (by decide) (fr rfl) (by kernel_rfl) (by kernel_rfl) (by kernel_rfl) (fun _ _ _ _ h => h) (.pointer (some ⟨lg, 0, none⟩)) (Or.inl ⟨Eq.refl true, fun w1 hSw => (by show (execOp _ (⟨_, .fieldAddr 74 (.tmp 9) 0, _, _, _, _⟩ : Oper)).run _ _ = _; exact (by unfold execOp; simp only [h7.ev 9 rfl]; exact run_v (fa_73_0_0 (lg) _)))⟩) fun a10 h9 => ?_
  refine wpk_take hS1 h9 3 rfl rfl (by decide) (fr rfl) (by kernel_rfl) (by kernel_rfl) (by kernel_rfl) (fun _ _ _ _ h => h) (.pointer (some ⟨g, 0, none⟩)) (Or.inl ⟨Eq.refl true, fun w1 hSw => (by show (execOp _ (⟨_, .load 34 (.tmp 10), _, _, _, _⟩ : Oper)).run _ _ = _; exact (by unfold execOp; simp only [h9.ev 10 rfl]; exact run_v (loadMP (hSw.cell (i := 0) (by show 0 < 3; omega)))))⟩) fun a12 h11 => ?_
  refine wpk_take hS1 h11 4 rfl rfl (by decide) (fr rfl) (by kernel_rfl) (by kernel_rfl) (by kernel_rfl) (fun _ _ _ _ h => h) (.pointer (some ⟨lg, 0, none⟩)) (Or.inl ⟨Eq.refl true, fun w1 hSw => (by show (execOp _ (⟨_, .move (.tmp 0), _, _, _, _⟩ : Oper)).run _ _ = _; exact (by unfold execOp; simp only [h11.ev 0 rfl]; exact rfl))⟩) fun a14 h13 => ?_
  refine wpk_take hS1 h13 5 rfl rfl (by decide) (fr rfl) (by kernel_rfl) (by kernel_rfl) (by kernel_rfl) (fun _ _ _ _ h => h) (.pointer (some ⟨lg, 0, none⟩)) (Or.inl ⟨Eq.refl true, fun w1 hSw => (by show (execOp _ (⟨_, .nilCheck (.tmp 12), _, _, _, _⟩ : Oper)).run _ _ = _; exact (by unfold execOp; simp only [h13.ev 12 rfl]; exact rfl))⟩) fun a16 h15 => ?_
  refine wpk_take hS1 h15 6 rfl rfl (by decide) (fr rfl) (by kernel_rfl) (by kernel_rfl) (by kernel_rfl) (fun _ _ _ _ h => h) (.pointer (some ⟨lg, 1, none⟩)) (Or.inl ⟨Eq.refl true, fun w1 hSw => (by show (execOp _ (⟨_, .fieldAddr 74 (.tmp 13) 1, _, _, _, _⟩ : Oper)).run _ _ = _; exact (by unfold execOp; simp only [h15.ev 13 rfl]; exact run_v (fa_73_0_1 (lg) _)))⟩) fun a18 h17 => ?_
  refine wpk_take hS1 h17 7 rfl rfl (by decide) (fr rfl) (by kernel_rfl) (by kernel_rfl) (by kernel_rfl) (fun _ _ _ _ h => h) (.int .i64 (at_ : Int)) (Or.inl ⟨Eq.refl true, fun w1 hSw => (by show (execOp _ (⟨_, .load 3 (.tmp 14), _, _, _, _⟩ : Oper)).run _ _ = _; exact (by unfold execOp; simp only [h17.ev 14 rfl]; exact run_v (loadIP (hSw.cell (i := 1) (by show 1 < 3; omega)))))⟩) fun a20 h19 => ?_
  refine wpk_only 8 rfl rfl (by kernel_rfl) fun K hK => op_call h19 rfl (by decide) (fr rfl) (fun args => callP_55 args _) rfl #[.pointer (some ⟨g, 0, none⟩), .int .i64 (at_ : Int), .int .i64 8] (by simp only [List.map_toArray, List.map_cons, List.map_nil, h19.ev 11 rfl, h19.ev 15 rfl]; rfl) (R := fun v w' => ∃ a c, v = .tuple #[.slice a (seenL M.V M at_ 8).length c, .int .i64 (errM M at_ 8)] ∧ OwnB w' w.drew.heap.size a c (seenL M.V M at_ 8) ∧ Below w.drew.heap.size w.drew w') ((load_u HG1.out.m at_ 8 (by unfold i64B; omega) (by unfold i64B; omega)).mono fun e w' q => by obtain ⟨x, y, q1, q2, q3⟩ := q; exact ⟨_, q1, x, y, rfl, q2, q3⟩) fun a22 v2 w2 r2 h21 => hK _ _ (by obtain ⟨x, y, _, _, q⟩ := r2; exact HG1.out.l.mono q) fun hS2 => ?_
  clear hK K
  obtain ⟨ba, bc, rfl, o2, b2⟩ := r2
  rw [hseen] at o2 h21
  have HG2 := hid (HG1.out.mono b2); have HR2 := hid o2.row; have B2 : Hid (Below w.heap.size w w2) := hid ((Below.refl _ w).drew.trans b2); clear o2 b2
  refine wpk_take hS2 h21 9 rfl rfl (by decide) (fr rfl) (by kernel_rfl) (by kernel_rfl) (by kernel_rfl) (fun _ _ _ _ h => h) (.tuple #[.slice ba b8.length bc, .int .i64 (errM M at_ 8)]) (Or.inl ⟨Eq.refl true, fun w1 hSw => (by show (execOp _ (⟨_, .move (.tmp 16), _, _, _, _⟩ : Oper)).run _ _ = _; exact (by unfold execOp; simp only [h21.ev 16 rfl]; exact rfl))⟩) fun a24 h23 => ?_
  refine wpk_take hS2 h23 10 rfl rfl (by decide) (fr rfl) (by kernel_rfl) (by kernel_rfl) (by kernel_rfl) (fun _ _ _ _ h => h) (.slice ba b8.length bc) (Or.inl ⟨Eq.refl true, fun w1 hSw => (by show (execOp _ (⟨_, .extract (.tmp 7) 0, _, _, _, _⟩ : Oper)).run _ _ = _; exact (by unfold execOp; simp only [h23.ev 7 rfl]; exact rfl))⟩) fun a26 h25 => ?_
  refine wpk_take hS2 h25 11 rfl rfl (by decide) (fr rfl) (by kernel_rfl) (by kernel_rfl) (by kernel_rfl) (fun _ _ _ _ h => h) (.int .i64 (errM M at_ 8)) (Or.inl ⟨Eq.refl true, fun w1 hSw => (by show (execOp _ (⟨_, .extract (.tmp 7) 1, _, _, _, _⟩ : Oper)).run _ _ = _; exact (by unfold execOp; simp only [h25.ev 7 rfl]; exact rfl))⟩) fun a28 h27 => ?_
  refine wpk_take hS2 h27 12 rfl rfl (by decide) (fr rfl) (by kernel_rfl) (by kernel_rfl) (by kernel_rfl) (fun _ _ _ _ h => h) (.slice ba b8.length bc) (Or.inl ⟨Eq.refl true, fun w1 hSw => (by show (execOp _ (⟨_, .assign (.tmp 17), _, _, _, _⟩ : Oper)).run _ _ = _; exact (by unfold execOp; simp only [h27.ev 17 rfl]; exact rfl))⟩) fun a30 h29 => ?_
  refine wpk_take hS2 h29 13 rfl rfl (by decide) (fr rfl) (by kernel_rfl) (by kernel_rfl) (by kernel_rfl) (fun _ _ _ _ h => h) (.int .i64 (errM M at_ 8)) (Or.inl ⟨Eq.refl true, fun w1 hSw => (by show (execOp _ (⟨_, .assign (.tmp 18), _, _, _, _⟩ : Oper)).run _ _ = _; exact (by unfold execOp; simp only [h29.ev 18 rfl]; exact rfl))⟩) fun a32 h31 => ?_
  refine wpAnyH_done (by kernel_rfl) ?_ _
  have h33 := h31.subs (l' := [(3, _), (2, _), (0, _)]) rfl
  clear h31
  iterate 2 go_step
  cases hg : getF b8 0 8 with
  | none =>
    have hok : (getF b8 0 8).isSome = false := by rw [hg]; rfl
    have hEnd : endL M.V at_ size = 0 := by unfold endL; rw [← HB8.out, hg]
    iterate 2 go_step
    refine wmk h33 rfl rfl rfl rfl 3 rfl (fun _ => rfl) fun a35 h34 => ?_
    refine wpk_call h34 (wanted_none rfl) rfl (by decide) (fr rfl) (fun args => callP_40 args _) rfl #[.slice ba b8.length bc, .int .i64 0, .int .i64 8] (by simp only [List.map_toArray, List.map_cons, List.map_nil, h34.ev 20 rfl]; rfl) (R := fun v w' => v = getV (getF b8 0 8) ∧ w2 = w') ((get_any ba bc b8 0 8 w2 HR2.out (by omega)).mono fun e w' q => ⟨_, q.1, rfl, q.2⟩) fun a37 v3 w3 r3 h36 => ?_
    obtain ⟨rfl, rfl⟩ := r3
    refine wmk h36 rfl rfl rfl rfl 21 rfl (fun _ => rfl) fun a39 h38 => ?_
    refine wv h38 rfl rfl rfl rfl (.int .i64 (((getF b8 0 8).getD 0 : Nat) : Int)) (by unfold execOp; simp only [h38.ev 19 rfl]; exact rfl) fun a41 h40 => ?_
    refine wv h40 rfl rfl rfl rfl (.bool false) (by unfold execOp; simp only [h40.ev 19 rfl]; exact (by show _ = Result.ok (Next.value (Value.bool false)) _; rw [← hok]; rfl)) fun a43 h42 => ?_
    refine wmk h42 rfl rfl rfl rfl 22 rfl (fun _ => rfl) fun a45 h44 => ?_
    refine wmk h44 rfl rfl rfl rfl 23 rfl (fun _ => rfl) fun a47 h46 => ?_
    have h48 := h46.subs (l' := [(6, _), (5, _), (3, _), (2, _), (0, _)]) rfl
    clear h46
    iterate 6 go_step
    refine wmk h48 rfl rfl rfl rfl 6 rfl (fun _ => rfl) fun a50 h49 => ?_
    refine wv h49 rfl rfl rfl rfl (.bool true) (run_not rfl (h49.ev 24 rfl)) fun a52 h51 => ?_
    refine wmk h51 rfl rfl rfl rfl 25 rfl (fun _ => rfl) fun a54 h53 => ?_
    refine wpk_skip h53 (by rw [wanted_of (g := 2) (want := false) (b := true) rfl (h53.yields (prev := 26) rfl (by simp))]; rfl) rfl (by decide) (fr rfl) fun a56 h55 => ?_
    refine wpk_skip h55 (by rw [wanted_of (g := 2) (want := false) (b := true) rfl (h55.yields (prev := 26) rfl (by simp))]; rfl) rfl (by decide) (fr rfl) fun a58 h57 => ?_
    refine wpk_skip h57 (by rw [wanted_of (g := 2) (want := false) (b := true) rfl (h57.yields (prev := 26) rfl (by simp))]; rfl) rfl (by decide) (fr rfl) fun a60 h59 => ?_
    refine wpk_skip h59 (by rw [wanted_of (g := 2) (want := false) (b := true) rfl (h59.yields (prev := 26) rfl (by simp))]; rfl) rfl (by decide) (fr rfl) fun a62 h61 => ?_
    refine wpk_skip h61 (by rw [wanted_of (g := 2) (want := false) (b := true) rfl (h61.yields (prev := 26) rfl (by simp))]; rfl) rfl (by decide) (fr rfl) fun a64 h63 => ?_
    refine wpk_skip h63 (by rw [wanted_of (g := 2) (want := false) (b := true) rfl (h63.yields (prev := 26) rfl (by simp))]; rfl) rfl (by decide) (fr rfl) fun a66 h65 => ?_
    refine wpk_skip h65 (by rw [wanted_of (g := 2) (want := false) (b := true) rfl (h65.yields (prev := 26) rfl (by simp))]; rfl) rfl (by decide) (fr rfl) fun a68 h67 => ?_
    refine wv h67 rfl rfl rfl rfl (.bool true) (run_pick rfl (h67.ev 26 rfl) rfl) fun a70 h69 => ?_
    have h71 := h69.subs (l' := [(34, _), (6, _), (5, _), (3, _), (2, _), (0, _)]) rfl
    clear h69
    iterate 3 go_step
    refine wp_cond (t := true) (h71.ev 34 rfl) ?_
    simp only [if_true]
    have h72 := h71.subs (l' := [(6, _), (5, _), (3, _), (2, _), (0, _)]) rfl
    clear h71
    iterate 2 go_step
    have h73 := h72.subs (l' := [(6, _), (5, _), (3, _), (0, _)]) rfl
    clear h72
    refine wv h73 rfl rfl rfl rfl (.int .i64 0) rfl fun a75 h74 => ?_
    iterate 4 go_step
    simp only [Exit.then, Exit.inBlock]
    exact retN h74.defs (h74.known (2, .int .i64 0) (by simp)) hEnd B2.out
  | some n =>
    have hok : (getF b8 0 8).isSome = true := by rw [hg]; rfl
    have hn : (getF b8 0 8).getD 0 = n := by rw [hg]; rfl
    by_cases hle : n ≤ size - 8
    · have hEnd : endL M.V at_ size = (getF b8 0 8).getD 0 := by rw [hn]; unfold endL; rw [← HB8.out, hg]; exact if_pos hle
      have hgt : decide (((size - 8 : Nat) : Int) < (((getF b8 0 8).getD 0 : Nat) : Int)) = false := decide_eq_false (by rw [hn]; omega)
      iterate 2 go_step
      refine wmk h33 rfl rfl rfl rfl 3 rfl (fun _ => rfl) fun a77 h76 => ?_
      refine wpk_call h76 (wanted_none rfl) rfl (by decide) (fr rfl) (fun args => callP_40 args _) rfl #[.slice ba b8.length bc, .int .i64 0, .int .i64 8] (by simp only [List.map_toArray, List.map_cons, List.map_nil, h76.ev 20 rfl]; rfl) (R := fun v w' => v = getV (getF b8 0 8) ∧ w2 = w') ((get_any ba bc b8 0 8 w2 HR2.out (by omega)).mono fun e w' q => ⟨_, q.1, rfl, q.2⟩) fun a79 v3 w3 r3 h78 => ?_
      obtain ⟨rfl, rfl⟩ := r3
      refine wmk h78 rfl rfl rfl rfl 21 rfl (fun _ => rfl) fun a81 h80 => ?_
      refine wv h80 rfl rfl rfl rfl (.int .i64 (((getF b8 0 8).getD 0 : Nat) : Int)) (by unfold execOp; simp only [h80.ev 19 rfl]; exact rfl) fun a83 h82 => ?_
      refine wv h82 rfl rfl rfl rfl (.bool true) (by unfold execOp; simp only [h82.ev 19 rfl]; exact (by show _ = Result.ok (Next.value (Value.bool true)) _; rw [← hok]; rfl)) fun a85 h84 => ?_
      refine wmk h84 rfl rfl rfl rfl 22 rfl (fun _ => rfl) fun a87 h86 => ?_
      refine wmk h86 rfl rfl rfl rfl 23 rfl (fun _ => rfl) fun a89 h88 => ?_
      have h90 := h88.subs (l' := [(6, _), (5, _), (3, _), (2, _), (0, _)]) rfl
      clear h88
      iterate 6 go_step
      refine wmk h90 rfl rfl rfl rfl 6 rfl (fun _ => rfl) fun a92 h91 => ?_
      refine wv h91 rfl rfl rfl rfl (.bool false) (run_not rfl (h91.ev 24 rfl)) fun a94 h93 => ?_
      refine wmk h93 rfl rfl rfl rfl 25 rfl (fun _ => rfl) fun a96 h95 => ?_
      refine wpk_val h95 (by rw [wanted_of (g := 2) (want := false) (b := false) rfl (h95.yields (prev := 26) rfl (by simp))]; rfl) rfl (by decide) (fr rfl) (.int .i64 (((getF b8 0 8).getD 0 : Nat) : Int)) (by unfold execOp; simp only [h95.ev 5 rfl]; rfl) fun a98 h97 => ?_
      refine wpk_val h97 (by rw [wanted_of (g := 2) (want := false) (b := false) rfl (h97.yields (prev := 26) rfl (by simp))]; rfl) rfl (by decide) (fr rfl) (.pointer (some ⟨lg, 0, none⟩)) (by unfold execOp; simp only [h97.ev 0 rfl]; rfl) fun a100 h99 => ?_
      refine wpk_val h99 (by rw [wanted_of (g := 2) (want := false) (b := false) rfl (h99.yields (prev := 26) rfl (by simp))]; rfl) rfl (by decide) (fr rfl) (.pointer (some ⟨lg, 0, none⟩)) (by unfold execOp; simp only [h99.ev 28 rfl]; exact rfl) fun a102 h101 => ?_
      refine wpk_val h101 (by rw [wanted_of (g := 2) (want := false) (b := false) rfl (h101.yields (prev := 26) rfl (by simp))]; rfl) rfl (by decide) (fr rfl) (.pointer (some ⟨lg, 2, none⟩)) (by unfold execOp; simp only [h101.ev 29 rfl]; exact run_v (fa_73_0_2 (lg) _)) fun a104 h103 => ?_
      refine wpk_val h103 (by rw [wanted_of (g := 2) (want := false) (b := false) rfl (h103.yields (prev := 26) rfl (by simp))]; rfl) rfl (by decide) (fr rfl) (.int .i64 (size : Int)) (by unfold execOp; simp only [h103.ev 30 rfl]; exact run_v (loadIP (HG2.out.l.cell (i := 2) (by show 2 < 3; omega)))) fun a106 h105 => ?_
      refine wpk_val h105 (by rw [wanted_of (g := 2) (want := false) (b := false) rfl (h105.yields (prev := 26) rfl (by simp))]; rfl) rfl (by decide) (fr rfl) (.int .i64 ((size - 8 : Nat) : Int)) (by unfold execOp; simp only [h105.ev 31 rfl]; exact run_v (subIP _ _ _ _ _ (by omega) (by omega) (by omega) _)) fun a108 h107 => ?_
      refine wpk_val h107 (by rw [wanted_of (g := 2) (want := false) (b := false) rfl (h107.yields (prev := 26) rfl (by simp))]; rfl) rfl (by decide) (fr rfl) (.bool false) (by unfold execOp; simp only [h107.ev 27 rfl, h107.ev 32 rfl]; exact run_v (gtIP _ _ _ _ _ hgt)) fun a110 h109 => ?_
      refine wv h109 rfl rfl rfl rfl (.bool false) (run_pick rfl (h109.ev 26 rfl) (by rw [if_neg (by simp)]; exact h109.ev 33 rfl)) fun a112 h111 => ?_
      have h113 := h111.subs (l' := [(34, _), (6, _), (5, _), (3, _), (2, _), (0, _)]) rfl
      clear h111
      iterate 3 go_step
      refine wp_cond (t := false) (h113.ev 34 rfl) ?_
      simp only [Bool.false_eq_true, if_false]
      have h114 := h113.subs (l' := [(6, _), (5, _), (3, _), (2, _), (0, _)]) rfl
      clear h113
      iterate 5 go_step
      refine wmk h114 rfl rfl rfl rfl 5 rfl (fun _ => rfl) fun a116 h115 => ?_
      have h117 := h115.subs (l' := [(35, _), (6, _), (5, _), (3, _), (0, _)]) rfl
      clear h115
      refine wmk h117 rfl rfl rfl rfl 35 rfl (fun _ => rfl) fun a119 h118 => ?_
      have h120 := h118.subs (l' := [(2, _), (6, _), (5, _), (3, _), (0, _)]) rfl
      clear h118
      iterate 4 go_step
      exact retN h120.defs (h120.known (2, .int .i64 (((getF b8 0 8).getD 0 : Nat) : Int)) (by simp)) hEnd B2.out
    · have hEnd : endL M.V at_ size = 0 := by unfold endL; rw [← HB8.out, hg]; exact if_neg hle
      have hgt : decide (((size - 8 : Nat) : Int) < (((getF b8 0 8).getD 0 : Nat) : Int)) = true := decide_eq_true (by rw [hn]; omega)
      iterate 2 go_step
      refine wmk h33 rfl rfl rfl rfl 3 rfl (fun _ => rfl) fun a122 h121 => ?_
      refine wpk_call h121 (wanted_none rfl) rfl (by decide) (fr rfl) (fun args => callP_40 args _) rfl #[.slice ba b8.length bc, .int .i64 0, .int .i64 8] (by simp only [List.map_toArray, List.map_cons, List.map_nil, h121.ev 20 rfl]; rfl) (R := fun v w' => v = getV (getF b8 0 8) ∧ w2 = w') ((get_any ba bc b8 0 8 w2 HR2.out (by omega)).mono fun e w' q => ⟨_, q.1, rfl, q.2⟩) fun a124 v3 w3 r3 h123 => ?_
      obtain ⟨rfl, rfl⟩ := r3
      refine wmk h123 rfl rfl rfl rfl 21 rfl (fun _ => rfl) fun a126 h125 => ?_
      refine wv h125 rfl rfl rfl rfl (.int .i64 (((getF b8 0 8).getD 0 : Nat) : Int)) (by unfold execOp; simp only [h125.ev 19 rfl]; exact rfl) fun a128 h127 => ?_
      refine wv h127 rfl rfl rfl rfl (.bool true) (by unfold execOp; simp only [h127.ev 19 rfl]; exact (by show _ = Result.ok (Next.value (Value.bool true)) _; rw [← hok]; rfl)) fun a130 h129 => ?_
      refine wmk h129 rfl rfl rfl rfl 22 rfl (fun _ => rfl) fun a132 h131 => ?_
      refine wmk h131 rfl rfl rfl rfl 23 rfl (fun _ => rfl) fun a134 h133 => ?_
      have h135 := h133.subs (l' := [(6, _), (5, _), (3, _), (2, _), (0, _)]) rfl
      clear h133
      iterate 6 go_step
      refine wmk h135 rfl rfl rfl rfl 6 rfl (fun _ => rfl) fun a137 h136 => ?_
      refine wv h136 rfl rfl rfl rfl (.bool false) (run_not rfl (h136.ev 24 rfl)) fun a139 h138 => ?_
      refine wmk h138 rfl rfl rfl rfl 25 rfl (fun _ => rfl) fun a141 h140 => ?_
      refine wpk_val h140 (by rw [wanted_of (g := 2) (want := false) (b := false) rfl (h140.yields (prev := 26) rfl (by simp))]; rfl) rfl (by decide) (fr rfl) (.int .i64 (((getF b8 0 8).getD 0 : Nat) : Int)) (by unfold execOp; simp only [h140.ev 5 rfl]; rfl) fun a143 h142 => ?_
      refine wpk_val h142 (by rw [wanted_of (g := 2) (want := false) (b := false) rfl (h142.yields (prev := 26) rfl (by simp))]; rfl) rfl (by decide) (fr rfl) (.pointer (some ⟨lg, 0, none⟩)) (by unfold execOp; simp only [h142.ev 0 rfl]; rfl) fun a145 h144 => ?_
      refine wpk_val h144 (by rw [wanted_of (g := 2) (want := false) (b := false) rfl (h144.yields (prev := 26) rfl (by simp))]; rfl) rfl (by decide) (fr rfl) (.pointer (some ⟨lg, 0, none⟩)) (by unfold execOp; simp only [h144.ev 28 rfl]; exact rfl) fun a147 h146 => ?_
      refine wpk_val h146 (by rw [wanted_of (g := 2) (want := false) (b := false) rfl (h146.yields (prev := 26) rfl (by simp))]; rfl) rfl (by decide) (fr rfl) (.pointer (some ⟨lg, 2, none⟩)) (by unfold execOp; simp only [h146.ev 29 rfl]; exact run_v (fa_73_0_2 (lg) _)) fun a149 h148 => ?_
      refine wpk_val h148 (by rw [wanted_of (g := 2) (want := false) (b := false) rfl (h148.yields (prev := 26) rfl (by simp))]; rfl) rfl (by decide) (fr rfl) (.int .i64 (size : Int)) (by unfold execOp; simp only [h148.ev 30 rfl]; exact run_v (loadIP (HG2.out.l.cell (i := 2) (by show 2 < 3; omega)))) fun a151 h150 => ?_
      refine wpk_val h150 (by rw [wanted_of (g := 2) (want := false) (b := false) rfl (h150.yields (prev := 26) rfl (by simp))]; rfl) rfl (by decide) (fr rfl) (.int .i64 ((size - 8 : Nat) : Int)) (by unfold execOp; simp only [h150.ev 31 rfl]; exact run_v (subIP _ _ _ _ _ (by omega) (by omega) (by omega) _)) fun a153 h152 => ?_
      refine wpk_val h152 (by rw [wanted_of (g := 2) (want := false) (b := false) rfl (h152.yields (prev := 26) rfl (by simp))]; rfl) rfl (by decide) (fr rfl) (.bool true) (by unfold execOp; simp only [h152.ev 27 rfl, h152.ev 32 rfl]; exact run_v (gtIP _ _ _ _ _ hgt)) fun a155 h154 => ?_
      refine wv h154 rfl rfl rfl rfl (.bool true) (run_pick rfl (h154.ev 26 rfl) (by rw [if_neg (by simp)]; exact h154.ev 33 rfl)) fun a157 h156 => ?_
      have h158 := h156.subs (l' := [(34, _), (6, _), (5, _), (3, _), (2, _), (0, _)]) rfl
      clear h156
      iterate 3 go_step
      refine wp_cond (t := true) (h158.ev 34 rfl) ?_
      simp only [if_true]
      have h159 := h158.subs (l' := [(6, _), (5, _), (3, _), (2, _), (0, _)]) rfl
      clear h158
      iterate 2 go_step
      have h160 := h159.subs (l' := [(6, _), (5, _), (3, _), (0, _)]) rfl
      clear h159
      refine wv h160 rfl rfl rfl rfl (.int .i64 0) rfl fun a162 h161 => ?_
      iterate 4 go_step
      simp only [Exit.then, Exit.inBlock]
      exact retN h161.defs (h161.known (2, .int .i64 0) (by simp)) hEnd B2.out
theorem retR {w W : World} {act : Act} {M : MemM} {at_ size u : Nat} {b : List UInt8} {ra : Option Addr} {rc : Nat} {rs : List (Option Addr × Nat × List PtM)} (hd : act.defers = []) (h2 : act.tmps[2]? = some (.slice ra rs.length rc)) (h3 : act.tmps[3]? = some (.int .i64 (u : Int))) (hr : readL b = (rs.map (·.2.2), u)) (hb : b = bodyL M.V at_ size) (hR : RecsP W w.heap.size ra rc rs) (hB : Below w.heap.size w W) :
    bodyPost Tryz.prog Tryz.f47 (fun e w' => ∃ x, e = .returned x ∧ ∃ ra rc rs, x = .tuple #[.slice ra rs.length rc, .int .i64 ((logR M.V at_ size).2 : Int)] ∧ rs.map (·.2.2) = (logR M.V at_ size).1 ∧ RecsP w' w.heap.size ra rc rs ∧ Below w.heap.size w w') .ret act W := by
  have e : logR M.V at_ size = (rs.map (·.2.2), u) := by unfold logR; rw [← hb]; exact hr
  rw [e]
  exact bodyPost_ret (results_tmp2 rfl h2 h3) hd ⟨_, rfl, ra, rc, rs, rfl, rfl, hR, hB⟩
set_option maxHeartbeats 4000000 in
theorem read_any {w : World} {lg g v d p at_ size : Nat} {M : MemM} (hg0 : LogP w lg g v d p at_ size M) (hok : LogOk at_ size M) :
    Calls Tryz.prog 47 #[.pointer (some ⟨lg, 0, none⟩)] w fun e w' => ∃ x, e = .returned x ∧ ∃ ra rc rs, x = .tuple #[.slice ra rs.length rc, .int .i64 ((logR M.V at_ size).2 : Int)] ∧ rs.map (·.2.2) = (logR M.V at_ size).1 ∧ RecsP w' w.heap.size ra rc rs ∧ Below w.heap.size w w' := by
  have hbase0 := hg0.lt
  have HG0 := hid hg0
  have hok2 := hok
  obtain ⟨s1, s2, s3, s4⟩ := hok2
  obtain ⟨en, hen⟩ : ∃ n, n = endL M.V at_ size := ⟨_, rfl⟩
  have hle : en ≤ size - 8 := by rw [hen]; exact endL_le _ _ _
  obtain ⟨b, hb⟩ : ∃ b, b = bodyL M.V at_ size := ⟨_, rfl⟩
  have hbl : b.length ≤ 65536 := by rw [hb]; unfold bodyL; rw [List.length_take, ← hen]; omega
  have hseen : seenL M.V M ((at_ + 8 : Nat) : Int) en = b := by rw [hb]; unfold bodyL; rw [← hen]; exact seenL_in (by omega)
  have HBV := hid hb
  have HEN := hid hen.symm
  clear hg0 hb hen
  go_enter Tryz.func47, Tryz.ntmps47
  iterate 3 go_step
  refine wpk_enter (N := 43) (l := [(0, .pointer (some ⟨lg, 0, none⟩))]) ⟨rfl, (by intro x hx; simp only [List.mem_cons, List.not_mem_nil, or_false] at hx; rcases hx with rfl <;> rfl), rfl⟩ fun a2 h1 => ?_
  refine wv h1 rfl rfl rfl rfl (.slice none 0 0) rfl fun a4 h3 => ?_
  refine wv h3 rfl rfl rfl rfl (.int .i64 0) rfl fun a6 h5 => ?_
  iterate 4 go_step
  have HG1 := hid (HG0.out.mono (Below.refl _ _).drew)
  refine wp_region_held_drew (S := fun w' => Blk w' lg 74 (logC g at_ size)) (by kernel_rfl) HG1.out.l (fun hS1 => ?_)
  refine wpk_take hS1 h5 0 rfl rfl (by decide) (fr rfl) (by kernel_rfl) (by kernel_rfl) (by kernel_rfl) (fun _ _ _ _ h => h) (.pointer (some ⟨lg, 0, none⟩)) (Or.inl ⟨Eq.refl true, fun w1 hSw => (by show (execOp _ (⟨_, .move (.tmp 0), _, _, _, _⟩ : Oper)).run _ _ = _; exact (by unfold execOp; simp only [h5.ev 0 rfl]; exact rfl))⟩) fun a8 h7 => ?_
  refine wpk_take hS1 h7 1 rfl rfl (by decide) (fr rfl) (by kernel_rfl) (by kernel_rfl) (by kernel_rfl) (fun _ _ _ _ h => h) (.pointer (some ⟨lg, 0, none⟩)) (Or.inl ⟨Eq.refl true, fun w1 hSw => (by show (execOp _ (⟨_, .nilCheck (.tmp 10), _, _, _, _⟩ : Oper)).run _ _ = _; exact (by unfold execOp; simp only [h7.ev 10 rfl]; exact rfl))⟩) fun a10 h9 => ?_
  refine wpk_take hS1 h9 2 rfl rfl (by decide) (fr rfl) (by kernel_rfl) (by kernel_rfl) (by kernel_rfl) (fun _ _ _ _ h => h) (.pointer (some ⟨lg, 0, none⟩)) (Or.inl ⟨Eq.refl true, fun w1 hSw => (by show (execOp _ (⟨_, .fieldAddr 74 (.tmp 11) 0, _, _, _, _⟩ : Oper)).run _ _ = _; exact (by unfold execOp; simp only [h9.ev 11 rfl]; exact run_v (fa_73_0_0 (lg) _)))⟩) fun a12 h11 => ?_
  refine wpk_take hS1 h11 3 rfl rfl (by decide) (fr rfl) (by kernel_rfl) (by kernel_rfl) (by kernel_rfl) (fun _ _ _ _ h => h) (.pointer (some ⟨g, 0, none⟩)) (Or.inl ⟨Eq.refl true, fun w1 hSw => (by show (execOp _ (⟨_, .load 34 (.tmp 12), _, _, _, _⟩ : Oper)).run _ _ = _; exact (by unfold execOp; simp only [h11.ev 12 rfl]; exact run_v (loadMP (hSw.cell (i := 0) (by show 0 < 3; omega)))))⟩) fun a14 h13 => ?_
  refine wpk_take hS1 h13 4 rfl rfl (by decide) (fr rfl) (by kernel_rfl) (by kernel_rfl) (by kernel_rfl) (fun _ _ _ _ h => h) (.pointer (some ⟨lg, 0, none⟩)) (Or.inl ⟨Eq.refl true, fun w1 hSw => (by show (execOp _ (⟨_, .move (.tmp 0), _, _, _, _⟩ : Oper)).run _ _ = _; exact (by unfold execOp; simp only [h13.ev 0 rfl]; exact rfl))⟩) fun a16 h15 => ?_
  refine wpk_take hS1 h15 5 rfl rfl (by decide) (fr rfl) (by kernel_rfl) (by kernel_rfl) (by kernel_rfl) (fun _ _ _ _ h => h) (.pointer (some ⟨lg, 0, none⟩)) (Or.inl ⟨Eq.refl true, fun w1 hSw => (by show (execOp _ (⟨_, .nilCheck (.tmp 14), _, _, _, _⟩ : Oper)).run _ _ = _; exact (by unfold execOp; simp only [h15.ev 14 rfl]; exact rfl))⟩) fun a18 h17 => ?_
  refine wpk_take hS1 h17 6 rfl rfl (by decide) (fr rfl) (by kernel_rfl) (by kernel_rfl) (by kernel_rfl) (fun _ _ _ _ h => h) (.pointer (some ⟨lg, 1, none⟩)) (Or.inl ⟨Eq.refl true, fun w1 hSw => (by show (execOp _ (⟨_, .fieldAddr 74 (.tmp 15) 1, _, _, _, _⟩ : Oper)).run _ _ = _; exact (by unfold execOp; simp only [h17.ev 15 rfl]; exact run_v (fa_73_0_1 (lg) _)))⟩) fun a20 h19 => ?_
  refine wpk_take hS1 h19 7 rfl rfl (by decide) (fr rfl) (by kernel_rfl) (by kernel_rfl) (by kernel_rfl) (fun _ _ _ _ h => h) (.int .i64 (at_ : Int)) (Or.inl ⟨Eq.refl true, fun w1 hSw => (by show (execOp _ (⟨_, .load 3 (.tmp 16), _, _, _, _⟩ : Oper)).run _ _ = _; exact (by unfold execOp; simp only [h19.ev 16 rfl]; exact run_v (loadIP (hSw.cell (i := 1) (by show 1 < 3; omega)))))⟩) fun a22 h21 => ?_
  refine wpk_take hS1 h21 8 rfl rfl (by decide) (fr rfl) (by kernel_rfl) (by kernel_rfl) (by kernel_rfl) (fun _ _ _ _ h => h) (.int .i64 ((at_ + 8 : Nat) : Int)) (Or.inl ⟨Eq.refl true, fun w1 hSw => (by show (execOp _ (⟨_, .binOp .add 3 (.tmp 17) (.const (.int .i64 8)) 3, _, _, _, _⟩ : Oper)).run _ _ = _; exact (by unfold execOp; simp only [h21.ev 17 rfl]; exact run_v (addNP _ _ _ _ _ (by omega) (by omega) (by omega) _)))⟩) fun a24 h23 => ?_
  refine wpk_take hS1 h23 9 rfl rfl (by decide) (fr rfl) (by kernel_rfl) (by kernel_rfl) (by kernel_rfl) (fun _ _ _ _ h => h) (.pointer (some ⟨lg, 0, none⟩)) (Or.inl ⟨Eq.refl true, fun w1 hSw => (by show (execOp _ (⟨_, .move (.tmp 0), _, _, _, _⟩ : Oper)).run _ _ = _; exact (by unfold execOp; simp only [h23.ev 0 rfl]; exact rfl))⟩) fun a26 h25 => ?_
  refine wpk_only 10 rfl rfl (by kernel_rfl) fun K hK => op_call h25 rfl (by decide) (fr rfl) (fun args => callP_27 args _) rfl #[.pointer (some ⟨lg, 0, none⟩)] (by simp only [List.map_toArray, List.map_cons, List.map_nil, h25.ev 19 rfl]) (R := fun v w' => v = .int .i64 (en : Int) ∧ Below w.drew.heap.size w.drew w') ((by have z := end_any HG1.out hok; rw [HEN.out] at z; exact z)) fun a28 v2 w2 r2 h27 => hK _ _ (HG1.out.l.mono r2.2) fun hS2 => ?_
  clear hK K
  obtain ⟨rfl, b2⟩ := r2
  have HG2 := hid (HG1.out.mono b2); have B2 : Hid (Below w.heap.size w w2) := hid ((Below.refl _ w).drew.trans b2); clear b2
  refine wpk_only 11 rfl rfl (by kernel_rfl) fun K hK => op_call h27 rfl (by decide) (fr rfl) (fun args => callP_55 args _) rfl #[.pointer (some ⟨g, 0, none⟩), .int .i64 ((at_ + 8 : Nat) : Int), .int .i64 (en : Int)] (by simp only [List.map_toArray, List.map_cons, List.map_nil, h27.ev 13 rfl, h27.ev 18 rfl, h27.ev 20 rfl]) (R := fun v w' => ∃ a c, v = .tuple #[.slice a (seenL M.V M ((at_ + 8 : Nat) : Int) en).length c, .int .i64 (errM M ((at_ + 8 : Nat) : Int) en)] ∧ OwnB w' w2.heap.size a c (seenL M.V M ((at_ + 8 : Nat) : Int) en) ∧ Below w2.heap.size w2 w') ((load_u HG2.out.m ((at_ + 8 : Nat) : Int) en (by unfold i64B; omega) (by unfold i64B; omega)).mono fun e w' q => by obtain ⟨x, y, q1, q2, q3⟩ := q; exact ⟨_, q1, x, y, rfl, q2, q3⟩) fun a30 v3 w3 r3 h29 => hK _ _ (by obtain ⟨x, y, _, _, q⟩ := r3; exact HG2.out.l.mono q) fun hS3 => ?_
  clear hK K
  obtain ⟨ba, bc, rfl, o3, b3⟩ := r3
  rw [hseen] at o3 h29
  have HG3 := hid (HG2.out.mono b3); have HB3 := hid (Own.low o3 B2.out.size); have B3 := hid (kept_trans B2.out b3); clear o3 b3
  refine wpk_take hS3 h29 12 rfl rfl (by decide) (fr rfl) (by kernel_rfl) (by kernel_rfl) (by kernel_rfl) (fun _ _ _ _ h => h) (.tuple #[.slice ba b.length bc, .int .i64 (errM M ((at_ + 8 : Nat) : Int) en)]) (Or.inl ⟨Eq.refl true, fun w1 hSw => (by show (execOp _ (⟨_, .move (.tmp 21), _, _, _, _⟩ : Oper)).run _ _ = _; exact (by unfold execOp; simp only [h29.ev 21 rfl]; exact rfl))⟩) fun a32 h31 => ?_
  refine wpk_take hS3 h31 13 rfl rfl (by decide) (fr rfl) (by kernel_rfl) (by kernel_rfl) (by kernel_rfl) (fun _ _ _ _ h => h) (.slice ba b.length bc) (Or.inl ⟨Eq.refl true, fun w1 hSw => (by show (execOp _ (⟨_, .extract (.tmp 9) 0, _, _, _, _⟩ : Oper)).run _ _ = _; exact (by unfold execOp; simp only [h31.ev 9 rfl]; exact rfl))⟩) fun a34 h33 => ?_
  refine wpk_take hS3 h33 14 rfl rfl (by decide) (fr rfl) (by kernel_rfl) (by kernel_rfl) (by kernel_rfl) (fun _ _ _ _ h => h) (.int .i64 (errM M ((at_ + 8 : Nat) : Int) en)) (Or.inl ⟨Eq.refl true, fun w1 hSw => (by show (execOp _ (⟨_, .extract (.tmp 9) 1, _, _, _, _⟩ : Oper)).run _ _ = _; exact (by unfold execOp; simp only [h33.ev 9 rfl]; exact rfl))⟩) fun a36 h35 => ?_
  refine wpk_take hS3 h35 15 rfl rfl (by decide) (fr rfl) (by kernel_rfl) (by kernel_rfl) (by kernel_rfl) (fun _ _ _ _ h => h) (.slice ba b.length bc) (Or.inl ⟨Eq.refl true, fun w1 hSw => (by show (execOp _ (⟨_, .assign (.tmp 22), _, _, _, _⟩ : Oper)).run _ _ = _; exact (by unfold execOp; simp only [h35.ev 22 rfl]; exact rfl))⟩) fun a38 h37 => ?_
  refine wpk_take hS3 h37 16 rfl rfl (by decide) (fr rfl) (by kernel_rfl) (by kernel_rfl) (by kernel_rfl) (fun _ _ _ _ h => h) (.int .i64 (errM M ((at_ + 8 : Nat) : Int) en)) (Or.inl ⟨Eq.refl true, fun w1 hSw => (by show (execOp _ (⟨_, .assign (.tmp 23), _, _, _, _⟩ : Oper)).run _ _ = _; exact (by unfold execOp; simp only [h37.ev 23 rfl]; exact rfl))⟩) fun a40 h39 => ?_
  refine wpAnyH_done (by kernel_rfl) ?_ _
  have h41 := h39.subs (l' := [(4, _), (3, _), (2, _), (0, _)]) rfl
  clear h39
  iterate 3 go_step
  have h42 := h41.subs (l' := [(2, _), (3, _), (4, _), (0, _)]) rfl
  clear h41
  refine wp_loop (I := fun a' w' => ∃ (u k : Nat) (ra : Option Addr) (rc : Nat) (rs : List (Option Addr × Nat × List PtM)), u ≤ b.length ∧ Kn 43 [(2, .slice ra rs.length rc), (3, .int .i64 (u : Int)), (4, .slice ba b.length bc), (0, .pointer (some ⟨lg, 0, none⟩))] a' ∧ LogP w' lg g v d p at_ size M ∧ OwnB w' w.heap.size ba bc b ∧ RecsP w' w.heap.size ra rc rs ∧ Below w.heap.size w w' ∧ readL b = readR b k u (rs.map (·.2.2)) ∧ b.length - u < k ∧ rs.length ≤ u) (μ := fun a' _ => b.length - (intOf (a'.eval (.tmp 3))).toNat) ⟨0, b.length + 1, none, 0, [], Nat.zero_le _, h42, HG3.out, HB3.out, RecsP.nil _ _, B3.out, rfl, by omega, Nat.le_refl _⟩ ?_
  clear HG3 HB3 B3 h42
  rintro aL wL ⟨u, k, ra, rc, rs, hu, hK, hG, hB, hRS, hBL, hrd, huk, hru⟩
  have HG := hid hG; have HB := hid hB; have HRS := hid hRS; have HBL := hid hBL; have HRD := hid hrd; clear hG hB hRS hBL hrd
  iterate 4 go_step
  refine wmk hK rfl rfl rfl rfl 4 rfl (fun _ => rfl) fun a44 h43 => ?_
  refine wmk h43 rfl rfl rfl rfl 3 rfl (fun _ => rfl) fun a46 h45 => ?_
  obtain ⟨dp, hsl, hrow⟩ := sliceL HB.out.row u hu
  have hyl : (b.drop u).length = b.length - u := by rw [List.length_drop]
  refine wv h45 rfl rfl rfl rfl (.slice dp (b.length - u) (bc - u)) (by unfold execOp; simp only [Option.map_some, Option.map_none, h45.ev 25 rfl, h45.ev 26 rfl]; exact run_v (hsl _)) fun a48 h47 => ?_
  refine wpk_call h47 (wanted_none rfl) rfl (by decide) (fr rfl) (fun args => callP_14 args _) rfl #[.slice dp (b.length - u) (bc - u)] (by simp only [List.map_toArray, List.map_cons, List.map_nil, h47.ev 27 rfl]) (R := fun v w' => ∃ la lc, v = .tuple #[.slice la (decD (b.drop u)).1.length lc, .int .i64 (decD (b.drop u)).2.1, .int .i64 (decD (b.drop u)).2.2] ∧ OwnPt w' wL.heap.size la lc (decD (b.drop u)).1 ∧ Below wL.heap.size wL w') ((by have z := decode_any hrow (by omega); rw [hyl] at z; exact z)) fun a50 v5 w5 r5 h49 => ?_
  obtain ⟨la, lc, rfl, o5, b5⟩ := r5
  obtain ⟨D, hD⟩ : ∃ D, D = decD (b.drop u) := ⟨_, rfl⟩
  rw [← hD] at o5 h49
  have HG5 := hid (HG.out.mono b5); have HB5 := hid (Own.mono HB.out b5); have HRS5 := hid (HRS.out.mono b5); have HO5 := hid (Own.low o5 HBL.out.size); have HBL5 := hid (kept_trans HBL.out b5); have HDD := hid hD; clear o5 b5 hD
  refine wmk h49 rfl rfl rfl rfl 28 rfl (fun _ => rfl) fun a52 h51 => ?_
  refine wv h51 rfl rfl rfl rfl (.slice la D.1.length lc) (by unfold execOp; simp only [h51.ev 24 rfl]; exact rfl) fun a54 h53 => ?_
  refine wv h53 rfl rfl rfl rfl (.int .i64 D.2.1) (by unfold execOp; simp only [h53.ev 24 rfl]; exact rfl) fun a56 h55 => ?_
  refine wv h55 rfl rfl rfl rfl (.int .i64 D.2.2) (by unfold execOp; simp only [h55.ev 24 rfl]; exact rfl) fun a58 h57 => ?_
  refine wmk h57 rfl rfl rfl rfl 29 rfl (fun _ => rfl) fun a60 h59 => ?_
  refine wmk h59 rfl rfl rfl rfl 30 rfl (fun _ => rfl) fun a62 h61 => ?_
  refine wmk h61 rfl rfl rfl rfl 31 rfl (fun _ => rfl) fun a64 h63 => ?_
  have h65 := h63.subs (l' := [(8, _), (7, _), (6, _), (2, _), (3, _), (4, _), (0, _)]) rfl
  clear h63
  iterate 4 go_step
  obtain ⟨k, rfl⟩ : ∃ j, k = j + 1 := ⟨k - 1, by omega⟩
  have HR1 : Hid (readL b = if D.2.2 = 0 then readR b k (u + D.2.1.toNat) (rs.map (·.2.2) ++ [D.1]) else (rs.map (·.2.2), u)) := hid (by rw [HRD.out, HDD.out]; rfl)
  by_cases hD0 : D.2.2 = 0
  · have hbad : (D.2.2 != 0) = false := by rw [hD0]; rfl
    obtain ⟨n, hn, hn1, hn2⟩ := decD_n (xs := b.drop u) (by rw [← HDD.out]; exact hD0)
    rw [← HDD.out] at hn
    rw [hyl] at hn2
    have hbase : lg < w.heap.size ∧ g < w.heap.size ∧ v < w.heap.size ∧ d < w.heap.size ∧ p < w.heap.size := hbase0
    rw [hn] at h65
    iterate 2 go_step
    refine wmk h65 rfl rfl rfl rfl 8 rfl (fun _ => rfl) fun a67 h66 => ?_
    refine wv h66 rfl rfl rfl rfl (.bool false) (by unfold execOp; simp only [h66.ev 32 rfl]; exact run_v (neEP _ _ _ _ _ hbad)) fun a69 h68 => ?_
    have h70 := h68.subs (l' := [(33, _), (8, _), (7, _), (6, _), (2, _), (3, _), (4, _), (0, _)]) rfl
    clear h68
    iterate 3 go_step
    refine wp_cond (t := false) (h70.ev 33 rfl) ?_
    simp only [Bool.false_eq_true, if_false]
    have h71 := h70.subs (l' := [(8, _), (7, _), (6, _), (2, _), (3, _), (4, _), (0, _)]) rfl
    clear h70
    iterate 5 go_step
    refine wmk h71 rfl rfl rfl rfl 2 rfl (fun _ => rfl) fun a73 h72 => ?_
    refine wmk h72 rfl rfl rfl rfl 6 rfl (fun _ => rfl) fun a75 h74 => ?_
    refine wv h74 rfl rfl rfl rfl (.slice (some ⟨w5.heap.size, 0, none⟩) 1 1) (by unfold execOp; simp only [List.map_toArray, List.map_cons, List.map_nil, h74.ev 37 rfl]; exact run_v (buildRec _ _ _ _)) fun a77 h76 => ?_
    obtain ⟨w6, hw6⟩ : ∃ x, x = w5.alloc (.cells #[.slice la D.1.length lc] 44) := ⟨_, rfl⟩
    have b6 : Below w5.heap.size w5 w6 := by rw [hw6]; exact albO _ _
    have R6 : Row w6 1 (some ⟨w5.heap.size, 0, none⟩) 1 1 [.slice la D.1.length lc] := by rw [hw6]; exact row_new1P w5 _ _
    have HG6 := hid (HG5.out.mono b6); have HB6 := hid (Own.mono HB5.out b6); have HRS6 := hid (HRS5.out.mono b6); have HO6 := hid (Own.mono HO5.out b6); have HBL6 := hid (kept_trans HBL5.out b6); have HR6 := hid R6; clear b6 R6
    rw [← hw6]; clear hw6
    refine wpl_append rfl (.tmp 36) (.tmp 38) rfl ERec w.heap.size (h76.ev 36 rfl) (h76.ev 38 rfl) HRS6.out.o HR6.out (by intro x hx; simp only [List.mem_cons, List.not_mem_nil, or_false] at hx; subst hx; rfl) (by omega) (by omega) HBL6.out.size ?_
    intro ra2 rc2 w7 o7 g7 b7
    refine wpk_enter (h76.put (d := 39) (by decide) (fr rfl) (.slice ra2 (rs.length + 1) rc2)) fun a79 h78 => ?_
    have HG7 := hid (HG6.out.below b7 hbase); have HB7 := hid (own_past HB6.out HRS6.out.o (by decide) g7); have HBL7 := hid (HBL6.out.trans b7)
    have HRS7 : Hid (RecsP w7 w.heap.size ra2 rc2 (rs ++ [(la, lc, D.1)])) := hid ⟨by rw [List.length_append, List.map_append]; exact o7, fun r hr => by rcases List.mem_append.1 hr with q | q; exact own_past (HRS6.out.i r q) HRS6.out.o (by decide) g7; rw [List.mem_singleton.1 q]; exact own_past HO6.out HRS6.out.o (by decide) g7⟩
    clear o7 g7 b7
    have h80 := h78.subs (l' := [(39, _), (38, _), (37, _), (36, _), (8, _), (7, _), (6, _), (3, _), (4, _), (0, _)]) rfl
    clear h78
    refine wmk h80 rfl rfl rfl rfl 39 rfl (fun _ => rfl) fun a82 h81 => ?_
    have h83 := h81.subs (l' := [(2, _), (8, _), (7, _), (6, _), (3, _), (4, _), (0, _)]) rfl
    clear h81
    iterate 4 go_step
    refine wmk h83 rfl rfl rfl rfl 3 rfl (fun _ => rfl) fun a85 h84 => ?_
    refine wmk h84 rfl rfl rfl rfl 7 rfl (fun _ => rfl) fun a87 h86 => ?_
    refine wv h86 rfl rfl rfl rfl (.int .i64 ((u + n : Nat) : Int)) (by unfold execOp; simp only [h86.ev 40 rfl, h86.ev 41 rfl]; exact run_v (addNP _ _ _ _ _ (by omega) (by omega) (by omega) _)) fun a89 h88 => ?_
    have h90 := h88.subs (l' := [(42, _), (41, _), (40, _), (2, _), (8, _), (7, _), (6, _), (4, _), (0, _)]) rfl
    clear h88
    refine wmk h90 rfl rfl rfl rfl 42 rfl (fun _ => rfl) fun a92 h91 => ?_
    have h93 := h91.subs (l' := [(3, _), (2, _), (8, _), (7, _), (6, _), (4, _), (0, _)]) rfl
    clear h91
    iterate 2 go_step
    refine ⟨⟨u + n, k, ra2, rc2, rs ++ [(la, lc, D.1)], by omega, ?_, HG7.out, HB7.out, HRS7.out, HBL7.out, ?_, by omega, by rw [List.length_append]; show rs.length + 1 ≤ _; omega⟩, ?_⟩
    · rw [List.length_append]; exact h93.subs rfl
    · rw [HR1.out, if_pos hD0, hn, Int.toNat_natCast, List.map_append]; rfl
    · rw [h93.ev 3 rfl, hK.ev 3 rfl]; simp [intOf]; omega
  · have hbad : (D.2.2 != 0) = true := by simp [bne, hD0]
    iterate 2 go_step
    refine wmk h65 rfl rfl rfl rfl 8 rfl (fun _ => rfl) fun a95 h94 => ?_
    refine wv h94 rfl rfl rfl rfl (.bool true) (by unfold execOp; simp only [h94.ev 32 rfl]; exact run_v (neEP _ _ _ _ _ hbad)) fun a97 h96 => ?_
    have h98 := h96.subs (l' := [(33, _), (8, _), (7, _), (6, _), (2, _), (3, _), (4, _), (0, _)]) rfl
    clear h96
    iterate 3 go_step
    refine wp_cond (t := true) (h98.ev 33 rfl) ?_
    simp only [if_true]
    have h99 := h98.subs (l' := [(8, _), (7, _), (6, _), (2, _), (3, _), (4, _), (0, _)]) rfl
    clear h98
    iterate 2 go_step
    refine wmk h99 rfl rfl rfl rfl 2 rfl (fun _ => rfl) fun a101 h100 => ?_
    refine wmk h100 rfl rfl rfl rfl 3 rfl (fun _ => rfl) fun a103 h102 => ?_
    have h104 := h102.subs (l' := [(35, _), (34, _), (8, _), (7, _), (6, _), (3, _), (4, _), (0, _)]) rfl
    clear h102
    refine wmk h104 rfl rfl rfl rfl 34 rfl (fun _ => rfl) fun a106 h105 => ?_
    have h107 := h105.subs (l' := [(2, _), (35, _), (34, _), (8, _), (7, _), (6, _), (4, _), (0, _)]) rfl
    clear h105
    refine wmk h107 rfl rfl rfl rfl 35 rfl (fun _ => rfl) fun a109 h108 => ?_
    have h110 := h108.subs (l' := [(3, _), (2, _), (8, _), (7, _), (6, _), (4, _), (0, _)]) rfl
    clear h108
    iterate 4 go_step
    simp only [Exit.then, Exit.inBlock]
    exact retR h110.defs (h110.known (2, .slice ra rs.length rc) (by simp)) (h110.known (3, .int .i64 (u : Int)) (by simp)) (HR1.out.trans (if_neg hD0)) HBV.out HRS5.out HBL5.out
end Go.Proofs.YtcackliabemecaaGreatDoor
/- (*plog.Log).setEnd. (genPlgR.py) -/
namespace Go.Proofs.YtcackliabemecaaGreatDoor
open Go.RowKit
set_option linter.unusedSimpArgs false
set_option linter.unusedVariables false
set_option maxRecDepth 100000
theorem callP_46 (args : Array Value) (w : World) : (callFunc 48 args).run Tryz.prog w = .ok (.enter 48 args) w := by
  have h := Tryz.func48
  go_simp

theorem bodyPost_normP {P : Program} {fn : Func} {R : Ending → World → Prop} {a : Act} {w : World} {v : Value} (hv : (results fn a.tmps).run P w = .ok v w) (hd : a.defers = []) (h : R (.returned v) w) : bodyPost P fn R .normal a w := ⟨hd, v, hv, h⟩
theorem buildPts (p : PtM) (w : World) : (Instr.buildSlice 44 1 #[(0, ptV p)]).run Tryz.prog w = .ok (.slice (some ⟨w.heap.size, 0, none⟩) ([p] : List PtM).length 1) (w.alloc (.cells (ptC p).toArray 47)) := by
  have u3 := Tryz.underlying44
  have u9 := Tryz.underlying47
  have z3 := Tryz.sizeOf47
  unfold ptV ptC strB
  go_simp
theorem rowPt1 (w : World) (p : PtM) : RowPt (w.alloc (.cells (ptC p).toArray 47)) (some ⟨w.heap.size, 0, none⟩) 1 [p] := by
  refine ⟨rfl, Nat.le_refl _, by unfold maxLen; omega, fun h => by (cases h), fun _ => ⟨w.heap.size, 0, rfl, by simp, fun j u hu => ?_⟩⟩
  have hh := heap_alloc_new w (.cells (ptC p).toArray 47)
  unfold World.cell?
  rw [show (⟨w.heap.size, 0 + j, none⟩ : Addr).block = w.heap.size from rfl, hh]
  simpa using hu
def setM (M : MemM) (at_ : Nat) (n : Int) : MemM := writeM M [⟨(at_ : Int), putF [] n 8⟩]
theorem putF8_len (n : Int) : (putF [] n 8).length ≤ 8 := putF_lenA [] n 8

set_option maxHeartbeats 4000000 in
theorem setEnd_any {w : World} {lg g v d p at_ size : Nat} {M : MemM} (hg0 : LogP w lg g v d p at_ size M) (n : Int) (hn : n ≤ 1000000) (ha : at_ ≤ 1048576) :
    Calls Tryz.prog 49 #[.pointer (some ⟨lg, 0, none⟩), .int .i64 n] w fun e w' => ∃ x, e = .returned x ∧ LogP w' lg g v d p at_ size (setM M at_ n) ∧ Turns (XM v d p) w w' := by
  have HG0 := hid hg0
  have hp64a : okI (⟨(at_ : Int), putF [] n 8⟩ : PtM).at_ := by unfold okI; show _ ≤ (at_ : Int) ∧ (at_ : Int) ≤ _; omega
  have hpda : (⟨(at_ : Int), putF [] n 8⟩ : PtM).d.length ≤ 1000000 := by have := putF8_len n; show (putF [] n 8).length ≤ _; omega
  clear hg0
  go_enter Tryz.func49, Tryz.ntmps49
  obtain ⟨ac, hac⟩ : ∃ x : Act, x = { tmps := #[.pointer (some ⟨lg, 0, none⟩), .int .i64 n, undef, undef, undef, undef, undef, undef, undef, undef, undef, undef, undef, undef, undef], defers := [] } := ⟨_, rfl⟩
  have h0 : Kn 15 [(0, .pointer (some ⟨lg, 0, none⟩)), (1, .int .i64 n)] ac := ⟨by rw [hac]; rfl, (by intro x hx; rw [hac]; simp only [List.mem_cons, List.not_mem_nil, or_false] at hx; rcases hx with rfl | rfl <;> rfl), by rw [hac]⟩
  rw [← hac]
  clear hac
  have HG1 := hid (HG0.out.mono (Below.refl _ _).drew); have HT1 : Hid (Turns (XM v d p) w w.drew) := hid (Turns.refl _ _).drew
  refine wp_region_held_drew (S := fun w' => Blk w' lg 74 (logC g at_ size) ∧ True) (by kernel_rfl) ⟨HG1.out.l, trivial⟩ (fun hS1 => ?_)
  refine wpk_take hS1 h0 0 rfl rfl (by decide) (fr rfl) (by kernel_rfl) (by kernel_rfl) (by kernel_rfl) (fun _ _ _ _ h => h) (.pointer (some ⟨lg, 0, none⟩)) (Or.inl ⟨Eq.refl true, fun w1 hSw => (by show (execOp _ (⟨_, .move (.tmp 0), _, _, _, _⟩ : Oper)).run _ _ = _; exact (by unfold execOp; simp only [h0.ev 0 rfl]; exact rfl))⟩) fun a2 h1 => ?_
  refine wpk_take hS1 h1 1 rfl rfl (by decide) (fr rfl) (by kernel_rfl) (by kernel_rfl) (by kernel_rfl) (fun _ _ _ _ h => h) (.pointer (some ⟨lg, 0, none⟩)) (Or.inl ⟨Eq.refl true, fun w1 hSw => (by show (execOp _ (⟨_, .move (.tmp 0), _, _, _, _⟩ : Oper)).run _ _ = _; exact (by unfold execOp; simp only [h1.ev 0 rfl]; exact rfl))⟩) fun a4 h3 => ?_
  refine wpk_take hS1 h3 2 rfl rfl (by decide) (fr rfl) (by kernel_rfl) (by kernel_rfl) (by kernel_rfl) (fun _ _ _ _ h => h) (.pointer (some ⟨lg, 0, none⟩)) (Or.inl ⟨Eq.refl true, fun w1 hSw => (by show (execOp _ (⟨_, .nilCheck (.tmp 5), _, _, _, _⟩ : Oper)).run _ _ = _; exact (by unfold execOp; simp only [h3.ev 5 rfl]; exact rfl))⟩) fun a6 h5 => ?_
  refine wpk_take hS1 h5 3 rfl rfl (by decide) (fr rfl) (by kernel_rfl) (by kernel_rfl) (by kernel_rfl) (fun _ _ _ _ h => h) (.pointer (some ⟨lg, 1, none⟩)) (Or.inl ⟨Eq.refl true, fun w1 hSw => (by show (execOp _ (⟨_, .fieldAddr 74 (.tmp 6) 1, _, _, _, _⟩ : Oper)).run _ _ = _; exact (by unfold execOp; simp only [h5.ev 6 rfl]; exact run_v (fa_73_0_1 (lg) _)))⟩) fun a8 h7 => ?_
  refine wpk_take hS1 h7 4 rfl rfl (by decide) (fr rfl) (by kernel_rfl) (by kernel_rfl) (by kernel_rfl) (fun _ _ _ _ h => h) (.int .i64 (at_ : Int)) (Or.inl ⟨Eq.refl true, fun w1 hSw => (by show (execOp _ (⟨_, .load 3 (.tmp 7), _, _, _, _⟩ : Oper)).run _ _ = _; exact (by unfold execOp; simp only [h7.ev 7 rfl]; exact run_v (loadIP (hSw.1.cell (i := 1) (by show 1 < 3; omega)))))⟩) fun a10 h9 => ?_
  refine wpk_take hS1 h9 5 rfl rfl (by decide) (fr rfl) (by kernel_rfl) (by kernel_rfl) (by kernel_rfl) (fun _ _ _ _ h => h) (.int .i64 n) (Or.inl ⟨Eq.refl true, fun w1 hSw => (by show (execOp _ (⟨_, .move (.tmp 1), _, _, _, _⟩ : Oper)).run _ _ = _; exact (by unfold execOp; simp only [h9.ev 1 rfl]; exact rfl))⟩) fun a12 h11 => ?_
  refine wpk_only 6 rfl rfl (by kernel_rfl) fun K hK => op_call h11 rfl (by decide) (fr rfl) (fun args => callP_31 args _) rfl #[.slice none 0 0, .int .i64 n, .int .i64 8] (by simp only [List.map_toArray, List.map_cons, List.map_nil, h11.ev 9 rfl]; rfl) (R := fun v w' => ∃ a c, v = .slice a (putF [] n 8).length c ∧ OwnB w' w.drew.heap.size a c (putF [] n 8) ∧ Below w.drew.heap.size w.drew w') ((put_any none 0 [] n 8 w.drew (Row.nil _ _) (by simp) (by omega)).mono fun e w' q => by obtain ⟨a2, c2, q1, q2, q3⟩ := q; exact ⟨_, q1, a2, c2, rfl, q2, q3⟩) fun a14 v2 w2 r2 h13 => hK _ _ (by obtain ⟨x, y, _, _, q⟩ := r2; exact ⟨hS1.1.mono q, trivial⟩) fun hS2 => ?_
  clear hK K
  obtain ⟨ba, bc, rfl, o2, b2⟩ := r2
  have HG2 := hid (HG1.out.mono b2); have HT2 : Hid (Turns (XM v d p) w w2) := hid (HT1.out.trans (Turns.of_below b2)); have hst := run_str o2.row; clear b2
  refine wpk_only 7 rfl rfl (by kernel_rfl) fun K hK => op_val (w' := w2) h13 rfl (by decide) (fr rfl) (strB (putF [] n 8)) (by show (execOp _ (⟨_, .convert 26 9 (.tmp 10), _, _, _, _⟩ : Oper)).run _ _ = _; exact (by unfold execOp; simp only [h13.ev 10 rfl]; exact run_v hst)) fun a16 h15 => hK _ _ (hS2) fun hS3 => ?_
  clear hK K
  refine wpk_take hS3 h15 8 rfl rfl (by decide) (fr rfl) (by kernel_rfl) (by kernel_rfl) (by kernel_rfl) (fun _ _ _ _ h => h) (ptV ⟨(at_ : Int), putF [] n 8⟩) (Or.inl ⟨Eq.refl true, fun w1 hSw => (by show (execOp _ (⟨_, .build 47 #[(0, (.tmp 8)), (1, (.tmp 11))], _, _, _, _⟩ : Oper)).run _ _ = _; exact (by unfold execOp; simp only [List.map_toArray, List.map_cons, List.map_nil, h15.ev 8 rfl, h15.ev 11 rfl]; exact run_v (buildPt _ _ _)))⟩) fun a18 h17 => ?_
  obtain ⟨wsa, hwsa⟩ : ∃ x, x = w2.alloc (.cells (ptC ⟨(at_ : Int), putF [] n 8⟩).toArray 47) := ⟨_, rfl⟩
  have bsa : Below w2.heap.size w2 wsa := by rw [hwsa]; exact albO _ _
  have rsa : RowPt wsa (some ⟨w2.heap.size, 0, none⟩) 1 [⟨(at_ : Int), putF [] n 8⟩] := by rw [hwsa]; exact rowPt1 _ _
  refine wpk_only 9 rfl rfl (by kernel_rfl) fun K hK => op_val (w' := wsa) h17 rfl (by decide) (fr rfl) (.slice (some ⟨w2.heap.size, 0, none⟩) ([⟨(at_ : Int), putF [] n 8⟩] : List PtM).length 1) (by show (execOp _ (⟨_, .buildSlice 44 1 #[(0, (.tmp 12))], _, _, _, _⟩ : Oper)).run _ _ = _; exact (by unfold execOp; simp only [List.map_toArray, List.map_cons, List.map_nil, h17.ev 12 rfl]; rw [hwsa]; exact run_v (buildPts _ _))) fun a20 h19 => hK _ _ (⟨hS3.1.mono bsa, trivial⟩) fun hSsa => ?_
  clear hK K
  have HGsa := hid (HG2.out.mono bsa); have HTsa : Hid (Turns (XM v d p) w wsa) := hid (HT2.out.trans (Turns.of_below bsa)); have hnwa := HG2.out.lt; have HRsa := hid rsa; clear hwsa rsa bsa
  refine wpk_only 10 rfl rfl (by kernel_rfl) fun K hK => op_call h19 rfl (by decide) (fr rfl) (fun args => callP_46 args _) rfl #[.pointer (some ⟨lg, 0, none⟩), .slice (some ⟨w2.heap.size, 0, none⟩) ([⟨(at_ : Int), putF [] n 8⟩] : List PtM).length 1] (by simp only [List.map_toArray, List.map_cons, List.map_nil, h19.ev 4 rfl, h19.ev 13 rfl]) (R := fun xv w' => LogP w' lg g v d p at_ size (writeM M [⟨(at_ : Int), putF [] n 8⟩]) ∧ Turns (XM v d p) wsa w') ((logWrite_any HGsa.out (fun W t => t.row HRsa.out (fun _ b hb => by obtain ⟨off, e⟩ := hb; cases e; rintro (e | e | e) <;> omega)) (by intro q hq; rw [List.mem_singleton.1 hq]; exact hp64a) (by intro q hq; rw [List.mem_singleton.1 hq]; exact hpda) (by show (1 : Nat) ≤ _; omega)).mono fun e w' q => by obtain ⟨x, q1, q2, q3⟩ := q; exact ⟨x, q1, q2, q3⟩) fun a22 vwa wwa rwa h21 => hK _ _ (⟨rwa.1.l, trivial⟩) fun hSwa => ?_
  clear hK K
  have HGwa := hid rwa.1; have HTwa : Hid (Turns (XM v d p) w wwa) := hid (HTsa.out.trans rwa.2); clear rwa
  refine wpAnyH_done (by kernel_rfl) ?_ _
  have h23 := h21.subs (l' := [(0, _), (1, _)]) rfl
  clear h21
  exact bodyPost_normP (results_none rfl _ _ _) h23.defs ⟨_, rfl, HGwa.out, HTwa.out⟩
end Go.Proofs.YtcackliabemecaaGreatDoor
/- (*plog.Log).Clear, Append, Redo. (genPlgS.py) -/
namespace Go.Proofs.YtcackliabemecaaGreatDoor
open Go.RowKit
set_option linter.unusedSimpArgs false
set_option linter.unusedVariables false
set_option maxRecDepth 100000
theorem callP_10 (args : Array Value) (w : World) : (callFunc 46 args).run Tryz.prog w = .ok (.enter 46 args) w := by
  have h := Tryz.func46
  go_simp
theorem callP_45 (args : Array Value) (w : World) : (callFunc 47 args).run Tryz.prog w = .ok (.enter 47 args) w := by
  have h := Tryz.func47
  go_simp
theorem callP_47 (args : Array Value) (w : World) : (callFunc 49 args).run Tryz.prog w = .ok (.enter 49 args) w := by
  have h := Tryz.func49
  go_simp
theorem callP_53 (args : Array Value) (w : World) : (callFunc 50 args).run Tryz.prog w = .ok (.enter 50 args) w := by
  have h := Tryz.func50
  go_simp

theorem readR_le (b : List UInt8) (k u : Nat) (acc : List (List PtM)) (hu : u ≤ b.length) : (readR b k u acc).2 ≤ b.length ∧ (8 * acc.length ≤ u → 8 * (readR b k u acc).1.length ≤ (readR b k u acc).2) := by
  induction k generalizing u acc with
  | zero => exact ⟨hu, fun h => h⟩
  | succ k ih =>
    unfold readR
    split
    · next h =>
      obtain ⟨n, hn, h1, h2⟩ := decD_n h
      rw [List.length_drop] at h2
      rw [hn, Int.toNat_natCast]
      obtain ⟨q1, q2⟩ := ih (u + n) (acc ++ [(decD (b.drop u)).1]) (by omega)
      exact ⟨q1, fun ha => q2 (by rw [List.length_append]; show 8 * (acc.length + 1) ≤ _; omega)⟩
    · exact ⟨hu, fun h => h⟩
theorem bodyL_len (V : List UInt8) (at_ size : Nat) : (bodyL V at_ size).length ≤ size - 8 := by
  unfold bodyL
  rw [List.length_take]
  have := endL_le V at_ size
  omega
theorem logR_u (V : List UInt8) (at_ size : Nat) : (logR V at_ size).2 ≤ size - 8 := Nat.le_trans (readR_le _ _ 0 [] (Nat.zero_le _)).1 (bodyL_len V at_ size)
theorem logR_n (V : List UInt8) (at_ size : Nat) : 8 * (logR V at_ size).1.length ≤ size - 8 := Nat.le_trans ((readR_le _ _ 0 [] (Nat.zero_le _)).2 (Nat.le_refl _)) (logR_u V at_ size)
def ptOk (L : List PtM) : Prop := okPts L ∧ (∀ p ∈ L, p.d.length ≤ 1000000) ∧ L.length ≤ 64
theorem getsD_ok {xs : List UInt8} (n : Nat) {s : DS} {acc : List PtM} (h : okPts acc ∧ ∀ p ∈ acc, p.d.length ≤ 1000000) {r : List PtM × DS} (hr : getsD xs n s acc = some r) : (okPts r.1 ∧ ∀ p ∈ r.1, p.d.length ≤ 1000000) ∧ r.1.length = acc.length + n := by
  induction n generalizing s acc with
  | zero => cases hr; exact ⟨h, rfl⟩
  | succ n ih =>
    unfold getsD at hr
    split at hr
    · cases hr
    · next hq =>
      have h2 := ih ⟨?_, ?_⟩ hr
      · refine ⟨h2.1, ?_⟩
        rw [h2.2, List.length_append]
        show acc.length + 1 + n = _
        omega
      · intro p hp
        rcases List.mem_append.1 hp with q | q
        · exact h.1 p q
        · rw [List.mem_singleton.1 q]
          have := numD_bd xs s 4
          unfold okI
          show _ ≤ ((numD xs s 4).1 : Int) ∧ ((numD xs s 4).1 : Int) ≤ _
          omega
      · intro p hp
        rcases List.mem_append.1 hp with q | q
        · exact h.2 p q
        · rw [List.mem_singleton.1 q]
          exact Nat.le_trans (takeD_len _ _ _) (by omega)
theorem decD_ok (xs : List UInt8) : ptOk (decD xs).1 := by
  have h0 : ptOk ([] : List PtM) := ⟨fun p h => (by cases h), fun p h => (by cases h), Nat.zero_le _⟩
  unfold decD
  split
  · exact h0
  · next q =>
    cases hg : getsD xs (numD xs ⟨0, false⟩ 2).1 (numD xs ⟨0, false⟩ 2).2 [] with
    | none => exact h0
    | some r =>
      obtain ⟨h1, h2⟩ := getsD_ok _ ⟨fun p h => (by cases h), fun p h => (by cases h)⟩ hg
      show ptOk (endD xs r.1 r.2).1
      unfold endD
      split
      · exact h0
      · split
        · exact h0
        · split
          · exact ⟨h1.1, h1.2, by rw [h2]; show 0 + _ ≤ 64; omega⟩
          · exact h0
theorem readR_ok (b : List UInt8) (k u : Nat) (acc : List (List PtM)) (h : ∀ L ∈ acc, ptOk L) : ∀ L ∈ (readR b k u acc).1, ptOk L := by
  induction k generalizing u acc with
  | zero => exact h
  | succ k ih =>
    unfold readR
    split
    · refine ih _ _ fun L hL => ?_
      rcases List.mem_append.1 hL with q | q
      · exact h L q
      · rw [List.mem_singleton.1 q]; exact decD_ok _
    · exact h
theorem logR_ok {V : List UInt8} {at_ size : Nat} {L : List PtM} (h : L ∈ (logR V at_ size).1) : ptOk L := readR_ok _ _ _ [] (fun L h => by cases h) L h
theorem Row.below {w w' : World} {sz : Nat} {a : Option Addr} {n c : Nat} {cs : List Value} (h : Row w sz a n c cs) (b : Below w.heap.size w w') : Row w' sz a n c cs := h.mono b
theorem loadRP {w : World} {g off : Nat} {a : Option Addr} {n c : Nat} (h : w.cell? ⟨g, off, none⟩ = some (.slice a n c)) : (Instr.loadAt 44 (.pointer (some ⟨g, off, none⟩))).run Tryz.prog w = .ok (.slice a n c) w := by
  have u3 := Tryz.underlying44
  have a3 := Tryz.isAgg44
  have z3 := Tryz.sizeOf44
  go_simp
theorem ixRP (b off n c j : Nat) (hj : j < n) (w : World) : (Instr.indexAt 83 (.slice (some ⟨b, off, none⟩) n c) (.int .i64 (j : Int))).run Tryz.prog w = .ok (.pointer (some ⟨b, off + j, none⟩)) w := by
  have u3 := Tryz.underlying83
  have u9 := Tryz.underlying44
  have z3 := Tryz.sizeOf44
  have d0 : (j : Int) < (n : Int) := by omega
  have d1 : 0 ≤ (j : Int) := by omega
  go_simp
theorem run_lenRP {o : Oper} {x : Operand} (ho : o.op = .call { callee := .builtin .len, args := #[x], argTypes := #[83] }) {ρ : Operand → Value} {a : Option Addr} {n c : Nat} (hx : ρ x = .slice a n c) (w : World) : (execOp ρ o).run Tryz.prog w = .ok (.value (.int .i64 (n : Int))) w := by
  unfold execOp; rw [ho]
  have u3 := Tryz.underlying83
  simp [resolve, invoke, builtin, hx]
  go_simp
theorem EPt : ElemT Tryz.prog 44 47 2 24 := elemT Tryz.underlying44 (z := .agg (ptC zPt).toArray) (by kernel_rfl) rfl (by omega)
def appE (M : MemM) (at_ size : Nat) (L : List PtM) : Int := if encE L = 0 then (if size - 8 < (logR M.V at_ size).2 + (encL L).length then 5 else 0) else encE L
def appM (M : MemM) (at_ size : Nat) (L : List PtM) : MemM := if encE L = 0 ∧ ¬ size - 8 < (logR M.V at_ size).2 + (encL L).length then setM (writeM M [⟨((at_ + 8 + (logR M.V at_ size).2 : Nat) : Int), encL L⟩]) at_ (((logR M.V at_ size).2 + (encL L).length : Nat) : Int) else M
def redoM (M : MemM) (at_ size : Nat) : MemM := setM (writeM M (logR M.V at_ size).1.flatten) at_ 0
theorem retA {w W : World} {lg g v d p at_ size : Nat} {M : MemM} {L : List PtM} {act : Act} {E : Int} (hd : act.defers = []) (h4 : act.tmps[4]? = some (.int .i64 E)) (hE : appE M at_ size L = E) (hG : LogP W lg g v d p at_ size (appM M at_ size L)) (hT : Turns (XM v d p) w W) :
    bodyPost Tryz.prog Tryz.f32 (fun e w' => ∃ x, e = .returned x ∧ x = .int .i64 (appE M at_ size L) ∧ LogP w' lg g v d p at_ size (appM M at_ size L) ∧ Turns (XM v d p) w w') .ret act W := by
  rw [hE]
  exact bodyPost_ret (results_tmp1 rfl h4) hd ⟨_, rfl, rfl, hG, hT⟩
theorem encL_len {L : List PtM} : (encL L).length ≤ 20000 := by
  unfold encL
  split
  · next h =>
    unfold encOk at h
    rw [Bool.and_eq_true, decide_eq_true_iff, List.all_eq_true] at h
    have h1 := encFold_len L (putF [] L.length 2) (fun p hp => by have := h.2 p hp; unfold okPt at this; rw [Bool.and_eq_true, decide_eq_true_iff] at this; exact this.2)
    have h2 : (putF [] (L.length : Int) 2).length ≤ ([] : List UInt8).length + 2 := putF_lenA _ _ 2
    have h3 : (sealY (encB L)).length ≤ (encB L).length + 4 := putF_lenA _ _ 4
    unfold sealP
    rw [List.length_append, List.length_replicate]
    have h4 : (encB L).length ≤ (putF [] (L.length : Int) 2).length + 262 * L.length := h1
    have h5 : ([] : List UInt8).length = 0 := rfl
    have h6 : pad8 (sealY (encB L)).length ≤ 7 := by unfold pad8; omega
    omega
  · exact Nat.zero_le _

set_option maxHeartbeats 1000000 in
theorem clear_any {w : World} {lg g v d p at_ size : Nat} {M : MemM} (hg0 : LogP w lg g v d p at_ size M) (ha : at_ ≤ 1048576) :
    Calls Tryz.prog 50 #[.pointer (some ⟨lg, 0, none⟩)] w fun e w' => ∃ x, e = .returned x ∧ LogP w' lg g v d p at_ size (setM M at_ 0) ∧ Turns (XM v d p) w w' := by
  go_enter Tryz.func50, Tryz.ntmps50
  obtain ⟨ac, hac⟩ : ∃ x : Act, x = { tmps := #[.pointer (some ⟨lg, 0, none⟩), undef, undef, undef], defers := [] } := ⟨_, rfl⟩
  have h0 : Kn 4 [(0, .pointer (some ⟨lg, 0, none⟩))] ac := ⟨by rw [hac]; rfl, (by intro x hx; rw [hac]; simp only [List.mem_cons, List.not_mem_nil, or_false] at hx; rcases hx with rfl; rfl), by rw [hac]⟩
  rw [← hac]
  clear hac
  iterate 2 go_step
  refine wmk h0 rfl rfl rfl rfl 0 rfl (fun _ => rfl) fun a2 h1 => ?_
  refine wpk_call h1 (wanted_none rfl) rfl (by decide) (fr rfl) (fun args => callP_47 args _) rfl #[.pointer (some ⟨lg, 0, none⟩), .int .i64 0] (by simp only [List.map_toArray, List.map_cons, List.map_nil, h1.ev 2 rfl]; rfl) (R := fun xv w' => LogP w' lg g v d p at_ size (setM M at_ 0) ∧ Turns (XM v d p) w w') (setEnd_any hg0 0 (by omega) ha) fun a4 v1 w1 r1 h3 => ?_
  have h5 := h3.subs (l' := [(0, _)]) rfl
  clear h3
  go_step
  exact bodyPost_normP (results_none rfl _ _ _) h5.defs ⟨_, rfl, r1.1, r1.2⟩

set_option maxHeartbeats 4000000 in
theorem append_any {w : World} {lg g v d p at_ size : Nat} {M : MemM} {a : Option Addr} {c : Nat} {L : List PtM} (hg0 : LogP w lg g v d p at_ size M) (hok : LogOk at_ size M) (hrow : RowPt w a c L) (okP : okPts L) (hl : L.length ≤ 1000000) :
    Calls Tryz.prog 32 #[.pointer (some ⟨lg, 0, none⟩), .slice a L.length c] w fun e w' => ∃ x, e = .returned x ∧ x = .int .i64 (appE M at_ size L) ∧ LogP w' lg g v d p at_ size (appM M at_ size L) ∧ Turns (XM v d p) w w' := by
  have HG0 := hid hg0
  have hok2 := hok
  obtain ⟨s1, s2, s3, s4⟩ := hok2
  obtain ⟨eb, heb⟩ : ∃ x, encL L = x := ⟨_, rfl⟩
  obtain ⟨ee, hee⟩ : ∃ x, encE L = x := ⟨_, rfl⟩
  obtain ⟨u, hu⟩ : ∃ x, (logR M.V at_ size).2 = x := ⟨_, rfl⟩
  have hul : u ≤ size - 8 := by rw [← hu]; exact logR_u _ _ _
  have hebl : eb.length ≤ 20000 := by rw [← heb]; exact encL_len
  have HEB := hid heb; have HEE := hid hee; have HU := hid hu
  clear hg0 heb hee hu
  go_enter Tryz.func32, Tryz.ntmps32
  iterate 3 go_step
  refine wpk_enter (N := 51) (l := [(0, .pointer (some ⟨lg, 0, none⟩)), (1, .slice a L.length c)]) ⟨rfl, (by intro x hx; simp only [List.mem_cons, List.not_mem_nil, or_false] at hx; rcases hx with rfl | rfl <;> rfl), rfl⟩ fun a2 h1 => ?_
  refine wv h1 rfl rfl rfl rfl (.int .i64 0) rfl fun a4 h3 => ?_
  iterate 5 go_step
  refine wmk h3 rfl rfl rfl rfl 1 rfl (fun _ => rfl) fun a6 h5 => ?_
  refine wpk_call h5 (wanted_none rfl) rfl (by decide) (fr rfl) (fun args => callP_10 args _) rfl #[.slice a L.length c] (by simp only [List.map_toArray, List.map_cons, List.map_nil, h5.ev 10 rfl]) (R := fun xv w' => ∃ ba bc, xv = .tuple #[.slice ba (encL L).length bc, .int .i64 (encE L)] ∧ OwnB w' w.heap.size ba bc (encL L) ∧ Below w.heap.size w w') ((encode_any hrow okP (by omega)).mono fun e w' q => by obtain ⟨x, y, q1, q2, q3⟩ := q; exact ⟨_, q1, x, y, rfl, q2, q3⟩) fun a8 v2 w2 r2 h7 => ?_
  obtain ⟨ba, bc, rfl, o2, b2⟩ := r2
  rw [HEB.out] at o2 h7; rw [HEE.out] at h7
  have HG2 := hid (HG0.out.mono b2); have HO2 := hid o2; have HT2 : Hid (Turns (XM v d p) w w2) := hid (Turns.of_below b2); have HB2 := hid b2; clear o2 b2
  refine wmk h7 rfl rfl rfl rfl 11 rfl (fun _ => rfl) fun a10 h9 => ?_
  refine wv h9 rfl rfl rfl rfl (.slice ba eb.length bc) (by unfold execOp; simp only [h9.ev 9 rfl]; exact rfl) fun a12 h11 => ?_
  refine wv h11 rfl rfl rfl rfl (.int .i64 ee) (by unfold execOp; simp only [h11.ev 9 rfl]; exact rfl) fun a14 h13 => ?_
  refine wmk h13 rfl rfl rfl rfl 12 rfl (fun _ => rfl) fun a16 h15 => ?_
  refine wmk h15 rfl rfl rfl rfl 13 rfl (fun _ => rfl) fun a18 h17 => ?_
  have h19 := h17.subs (l' := [(6, _), (5, _), (4, _), (0, _), (1, _)]) rfl
  clear h17
  iterate 4 go_step
  by_cases he : ee = 0
  · have hbad : (ee != 0) = false := by rw [he]; rfl
    iterate 2 go_step
    refine wmk h19 rfl rfl rfl rfl 6 rfl (fun _ => rfl) fun a21 h20 => ?_
    refine wv h20 rfl rfl rfl rfl (.bool false) (by unfold execOp; simp only [h20.ev 14 rfl]; exact run_v (neEP _ _ _ _ _ hbad)) fun a23 h22 => ?_
    have h24 := h22.subs (l' := [(15, _), (6, _), (5, _), (4, _), (0, _), (1, _)]) rfl
    clear h22
    iterate 3 go_step
    refine wp_cond (t := false) (h24.ev 15 rfl) ?_
    simp only [Bool.false_eq_true, if_false]
    have h25 := h24.subs (l' := [(6, _), (5, _), (4, _), (0, _), (1, _)]) rfl
    clear h24
    iterate 5 go_step
    refine wmk h25 rfl rfl rfl rfl 0 rfl (fun _ => rfl) fun a27 h26 => ?_
    refine wpk_call h26 (wanted_none rfl) rfl (by decide) (fr rfl) (fun args => callP_45 args _) rfl #[.pointer (some ⟨lg, 0, none⟩)] (by simp only [List.map_toArray, List.map_cons, List.map_nil, h26.ev 18 rfl]) (R := fun xv w' => ∃ ra rc rs, xv = .tuple #[.slice ra rs.length rc, .int .i64 ((logR M.V at_ size).2 : Int)] ∧ rs.map (·.2.2) = (logR M.V at_ size).1 ∧ RecsP w' w2.heap.size ra rc rs ∧ Below w2.heap.size w2 w') (read_any HG2.out hok) fun a29 v3 w3 r3 h28 => ?_
    obtain ⟨ra, rc, rs, rfl, _, _, b3⟩ := r3
    rw [HU.out] at h28
    have HG3 := hid (HG2.out.mono b3); have HO3 := hid (Own.mono HO2.out b3); have HT3 : Hid (Turns (XM v d p) w w3) := hid (HT2.out.trans (Turns.of_below b3)); have HB3 := hid (kept_trans HB2.out b3); clear b3
    refine wmk h28 rfl rfl rfl rfl 19 rfl (fun _ => rfl) fun a31 h30 => ?_
    refine wv h30 rfl rfl rfl rfl (.slice ra rs.length rc) (by unfold execOp; simp only [h30.ev 17 rfl]; exact rfl) fun a33 h32 => ?_
    refine wv h32 rfl rfl rfl rfl (.int .i64 (u : Int)) (by unfold execOp; simp only [h32.ev 17 rfl]; exact rfl) fun a35 h34 => ?_
    refine wmk h34 rfl rfl rfl rfl 20 rfl (fun _ => rfl) fun a37 h36 => ?_
    refine wmk h36 rfl rfl rfl rfl 21 rfl (fun _ => rfl) fun a39 h38 => ?_
    have h40 := h38.subs (l' := [(8, _), (6, _), (5, _), (4, _), (0, _), (1, _)]) rfl
    clear h38
    iterate 4 go_step
    by_cases hf : size - 8 < u + eb.length
    · have hfull : decide (((size - 8 - u : Nat) : Int) < (eb.length : Int)) = true := decide_eq_true (by omega)
      iterate 2 go_step
      refine wmk h40 rfl rfl rfl rfl 5 rfl (fun _ => rfl) fun a42 h41 => ?_
      refine wv h41 rfl rfl rfl rfl (.int .i64 (eb.length : Int)) (run_lenBP rfl (h41.ev 22 rfl) _) fun a44 h43 => ?_
      refine wmk h43 rfl rfl rfl rfl 0 rfl (fun _ => rfl) fun a46 h45 => ?_
      refine wv h45 rfl rfl rfl rfl (.pointer (some ⟨lg, 0, none⟩)) (by unfold execOp; simp only [h45.ev 24 rfl]; exact rfl) fun a48 h47 => ?_
      refine wv h47 rfl rfl rfl rfl (.pointer (some ⟨lg, 2, none⟩)) (by unfold execOp; simp only [h47.ev 25 rfl]; exact run_v (fa_73_0_2 (lg) _)) fun a50 h49 => ?_
      refine wv h49 rfl rfl rfl rfl (.int .i64 (size : Int)) (by unfold execOp; simp only [h49.ev 26 rfl]; exact run_v (loadIP (HG3.out.l.cell (i := 2) (by show 2 < 3; omega)))) fun a52 h51 => ?_
      refine wv h51 rfl rfl rfl rfl (.int .i64 ((size - 8 : Nat) : Int)) (by unfold execOp; simp only [h51.ev 27 rfl]; exact run_v (subIP _ _ _ _ _ (by omega) (by omega) (by omega) _)) fun a54 h53 => ?_
      refine wmk h53 rfl rfl rfl rfl 8 rfl (fun _ => rfl) fun a56 h55 => ?_
      refine wv h55 rfl rfl rfl rfl (.int .i64 ((size - 8 - u : Nat) : Int)) (by unfold execOp; simp only [h55.ev 28 rfl, h55.ev 29 rfl]; exact run_v (subIP _ _ _ _ _ (by omega) (by omega) (by omega) _)) fun a58 h57 => ?_
      refine wv h57 rfl rfl rfl rfl (.bool true) (by unfold execOp; simp only [h57.ev 23 rfl, h57.ev 30 rfl]; exact run_v (gtIP _ _ _ _ _ hfull)) fun a60 h59 => ?_
      have h61 := h59.subs (l' := [(31, _), (8, _), (6, _), (5, _), (4, _), (0, _), (1, _)]) rfl
      clear h59
      iterate 3 go_step
      refine wp_cond (t := true) (h61.ev 31 rfl) ?_
      simp only [if_true]
      have h62 := h61.subs (l' := [(8, _), (6, _), (5, _), (4, _), (0, _), (1, _)]) rfl
      clear h61
      iterate 2 go_step
      have h63 := h62.subs (l' := [(8, _), (6, _), (5, _), (0, _), (1, _)]) rfl
      clear h62
      refine wv h63 rfl rfl rfl rfl (.int .i64 5) rfl fun a65 h64 => ?_
      iterate 4 go_step
      simp only [Exit.then, Exit.inBlock]
      exact retA h64.defs (h64.known (4, .int .i64 5) (by simp)) (by unfold appE; rw [HEE.out, if_pos he, HU.out, HEB.out, if_pos hf]) (by have z := HG3.out; unfold appM; rw [HU.out, HEB.out, if_neg (fun q => q.2 hf)]; exact z) HT3.out
    · have hfull : decide (((size - 8 - u : Nat) : Int) < (eb.length : Int)) = false := decide_eq_false (by omega)
      have hp64b : okI (⟨((at_ + 8 + u : Nat) : Int), eb⟩ : PtM).at_ := by unfold okI; show _ ≤ ((at_ + 8 + u : Nat) : Int) ∧ ((at_ + 8 + u : Nat) : Int) ≤ _; omega
      have hpdb : (⟨((at_ + 8 + u : Nat) : Int), eb⟩ : PtM).d.length ≤ 1000000 := by show eb.length ≤ _; omega
      iterate 2 go_step
      refine wmk h40 rfl rfl rfl rfl 5 rfl (fun _ => rfl) fun a67 h66 => ?_
      refine wv h66 rfl rfl rfl rfl (.int .i64 (eb.length : Int)) (run_lenBP rfl (h66.ev 22 rfl) _) fun a69 h68 => ?_
      refine wmk h68 rfl rfl rfl rfl 0 rfl (fun _ => rfl) fun a71 h70 => ?_
      refine wv h70 rfl rfl rfl rfl (.pointer (some ⟨lg, 0, none⟩)) (by unfold execOp; simp only [h70.ev 24 rfl]; exact rfl) fun a73 h72 => ?_
      refine wv h72 rfl rfl rfl rfl (.pointer (some ⟨lg, 2, none⟩)) (by unfold execOp; simp only [h72.ev 25 rfl]; exact run_v (fa_73_0_2 (lg) _)) fun a75 h74 => ?_
      refine wv h74 rfl rfl rfl rfl (.int .i64 (size : Int)) (by unfold execOp; simp only [h74.ev 26 rfl]; exact run_v (loadIP (HG3.out.l.cell (i := 2) (by show 2 < 3; omega)))) fun a77 h76 => ?_
      refine wv h76 rfl rfl rfl rfl (.int .i64 ((size - 8 : Nat) : Int)) (by unfold execOp; simp only [h76.ev 27 rfl]; exact run_v (subIP _ _ _ _ _ (by omega) (by omega) (by omega) _)) fun a79 h78 => ?_
      refine wmk h78 rfl rfl rfl rfl 8 rfl (fun _ => rfl) fun a81 h80 => ?_
      refine wv h80 rfl rfl rfl rfl (.int .i64 ((size - 8 - u : Nat) : Int)) (by unfold execOp; simp only [h80.ev 28 rfl, h80.ev 29 rfl]; exact run_v (subIP _ _ _ _ _ (by omega) (by omega) (by omega) _)) fun a83 h82 => ?_
      refine wv h82 rfl rfl rfl rfl (.bool false) (by unfold execOp; simp only [h82.ev 23 rfl, h82.ev 30 rfl]; exact run_v (gtIP _ _ _ _ _ hfull)) fun a85 h84 => ?_
      have h86 := h84.subs (l' := [(31, _), (8, _), (6, _), (5, _), (4, _), (0, _), (1, _)]) rfl
      clear h84
      iterate 3 go_step
      refine wp_cond (t := false) (h86.ev 31 rfl) ?_
      simp only [Bool.false_eq_true, if_false]
      have h87 := h86.subs (l' := [(8, _), (6, _), (5, _), (4, _), (0, _), (1, _)]) rfl
      clear h86
      iterate 4 go_step
      have HG4 := hid (HG3.out.mono (Below.refl _ _).drew); have HT4 : Hid (Turns (XM v d p) w w3.drew) := hid HT3.out.drew; have hst := run_str (Own.mono HO3.out (Below.refl _ _).drew).row
      refine wp_region_held_drew (S := fun w' => Blk w' lg 74 (logC g at_ size) ∧ True) (by kernel_rfl) ⟨HG4.out.l, trivial⟩ (fun hS4 => ?_)
      refine wpk_take hS4 h87 0 rfl rfl (by decide) (fr rfl) (by kernel_rfl) (by kernel_rfl) (by kernel_rfl) (fun _ _ _ _ h => h) (.pointer (some ⟨lg, 0, none⟩)) (Or.inl ⟨Eq.refl true, fun w1 hSw => (by show (execOp _ (⟨_, .move (.tmp 0), _, _, _, _⟩ : Oper)).run _ _ = _; exact (by unfold execOp; simp only [h87.ev 0 rfl]; exact rfl))⟩) fun a89 h88 => ?_
      refine wpk_take hS4 h88 1 rfl rfl (by decide) (fr rfl) (by kernel_rfl) (by kernel_rfl) (by kernel_rfl) (fun _ _ _ _ h => h) (.pointer (some ⟨lg, 0, none⟩)) (Or.inl ⟨Eq.refl true, fun w1 hSw => (by show (execOp _ (⟨_, .move (.tmp 0), _, _, _, _⟩ : Oper)).run _ _ = _; exact (by unfold execOp; simp only [h88.ev 0 rfl]; exact rfl))⟩) fun a91 h90 => ?_
      refine wpk_take hS4 h90 2 rfl rfl (by decide) (fr rfl) (by kernel_rfl) (by kernel_rfl) (by kernel_rfl) (fun _ _ _ _ h => h) (.pointer (some ⟨lg, 0, none⟩)) (Or.inl ⟨Eq.refl true, fun w1 hSw => (by show (execOp _ (⟨_, .nilCheck (.tmp 33), _, _, _, _⟩ : Oper)).run _ _ = _; exact (by unfold execOp; simp only [h90.ev 33 rfl]; exact rfl))⟩) fun a93 h92 => ?_
      refine wpk_take hS4 h92 3 rfl rfl (by decide) (fr rfl) (by kernel_rfl) (by kernel_rfl) (by kernel_rfl) (fun _ _ _ _ h => h) (.pointer (some ⟨lg, 1, none⟩)) (Or.inl ⟨Eq.refl true, fun w1 hSw => (by show (execOp _ (⟨_, .fieldAddr 74 (.tmp 34) 1, _, _, _, _⟩ : Oper)).run _ _ = _; exact (by unfold execOp; simp only [h92.ev 34 rfl]; exact run_v (fa_73_0_1 (lg) _)))⟩) fun a95 h94 => ?_
      refine wpk_take hS4 h94 4 rfl rfl (by decide) (fr rfl) (by kernel_rfl) (by kernel_rfl) (by kernel_rfl) (fun _ _ _ _ h => h) (.int .i64 (at_ : Int)) (Or.inl ⟨Eq.refl true, fun w1 hSw => (by show (execOp _ (⟨_, .load 3 (.tmp 35), _, _, _, _⟩ : Oper)).run _ _ = _; exact (by unfold execOp; simp only [h94.ev 35 rfl]; exact run_v (loadIP (hSw.1.cell (i := 1) (by show 1 < 3; omega)))))⟩) fun a97 h96 => ?_
      refine wpk_take hS4 h96 5 rfl rfl (by decide) (fr rfl) (by kernel_rfl) (by kernel_rfl) (by kernel_rfl) (fun _ _ _ _ h => h) (.int .i64 ((at_ + 8 : Nat) : Int)) (Or.inl ⟨Eq.refl true, fun w1 hSw => (by show (execOp _ (⟨_, .binOp .add 3 (.tmp 36) (.const (.int .i64 8)) 3, _, _, _, _⟩ : Oper)).run _ _ = _; exact (by unfold execOp; simp only [h96.ev 36 rfl]; exact run_v (addNP _ _ _ _ _ (by omega) (by omega) (by omega) _)))⟩) fun a99 h98 => ?_
      refine wpk_take hS4 h98 6 rfl rfl (by decide) (fr rfl) (by kernel_rfl) (by kernel_rfl) (by kernel_rfl) (fun _ _ _ _ h => h) (.int .i64 (u : Int)) (Or.inl ⟨Eq.refl true, fun w1 hSw => (by show (execOp _ (⟨_, .move (.tmp 8), _, _, _, _⟩ : Oper)).run _ _ = _; exact (by unfold execOp; simp only [h98.ev 8 rfl]; exact rfl))⟩) fun a101 h100 => ?_
      refine wpk_take hS4 h100 7 rfl rfl (by decide) (fr rfl) (by kernel_rfl) (by kernel_rfl) (by kernel_rfl) (fun _ _ _ _ h => h) (.int .i64 ((at_ + 8 + u : Nat) : Int)) (Or.inl ⟨Eq.refl true, fun w1 hSw => (by show (execOp _ (⟨_, .binOp .add 3 (.tmp 37) (.tmp 38) 3, _, _, _, _⟩ : Oper)).run _ _ = _; exact (by unfold execOp; simp only [h100.ev 37 rfl, h100.ev 38 rfl]; exact run_v (addNP _ _ _ _ _ (by omega) (by omega) (by omega) _)))⟩) fun a103 h102 => ?_
      refine wpk_take hS4 h102 8 rfl rfl (by decide) (fr rfl) (by kernel_rfl) (by kernel_rfl) (by kernel_rfl) (fun _ _ _ _ h => h) (.slice ba eb.length bc) (Or.inl ⟨Eq.refl true, fun w1 hSw => (by show (execOp _ (⟨_, .move (.tmp 5), _, _, _, _⟩ : Oper)).run _ _ = _; exact (by unfold execOp; simp only [h102.ev 5 rfl]; exact rfl))⟩) fun a105 h104 => ?_
      refine wpk_only 9 rfl rfl (by kernel_rfl) fun K hK => op_val (w' := w3.drew) h104 rfl (by decide) (fr rfl) (strB eb) (by show (execOp _ (⟨_, .convert 26 9 (.tmp 40), _, _, _, _⟩ : Oper)).run _ _ = _; exact (by unfold execOp; simp only [h104.ev 40 rfl]; exact run_v hst)) fun a107 h106 => hK _ _ (hS4) fun hS5 => ?_
      clear hK K
      refine wpk_take hS5 h106 10 rfl rfl (by decide) (fr rfl) (by kernel_rfl) (by kernel_rfl) (by kernel_rfl) (fun _ _ _ _ h => h) (ptV ⟨((at_ + 8 + u : Nat) : Int), eb⟩) (Or.inl ⟨Eq.refl true, fun w1 hSw => (by show (execOp _ (⟨_, .build 47 #[(0, (.tmp 39)), (1, (.tmp 41))], _, _, _, _⟩ : Oper)).run _ _ = _; exact (by unfold execOp; simp only [List.map_toArray, List.map_cons, List.map_nil, h106.ev 39 rfl, h106.ev 41 rfl]; exact run_v (buildPt _ _ _)))⟩) fun a109 h108 => ?_
      obtain ⟨wsb, hwsb⟩ : ∃ x, x = w3.drew.alloc (.cells (ptC ⟨((at_ + 8 + u : Nat) : Int), eb⟩).toArray 47) := ⟨_, rfl⟩
      have bsb : Below w3.drew.heap.size w3.drew wsb := by rw [hwsb]; exact albO _ _
      have rsb : RowPt wsb (some ⟨w3.drew.heap.size, 0, none⟩) 1 [⟨((at_ + 8 + u : Nat) : Int), eb⟩] := by rw [hwsb]; exact rowPt1 _ _
      refine wpk_only 11 rfl rfl (by kernel_rfl) fun K hK => op_val (w' := wsb) h108 rfl (by decide) (fr rfl) (.slice (some ⟨w3.drew.heap.size, 0, none⟩) ([⟨((at_ + 8 + u : Nat) : Int), eb⟩] : List PtM).length 1) (by show (execOp _ (⟨_, .buildSlice 44 1 #[(0, (.tmp 42))], _, _, _, _⟩ : Oper)).run _ _ = _; exact (by unfold execOp; simp only [List.map_toArray, List.map_cons, List.map_nil, h108.ev 42 rfl]; rw [hwsb]; exact run_v (buildPts _ _))) fun a111 h110 => hK _ _ (⟨hS5.1.mono bsb, trivial⟩) fun hSsb => ?_
      clear hK K
      have HGsb := hid (HG4.out.mono bsb); have HTsb : Hid (Turns (XM v d p) w wsb) := hid (HT4.out.trans (Turns.of_below bsb)); have hnwb := HG4.out.lt; have HRsb := hid rsb; clear hwsb rsb bsb
      refine wpk_only 12 rfl rfl (by kernel_rfl) fun K hK => op_call h110 rfl (by decide) (fr rfl) (fun args => callP_46 args _) rfl #[.pointer (some ⟨lg, 0, none⟩), .slice (some ⟨w3.drew.heap.size, 0, none⟩) ([⟨((at_ + 8 + u : Nat) : Int), eb⟩] : List PtM).length 1] (by simp only [List.map_toArray, List.map_cons, List.map_nil, h110.ev 32 rfl, h110.ev 43 rfl]) (R := fun xv w' => LogP w' lg g v d p at_ size (writeM M [⟨((at_ + 8 + u : Nat) : Int), eb⟩]) ∧ Turns (XM v d p) wsb w') ((logWrite_any HGsb.out (fun W t => t.row HRsb.out (fun _ b hb => by obtain ⟨off, e⟩ := hb; cases e; rintro (e | e | e) <;> omega)) (by intro q hq; rw [List.mem_singleton.1 hq]; exact hp64b) (by intro q hq; rw [List.mem_singleton.1 hq]; exact hpdb) (by show (1 : Nat) ≤ _; omega)).mono fun e w' q => by obtain ⟨x, q1, q2, q3⟩ := q; exact ⟨x, q1, q2, q3⟩) fun a113 vwb wwb rwb h112 => hK _ _ (⟨rwb.1.l, trivial⟩) fun hSwb => ?_
      clear hK K
      have HGwb := hid rwb.1; have HTwb : Hid (Turns (XM v d p) w wwb) := hid (HTsb.out.trans rwb.2); clear rwb
      refine wpAnyH_done (by kernel_rfl) ?_ _
      have h114 := h112.subs (l' := [(8, _), (6, _), (5, _), (4, _), (0, _), (1, _)]) rfl
      clear h112
      iterate 4 go_step
      refine wmk h114 rfl rfl rfl rfl 0 rfl (fun _ => rfl) fun a116 h115 => ?_
      refine wmk h115 rfl rfl rfl rfl 8 rfl (fun _ => rfl) fun a118 h117 => ?_
      refine wmk h117 rfl rfl rfl rfl 5 rfl (fun _ => rfl) fun a120 h119 => ?_
      refine wv h119 rfl rfl rfl rfl (.int .i64 (eb.length : Int)) (run_lenBP rfl (h119.ev 47 rfl) _) fun a122 h121 => ?_
      refine wv h121 rfl rfl rfl rfl (.int .i64 ((u + eb.length : Nat) : Int)) (by unfold execOp; simp only [h121.ev 46 rfl, h121.ev 48 rfl]; exact run_v (addNP _ _ _ _ _ (by omega) (by omega) (by omega) _)) fun a124 h123 => ?_
      refine wpk_call h123 (wanted_none rfl) rfl (by decide) (fr rfl) (fun args => callP_47 args _) rfl #[.pointer (some ⟨lg, 0, none⟩), .int .i64 ((u + eb.length : Nat) : Int)] (by simp only [List.map_toArray, List.map_cons, List.map_nil, h123.ev 45 rfl, h123.ev 49 rfl]) (R := fun xv w' => LogP w' lg g v d p at_ size (setM (writeM M [⟨((at_ + 8 + u : Nat) : Int), eb⟩]) at_ ((u + eb.length : Nat) : Int)) ∧ Turns (XM v d p) wwb w') ((setEnd_any HGwb.out ((u + eb.length : Nat) : Int) (by omega) (by omega))) fun a126 v9 w9 r9 h125 => ?_
      have h127 := h125.subs (l' := [(8, _), (6, _), (5, _), (4, _), (0, _), (1, _)]) rfl
      clear h125
      iterate 5 go_step
      have h128 := h127.subs (l' := [(8, _), (6, _), (5, _), (0, _), (1, _)]) rfl
      clear h127
      refine wv h128 rfl rfl rfl rfl (.int .i64 0) rfl fun a130 h129 => ?_
      iterate 4 go_step
      exact retA h129.defs (h129.known (4, .int .i64 0) (by simp)) (by unfold appE; rw [HEE.out, if_pos he, HU.out, HEB.out, if_neg hf]) (by unfold appM; rw [HEE.out, HU.out, HEB.out, if_pos ⟨he, hf⟩]; exact r9.1) (HTwb.out.trans r9.2)
  · have hbad : (ee != 0) = true := by simp [bne, he]
    iterate 2 go_step
    refine wmk h19 rfl rfl rfl rfl 6 rfl (fun _ => rfl) fun a132 h131 => ?_
    refine wv h131 rfl rfl rfl rfl (.bool true) (by unfold execOp; simp only [h131.ev 14 rfl]; exact run_v (neEP _ _ _ _ _ hbad)) fun a134 h133 => ?_
    have h135 := h133.subs (l' := [(15, _), (6, _), (5, _), (4, _), (0, _), (1, _)]) rfl
    clear h133
    iterate 3 go_step
    refine wp_cond (t := true) (h135.ev 15 rfl) ?_
    simp only [if_true]
    have h136 := h135.subs (l' := [(6, _), (5, _), (4, _), (0, _), (1, _)]) rfl
    clear h135
    iterate 2 go_step
    refine wmk h136 rfl rfl rfl rfl 6 rfl (fun _ => rfl) fun a138 h137 => ?_
    have h139 := h137.subs (l' := [(16, _), (6, _), (5, _), (0, _), (1, _)]) rfl
    clear h137
    refine wmk h139 rfl rfl rfl rfl 16 rfl (fun _ => rfl) fun a141 h140 => ?_
    have h142 := h140.subs (l' := [(4, _), (6, _), (5, _), (0, _), (1, _)]) rfl
    clear h140
    iterate 4 go_step
    simp only [Exit.then, Exit.inBlock]
    exact retA h142.defs (h142.known (4, .int .i64 ee) (by simp)) (by unfold appE; rw [HEE.out, if_neg he]) (by have z := HG2.out; unfold appM; rw [HEE.out, if_neg (fun q => he q.1)]; exact z) HT2.out

set_option maxHeartbeats 4000000 in
theorem redo_any {w : World} {lg g v d p at_ size : Nat} {M : MemM} (hg0 : LogP w lg g v d p at_ size M) (hok : LogOk at_ size M) :
    Calls Tryz.prog 33 #[.pointer (some ⟨lg, 0, none⟩)] w fun e w' => ∃ x, e = .returned x ∧ x = .int .i64 ((logR M.V at_ size).1.length : Int) ∧ LogP w' lg g v d p at_ size (redoM M at_ size) ∧ Turns (XM v d p) w w' := by
  have HG0 := hid hg0
  have hok2 := hok
  obtain ⟨s1, s2, s3, s4⟩ := hok2
  clear hg0
  go_enter Tryz.func33, Tryz.ntmps33
  iterate 3 go_step
  refine wpk_enter (N := 30) (l := [(0, .pointer (some ⟨lg, 0, none⟩))]) ⟨rfl, (by intro x hx; simp only [List.mem_cons, List.not_mem_nil, or_false] at hx; rcases hx with rfl <;> rfl), rfl⟩ fun a2 h1 => ?_
  refine wv h1 rfl rfl rfl rfl (.int .i64 0) rfl fun a4 h3 => ?_
  iterate 5 go_step
  refine wmk h3 rfl rfl rfl rfl 0 rfl (fun _ => rfl) fun a6 h5 => ?_
  refine wpk_call h5 (wanted_none rfl) rfl (by decide) (fr rfl) (fun args => callP_45 args _) rfl #[.pointer (some ⟨lg, 0, none⟩)] (by simp only [List.map_toArray, List.map_cons, List.map_nil, h5.ev 9 rfl]) (R := fun xv w' => ∃ ra rc rs, xv = .tuple #[.slice ra rs.length rc, .int .i64 ((logR M.V at_ size).2 : Int)] ∧ rs.map (·.2.2) = (logR M.V at_ size).1 ∧ RecsP w' w.heap.size ra rc rs ∧ Below w.heap.size w w') (read_any HG0.out hok) fun a8 v3 w3 r3 h7 => ?_
  obtain ⟨ra, rc, rs, rfl, hrs, hrec, b3⟩ := r3
  obtain ⟨u, hu⟩ : ∃ u, u = (logR M.V at_ size).2 := ⟨_, rfl⟩
  rw [← hu] at h7
  have HG3 := hid (HG0.out.mono b3); have HT3 : Hid (Turns (XM v d p) w w3) := hid (Turns.of_below b3); have HRC := hid hrec; have HRS := hid hrs; have HB3 := hid b3; clear b3 hrec hrs hu
  have hnr : 8 * rs.length ≤ 65536 := by have z := congrArg List.length HRS.out; rw [List.length_map] at z; rw [z]; exact Nat.le_trans (logR_n _ _ _) (by omega)
  have hpts := fun r (hr : r ∈ rs) => logR_ok (V := M.V) (at_ := at_) (size := size) (by rw [← HRS.out]; exact List.mem_map.2 ⟨r, hr, rfl⟩)
  refine wmk h7 rfl rfl rfl rfl 10 rfl (fun _ => rfl) fun a10 h9 => ?_
  refine wv h9 rfl rfl rfl rfl (.slice ra rs.length rc) (by unfold execOp; simp only [h9.ev 8 rfl]; exact rfl) fun a12 h11 => ?_
  refine wv h11 rfl rfl rfl rfl (.int .i64 (u : Int)) (by unfold execOp; simp only [h11.ev 8 rfl]; exact rfl) fun a14 h13 => ?_
  refine wmk h13 rfl rfl rfl rfl 11 rfl (fun _ => rfl) fun a16 h15 => ?_
  refine wmk h15 rfl rfl rfl rfl 12 rfl (fun _ => rfl) fun a18 h17 => ?_
  have h19 := h17.subs (l' := [(3, _), (2, _), (0, _)]) rfl
  clear h17
  iterate 5 go_step
  refine wv h19 rfl rfl rfl rfl (.slice none 0 0) rfl fun a21 h20 => ?_
  iterate 6 go_step
  refine wmk h20 rfl rfl rfl rfl 3 rfl (fun _ => rfl) fun a23 h22 => ?_
  refine wv h22 rfl rfl rfl rfl (.int .i64 (rs.length : Int)) (run_lenRP rfl (h22.ev 13 rfl) _) fun a25 h24 => ?_
  refine wv h24 rfl rfl rfl rfl (.int .i64 0) rfl fun a27 h26 => ?_
  iterate 4 go_step
  have h28 := h26.subs (l' := [(5, _), (15, _), (14, _), (13, _), (3, _), (2, _), (0, _)]) rfl
  clear h26
  refine wp_loop (I := fun a' w' => ∃ (j : Nat) (al : List PtM) (aa : Option Addr) (ac : Nat), j ≤ rs.length ∧ Kn 30 [(5, .slice aa al.length ac), (15, .int .i64 (j : Int)), (14, .int .i64 (rs.length : Int)), (13, .slice ra rs.length rc), (3, .slice ra rs.length rc), (2, .int .i64 0), (0, .pointer (some ⟨lg, 0, none⟩))] a' ∧ al = (rs.take j).flatMap (·.2.2) ∧ OwnPt w' w3.heap.size aa ac al ∧ Below w3.heap.size w3 w' ∧ al.length ≤ 64 * j) (μ := fun a' _ => rs.length - (intOf (a'.eval (.tmp 15))).toNat) ⟨0, [], none, 0, Nat.zero_le _, h28, rfl, Own.nil _ _ _ _, Below.refl _ _, Nat.le_refl _⟩ ?_
  clear h28
  rintro aL wL ⟨j, al, aa, ac, hj, hK, hal, hA, hBL, hln⟩
  have HA := hid hA; have HBL := hid hBL; have HAL := hid hal; clear hA hBL hal
  by_cases hlt : j < rs.length
  · have hd0 : decide ((j : Int) < (rs.length : Int)) = true := decide_eq_true (by omega)
    obtain ⟨q, hq⟩ : ∃ q, q = rs[j] := ⟨_, rfl⟩
    have hqm : q ∈ rs := by rw [hq]; exact List.getElem_mem hlt
    obtain ⟨pb, poff, ha0, _, hcc⟩ := (HRC.out.o.row.below HBL.out).at (by omega)
    have hcell := hcc j (recV q) (by rw [List.getElem?_map, List.getElem?_eq_getElem hlt, ← hq]; rfl)
    unfold recV at hcell
    have hrq := (HRC.out.i q hqm).row.below HBL.out
    have hqn := (hpts q hqm).2.2
    have HQ := hid hq; clear hq hcc
    iterate 3 go_step
    refine wv hK rfl rfl rfl rfl (.bool true) (by unfold execOp; simp only [hK.ev 15 rfl, hK.ev 14 rfl]; exact run_v (ltIP _ _ _ _ _ hd0)) fun a30 h29 => ?_
    iterate 4 go_step
    refine wp_cond (t := true) (h29.ev 16 rfl) ?_
    simp only [if_true]
    have h31 := h29.subs (l' := [(5, _), (15, _), (14, _), (13, _), (3, _), (2, _), (0, _)]) rfl
    clear h29
    iterate 7 go_step
    refine wv h31 rfl rfl rfl rfl (.pointer (some ⟨pb, poff + j, none⟩)) (by unfold execOp; simp only [h31.ev 13 rfl, h31.ev 15 rfl]; exact run_v (by rw [ha0]; exact ixRP pb poff _ rc j hlt _)) fun a33 h32 => ?_
    refine wv h32 rfl rfl rfl rfl (.slice q.1 q.2.2.length q.2.1) (by unfold execOp; simp only [h32.ev 17 rfl]; exact run_v (loadRP hcell)) fun a35 h34 => ?_
    refine wmk h34 rfl rfl rfl rfl 18 rfl (fun _ => rfl) fun a37 h36 => ?_
    have h38 := h36.subs (l' := [(7, _), (5, _), (15, _), (14, _), (13, _), (3, _), (2, _), (0, _)]) rfl
    clear h36
    iterate 4 go_step
    refine wmk h38 rfl rfl rfl rfl 5 rfl (fun _ => rfl) fun a40 h39 => ?_
    refine wmk h39 rfl rfl rfl rfl 7 rfl (fun _ => rfl) fun a42 h41 => ?_
    refine wpl_append rfl (.tmp 19) (.tmp 20) rfl EPt w3.heap.size (h41.ev 19 rfl) (h41.ev 20 rfl) HA.out hrq (pts_one _) (by omega) (by omega) HBL.out.size ?_
    intro aa2 ac2 w7 o7 g7 b7
    refine wpk_enter (h41.put (d := 21) (by decide) (fr rfl) (.slice aa2 (al.length + q.2.2.length) ac2)) fun a44 h43 => ?_
    have HA7 : Hid (OwnPt w7 w3.heap.size aa2 ac2 (al ++ q.2.2)) := hid (by unfold OwnPt; rw [List.length_append, List.flatMap_append]; exact o7); have HBL7 := hid (HBL.out.trans b7); clear o7 g7 b7
    have h45 := h43.subs (l' := [(21, _), (20, _), (19, _), (7, _), (15, _), (14, _), (13, _), (3, _), (2, _), (0, _)]) rfl
    clear h43
    refine wmk h45 rfl rfl rfl rfl 21 rfl (fun _ => rfl) fun a47 h46 => ?_
    have h48 := h46.subs (l' := [(5, _), (7, _), (15, _), (14, _), (13, _), (3, _), (2, _), (0, _)]) rfl
    clear h46
    iterate 4 go_step
    refine wv h48 rfl rfl rfl rfl (.int .i64 ((j + 1 : Nat) : Int)) (by unfold execOp; simp only [h48.ev 15 rfl]; exact run_v (addIP _ _ j (by omega) _)) fun a50 h49 => ?_
    have h51 := h49.subs (l' := [(22, _), (5, _), (7, _), (14, _), (13, _), (3, _), (2, _), (0, _)]) rfl
    clear h49
    refine wmk h51 rfl rfl rfl rfl 22 rfl (fun _ => rfl) fun a53 h52 => ?_
    have h54 := h52.subs (l' := [(15, _), (5, _), (7, _), (14, _), (13, _), (3, _), (2, _), (0, _)]) rfl
    clear h52
    iterate 2 go_step
    refine ⟨⟨j + 1, al ++ q.2.2, aa2, ac2, by omega, ?_, ?_, HA7.out, HBL7.out, by rw [List.length_append]; omega⟩, ?_⟩
    · rw [List.length_append]; exact h54.subs rfl
    · rw [List.take_add_one, List.getElem?_eq_getElem hlt, Option.toList_some, List.flatMap_append, ← HAL.out, ← HQ.out]; simp
    · rw [h54.ev 15 rfl, hK.ev 15 rfl]; simp [intOf]; omega
  · have hd0 : decide ((j : Int) < (rs.length : Int)) = false := decide_eq_false (by omega)
    obtain rfl : j = rs.length := by omega
    rw [List.take_length] at HAL
    have HGL := hid (HG3.out.mono HBL.out); have hXlt : ∀ k, XM v d p k → k < w3.heap.size := by have z := HG3.out.lt; rintro k (e | e | e) <;> omega
    have hP64 : okPts al := by intro x hx; rw [HAL.out] at hx; obtain ⟨r, hr, hx⟩ := List.mem_flatMap.1 hx; exact (hpts r hr).1 x hx
    have hPd : ∀ x ∈ al, x.d.length ≤ 1000000 := by intro x hx; rw [HAL.out] at hx; obtain ⟨r, hr, hx⟩ := List.mem_flatMap.1 hx; exact (hpts r hr).2.1 x hx
    iterate 3 go_step
    refine wv hK rfl rfl rfl rfl (.bool false) (by unfold execOp; simp only [hK.ev 15 rfl, hK.ev 14 rfl]; exact run_v (ltIP _ _ _ _ _ hd0)) fun a56 h55 => ?_
    iterate 4 go_step
    refine wp_cond (t := false) (h55.ev 16 rfl) ?_
    simp only [Bool.false_eq_true, if_false]
    have h57 := h55.subs (l' := [(5, _), (15, _), (14, _), (13, _), (3, _), (2, _), (0, _)]) rfl
    clear h55
    iterate 7 go_step
    refine wmk h57 rfl rfl rfl rfl 0 rfl (fun _ => rfl) fun a59 h58 => ?_
    refine wmk h58 rfl rfl rfl rfl 5 rfl (fun _ => rfl) fun a61 h60 => ?_
    refine wpk_call h60 (wanted_none rfl) rfl (by decide) (fr rfl) (fun args => callP_46 args _) rfl #[.pointer (some ⟨lg, 0, none⟩), .slice aa al.length ac] (by simp only [List.map_toArray, List.map_cons, List.map_nil, h60.ev 23 rfl, h60.ev 24 rfl]) (R := fun xv w' => LogP w' lg g v d p at_ size (writeM M al) ∧ Turns (XM v d p) wL w') ((logWrite_any HGL.out (fun W t => (t.own HA.out (fun k hk => hXlt k hk)).row) hP64 hPd (by omega)).mono fun e w' q => by obtain ⟨x, q1, q2, q3⟩ := q; exact ⟨x, q1, q2, q3⟩) fun a63 v8 w8 r8 h62 => ?_
    have h64 := h62.subs (l' := [(5, _), (15, _), (14, _), (13, _), (3, _), (2, _), (0, _)]) rfl
    clear h62
    iterate 5 go_step
    refine wmk h64 rfl rfl rfl rfl 0 rfl (fun _ => rfl) fun a66 h65 => ?_
    refine wpk_call h65 (wanted_none rfl) rfl (by decide) (fr rfl) (fun args => callP_53 args _) rfl #[.pointer (some ⟨lg, 0, none⟩)] (by simp only [List.map_toArray, List.map_cons, List.map_nil, h65.ev 26 rfl]) (R := fun xv w' => LogP w' lg g v d p at_ size (setM (writeM M al) at_ 0) ∧ Turns (XM v d p) w8 w') (clear_any r8.1 (by omega)) fun a68 v9 w9 r9 h67 => ?_
    have h69 := h67.subs (l' := [(5, _), (15, _), (14, _), (13, _), (3, _), (2, _), (0, _)]) rfl
    clear h67
    iterate 5 go_step
    refine wmk h69 rfl rfl rfl rfl 3 rfl (fun _ => rfl) fun a71 h70 => ?_
    refine wv h70 rfl rfl rfl rfl (.int .i64 (rs.length : Int)) (run_lenRP rfl (h70.ev 28 rfl) _) fun a73 h72 => ?_
    have h74 := h72.subs (l' := [(29, _), (28, _), (5, _), (15, _), (14, _), (13, _), (3, _), (0, _)]) rfl
    clear h72
    refine wmk h74 rfl rfl rfl rfl 29 rfl (fun _ => rfl) fun a76 h75 => ?_
    have h77 := h75.subs (l' := [(2, _), (5, _), (15, _), (14, _), (13, _), (3, _), (0, _)]) rfl
    clear h75
    iterate 4 go_step
    have hfl : al = (logR M.V at_ size).1.flatten := by rw [HAL.out, ← HRS.out, List.flatMap_def]
    have hln2 : rs.length = (logR M.V at_ size).1.length := by rw [← HRS.out, List.length_map]
    refine bodyPost_ret (results_tmp1 rfl (h77.known (2, .int .i64 (rs.length : Int)) (by simp))) h77.defs ?_
    exact ⟨_, rfl, by rw [hln2], by show LogP _ _ _ _ _ _ _ _ (setM (writeM M (logR M.V at_ size).1.flatten) at_ 0); rw [← hfl]; exact r9.1, ((HT3.out.trans (Turns.of_below HBL.out)).trans r8.2).trans r9.2⟩
end Go.Proofs.YtcackliabemecaaGreatDoor
