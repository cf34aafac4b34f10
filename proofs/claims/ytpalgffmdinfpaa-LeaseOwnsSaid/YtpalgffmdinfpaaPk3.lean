import Derived.Test.YtpalgffmdinfpaaPk2
import Derived.Shelf.SlSortCmp.NoneTotal
import Derived.Ground.SlsfProg
section
namespace Go.Proofs.Ytpalgffmdinfpaa
open Go.RowKit
set_option linter.unusedSimpArgs false
set_option linter.unusedVariables false
set_option maxRecDepth 100000

def lg0 : GrF := fun _ => none
def lw0 : WtF := fun _ => none
def lg1 : GrF := askG lg0 lw0 0 1 2 true
def lw1 : WtF := askW lg0 lw0 0 1 2 true
def lg2 : GrF := askG lg1 lw1 0 2 2 false
def lw2 : WtF := askW lg1 lw1 0 2 2 false
def lg3 : GrF := updG lg2 (1, 2) none
def lg4 : GrF := askG lg3 lw2 1 3 2 true
def lw4 : WtF := askW lg3 lw2 1 3 2 true
theorem le1 : askE lg0 lw0 0 1 2 true = 0 := by decide +kernel
theorem le2 : askE lg1 lw1 0 2 2 false = 32 := by decide +kernel
theorem ll2 : askLst lg1 0 2 2 false = [1] := by decide +kernel
theorem lg : (lg2 (1, 2)).isSome = true := by decide +kernel
theorem le4 : askE lg3 lw2 1 3 2 true = 32 := by decide +kernel
theorem le5 : askE lg4 lw4 1 2 2 false = 0 := by decide +kernel
theorem eqEP (x y : Operand) (v u : Int) (w : World) {b : Bool} (h : (v == u) = b) : (do eqGuard .eql 44 x y (.int .i64 v) (.int .i64 u); binOp .eql 44 (.int .i64 v) (.int .i64 u) : Sem Value).run Try.prog w = .ok (.bool b) w := by
  have u3 := Try.underlying44
  have a3 := Try.isAgg44
  have z3 := Try.sizeOf44
  subst h
  go_simp
theorem eqPnL (x y : Operand) (q : Addr) (w : World) : (do eqGuard .eql 23 x y (.pointer (some q)) (.pointer none); binOp .eql 23 (.pointer (some q)) (.pointer none) : Sem Value).run Try.prog w = .ok (.bool false) w := by
  have u3 := Try.underlying23
  have a3 := Try.isAgg23
  have z3 := Try.sizeOf23
  go_simp
theorem ixIL (b n c j : Nat) (hj : j < n) (w : World) : (Instr.indexAt 38 (.slice (some ⟨b, 0, none⟩) n c) (.int .i64 (j : Int))).run Try.prog w = .ok (.pointer (some ⟨b, 0 + j, none⟩)) w := by
  have u3 := Try.underlying38
  have u9 := Try.underlying3
  have z3 := Try.sizeOf3
  have d0 : (j : Int) < (n : Int) := by omega
  have d1 : 0 ≤ (j : Int) := by omega
  go_simp
theorem ownI_cell {w : World} {B g c : Nat} {L : List Int} (h : OwnI w B (some ⟨g, 0, none⟩) c L) {j : Nat} (hj : j < L.length) : w.cell? ⟨g, 0 + j, none⟩ = some (.int .i64 L[j]) := by
  obtain ⟨b, off, e, _, hc⟩ := h.row.2.2.2.2 (by omega)
  cases e
  exact hc j _ (by simp [hj, iV])
end Go.Proofs.Ytpalgffmdinfpaa
end
section
namespace Go.Proofs.Ytpalgffmdinfpaa
open Go.RowKit
set_option linter.unusedSimpArgs false
set_option linter.unusedVariables false
set_option maxRecDepth 100000
theorem callP_8 (args : Array Value) (w : World) : (callFunc 8 args).run Try.prog w = .ok (.enter 8 args) w := by
  have h := Try.func8
  go_simp
theorem callP_17 (args : Array Value) (w : World) : (callFunc 17 args).run Try.prog w = .ok (.enter 17 args) w := by
  have h := Try.func17
  go_simp
theorem callP_21 (args : Array Value) (w : World) : (callFunc 21 args).run Try.prog w = .ok (.enter 21 args) w := by
  have h := Try.func21
  go_simp

set_option maxHeartbeats 4000000 in
theorem lives19_any (w : World) : Calls Try.prog 12 #[] w fun e w' => e = .returned (.bool true) ∧ Below w.heap.size w w' := by
  go_enter Try.func12, Try.ntmps12
  iterate 3 go_step
  refine wpk_enter (N := 65) (l := []) ⟨rfl, (by intro x hx; cases hx), rfl⟩ fun a2 h1 => ?_
  refine wpk_val h1 (wanted_none rfl) rfl (by decide) (by intro x hx; cases hx) (.bool false) rfl fun a4 h3 => ?_
  iterate 5 go_step
  refine wpk_call h3 (wanted_none rfl) rfl (by decide) (fr rfl) (fun args => callP_8 args _) rfl #[] (by simp) (R := fun v' w' => ∃ tg gm wm, v' = .pointer (some ⟨tg, 0, none⟩) ∧ TabP w' tg gm wm 0 0 lg0 lw0 ∧ (w.heap.size ≤ tg ∧ w.heap.size ≤ gm ∧ w.heap.size ≤ wm) ∧ Below w.heap.size w w') ((newT_any w).mono fun e w' q => by obtain ⟨x1, x2, x3, q1, q2⟩ := q; exact ⟨_, q1, x1, x2, x3, rfl, q2⟩) fun a6 v0 w0 r0 h5 => ?_
  obtain ⟨tg, gm, wm, rfl, t0, hge, b0⟩ := r0; have H0 := hid t0; have B0 := hid b0; have n0 : (0 : Nat) ≤ 10 := (by omega); have m0 : (0 : Nat) ≤ 10 := (by omega); have o0 : GrOk lg0 := GrOk.empty; clear t0 b0
  refine wmk h5 rfl rfl rfl rfl 11 rfl (fun _ => rfl) fun a8 h7 => ?_
  have h9 := h7.subs (l' := [(1, _), (0, _)]) rfl
  clear h7
  iterate 6 go_step
  refine wmk h9 rfl rfl rfl rfl 1 rfl (fun _ => rfl) fun a11 h10 => ?_
  refine wv h10 rfl rfl rfl rfl (.bool false) (by unfold execOp; simp only [h10.ev 12 rfl]; exact run_v (eqPnL _ _ _ _)) fun a13 h12 => ?_
  have h14 := h12.subs (l' := [(13, _), (1, _), (0, _)]) rfl
  clear h12
  iterate 3 go_step
  refine wp_cond (t := false) (h14.ev 13 rfl) ?_
  simp only [Bool.false_eq_true, if_false]
  have h15 := h14.subs (l' := [(1, _), (0, _)]) rfl
  clear h14
  iterate 5 go_step
  refine wmk h15 rfl rfl rfl rfl 1 rfl (fun _ => rfl) fun a17 h16 => ?_
  refine wpk_call h16 (wanted_none rfl) rfl (by decide) (fr rfl) (fun args => callP_17 args _) rfl #[.pointer (some ⟨tg, 0, none⟩), .int .i64 0, .int .i64 1, .int .i64 2, .bool true] (by simp only [List.map_toArray, List.map_cons, List.map_nil, h16.ev 15 rfl]; rfl) (R := fun v' w' => ∃ la lc, v' = .tuple #[.slice la (askLst lg0 0 1 2 true).length lc, .int .i64 (askE lg0 lw0 0 1 2 true)] ∧ OwnI w' w0.heap.size la lc (askLst lg0 0 1 2 true) ∧ (∃ n' m', n' ≤ 0 + 1 ∧ m' ≤ 0 + 1 ∧ TabP w' tg gm wm n' m' (askG lg0 lw0 0 1 2 true) (askW lg0 lw0 0 1 2 true)) ∧ Turns (fun k => k = gm ∨ k = wm) w0 w') ((askT_any H0.out o0 (by omega) (by omega) 0 1 2 true).mono fun e w' q => by obtain ⟨x1, x2, q1, q2⟩ := q; exact ⟨_, q1, x1, x2, rfl, q2⟩) fun a19 v1 w1 r1 h18 => ?_
  obtain ⟨la1, lc1, rfl, oL1, ⟨n1, m1, hn1, hm1, t1⟩, u1⟩ := r1; rw [le1] at h18; have H1 := hid t1; have B1 := hid (B0.out.trans (u1.below B0.out.size (fun k e => by omega))); have o1 := o0.ask lw0 0 1 2 true
  clear oL1
  refine wmk h18 rfl rfl rfl rfl 16 rfl (fun _ => rfl) fun a21 h20 => ?_
  refine wv h20 rfl rfl rfl rfl (.slice la1 (askLst lg0 0 1 2 true).length lc1) (by unfold execOp; simp only [h20.ev 14 rfl]; exact rfl) fun a23 h22 => ?_
  refine wv h22 rfl rfl rfl rfl (.int .i64 0) (by unfold execOp; simp only [h22.ev 14 rfl]; exact rfl) fun a25 h24 => ?_
  refine wmk h24 rfl rfl rfl rfl 17 rfl (fun _ => rfl) fun a27 h26 => ?_
  refine wmk h26 rfl rfl rfl rfl 18 rfl (fun _ => rfl) fun a29 h28 => ?_
  have h30 := h28.subs (l' := [(3, _), (1, _), (0, _)]) rfl
  clear h28
  iterate 5 go_step
  refine wmk h30 rfl rfl rfl rfl 1 rfl (fun _ => rfl) fun a32 h31 => ?_
  refine wpk_call h31 (wanted_none rfl) rfl (by decide) (fr rfl) (fun args => callP_17 args _) rfl #[.pointer (some ⟨tg, 0, none⟩), .int .i64 0, .int .i64 2, .int .i64 2, .bool false] (by simp only [List.map_toArray, List.map_cons, List.map_nil, h31.ev 20 rfl]; rfl) (R := fun v' w' => ∃ la lc, v' = .tuple #[.slice la (askLst lg1 0 2 2 false).length lc, .int .i64 (askE lg1 lw1 0 2 2 false)] ∧ OwnI w' w1.heap.size la lc (askLst lg1 0 2 2 false) ∧ (∃ n' m', n' ≤ n1 + 1 ∧ m' ≤ m1 + 1 ∧ TabP w' tg gm wm n' m' (askG lg1 lw1 0 2 2 false) (askW lg1 lw1 0 2 2 false)) ∧ Turns (fun k => k = gm ∨ k = wm) w1 w') ((askT_any H1.out o1 (by omega) (by omega) 0 2 2 false).mono fun e w' q => by obtain ⟨x1, x2, q1, q2⟩ := q; exact ⟨_, q1, x1, x2, rfl, q2⟩) fun a34 v2 w2 r2 h33 => ?_
  obtain ⟨la2, lc2, rfl, oL2, ⟨n2, m2, hn2, hm2, t2⟩, u2⟩ := r2; rw [le2] at h33; have H2 := hid t2; have B2 := hid (B1.out.trans (u2.below B1.out.size (fun k e => by omega))); have o2 := o1.ask lw1 0 2 2 false
  have hw01 : w0.heap.size ≤ w1.heap.size := u1.size
  rw [ll2] at oL2 h33; obtain ⟨gl, egl⟩ := own_someO oL2 (by show 0 < 1; omega); rw [egl] at oL2; have HOL := hid (own_weak oL2 hw01)
  refine wmk h33 rfl rfl rfl rfl 21 rfl (fun _ => rfl) fun a36 h35 => ?_
  refine wv h35 rfl rfl rfl rfl (.slice la2 ([1] : List Int).length lc2) (by unfold execOp; simp only [h35.ev 19 rfl]; exact rfl) fun a38 h37 => ?_
  refine wv h37 rfl rfl rfl rfl (.int .i64 32) (by unfold execOp; simp only [h37.ev 19 rfl]; exact rfl) fun a40 h39 => ?_
  refine wmk h39 rfl rfl rfl rfl 22 rfl (fun _ => rfl) fun a42 h41 => ?_
  refine wmk h41 rfl rfl rfl rfl 23 rfl (fun _ => rfl) fun a44 h43 => ?_
  have h45 := h43.subs (l' := [(5, _), (4, _), (3, _), (1, _), (0, _)]) rfl
  clear h43
  iterate 5 go_step
  refine wmk h45 rfl rfl rfl rfl 1 rfl (fun _ => rfl) fun a47 h46 => ?_
  refine wpk_call h46 (wanted_none rfl) rfl (by decide) (fr rfl) (fun args => callP_21 args _) rfl #[.pointer (some ⟨tg, 0, none⟩), .int .i64 1, .int .i64 2] (by simp only [List.map_toArray, List.map_cons, List.map_nil, h46.ev 24 rfl]; rfl) (R := fun v' w' => v' = .int .i64 (if (lg2 (1, 2)).isSome then 0 else 10) ∧ TabP w' tg gm wm n2 m2 lg3 lw2 ∧ Turns (fun k => k = gm) w2 w') ((give_any H2.out (c := 1) (i := 2) ⟨WalkArith.wf_i64 (by omega), WalkArith.wf_i64 (by omega)⟩).mono fun e w' q => ⟨_, q.1, rfl, q.2⟩) fun a49 v3 w3 r3 h48 => ?_
  obtain ⟨rfl, t3, u3⟩ := r3; rw [lg] at h48; have H3 := hid t3; have B3 := hid (B2.out.trans (u3.below B2.out.size (fun k e => by omega))); have o3 : GrOk lg3 := o2.give (1, 2); have HOL2 := hid (own_turnsL (B := w0.heap.size) HOL.out u3 (fun k e => .inl (by have := H0.out.lt; omega))); clear HOL; have HOL := HOL2; clear HOL2
  refine wmk h48 rfl rfl rfl rfl 25 rfl (fun _ => rfl) fun a51 h50 => ?_
  have h52 := h50.subs (l' := [(6, _), (5, _), (4, _), (3, _), (1, _), (0, _)]) rfl
  clear h50
  iterate 5 go_step
  refine wmk h52 rfl rfl rfl rfl 1 rfl (fun _ => rfl) fun a54 h53 => ?_
  refine wpk_call h53 (wanted_none rfl) rfl (by decide) (fr rfl) (fun args => callP_17 args _) rfl #[.pointer (some ⟨tg, 0, none⟩), .int .i64 1, .int .i64 3, .int .i64 2, .bool true] (by simp only [List.map_toArray, List.map_cons, List.map_nil, h53.ev 27 rfl]; rfl) (R := fun v' w' => ∃ la lc, v' = .tuple #[.slice la (askLst lg3 1 3 2 true).length lc, .int .i64 (askE lg3 lw2 1 3 2 true)] ∧ OwnI w' w3.heap.size la lc (askLst lg3 1 3 2 true) ∧ (∃ n' m', n' ≤ n2 + 1 ∧ m' ≤ m2 + 1 ∧ TabP w' tg gm wm n' m' (askG lg3 lw2 1 3 2 true) (askW lg3 lw2 1 3 2 true)) ∧ Turns (fun k => k = gm ∨ k = wm) w3 w') ((askT_any H3.out o3 (by omega) (by omega) 1 3 2 true).mono fun e w' q => by obtain ⟨x1, x2, q1, q2⟩ := q; exact ⟨_, q1, x1, x2, rfl, q2⟩) fun a56 v4 w4 r4 h55 => ?_
  obtain ⟨la4, lc4, rfl, oL4, ⟨n4, m4, hn4, hm4, t4⟩, u4⟩ := r4; rw [le4] at h55; have H4 := hid t4; have B4 := hid (B3.out.trans (u4.below B3.out.size (fun k e => by omega))); have o4 := o3.ask lw2 1 3 2 true
  have HOL2 := hid (own_turnsL (B := w0.heap.size) HOL.out u4 (fun k e => .inl (by have := H0.out.lt; omega))); clear HOL; have HOL := HOL2; clear HOL2
  clear oL4
  refine wmk h55 rfl rfl rfl rfl 28 rfl (fun _ => rfl) fun a58 h57 => ?_
  refine wv h57 rfl rfl rfl rfl (.slice la4 (askLst lg3 1 3 2 true).length lc4) (by unfold execOp; simp only [h57.ev 26 rfl]; exact rfl) fun a60 h59 => ?_
  refine wv h59 rfl rfl rfl rfl (.int .i64 32) (by unfold execOp; simp only [h59.ev 26 rfl]; exact rfl) fun a62 h61 => ?_
  refine wmk h61 rfl rfl rfl rfl 29 rfl (fun _ => rfl) fun a64 h63 => ?_
  refine wmk h63 rfl rfl rfl rfl 30 rfl (fun _ => rfl) fun a66 h65 => ?_
  have h67 := h65.subs (l' := [(8, _), (6, _), (5, _), (4, _), (3, _), (1, _), (0, _)]) rfl
  clear h65
  iterate 5 go_step
  refine wmk h67 rfl rfl rfl rfl 1 rfl (fun _ => rfl) fun a69 h68 => ?_
  refine wpk_call h68 (wanted_none rfl) rfl (by decide) (fr rfl) (fun args => callP_17 args _) rfl #[.pointer (some ⟨tg, 0, none⟩), .int .i64 1, .int .i64 2, .int .i64 2, .bool false] (by simp only [List.map_toArray, List.map_cons, List.map_nil, h68.ev 32 rfl]; rfl) (R := fun v' w' => ∃ la lc, v' = .tuple #[.slice la (askLst lg4 1 2 2 false).length lc, .int .i64 (askE lg4 lw4 1 2 2 false)] ∧ OwnI w' w4.heap.size la lc (askLst lg4 1 2 2 false) ∧ (∃ n' m', n' ≤ n4 + 1 ∧ m' ≤ m4 + 1 ∧ TabP w' tg gm wm n' m' (askG lg4 lw4 1 2 2 false) (askW lg4 lw4 1 2 2 false)) ∧ Turns (fun k => k = gm ∨ k = wm) w4 w') ((askT_any H4.out o4 (by omega) (by omega) 1 2 2 false).mono fun e w' q => by obtain ⟨x1, x2, q1, q2⟩ := q; exact ⟨_, q1, x1, x2, rfl, q2⟩) fun a71 v5 w5 r5 h70 => ?_
  obtain ⟨la5, lc5, rfl, oL5, ⟨n5, m5, hn5, hm5, t5⟩, u5⟩ := r5; rw [le5] at h70; have H5 := hid t5; have B5 := hid (B4.out.trans (u5.below B4.out.size (fun k e => by omega))); have o5 := o4.ask lw4 1 2 2 false
  have HOL2 := hid (own_turnsL (B := w0.heap.size) HOL.out u5 (fun k e => .inl (by have := H0.out.lt; omega))); clear HOL; have HOL := HOL2; clear HOL2
  clear oL5
  refine wmk h70 rfl rfl rfl rfl 33 rfl (fun _ => rfl) fun a73 h72 => ?_
  refine wv h72 rfl rfl rfl rfl (.slice la5 (askLst lg4 1 2 2 false).length lc5) (by unfold execOp; simp only [h72.ev 31 rfl]; exact rfl) fun a75 h74 => ?_
  refine wv h74 rfl rfl rfl rfl (.int .i64 0) (by unfold execOp; simp only [h74.ev 31 rfl]; exact rfl) fun a77 h76 => ?_
  refine wmk h76 rfl rfl rfl rfl 34 rfl (fun _ => rfl) fun a79 h78 => ?_
  refine wmk h78 rfl rfl rfl rfl 35 rfl (fun _ => rfl) fun a81 h80 => ?_
  have h82 := h80.subs (l' := [(10, _), (8, _), (6, _), (5, _), (4, _), (3, _), (1, _), (0, _)]) rfl
  clear h80
  iterate 5 go_step
  refine wmk h82 rfl rfl rfl rfl 3 rfl (fun _ => rfl) fun a84 h83 => ?_
  refine wv h83 rfl rfl rfl rfl (.bool true) (by unfold execOp; simp only [h83.ev 36 rfl]; exact run_v (eqEP _ _ _ _ _ (beq_iff_eq.2 (by omega)))) fun a86 h85 => ?_
  refine wmk h85 rfl rfl rfl rfl 37 rfl (fun _ => rfl) fun a88 h87 => ?_
  refine wpk_val h87 (by rw [wanted_of (g := 2) (want := true) (b := true) rfl (h87.yields (prev := 38) rfl (by simp))]; rfl) rfl (by decide) (fr rfl) (.slice la2 ([1] : List Int).length lc2) (by unfold execOp; simp only [h87.ev 4 rfl]; rfl) fun a90 h89 => ?_
  refine wpk_val h89 (by rw [wanted_of (g := 2) (want := true) (b := true) rfl (h89.yields (prev := 38) rfl (by simp))]; rfl) rfl (by decide) (fr rfl) (.int .i64 1) (run_lenIL (n := 1) rfl (h89.ev 39 rfl) _) fun a92 h91 => ?_
  refine wpk_val h91 (by rw [wanted_of (g := 2) (want := true) (b := true) rfl (h91.yields (prev := 38) rfl (by simp))]; rfl) rfl (by decide) (fr rfl) (.bool true) (by unfold execOp; simp only [h91.ev 40 rfl]; exact run_v (eqIP _ _ _ _ _ (beq_iff_eq.2 (by omega)))) fun a94 h93 => ?_
  refine wv h93 rfl rfl rfl rfl (.bool true) (run_pick rfl (h93.ev 38 rfl) (by rw [if_pos rfl]; exact h93.ev 41 rfl)) fun a96 h95 => ?_
  refine wmk h95 rfl rfl rfl rfl 42 rfl (fun _ => rfl) fun a98 h97 => ?_
  refine wpk_val h97 (by rw [wanted_of (g := 7) (want := true) (b := true) rfl (h97.yields (prev := 43) rfl (by simp))]; rfl) rfl (by decide) (fr rfl) (.slice la2 ([1] : List Int).length lc2) (by unfold execOp; simp only [h97.ev 4 rfl]; rfl) fun a100 h99 => ?_
  refine wpk_val h99 (by rw [wanted_of (g := 7) (want := true) (b := true) rfl (h99.yields (prev := 43) rfl (by simp))]; rfl) rfl (by decide) (fr rfl) (.pointer (some ⟨gl, 0 + 0, none⟩)) (by unfold execOp; simp only [h99.ev 44 rfl]; exact run_v (by rw [egl]; exact ixIL gl 1 _ 0 (by omega) _)) fun a102 h101 => ?_
  refine wpk_val h101 (by rw [wanted_of (g := 7) (want := true) (b := true) rfl (h101.yields (prev := 43) rfl (by simp))]; rfl) rfl (by decide) (fr rfl) (.int .i64 1) (by unfold execOp; simp only [h101.ev 45 rfl]; exact run_v (loadIP (ownI_cell (L := [1]) (j := 0) HOL.out (by show 0 < 1; omega)))) fun a104 h103 => ?_
  refine wpk_val h103 (by rw [wanted_of (g := 7) (want := true) (b := true) rfl (h103.yields (prev := 43) rfl (by simp))]; rfl) rfl (by decide) (fr rfl) (.bool true) (by unfold execOp; simp only [h103.ev 46 rfl]; exact run_v (eqIP _ _ _ _ _ (beq_iff_eq.2 (by omega)))) fun a106 h105 => ?_
  refine wv h105 rfl rfl rfl rfl (.bool true) (run_pick rfl (h105.ev 43 rfl) (by rw [if_pos rfl]; exact h105.ev 47 rfl)) fun a108 h107 => ?_
  refine wmk h107 rfl rfl rfl rfl 48 rfl (fun _ => rfl) fun a110 h109 => ?_
  refine wpk_val h109 (by rw [wanted_of (g := 13) (want := true) (b := true) rfl (h109.yields (prev := 49) rfl (by simp))]; rfl) rfl (by decide) (fr rfl) (.int .i64 32) (by unfold execOp; simp only [h109.ev 5 rfl]; rfl) fun a112 h111 => ?_
  refine wpk_val h111 (by rw [wanted_of (g := 13) (want := true) (b := true) rfl (h111.yields (prev := 49) rfl (by simp))]; rfl) rfl (by decide) (fr rfl) (.bool true) (by unfold execOp; simp only [h111.ev 50 rfl]; exact run_v (eqEP _ _ _ _ _ (beq_iff_eq.2 (by omega)))) fun a114 h113 => ?_
  refine wv h113 rfl rfl rfl rfl (.bool true) (run_pick rfl (h113.ev 49 rfl) (by rw [if_pos rfl]; exact h113.ev 51 rfl)) fun a116 h115 => ?_
  refine wmk h115 rfl rfl rfl rfl 52 rfl (fun _ => rfl) fun a118 h117 => ?_
  refine wpk_val h117 (by rw [wanted_of (g := 17) (want := true) (b := true) rfl (h117.yields (prev := 53) rfl (by simp))]; rfl) rfl (by decide) (fr rfl) (.int .i64 0) (by unfold execOp; simp only [h117.ev 6 rfl]; rfl) fun a120 h119 => ?_
  refine wpk_val h119 (by rw [wanted_of (g := 17) (want := true) (b := true) rfl (h119.yields (prev := 53) rfl (by simp))]; rfl) rfl (by decide) (fr rfl) (.bool true) (by unfold execOp; simp only [h119.ev 54 rfl]; exact run_v (eqEP _ _ _ _ _ (beq_iff_eq.2 (by omega)))) fun a122 h121 => ?_
  refine wv h121 rfl rfl rfl rfl (.bool true) (run_pick rfl (h121.ev 53 rfl) (by rw [if_pos rfl]; exact h121.ev 55 rfl)) fun a124 h123 => ?_
  refine wmk h123 rfl rfl rfl rfl 56 rfl (fun _ => rfl) fun a126 h125 => ?_
  refine wpk_val h125 (by rw [wanted_of (g := 21) (want := true) (b := true) rfl (h125.yields (prev := 57) rfl (by simp))]; rfl) rfl (by decide) (fr rfl) (.int .i64 32) (by unfold execOp; simp only [h125.ev 8 rfl]; rfl) fun a128 h127 => ?_
  refine wpk_val h127 (by rw [wanted_of (g := 21) (want := true) (b := true) rfl (h127.yields (prev := 57) rfl (by simp))]; rfl) rfl (by decide) (fr rfl) (.bool true) (by unfold execOp; simp only [h127.ev 58 rfl]; exact run_v (eqEP _ _ _ _ _ (beq_iff_eq.2 (by omega)))) fun a130 h129 => ?_
  refine wv h129 rfl rfl rfl rfl (.bool true) (run_pick rfl (h129.ev 57 rfl) (by rw [if_pos rfl]; exact h129.ev 59 rfl)) fun a132 h131 => ?_
  refine wmk h131 rfl rfl rfl rfl 60 rfl (fun _ => rfl) fun a134 h133 => ?_
  refine wpk_val h133 (by rw [wanted_of (g := 25) (want := true) (b := true) rfl (h133.yields (prev := 61) rfl (by simp))]; rfl) rfl (by decide) (fr rfl) (.int .i64 0) (by unfold execOp; simp only [h133.ev 10 rfl]; rfl) fun a136 h135 => ?_
  refine wpk_val h135 (by rw [wanted_of (g := 25) (want := true) (b := true) rfl (h135.yields (prev := 61) rfl (by simp))]; rfl) rfl (by decide) (fr rfl) (.bool true) (by unfold execOp; simp only [h135.ev 62 rfl]; exact run_v (eqEP _ _ _ _ _ (beq_iff_eq.2 (by omega)))) fun a138 h137 => ?_
  refine wv h137 rfl rfl rfl rfl (.bool true) (run_pick rfl (h137.ev 61 rfl) (by rw [if_pos rfl]; exact h137.ev 63 rfl)) fun a140 h139 => ?_
  have h141 := h139.subs (l' := [(64, _), (63, _), (62, _), (61, _), (60, _), (59, _), (58, _), (57, _), (56, _), (55, _), (54, _), (53, _), (52, _), (51, _), (50, _), (49, _), (48, _), (47, _), (46, _), (45, _), (44, _), (43, _), (42, _), (41, _), (40, _), (39, _), (38, _), (37, _), (36, _), (10, _), (8, _), (6, _), (5, _), (4, _), (3, _), (1, _)]) rfl
  clear h139
  refine wmk h141 rfl rfl rfl rfl 64 rfl (fun _ => rfl) fun a143 h142 => ?_
  have h144 := h142.subs (l' := [(0, _), (10, _), (8, _), (6, _), (5, _), (4, _), (3, _), (1, _)]) rfl
  clear h142
  iterate 4 go_step
  exact bodyPost_ret (results_tmp1 rfl (h144.known (0, .bool true) (by simp))) h144.defs ⟨rfl, B5.out⟩
end Go.Proofs.Ytpalgffmdinfpaa
end
section
namespace Go.Proofs.Ytpalgffmdinfpaa
open Go.RowKit
set_option linter.unusedSimpArgs false
set_option linter.unusedVariables false
set_option maxRecDepth 100000

abbrev Gr3 := Bool × Bool × Int
def g3C (a : Gr3) : List Value := [.bool a.1, .bool a.2.1, .int .i64 a.2.2]
theorem g3C_len (a : Gr3) : (g3C a).length = 3 := rfl
/-- the document's table in memory: grants at 9 i + c, who waits, how long -/
structure RefL (w : World) (rg gb wb lb : Nat) (G : List Gr3) (W L : List Int) : Prop where
  t : Blk w rg 43 [.slice (some ⟨gb, 0, none⟩) 297 297, .slice (some ⟨wb, 0, none⟩) 33 33, .slice (some ⟨lb, 0, none⟩) 33 33]
  g : Blk w gb 58 (G.flatMap g3C)
  b : Blk w wb 3 (W.map iV)
  l : Blk w lb 3 (L.map iV)
  n : G.length = 297 ∧ W.length = 33 ∧ L.length = 33
  ne : wb ≠ lb
theorem RefL.turns {X : Nat → Prop} {w w' : World} {rg gb wb lb : Nat} {G : List Gr3} {W L : List Int} (h : RefL w rg gb wb lb G W L) (t : Turns X w w') (h1 : ¬ X rg) (h2 : ¬ X gb) (h3 : ¬ X wb) (h4 : ¬ X lb) : RefL w' rg gb wb lb G W L := ⟨t.blk h.t h1, t.blk h.g h2, t.blk h.b h3, t.blk h.l h4, h.n, h.ne⟩
theorem RefL.mono {w w' : World} {rg gb wb lb : Nat} {G : List Gr3} {W L : List Int} (h : RefL w rg gb wb lb G W L) (b : Below w.heap.size w w') : RefL w' rg gb wb lb G W L := h.turns (X := fun _ => False) (Turns.of_below b) (fun e => e) (fun e => e) (fun e => e) (fun e => e)
end Go.Proofs.Ytpalgffmdinfpaa
end
section
namespace Go.Proofs.Ytpalgffmdinfpaa
open Go.RowKit
set_option linter.unusedSimpArgs false
set_option linter.unusedVariables false
set_option maxRecDepth 100000
end Go.Proofs.Ytpalgffmdinfpaa
end
section
namespace Go.Proofs.Ytpalgffmdinfpaa
open Go.RowKit
set_option linter.unusedSimpArgs false
set_option linter.unusedVariables false
set_option maxRecDepth 100000
theorem flat3_set (G : List Gr3) : ∀ (j : Nat) (x : Gr3), j < G.length → splice (G.flatMap g3C) (0 + j * 3) (g3C x) = (G.set j x).flatMap g3C := by
  intro j x hj
  rw [Nat.zero_add]
  exact (flat_set g3C 3 g3C_len G j x hj).symm
theorem RefL.setG {w w' : World} {rg gb wb lb : Nat} {G : List Gr3} {W L : List Int} (h : RefL w rg gb wb lb G W L) {j : Nat} {x : Gr3} (k : Blk w' gb 58 (splice (G.flatMap g3C) (0 + j * 3) (g3C x))) (gq : w.grownBy w' (some gb)) (hj : j < 297) : RefL w' rg gb wb lb (G.set j x) W L := by
  have t : Turns (fun k => k = gb) w w' := Turns.of_grown gq rfl
  rw [flat3_set G j x (by rw [h.n.1]; exact hj)] at k
  exact ⟨t.blk h.t (blk_ne h.t h.g (by decide)), k, t.blk h.b (blk_ne h.b h.g (by decide)), t.blk h.l (blk_ne h.l h.g (by decide)), by rw [List.length_set]; exact h.n, h.ne⟩
end Go.Proofs.Ytpalgffmdinfpaa
end
section
namespace Go.Proofs.Ytpalgffmdinfpaa
open Go.RowKit
set_option linter.unusedSimpArgs false
set_option linter.unusedVariables false
set_option maxRecDepth 100000

def encG (a : Option (Bool × Int)) : Gr3 := match a with | none => (false, false, 0) | some x => (true, x.1, x.2)
/-- the document's lists and the functions of a table -/
structure RelL (g : GrF) (wt : WtF) (G : List Gr3) (W L : List Int) : Prop where
  n : G.length = 297 ∧ W.length = 33 ∧ L.length = 33
  g : ∀ c i : Int, 1 ≤ c → c ≤ 8 → 1 ≤ i → i ≤ 32 → G.getD (9 * i + c).toNat (false, false, 0) = encG (g (c, i))
  w : ∀ i : Int, 1 ≤ i → i ≤ 32 → match wt i with | none => W.getD i.toNat 0 = 0 | some a => W.getD i.toNat 0 = a.1 ∧ L.getD i.toNat 0 = a.2 ∧ 1 ≤ a.1
def agN (g : GrF) (c i : Int) (own : Bool) (n : Nat) : List Int := (all8.take n).filter (confB g c i own)
theorem all8_take (n : Nat) (h : n < 8) : all8.take (n + 1) = all8.take n ++ [((n + 1 : Nat) : Int)] := by
  have : n = 0 ∨ n = 1 ∨ n = 2 ∨ n = 3 ∨ n = 4 ∨ n = 5 ∨ n = 6 ∨ n = 7 := by omega
  rcases this with rfl | rfl | rfl | rfl | rfl | rfl | rfl | rfl <;> rfl
theorem agN_len (g : GrF) (c i : Int) (own : Bool) (n : Nat) : (agN g c i own n).length ≤ 8 := Nat.le_trans (List.length_filter_le _ _) (by rw [List.length_take]; exact Nat.min_le_right _ _)
theorem agN_yes {g : GrF} {c i : Int} {own : Bool} {n : Nat} (h : confB g c i own ((n + 1 : Nat) : Int) = true) (hn : n < 8) : agN g c i own (n + 1) = agN g c i own n ++ [((n + 1 : Nat) : Int)] := by
  unfold agN
  rw [all8_take n hn, List.filter_append]
  simp only [List.filter_cons, List.filter_nil, h, if_true]
theorem agN_no {g : GrF} {c i : Int} {own : Bool} {n : Nat} (h : confB g c i own ((n + 1 : Nat) : Int) = false) : agN g c i own (n + 1) = agN g c i own n := by
  unfold agN
  rcases Nat.lt_or_ge n 8 with hn | hn
  · rw [all8_take n hn, List.filter_append]
    simp only [List.filter_cons, List.filter_nil, h, Bool.false_eq_true, if_false, List.append_nil]
  · rw [List.take_of_length_le (by show 8 ≤ _; omega), List.take_of_length_le (by show 8 ≤ _; omega)]
theorem conf_ref {g : GrF} {wt : WtF} {G : List Gr3} {W L : List Int} (h : RelL g wt G W L) {c i k : Int} {own : Bool} (hk : 1 ≤ k ∧ k ≤ 8) (h1 : 1 ≤ i) (h2 : i ≤ 32) :
    confB g c i own k = ((decide (k ≠ c) && (G.getD (9 * i + k).toNat (false, false, 0)).1) && (own || (G.getD (9 * i + k).toNat (false, false, 0)).2.1)) := by
  rw [h.g k i hk.1 hk.2 h1 h2]
  unfold confB encG
  cases g (k, i) <;> simp
theorem other_ref {g : GrF} {wt : WtF} {G : List Gr3} {W L : List Int} (h : RelL g wt G W L) {now c i : Int} (h1 : 1 ≤ i) (h2 : i ≤ 32) :
    askO wt now c i = ((decide (W.getD i.toNat 0 ≠ 0) && decide (W.getD i.toNat 0 ≠ c)) && decide (L.getD i.toNat 0 > now)) := by
  have q := h.w i h1 h2
  unfold askO
  split at q
  · rename_i e; rw [e, q]; simp
  · rename_i a e
    rw [e, q.1, q.2.1]
    have : a.1 ≠ 0 := by omega
    simp [this]
theorem askQ_bad {g : GrF} {wt : WtF} {now c i : Int} {own : Bool} (h : ¬ askOk now c i) : askLst g now c i own = [] ∧ askE g wt now c i own = 1 ∧ askG g wt now c i own = g ∧ askW g wt now c i own = wt := by
  have hb : ¬ askOkB now c i = true := fun q => h (askOkB_iff.1 q)
  unfold askLst askE askG askW
  simp only [if_neg hb, and_self]
theorem askQ_someY {g : GrF} {wt : WtF} {now c i : Int} {own : Bool} (hb : askOkB now c i = true) (ha : 0 < (agL g c i own).length) (ho : askO wt now c i = true) : askLst g now c i own = agL g c i own ∧ askE g wt now c i own = 32 ∧ askG g wt now c i own = g ∧ askW g wt now c i own = wt := by
  unfold askLst askE askG askW
  have hn : ¬ (agL g c i own).length = 0 := by omega
  simp only [hb, if_true, if_neg hn, ho, and_self]
theorem askQ_someN {g : GrF} {wt : WtF} {now c i : Int} {own : Bool} (hb : askOkB now c i = true) (ha : 0 < (agL g c i own).length) (ho : askO wt now c i = false) : askLst g now c i own = agL g c i own ∧ askE g wt now c i own = 32 ∧ askG g wt now c i own = g ∧ askW g wt now c i own = updG wt i (some (c, now + 64)) := by
  unfold askLst askE askG askW
  have hn : ¬ (agL g c i own).length = 0 := by omega
  simp only [hb, if_true, if_neg hn, ho, Bool.false_eq_true, if_false, and_self]
theorem askQ_noneY {g : GrF} {wt : WtF} {now c i : Int} {own : Bool} (hb : askOkB now c i = true) (ha : (agL g c i own).length = 0) (ho : askO wt now c i = true) : askLst g now c i own = agL g c i own ∧ askE g wt now c i own = 32 ∧ askG g wt now c i own = g ∧ askW g wt now c i own = wt := by
  unfold askLst askE askG askW
  simp only [hb, if_true, if_pos ha, ho, and_self]
theorem askQ_noneN {g : GrF} {wt : WtF} {now c i : Int} {own : Bool} (hb : askOkB now c i = true) (ha : (agL g c i own).length = 0) (ho : askO wt now c i = false) : askLst g now c i own = agL g c i own ∧ askE g wt now c i own = 0 ∧ askG g wt now c i own = updG g (c, i) (some (own, now + 64)) ∧ askW g wt now c i own = ownW wt c i := by
  unfold askLst askE askG askW
  simp only [hb, if_true, if_pos ha, ho, Bool.false_eq_true, if_false, and_self]
theorem ownW_eq {g : GrF} {wt : WtF} {G : List Gr3} {W L : List Int} (h : RelL g wt G W L) {c i : Int} (h1 : 1 ≤ i) (h2 : i ≤ 32) (e : W.getD i.toNat 0 = c) (hc : 1 ≤ c) : ownW wt c i = updG wt i none := by
  have q := h.w i h1 h2
  unfold ownW
  split at q
  · omega
  · rename_i a ea; rw [ea]; show (if a.1 = c then updG wt i none else wt) = _; rw [if_pos (by omega)]
theorem ownW_ne {g : GrF} {wt : WtF} {G : List Gr3} {W L : List Int} (h : RelL g wt G W L) {c i : Int} (h1 : 1 ≤ i) (h2 : i ≤ 32) (e : ¬ W.getD i.toNat 0 = c) : ownW wt c i = wt := by
  have q := h.w i h1 h2
  unfold ownW
  split at q
  · rename_i ea; rw [ea]
  · rename_i a ea; rw [ea]; show (if a.1 = c then updG wt i none else wt) = _; rw [if_neg (by omega)]
theorem getD_set {α : Type} (L : List α) (j k : Nat) (x z : α) (hj : j < L.length) : (L.set j x).getD k z = if k = j then x else L.getD k z := by
  by_cases e : k = j
  · subst e; simp [hj]
  · rw [if_neg e, List.getD_eq_getElem?_getD, List.getD_eq_getElem?_getD, List.getElem?_set, if_neg (fun q => e q.symm)]
theorem RelL.setG {g : GrF} {wt : WtF} {G : List Gr3} {W L : List Int} (h : RelL g wt G W L) {c i : Int} (c1 : 1 ≤ c) (c2 : c ≤ 8) (i1 : 1 ≤ i) (i2 : i ≤ 32) (o : Bool) (u : Int) : RelL (updG g (c, i) (some (o, u))) wt (G.set (9 * i + c).toNat (true, o, u)) W L := by
  refine ⟨by rw [List.length_set]; exact h.n, fun c' i' a1 a2 b1 b2 => ?_, h.w⟩
  rw [getD_set _ _ _ _ _ (by have := h.n; omega)]
  by_cases e : (c', i') = (c, i)
  · cases e; rw [if_pos rfl, updG_same]; rfl
  · rw [updG_ne _ _ e, if_neg (fun q => e ?_)]
    · exact h.g c' i' a1 a2 b1 b2
    · have : i' = i := by omega
      have : c' = c := by omega
      subst_vars; rfl
theorem RelL.clrG {g : GrF} {wt : WtF} {G : List Gr3} {W L : List Int} (h : RelL g wt G W L) {c i : Int} (c1 : 1 ≤ c) (c2 : c ≤ 8) (i1 : 1 ≤ i) (i2 : i ≤ 32) : RelL (updG g (c, i) none) wt (G.set (9 * i + c).toNat (false, false, 0)) W L := by
  refine ⟨by rw [List.length_set]; exact h.n, fun c' i' a1 a2 b1 b2 => ?_, h.w⟩
  rw [getD_set _ _ _ _ _ (by have := h.n; omega)]
  by_cases e : (c', i') = (c, i)
  · cases e; rw [if_pos rfl, updG_same]; rfl
  · rw [updG_ne _ _ e, if_neg (fun q => e ?_)]
    · exact h.g c' i' a1 a2 b1 b2
    · have : i' = i := by omega
      have : c' = c := by omega
      subst_vars; rfl
theorem RelL.setW {g : GrF} {wt : WtF} {G : List Gr3} {W L : List Int} (h : RelL g wt G W L) {c i : Int} (i1 : 1 ≤ i) (i2 : i ≤ 32) (c1 : 1 ≤ c) (u : Int) : RelL g (updG wt i (some (c, u))) G (W.set i.toNat c) (L.set i.toNat u) := by
  refine ⟨by simp only [List.length_set]; exact h.n, h.g, fun i' b1 b2 => ?_⟩
  rw [getD_set _ _ _ _ _ (by have := h.n; omega), getD_set _ _ _ _ _ (by have := h.n; omega)]
  by_cases e : i' = i
  · subst e; rw [updG_same]; simp [c1]
  · rw [updG_ne _ _ e, if_neg (by omega), if_neg (by omega)]; exact h.w i' b1 b2
theorem RelL.clrW {g : GrF} {wt : WtF} {G : List Gr3} {W L : List Int} (h : RelL g wt G W L) {i : Int} (i1 : 1 ≤ i) (i2 : i ≤ 32) : RelL g (updG wt i none) G (W.set i.toNat 0) L := by
  refine ⟨by simp only [List.length_set]; exact h.n, h.g, fun i' b1 b2 => ?_⟩
  rw [getD_set _ _ _ _ _ (by have := h.n; omega)]
  by_cases e : i' = i
  · subst e; rw [updG_same]; simp
  · rw [updG_ne _ _ e, if_neg (by omega)]; exact h.w i' b1 b2

theorem fa_commonsref19_Table_la_0 (g off : Nat) (w : World) : (Instr.fieldAt 43 (.pointer (some ⟨g, off, none⟩)) 0).run Try.prog w = .ok (.pointer (some ⟨g, off + 0, none⟩)) w := rfl
theorem fa_commonsref19_Grant_la_0 (g off : Nat) (w : World) : (Instr.fieldAt 58 (.pointer (some ⟨g, off, none⟩)) 0).run Try.prog w = .ok (.pointer (some ⟨g, off + 0, none⟩)) w := rfl
theorem fa_commonsref19_Grant_la_1 (g off : Nat) (w : World) : (Instr.fieldAt 58 (.pointer (some ⟨g, off, none⟩)) 1).run Try.prog w = .ok (.pointer (some ⟨g, off + 1, none⟩)) w := rfl
theorem fa_commonsref19_Table_la_1 (g off : Nat) (w : World) : (Instr.fieldAt 43 (.pointer (some ⟨g, off, none⟩)) 1).run Try.prog w = .ok (.pointer (some ⟨g, off + 1, none⟩)) w := rfl
theorem fa_commonsref19_Table_la_2 (g off : Nat) (w : World) : (Instr.fieldAt 43 (.pointer (some ⟨g, off, none⟩)) 2).run Try.prog w = .ok (.pointer (some ⟨g, off + 2, none⟩)) w := rfl

set_option maxHeartbeats 4000000 in
theorem askR_any {w : World} {rg gb wb lb : Nat} {G : List Gr3} {W L : List Int} {R : List Ch} {g : GrF} {wt : WtF} {now c i : Int} {own : Bool} (hS0 : Sep w ([blkC rg 43 [.slice (some ⟨gb, 0, none⟩) 297 297, .slice (some ⟨wb, 0, none⟩) 33 33, .slice (some ⟨lb, 0, none⟩) 33 33], blkC gb 58 (G.flatMap g3C), blkC wb 3 (W.map iV), blkC lb 3 (L.map iV)] ++ R)) (hR : RelL g wt G W L) (hn : (Lit.int .i64 now).wf = true) (hc : (Lit.int .i64 c).wf = true) (hi : (Lit.int .i64 i).wf = true) :
    CallsR Try.prog 20 #[.pointer (some ⟨rg, 0, none⟩), .int .i64 now, .int .i64 c, .int .i64 i, .bool own] w (fun v w' => ∃ la lc G' W' L', v = .tuple #[.slice la (askLst g now c i own).length lc, .int .i64 (askE g wt now c i own)] ∧ Sep w' ((ownC 0 3 1 la (askLst g now c i own).length lc ((askLst g now c i own).map iV) :: [blkC rg 43 [.slice (some ⟨gb, 0, none⟩) 297 297, .slice (some ⟨wb, 0, none⟩) 33 33, .slice (some ⟨lb, 0, none⟩) 33 33], blkC gb 58 (G'.flatMap g3C), blkC wb 3 (W'.map iV), blkC lb 3 (L'.map iV)]) ++ R) ∧ RelL (askG g wt now c i own) (askW g wt now c i own) G' W' L') := by
  have hS : Sep w [blkC rg 43 [.slice (some ⟨gb, 0, none⟩) 297 297, .slice (some ⟨wb, 0, none⟩) 33 33, .slice (some ⟨lb, 0, none⟩) 33 33], blkC gb 58 (G.flatMap g3C), blkC wb 3 (W.map iV), blkC lb 3 (L.map iV), Ch.many R] := Sep.tail_many (xs := [_, _, _, _]) hS0; clear hS0; obtain ⟨hG, hW, hL⟩ := hR.n
  have hnw := i64_bd hn; have hcw := i64_bd hc; have hiw := i64_bd hi
  refine enterR Try.func20 rfl (N := 150) Try.ntmps20 (by show 5 ≤ 150; decide) [(0, .pointer (some ⟨rg, 0, none⟩)), (1, .int .i64 now), (2, .int .i64 c), (3, .int .i64 i), (4, .bool own)] rfl fun a2 h1 => ?_
  refine wp_seq_k fun K3 hK3 => ?_
  refine wp_region_lit ?_
  refine sv h1 (wanted_none rfl) rfl rfl rfl (v := .slice none 0 0) (rassign h1 rfl rfl) fun a5 h4 => ?_
  refine sv h4 (wanted_none rfl) rfl rfl rfl (v := .int .i64 0) (rassign h4 rfl rfl) fun a7 h6 => ?_
  refine wpList_nil ?_
  refine hK3 _ _ ?_
  refine wp_seq_k fun K8 hK8 => ?_
  refine wp_seq_k fun K9 hK9 => ?_
  refine wp_region_lit ?_
  refine sv h6 (wanted_none rfl) rfl rfl rfl (v := .int .i64 now) (rmove h6 rfl rfl) fun a11 h10 => ?_
  refine sv h10 (wanted_none rfl) rfl rfl rfl (v := .bool (decide (now < 0))) (rbin h10 rfl rfl rfl (cLt _ _ _ _ rfl)) fun a13 h12 => ?_
  refine sv h12 (wanted_none rfl) rfl rfl rfl (v := .bool (decide (now < 0))) (rmove h12 rfl rfl) fun a15 h14 => ?_
  refine sg h14 (wF h14 rfl rfl rfl) rfl rfl rfl (v := .int .i64 now) (fun hC16 => by have hq := (of_decide_eq_false (notT hC16)); exact (rmove h14 rfl rfl) _) fun a18 h17 => ?_
  refine sg h17 (wF h17 rfl rfl rfl) rfl rfl rfl (v := .bool (decide (now > 1099511627776))) (fun hC19 => by have hq := (of_decide_eq_false (notT hC19)); exact (rbin h17 rfl (opg rfl hC19) rfl (cGt _ _ _ _ rfl)) _) fun a21 h20 => ?_
  refine sv h20 (wanted_none rfl) rfl rfl rfl (v := .bool ((decide (now < 0)) || (decide (now > 1099511627776)))) (rpickO h20 rfl (E := (decide (now < 0))) (F := (decide (now > 1099511627776))) rfl rfl rfl (fun e => if_pos (by rw [e]; try rfl))) fun a23 h22 => ?_
  refine sv h22 (wanted_none rfl) rfl rfl rfl (v := .bool ((decide (now < 0)) || (decide (now > 1099511627776)))) (rmove h22 rfl rfl) fun a25 h24 => ?_
  refine sg h24 (wF h24 rfl rfl rfl) rfl rfl rfl (v := .int .i64 c) (fun hC26 => by have hq := (And.intro (of_decide_eq_false (orF (notT hC26)).1) (of_decide_eq_false (orF (notT hC26)).2)); exact (rmove h24 rfl rfl) _) fun a28 h27 => ?_
  refine sg h27 (wF h27 rfl rfl rfl) rfl rfl rfl (v := .bool (decide (c < 1))) (fun hC29 => by have hq := (And.intro (of_decide_eq_false (orF (notT hC29)).1) (of_decide_eq_false (orF (notT hC29)).2)); exact (rbin h27 rfl (opg rfl hC29) rfl (cLt _ _ _ _ rfl)) _) fun a31 h30 => ?_
  refine sv h30 (wanted_none rfl) rfl rfl rfl (v := .bool (((decide (now < 0)) || (decide (now > 1099511627776))) || (decide (c < 1)))) (rpickO h30 rfl (E := ((decide (now < 0)) || (decide (now > 1099511627776)))) (F := (decide (c < 1))) rfl rfl rfl (fun e => if_pos (by rw [e]; try rfl))) fun a33 h32 => ?_
  refine sv h32 (wanted_none rfl) rfl rfl rfl (v := .bool (((decide (now < 0)) || (decide (now > 1099511627776))) || (decide (c < 1)))) (rmove h32 rfl rfl) fun a35 h34 => ?_
  refine sg h34 (wF h34 rfl rfl rfl) rfl rfl rfl (v := .int .i64 c) (fun hC36 => by have hq := (And.intro (And.intro (of_decide_eq_false (orF (orF (notT hC36)).1).1) (of_decide_eq_false (orF (orF (notT hC36)).1).2)) (of_decide_eq_false (orF (notT hC36)).2)); exact (rmove h34 rfl rfl) _) fun a38 h37 => ?_
  refine sg h37 (wF h37 rfl rfl rfl) rfl rfl rfl (v := .bool (decide (c > 8))) (fun hC39 => by have hq := (And.intro (And.intro (of_decide_eq_false (orF (orF (notT hC39)).1).1) (of_decide_eq_false (orF (orF (notT hC39)).1).2)) (of_decide_eq_false (orF (notT hC39)).2)); exact (rbin h37 rfl (opg rfl hC39) rfl (cGt _ _ _ _ rfl)) _) fun a41 h40 => ?_
  refine sv h40 (wanted_none rfl) rfl rfl rfl (v := .bool ((((decide (now < 0)) || (decide (now > 1099511627776))) || (decide (c < 1))) || (decide (c > 8)))) (rpickO h40 rfl (E := (((decide (now < 0)) || (decide (now > 1099511627776))) || (decide (c < 1)))) (F := (decide (c > 8))) rfl rfl rfl (fun e => if_pos (by rw [e]; try rfl))) fun a43 h42 => ?_
  refine sv h42 (wanted_none rfl) rfl rfl rfl (v := .bool ((((decide (now < 0)) || (decide (now > 1099511627776))) || (decide (c < 1))) || (decide (c > 8)))) (rmove h42 rfl rfl) fun a45 h44 => ?_
  refine sg h44 (wF h44 rfl rfl rfl) rfl rfl rfl (v := .int .i64 i) (fun hC46 => by have hq := (And.intro (And.intro (And.intro (of_decide_eq_false (orF (orF (orF (notT hC46)).1).1).1) (of_decide_eq_false (orF (orF (orF (notT hC46)).1).1).2)) (of_decide_eq_false (orF (orF (notT hC46)).1).2)) (of_decide_eq_false (orF (notT hC46)).2)); exact (rmove h44 rfl rfl) _) fun a48 h47 => ?_
  refine sg h47 (wF h47 rfl rfl rfl) rfl rfl rfl (v := .bool (decide (i < 1))) (fun hC49 => by have hq := (And.intro (And.intro (And.intro (of_decide_eq_false (orF (orF (orF (notT hC49)).1).1).1) (of_decide_eq_false (orF (orF (orF (notT hC49)).1).1).2)) (of_decide_eq_false (orF (orF (notT hC49)).1).2)) (of_decide_eq_false (orF (notT hC49)).2)); exact (rbin h47 rfl (opg rfl hC49) rfl (cLt _ _ _ _ rfl)) _) fun a51 h50 => ?_
  refine sv h50 (wanted_none rfl) rfl rfl rfl (v := .bool (((((decide (now < 0)) || (decide (now > 1099511627776))) || (decide (c < 1))) || (decide (c > 8))) || (decide (i < 1)))) (rpickO h50 rfl (E := ((((decide (now < 0)) || (decide (now > 1099511627776))) || (decide (c < 1))) || (decide (c > 8)))) (F := (decide (i < 1))) rfl rfl rfl (fun e => if_pos (by rw [e]; try rfl))) fun a53 h52 => ?_
  refine sv h52 (wanted_none rfl) rfl rfl rfl (v := .bool (((((decide (now < 0)) || (decide (now > 1099511627776))) || (decide (c < 1))) || (decide (c > 8))) || (decide (i < 1)))) (rmove h52 rfl rfl) fun a55 h54 => ?_
  refine sg h54 (wF h54 rfl rfl rfl) rfl rfl rfl (v := .int .i64 i) (fun hC56 => by have hq := (And.intro (And.intro (And.intro (And.intro (of_decide_eq_false (orF (orF (orF (orF (notT hC56)).1).1).1).1) (of_decide_eq_false (orF (orF (orF (orF (notT hC56)).1).1).1).2)) (of_decide_eq_false (orF (orF (orF (notT hC56)).1).1).2)) (of_decide_eq_false (orF (orF (notT hC56)).1).2)) (of_decide_eq_false (orF (notT hC56)).2)); exact (rmove h54 rfl rfl) _) fun a58 h57 => ?_
  refine sg h57 (wF h57 rfl rfl rfl) rfl rfl rfl (v := .bool (decide (i > 32))) (fun hC59 => by have hq := (And.intro (And.intro (And.intro (And.intro (of_decide_eq_false (orF (orF (orF (orF (notT hC59)).1).1).1).1) (of_decide_eq_false (orF (orF (orF (orF (notT hC59)).1).1).1).2)) (of_decide_eq_false (orF (orF (orF (notT hC59)).1).1).2)) (of_decide_eq_false (orF (orF (notT hC59)).1).2)) (of_decide_eq_false (orF (notT hC59)).2)); exact (rbin h57 rfl (opg rfl hC59) rfl (cGt _ _ _ _ rfl)) _) fun a61 h60 => ?_
  refine sv h60 (wanted_none rfl) rfl rfl rfl (v := .bool ((((((decide (now < 0)) || (decide (now > 1099511627776))) || (decide (c < 1))) || (decide (c > 8))) || (decide (i < 1))) || (decide (i > 32)))) (rpickO h60 rfl (E := (((((decide (now < 0)) || (decide (now > 1099511627776))) || (decide (c < 1))) || (decide (c > 8))) || (decide (i < 1)))) (F := (decide (i > 32))) rfl rfl rfl (fun e => if_pos (by rw [e]; try rfl))) fun a63 h62 => ?_
  have h64 := h62.subs (l' := [(37, _), (11, _), (10, _), (0, _), (1, _), (2, _), (3, _), (4, _)]) rfl
  clear h62 h1 h4 h6 h10 h12 h14 h17 h20 h22 h24 h27 h30 h32 h34 h37 h40 h42 h44 h47 h50 h52 h54 h57 h60 a2 a5 a7 a11 a13 a15 a18 a21 a23 a25 a28 a31 a33 a35 a38 a41 a43 a45 a48 a51 a53 a55 a58 a61
  refine wpList_nil ?_
  refine hK9 _ _ ?_
  rcases Bool.eq_false_or_eq_true ((((((decide (now < 0)) || (decide (now > 1099511627776))) || (decide (c < 1))) || (decide (c > 8))) || (decide (i < 1))) || (decide (i > 32))) with hc65 | hc65
  · skip
    have hp66 : (((((now < 0) ∨ (now > 1099511627776)) ∨ (c < 1)) ∨ (c > 8)) ∨ (i < 1)) ∨ (i > 32) := ((orT hc65).imp (fun q => ((orT q).imp (fun q => ((orT q).imp (fun q => ((orT q).imp (fun q => ((orT q).imp (fun q => (of_decide_eq_true q)) (fun q => (of_decide_eq_true q)))) (fun q => (of_decide_eq_true q)))) (fun q => (of_decide_eq_true q)))) (fun q => (of_decide_eq_true q)))) (fun q => (of_decide_eq_true q)))
    refine wp_condS h64 rfl hc65 ?_
    simp only [if_true]
    have h67 := h64.subs (l' := [(11, _), (10, _), (0, _), (1, _), (2, _), (3, _), (4, _)]) rfl
    clear h64
    refine wp_seq_k fun K68 hK68 => ?_
    refine wp_region_lit ?_
    have h69 := h67.subs (l' := [(11, _), (0, _), (1, _), (2, _), (3, _), (4, _)]) rfl
    clear h67
    refine sv h69 (wanted_none rfl) rfl rfl rfl (v := .slice none 0 0) (rassign h69 rfl rfl) fun a71 h70 => ?_
    have h72 := h70.subs (l' := [(10, _), (0, _), (1, _), (2, _), (3, _), (4, _)]) rfl
    clear h70 h69 a63
    refine sv h72 (wanted_none rfl) rfl rfl rfl (v := .int .i64 1) (rassign h72 rfl rfl) fun a74 h73 => ?_
    refine wpList_nil ?_
    refine hK68 _ _ ?_
    refine wp_ret ?_
    try simp only [Exit.then, Exit.inBlock]
    refine retR (v := .tuple #[.slice none 0 0, .int .i64 1]) (res2 h73 rfl rfl rfl) h73.defs ?_
    have s75 := hS.ownNil 0 3 1
    obtain ⟨e1, e2, e3, e4⟩ := askQ_bad (g := g) (wt := wt) (own := own) (show ¬ askOk now c i by unfold askOk; omega)
    have s76 : Sep _ [ownC 0 3 1 none 0 0 [], blkC rg 43 [.slice (some ⟨gb, 0, none⟩) 297 297, .slice (some ⟨wb, 0, none⟩) 33 33, .slice (some ⟨lb, 0, none⟩) 33 33], blkC gb 58 (G.flatMap g3C), blkC wb 3 (W.map iV), blkC lb 3 (L.map iV), Ch.many R] := s75
    refine ⟨none, 0, G, W, L, by rw [e1, e2]; rfl, by rw [e1]; exact Sep.tail_un (xs := [_, _, _, _, _]) s76, by rw [e3, e4]; exact hR⟩
  · skip
    have hp77 : (((((¬ (now < 0)) ∧ (¬ (now > 1099511627776))) ∧ (¬ (c < 1))) ∧ (¬ (c > 8))) ∧ (¬ (i < 1))) ∧ (¬ (i > 32)) := (And.intro (And.intro (And.intro (And.intro (And.intro (of_decide_eq_false (orF (orF (orF (orF (orF hc65).1).1).1).1).1) (of_decide_eq_false (orF (orF (orF (orF (orF hc65).1).1).1).1).2)) (of_decide_eq_false (orF (orF (orF (orF hc65).1).1).1).2)) (of_decide_eq_false (orF (orF (orF hc65).1).1).2)) (of_decide_eq_false (orF (orF hc65).1).2)) (of_decide_eq_false (orF hc65).2))
    refine wp_condS h64 rfl hc65 ?_
    simp only [Bool.false_eq_true, if_false]
    have h78 := h64.subs (l' := [(11, _), (10, _), (0, _), (1, _), (2, _), (3, _), (4, _)]) rfl
    clear h64
    refine wp_skip ?_
    refine hK8 _ _ ?_
    refine wp_seq_k fun K79 hK79 => ?_
    refine wp_region_lit ?_
    refine sv h78 (wanted_none rfl) rfl rfl rfl (v := .slice none 0 0) (rassign h78 rfl rfl) fun a81 h80 => ?_
    refine wpList_nil ?_
    refine hK79 _ _ ?_
    refine wp_seq_k fun K82 hK82 => ?_
    refine wp_seq_k fun K83 hK83 => ?_
    refine wp_region_lit ?_
    refine sv h80 (wanted_none rfl) rfl rfl rfl (v := .int .i64 1) (rassign h80 rfl rfl) fun a85 h84 => ?_
    refine wpList_nil ?_
    refine hK83 _ _ ?_
    refine wp_block ?_
    have s86 := hS.ownNil 0 3 1
    refine wp_loop3 (fun (n : Nat) (a : Option Addr) (cc : Nat) a' w' => Kn 150 [(13, .int .i64 ((n + 1 : Nat) : Int)), (12, .slice a ((agN g c i own n).length) cc), (11, .int .i64 0), (10, .slice none 0 0), (0, .pointer (some ⟨rg, 0, none⟩)), (1, .int .i64 now), (2, .int .i64 c), (3, .int .i64 i), (4, .bool own)] a' ∧ Sep w' [ownC 0 3 1 a (agN g c i own n).length cc ((agN g c i own n).map iV), blkC rg 43 [.slice (some ⟨gb, 0, none⟩) 297 297, .slice (some ⟨wb, 0, none⟩) 33 33, .slice (some ⟨lb, 0, none⟩) 33 33], blkC gb 58 (G.flatMap g3C), blkC wb 3 (W.map iV), blkC lb 3 (L.map iV), Ch.many R] ∧ (n ≤ 8)) (fun (n : Nat) (a : Option Addr) (cc : Nat) => 8 - n) 0 none 0 ⟨h84.subs rfl, s86, by omega⟩ ?_
    clear h84 s86
    rintro n93 a94 cc95 a87 w88 ⟨h89, s90, hn92⟩ K91 hK91
    refine wp_seq_k fun K96 hK96 => ?_
    refine wp_seq_k fun K97 hK97 => ?_
    refine wp_region_lit ?_
    refine sv h89 (wanted_none rfl) rfl rfl rfl (v := .int .i64 ((n93 + 1 : Nat) : Int)) (rmove h89 rfl rfl) fun a99 h98 => ?_
    refine sv h98 (wanted_none rfl) rfl rfl rfl (v := .bool (decide (((n93 + 1 : Nat) : Int) ≤ 8))) (rbin h98 rfl rfl rfl (cLe _ _ _ _ rfl)) fun a101 h100 => ?_
    have h102 := h100.subs (l' := [(39, _), (13, _), (12, _), (11, _), (10, _), (0, _), (1, _), (2, _), (3, _), (4, _)]) rfl
    clear h100 h89 h98 a87 a99
    refine wpList_nil ?_
    refine hK97 _ _ ?_
    rcases Bool.eq_false_or_eq_true (decide (((n93 + 1 : Nat) : Int) ≤ 8)) with hc103 | hc103
    · skip
      have hp104 : ((n93 + 1 : Nat) : Int) ≤ 8 := (of_decide_eq_true hc103)
      refine wp_condS h102 rfl hc103 ?_
      simp only [if_true]
      have h105 := h102.subs (l' := [(13, _), (12, _), (11, _), (10, _), (0, _), (1, _), (2, _), (3, _), (4, _)]) rfl
      clear h102
      refine wp_skip ?_
      refine hK96 _ _ ?_
      refine wp_seq_k fun K106 hK106 => ?_
      refine wp_block ?_
      refine wp_seq_k fun K107 hK107 => ?_
      refine wp_region_lit ?_
      refine sv h105 (wanted_none rfl) rfl rfl rfl (v := .pointer (some ⟨rg, 0, none⟩)) (rmove h105 rfl rfl) fun a109 h108 => ?_
      refine sv h108 (wanted_none rfl) rfl rfl rfl (v := .pointer (some ⟨rg, 0, none⟩)) (rnil h108 rfl rfl) fun a111 h110 => ?_
      refine sv h110 (wanted_none rfl) rfl rfl rfl (v := .pointer (some ⟨rg, 0, none⟩)) (rfa h110 rfl rfl (fun w => fa_commonsref19_Table_la_0 rg 0 w)) fun a113 h112 => ?_
      refine sw h112 (wanted_none rfl) rfl rfl rfl (v := .slice (some ⟨gb, 0, none⟩) 297 297) (rld h112 rfl rfl (ldB Try.underlying41 rfl (s90.get 1 rfl : Blk _ _ _ _) rfl)) fun a115 h114 => ?_
      refine sv h114 (wanted_none rfl) rfl rfl rfl (v := .int .i64 i) (rmove h114 rfl rfl) fun a117 h116 => ?_
      refine sv h116 (wanted_none rfl) rfl rfl rfl (v := .int .i64 (9 * i)) (rbin h116 rfl rfl rfl (bMul _ _ _ (by omega) (by omega) (by omega))) fun a119 h118 => ?_
      refine sv h118 (wanted_none rfl) rfl rfl rfl (v := .int .i64 ((n93 + 1 : Nat) : Int)) (rmove h118 rfl rfl) fun a121 h120 => ?_
      refine sv h120 (wanted_none rfl) rfl rfl rfl (v := .int .i64 (9 * i + ((n93 + 1 : Nat) : Int))) (rbin h120 rfl rfl rfl (bAdd _ _ _ (by omega) (by omega) (by omega))) fun a123 h122 => ?_
      refine sv h122 (wanted_none rfl) rfl rfl rfl (v := .pointer (some ⟨gb, ((9 * i + ((n93 + 1 : Nat) : Int)).toNat) * 3, none⟩)) (rindexA h122 rfl rfl rfl (fun w => ixS Try.underlying41 (by kernel_rfl) (sz := 3) (j := (9 * i + ((n93 + 1 : Nat) : Int)).toNat) (by omega) (by omega) rfl w)) fun a125 h124 => ?_
      refine sw h124 (wanted_none rfl) rfl rfl rfl (v := .agg #[.bool ((G.getD ((9 * i + ((n93 + 1 : Nat) : Int)).toNat) (false, false, 0)).1), .bool ((G.getD ((9 * i + ((n93 + 1 : Nat) : Int)).toNat) (false, false, 0)).2.1), .int .i64 ((G.getD ((9 * i + ((n93 + 1 : Nat) : Int)).toNat) (false, false, 0)).2.2)]) (rld h124 rfl rfl (ldA Try.underlying58 rfl (n := 3) (by kernel_rfl) (s90.get 2 rfl : Blk _ _ _ _) (ls_all g3C_len (false, false, 0) (by omega) rfl) rfl)) fun a127 h126 => ?_
      refine so (wanted_none rfl) fun K135 hK135 => xalloc h126 rfl rfl rfl rfl (z := [.bool false, .bool false, .int .i64 0]) (fun _ => rfl) s90 fun a130 g128 w131 h129 s132 b133 e134 => hK135 _ _ ?_
      clear hK135 K135
      clear b133 e134
      refine so (wanted_none rfl) fun K141 hK141 => xstore h129 rfl rfl s132 0 rfl rfl rfl [.bool ((G.getD ((9 * i + ((n93 + 1 : Nat) : Int)).toNat) (false, false, 0)).1), .bool ((G.getD ((9 * i + ((n93 + 1 : Nat) : Int)).toNat) (false, false, 0)).2.1), .int .i64 ((G.getD ((9 * i + ((n93 + 1 : Nat) : Int)).toNat) (false, false, 0)).2.2)] rfl (by kernel_rfl) rfl (by show 0 + 3 ≤ 3; decide) (L' := [.bool ((G.getD ((9 * i + ((n93 + 1 : Nat) : Int)).toNat) (false, false, 0)).1), .bool ((G.getD ((9 * i + ((n93 + 1 : Nat) : Int)).toNat) (false, false, 0)).2.1), .int .i64 ((G.getD ((9 * i + ((n93 + 1 : Nat) : Int)).toNat) (false, false, 0)).2.2)]) rfl (cs' := [blkC g128 58 [.bool ((G.getD ((9 * i + ((n93 + 1 : Nat) : Int)).toNat) (false, false, 0)).1), .bool ((G.getD ((9 * i + ((n93 + 1 : Nat) : Int)).toNat) (false, false, 0)).2.1), .int .i64 ((G.getD ((9 * i + ((n93 + 1 : Nat) : Int)).toNat) (false, false, 0)).2.2)], ownC 0 3 1 a94 (agN g c i own n93).length cc95 ((agN g c i own n93).map iV), blkC rg 43 [.slice (some ⟨gb, 0, none⟩) 297 297, .slice (some ⟨wb, 0, none⟩) 33 33, .slice (some ⟨lb, 0, none⟩) 33 33], blkC gb 58 (G.flatMap g3C), blkC wb 3 (W.map iV), blkC lb 3 (L.map iV), Ch.many R]) rfl fun a137 w138 h136 s139 t140 => hK141 _ _ ?_
      clear hK141 K141
      clear t140
      have h142 := h136.subs (l' := [(14, _), (13, _), (12, _), (11, _), (10, _), (0, _), (1, _), (2, _), (3, _), (4, _)]) rfl
      clear h136 h105 h108 h110 h112 h114 h116 h118 h120 h122 h124 h126 h129 a101 a109 a111 a113 a115 a117 a119 a121 a123 a125 a127 a130
      refine wpList_nil ?_
      refine hK107 _ _ ?_
      refine wp_seq_k fun K143 hK143 => ?_
      refine wp_region_lit ?_
      refine sv h142 (wanted_none rfl) rfl rfl rfl (v := .int .i64 ((n93 + 1 : Nat) : Int)) (rmove h142 rfl rfl) fun a145 h144 => ?_
      refine sv h144 (wanted_none rfl) rfl rfl rfl (v := .int .i64 c) (rmove h144 rfl rfl) fun a147 h146 => ?_
      refine sv h146 (wanted_none rfl) rfl rfl rfl (v := .bool (decide (((n93 + 1 : Nat) : Int) ≠ c))) (rbin h146 rfl rfl rfl (cNe _ _ _ _ rfl)) fun a149 h148 => ?_
      refine sv h148 (wanted_none rfl) rfl rfl rfl (v := .bool (decide (((n93 + 1 : Nat) : Int) ≠ c))) (rmove h148 rfl rfl) fun a151 h150 => ?_
      refine sg h150 (wT h150 rfl rfl rfl) rfl rfl rfl (v := .pointer (some ⟨g128, 0, none⟩)) (fun hC152 => by have hq := (of_decide_eq_true hC152); exact (rfa h150 rfl rfl (fun w => fa_commonsref19_Grant_la_0 g128 0 w)) _) fun a154 h153 => ?_
      refine sg h153 (wT h153 rfl rfl rfl) rfl rfl rfl (v := .bool ((G.getD ((9 * i + ((n93 + 1 : Nat) : Int)).toNat) (false, false, 0)).1)) (fun hC155 => by have hq := (of_decide_eq_true hC155); exact (rld h153 rfl (opg rfl hC155) (ldB Try.underlying4 rfl (s139.get 0 rfl : Blk _ _ _ _) rfl))) fun a157 h156 => ?_
      refine sv h156 (wanted_none rfl) rfl rfl rfl (v := .bool ((decide (((n93 + 1 : Nat) : Int) ≠ c)) && ((G.getD ((9 * i + ((n93 + 1 : Nat) : Int)).toNat) (false, false, 0)).1))) (rpickA h156 rfl (E := (decide (((n93 + 1 : Nat) : Int) ≠ c))) (F := ((G.getD ((9 * i + ((n93 + 1 : Nat) : Int)).toNat) (false, false, 0)).1)) rfl rfl rfl (fun e => if_pos (by rw [e]; try rfl))) fun a159 h158 => ?_
      refine sv h158 (wanted_none rfl) rfl rfl rfl (v := .bool ((decide (((n93 + 1 : Nat) : Int) ≠ c)) && ((G.getD ((9 * i + ((n93 + 1 : Nat) : Int)).toNat) (false, false, 0)).1))) (rmove h158 rfl rfl) fun a161 h160 => ?_
      refine sg h160 (wT h160 rfl rfl rfl) rfl rfl rfl (v := .bool own) (fun hC162 => by have hq := (And.intro (of_decide_eq_true (andT hC162).1) (andT hC162).2); exact (rmove h160 rfl rfl) _) fun a164 h163 => ?_
      refine sg h163 (wT h163 rfl rfl rfl) rfl rfl rfl (v := .bool own) (fun hC165 => by have hq := (And.intro (of_decide_eq_true (andT hC165).1) (andT hC165).2); exact (rmove h163 rfl (opg rfl hC165)) _) fun a167 h166 => ?_
      refine sg h166 (wnF h166 rfl rfl rfl) rfl rfl rfl (v := .pointer (some ⟨g128, 1, none⟩)) (fun hC168 => by have hq := (And.intro (And.intro (of_decide_eq_true (andT (andT hC168).1).1) (andT (andT hC168).1).2) (notT (andT hC168).2)); exact (rfa h166 rfl rfl (fun w => fa_commonsref19_Grant_la_1 g128 0 w)) _) fun a170 h169 => ?_
      refine sg h169 (wnF h169 rfl rfl rfl) rfl rfl rfl (v := .bool ((G.getD ((9 * i + ((n93 + 1 : Nat) : Int)).toNat) (false, false, 0)).2.1)) (fun hC171 => by have hq := (And.intro (And.intro (of_decide_eq_true (andT (andT hC171).1).1) (andT (andT hC171).1).2) (notT (andT hC171).2)); exact (rld h169 rfl (opg rfl hC171) (ldB Try.underlying4 rfl (s139.get 0 rfl : Blk _ _ _ _) rfl))) fun a173 h172 => ?_
      refine sg h172 (wT h172 rfl rfl rfl) rfl rfl rfl (v := .bool (own || ((G.getD ((9 * i + ((n93 + 1 : Nat) : Int)).toNat) (false, false, 0)).2.1))) (fun hC174 => by have hq := (And.intro (of_decide_eq_true (andT hC174).1) (andT hC174).2); exact (rpickO h172 rfl (E := own) (F := ((G.getD ((9 * i + ((n93 + 1 : Nat) : Int)).toNat) (false, false, 0)).2.1)) (opg rfl hC174) rfl rfl (fun e => if_pos (by rw [hC174, e]; try rfl))) _) fun a176 h175 => ?_
      refine sv h175 (wanted_none rfl) rfl rfl rfl (v := .bool (((decide (((n93 + 1 : Nat) : Int) ≠ c)) && ((G.getD ((9 * i + ((n93 + 1 : Nat) : Int)).toNat) (false, false, 0)).1)) && (own || ((G.getD ((9 * i + ((n93 + 1 : Nat) : Int)).toNat) (false, false, 0)).2.1)))) (rpickA h175 rfl (E := ((decide (((n93 + 1 : Nat) : Int) ≠ c)) && ((G.getD ((9 * i + ((n93 + 1 : Nat) : Int)).toNat) (false, false, 0)).1))) (F := (own || ((G.getD ((9 * i + ((n93 + 1 : Nat) : Int)).toNat) (false, false, 0)).2.1))) rfl rfl rfl (fun e => if_pos (by rw [e]; try rfl))) fun a178 h177 => ?_
      have h179 := h177.subs (l' := [(65, _), (14, _), (13, _), (12, _), (11, _), (10, _), (0, _), (1, _), (2, _), (3, _), (4, _)]) rfl
      clear h177 h142 h144 h146 h148 h150 h153 h156 h158 h160 h163 h166 h169 h172 h175 a137 a145 a147 a149 a151 a154 a157 a159 a161 a164 a167 a170 a173 a176
      refine wpList_nil ?_
      refine hK143 _ _ ?_
      rcases Bool.eq_false_or_eq_true (((decide (((n93 + 1 : Nat) : Int) ≠ c)) && ((G.getD ((9 * i + ((n93 + 1 : Nat) : Int)).toNat) (false, false, 0)).1)) && (own || ((G.getD ((9 * i + ((n93 + 1 : Nat) : Int)).toNat) (false, false, 0)).2.1))) with hc180 | hc180
      · skip
        have hp181 : ((((n93 + 1 : Nat) : Int) ≠ c) ∧ (((G.getD ((9 * i + ((n93 + 1 : Nat) : Int)).toNat) (false, false, 0)).1) = true)) ∧ ((own = true) ∨ (((G.getD ((9 * i + ((n93 + 1 : Nat) : Int)).toNat) (false, false, 0)).2.1) = true)) := (And.intro (And.intro (of_decide_eq_true (andT (andT hc180).1).1) (andT (andT hc180).1).2) ((orT (andT hc180).2).imp (fun q => q) (fun q => q)))
        refine wp_condS h179 rfl hc180 ?_
        simp only [if_true]
        have h182 := h179.subs (l' := [(14, _), (13, _), (12, _), (11, _), (10, _), (0, _), (1, _), (2, _), (3, _), (4, _)]) rfl
        clear h179
        refine wp_region_lit ?_
        refine sv h182 (wanted_none rfl) rfl rfl rfl (v := .slice a94 ((agN g c i own n93).length) cc95) (rmove h182 rfl rfl) fun a184 h183 => ?_
        refine sv h183 (wanted_none rfl) rfl rfl rfl (v := .int .i64 ((n93 + 1 : Nat) : Int)) (rmove h183 rfl rfl) fun a186 h185 => ?_
        refine so (wanted_none rfl) fun K194 hK194 => xbuildS h185 rfl rfl rfl (E := 3) (xs := [(0, .tmp 67)]) rfl (vs := [(0, .int .i64 ((n93 + 1 : Nat) : Int))]) rfl (z := [.int .i64 ((n93 + 1 : Nat) : Int)]) (fun _ => by kernel_rfl) s139 fun a189 g187 w190 h188 s191 b192 e193 => hK194 _ _ ?_
        clear hK194 K194
        clear b192 e193
        refine so (wanted_none rfl) fun K201 hK201 => xappI h188 rfl rfl rfl rfl EIL s191 2 rfl rfl 0 (y := ((n93 + 1 : Nat) : Int)) rfl rfl (by have := agN_len g c i own n93; omega) (L' := agN g c i own (n93 + 1)) (agN_yes ((conf_ref hR (by omega) (by omega) (by omega)).trans hc180) (by omega)).symm fun a198 p195 c196 w199 h197 s200 => hK201 _ _ ?_
        clear hK201 K201
        have s202 : Sep w199 [blkC g128 58 [.bool ((G.getD ((9 * i + ((n93 + 1 : Nat) : Int)).toNat) (false, false, 0)).1), .bool ((G.getD ((9 * i + ((n93 + 1 : Nat) : Int)).toNat) (false, false, 0)).2.1), .int .i64 ((G.getD ((9 * i + ((n93 + 1 : Nat) : Int)).toNat) (false, false, 0)).2.2)], ownC 0 3 1 p195 (agN g c i own (n93 + 1)).length c196 ((agN g c i own (n93 + 1)).map iV), blkC rg 43 [.slice (some ⟨gb, 0, none⟩) 297 297, .slice (some ⟨wb, 0, none⟩) 33 33, .slice (some ⟨lb, 0, none⟩) 33 33], blkC gb 58 (G.flatMap g3C), blkC wb 3 (W.map iV), blkC lb 3 (L.map iV), Ch.many R] := s200.pick [1, 2, 3, 4, 5, 6, 7] (by decide) rfl; clear s200
        have h203 := h197.subs (l' := [(69, _), (68, _), (67, _), (66, _), (14, _), (13, _), (11, _), (10, _), (0, _), (1, _), (2, _), (3, _), (4, _)]) rfl
        clear h197 h182 h183 h185 h188 a178 a184 a186 a189
        refine sv h203 (wanted_none rfl) rfl rfl rfl (v := .slice p195 ((agN g c i own (n93 + 1)).length) c196) (rassign h203 rfl rfl) fun a205 h204 => ?_
        have h206 := h204.subs (l' := [(12, _), (14, _), (13, _), (11, _), (10, _), (0, _), (1, _), (2, _), (3, _), (4, _)]) rfl
        clear h204 h203 a198
        refine wpList_nil ?_
        refine hK106 _ _ ?_
        refine wp_region_lit ?_
        refine sv h206 (wanted_none rfl) rfl rfl rfl (v := .int .i64 ((n93 + 1 : Nat) : Int)) (rmove h206 rfl rfl) fun a208 h207 => ?_
        refine sv h207 (wanted_none rfl) rfl rfl rfl (v := .int .i64 ((n93 + 2 : Nat) : Int)) (rbin h207 rfl rfl rfl (bAdd _ _ _ (by omega) (by omega) (by omega))) fun a210 h209 => ?_
        have h211 := h209.subs (l' := [(41, _), (40, _), (12, _), (14, _), (11, _), (10, _), (0, _), (1, _), (2, _), (3, _), (4, _)]) rfl
        clear h209 h206 h207 a205 a208
        refine sv h211 (wanted_none rfl) rfl rfl rfl (v := .int .i64 ((n93 + 2 : Nat) : Int)) (rassign h211 rfl rfl) fun a213 h212 => ?_
        have h214 := h212.subs (l' := [(13, _), (12, _), (14, _), (11, _), (10, _), (0, _), (1, _), (2, _), (3, _), (4, _)]) rfl
        clear h212 h211 a210
        refine wpList_nil ?_
        exact hK91 (n93 + 1) p195 c196 _ _ ⟨h214.subs rfl, (s202.pick [1, 2, 3, 4, 5, 6] (by decide) rfl), by omega⟩ (by omega)
      · skip
        have hp215 : ((¬ (((n93 + 1 : Nat) : Int) ≠ c)) ∨ (((G.getD ((9 * i + ((n93 + 1 : Nat) : Int)).toNat) (false, false, 0)).1) = false)) ∨ ((own = false) ∧ (((G.getD ((9 * i + ((n93 + 1 : Nat) : Int)).toNat) (false, false, 0)).2.1) = false)) := ((andF hc180).imp (fun q => ((andF q).imp (fun q => (of_decide_eq_false q)) (fun q => q))) (fun q => (And.intro (orF q).1 (orF q).2)))
        refine wp_condS h179 rfl hc180 ?_
        simp only [Bool.false_eq_true, if_false]
        have h216 := h179.subs (l' := [(14, _), (13, _), (12, _), (11, _), (10, _), (0, _), (1, _), (2, _), (3, _), (4, _)]) rfl
        clear h179
        refine wp_skip ?_
        refine hK106 _ _ ?_
        refine wp_region_lit ?_
        refine sv h216 (wanted_none rfl) rfl rfl rfl (v := .int .i64 ((n93 + 1 : Nat) : Int)) (rmove h216 rfl rfl) fun a218 h217 => ?_
        refine sv h217 (wanted_none rfl) rfl rfl rfl (v := .int .i64 ((n93 + 2 : Nat) : Int)) (rbin h217 rfl rfl rfl (bAdd _ _ _ (by omega) (by omega) (by omega))) fun a220 h219 => ?_
        have h221 := h219.subs (l' := [(41, _), (40, _), (14, _), (12, _), (11, _), (10, _), (0, _), (1, _), (2, _), (3, _), (4, _)]) rfl
        clear h219 h216 h217 a178 a218
        refine sv h221 (wanted_none rfl) rfl rfl rfl (v := .int .i64 ((n93 + 2 : Nat) : Int)) (rassign h221 rfl rfl) fun a223 h222 => ?_
        have h224 := h222.subs (l' := [(13, _), (14, _), (12, _), (11, _), (10, _), (0, _), (1, _), (2, _), (3, _), (4, _)]) rfl
        clear h222 h221 a220
        refine wpList_nil ?_
        have e225 : agN g c i own (n93 + 1) = agN g c i own n93 := agN_no ((conf_ref hR (by omega) (by omega) (by omega)).trans hc180)
        rw [← e225] at h224 s139
        exact hK91 (n93 + 1) a94 cc95 _ _ ⟨h224.subs rfl, (s139.pick [1, 2, 3, 4, 5, 6] (by decide) rfl), by omega⟩ (by omega)
    · skip
      have hp226 : ¬ (((n93 + 1 : Nat) : Int) ≤ 8) := (of_decide_eq_false hc103)
      refine wp_condS h102 rfl hc103 ?_
      simp only [Bool.false_eq_true, if_false]
      have h227 := h102.subs (l' := [(13, _), (12, _), (11, _), (10, _), (0, _), (1, _), (2, _), (3, _), (4, _)]) rfl
      clear h102
      refine wp_exit ?_
      refine hK82 _ _ ?_
      refine wp_seq_k fun K228 hK228 => ?_
      refine wp_region_lit ?_
      refine sv h227 (wanted_none rfl) rfl rfl rfl (v := .pointer (some ⟨rg, 0, none⟩)) (rmove h227 rfl rfl) fun a230 h229 => ?_
      refine sv h229 (wanted_none rfl) rfl rfl rfl (v := .pointer (some ⟨rg, 0, none⟩)) (rnil h229 rfl rfl) fun a232 h231 => ?_
      refine sv h231 (wanted_none rfl) rfl rfl rfl (v := .pointer (some ⟨rg, 1, none⟩)) (rfa h231 rfl rfl (fun w => fa_commonsref19_Table_la_1 rg 0 w)) fun a234 h233 => ?_
      refine sw h233 (wanted_none rfl) rfl rfl rfl (v := .slice (some ⟨wb, 0, none⟩) 33 33) (rld h233 rfl rfl (ldB Try.underlying38 rfl (s90.get 1 rfl : Blk _ _ _ _) rfl)) fun a236 h235 => ?_
      refine sv h235 (wanted_none rfl) rfl rfl rfl (v := .int .i64 i) (rmove h235 rfl rfl) fun a238 h237 => ?_
      refine sv h237 (wanted_none rfl) rfl rfl rfl (v := .pointer (some ⟨wb, (i).toNat, none⟩)) (rindexA h237 rfl rfl rfl (fun w => ixS Try.underlying38 (by kernel_rfl) (sz := 1) (j := (i).toNat) (by omega) (by omega) (Nat.mul_one _) w)) fun a240 h239 => ?_
      refine sw h239 (wanted_none rfl) rfl rfl rfl (v := .int .i64 (W.getD ((i).toNat) 0)) (rld h239 rfl rfl (ldB Try.underlying3 rfl (s90.get 3 rfl : Blk _ _ _ _) (li_get (by omega)))) fun a242 h241 => ?_
      refine sv h241 (wanted_none rfl) rfl rfl rfl (v := .bool (decide (W.getD ((i).toNat) 0 ≠ 0))) (rbin h241 rfl rfl rfl (cNe _ _ _ _ rfl)) fun a244 h243 => ?_
      refine sv h243 (wanted_none rfl) rfl rfl rfl (v := .bool (decide (W.getD ((i).toNat) 0 ≠ 0))) (rmove h243 rfl rfl) fun a246 h245 => ?_
      refine sg h245 (wT h245 rfl rfl rfl) rfl rfl rfl (v := .pointer (some ⟨rg, 0, none⟩)) (fun hC247 => by have hq := (of_decide_eq_true hC247); exact (rmove h245 rfl rfl) _) fun a249 h248 => ?_
      refine sg h248 (wT h248 rfl rfl rfl) rfl rfl rfl (v := .pointer (some ⟨rg, 0, none⟩)) (fun hC250 => by have hq := (of_decide_eq_true hC250); exact (rnil h248 rfl (opg rfl hC250)) _) fun a252 h251 => ?_
      refine sg h251 (wT h251 rfl rfl rfl) rfl rfl rfl (v := .pointer (some ⟨rg, 1, none⟩)) (fun hC253 => by have hq := (of_decide_eq_true hC253); exact (rfa h251 rfl (opg rfl hC253) (fun w => fa_commonsref19_Table_la_1 rg 0 w)) _) fun a255 h254 => ?_
      refine sg h254 (wT h254 rfl rfl rfl) rfl rfl rfl (v := .slice (some ⟨wb, 0, none⟩) 33 33) (fun hC256 => by have hq := (of_decide_eq_true hC256); exact (rld h254 rfl (opg rfl hC256) (ldB Try.underlying38 rfl (s90.get 1 rfl : Blk _ _ _ _) rfl))) fun a258 h257 => ?_
      refine sg h257 (wT h257 rfl rfl rfl) rfl rfl rfl (v := .int .i64 i) (fun hC259 => by have hq := (of_decide_eq_true hC259); exact (rmove h257 rfl rfl) _) fun a261 h260 => ?_
      refine sg h260 (wT h260 rfl rfl rfl) rfl rfl rfl (v := .pointer (some ⟨wb, (i).toNat, none⟩)) (fun hC262 => by have hq := (of_decide_eq_true hC262); exact (rindexA h260 rfl (opg rfl hC262) (opg rfl hC262) (fun w => ixS Try.underlying38 (by kernel_rfl) (sz := 1) (j := (i).toNat) (by omega) (by omega) (Nat.mul_one _) w)) _) fun a264 h263 => ?_
      refine sg h263 (wT h263 rfl rfl rfl) rfl rfl rfl (v := .int .i64 (W.getD ((i).toNat) 0)) (fun hC265 => by have hq := (of_decide_eq_true hC265); exact (rld h263 rfl (opg rfl hC265) (ldB Try.underlying3 rfl (s90.get 3 rfl : Blk _ _ _ _) (li_get (by omega))))) fun a267 h266 => ?_
      refine sg h266 (wT h266 rfl rfl rfl) rfl rfl rfl (v := .int .i64 c) (fun hC268 => by have hq := (of_decide_eq_true hC268); exact (rmove h266 rfl rfl) _) fun a270 h269 => ?_
      refine sg h269 (wT h269 rfl rfl rfl) rfl rfl rfl (v := .bool (decide (W.getD ((i).toNat) 0 ≠ c))) (fun hC271 => by have hq := (of_decide_eq_true hC271); exact (rbin h269 rfl (opg rfl hC271) (opg rfl hC271) (cNe _ _ _ _ rfl)) _) fun a273 h272 => ?_
      refine sv h272 (wanted_none rfl) rfl rfl rfl (v := .bool ((decide (W.getD ((i).toNat) 0 ≠ 0)) && (decide (W.getD ((i).toNat) 0 ≠ c)))) (rpickA h272 rfl (E := (decide (W.getD ((i).toNat) 0 ≠ 0))) (F := (decide (W.getD ((i).toNat) 0 ≠ c))) rfl rfl rfl (fun e => if_pos (by rw [e]; try rfl))) fun a275 h274 => ?_
      refine sv h274 (wanted_none rfl) rfl rfl rfl (v := .bool ((decide (W.getD ((i).toNat) 0 ≠ 0)) && (decide (W.getD ((i).toNat) 0 ≠ c)))) (rmove h274 rfl rfl) fun a277 h276 => ?_
      refine sg h276 (wT h276 rfl rfl rfl) rfl rfl rfl (v := .pointer (some ⟨rg, 0, none⟩)) (fun hC278 => by have hq := (And.intro (of_decide_eq_true (andT hC278).1) (of_decide_eq_true (andT hC278).2)); exact (rmove h276 rfl rfl) _) fun a280 h279 => ?_
      refine sg h279 (wT h279 rfl rfl rfl) rfl rfl rfl (v := .pointer (some ⟨rg, 0, none⟩)) (fun hC281 => by have hq := (And.intro (of_decide_eq_true (andT hC281).1) (of_decide_eq_true (andT hC281).2)); exact (rnil h279 rfl (opg rfl hC281)) _) fun a283 h282 => ?_
      refine sg h282 (wT h282 rfl rfl rfl) rfl rfl rfl (v := .pointer (some ⟨rg, 2, none⟩)) (fun hC284 => by have hq := (And.intro (of_decide_eq_true (andT hC284).1) (of_decide_eq_true (andT hC284).2)); exact (rfa h282 rfl (opg rfl hC284) (fun w => fa_commonsref19_Table_la_2 rg 0 w)) _) fun a286 h285 => ?_
      refine sg h285 (wT h285 rfl rfl rfl) rfl rfl rfl (v := .slice (some ⟨lb, 0, none⟩) 33 33) (fun hC287 => by have hq := (And.intro (of_decide_eq_true (andT hC287).1) (of_decide_eq_true (andT hC287).2)); exact (rld h285 rfl (opg rfl hC287) (ldB Try.underlying38 rfl (s90.get 1 rfl : Blk _ _ _ _) rfl))) fun a289 h288 => ?_
      refine sg h288 (wT h288 rfl rfl rfl) rfl rfl rfl (v := .int .i64 i) (fun hC290 => by have hq := (And.intro (of_decide_eq_true (andT hC290).1) (of_decide_eq_true (andT hC290).2)); exact (rmove h288 rfl rfl) _) fun a292 h291 => ?_
      refine sg h291 (wT h291 rfl rfl rfl) rfl rfl rfl (v := .pointer (some ⟨lb, (i).toNat, none⟩)) (fun hC293 => by have hq := (And.intro (of_decide_eq_true (andT hC293).1) (of_decide_eq_true (andT hC293).2)); exact (rindexA h291 rfl (opg rfl hC293) (opg rfl hC293) (fun w => ixS Try.underlying38 (by kernel_rfl) (sz := 1) (j := (i).toNat) (by omega) (by omega) (Nat.mul_one _) w)) _) fun a295 h294 => ?_
      refine sg h294 (wT h294 rfl rfl rfl) rfl rfl rfl (v := .int .i64 (L.getD ((i).toNat) 0)) (fun hC296 => by have hq := (And.intro (of_decide_eq_true (andT hC296).1) (of_decide_eq_true (andT hC296).2)); exact (rld h294 rfl (opg rfl hC296) (ldB Try.underlying3 rfl (s90.get 4 rfl : Blk _ _ _ _) (li_get (by omega))))) fun a298 h297 => ?_
      refine sg h297 (wT h297 rfl rfl rfl) rfl rfl rfl (v := .int .i64 now) (fun hC299 => by have hq := (And.intro (of_decide_eq_true (andT hC299).1) (of_decide_eq_true (andT hC299).2)); exact (rmove h297 rfl rfl) _) fun a301 h300 => ?_
      refine sg h300 (wT h300 rfl rfl rfl) rfl rfl rfl (v := .bool (decide (L.getD ((i).toNat) 0 > now))) (fun hC302 => by have hq := (And.intro (of_decide_eq_true (andT hC302).1) (of_decide_eq_true (andT hC302).2)); exact (rbin h300 rfl (opg rfl hC302) (opg rfl hC302) (cGt _ _ _ _ rfl)) _) fun a304 h303 => ?_
      refine sv h303 (wanted_none rfl) rfl rfl rfl (v := .bool (((decide (W.getD ((i).toNat) 0 ≠ 0)) && (decide (W.getD ((i).toNat) 0 ≠ c))) && (decide (L.getD ((i).toNat) 0 > now)))) (rpickA h303 rfl (E := ((decide (W.getD ((i).toNat) 0 ≠ 0)) && (decide (W.getD ((i).toNat) 0 ≠ c)))) (F := (decide (L.getD ((i).toNat) 0 > now))) rfl rfl rfl (fun e => if_pos (by rw [e]; try rfl))) fun a306 h305 => ?_
      refine sv h305 (wanted_none rfl) rfl rfl rfl (v := .bool (((decide (W.getD ((i).toNat) 0 ≠ 0)) && (decide (W.getD ((i).toNat) 0 ≠ c))) && (decide (L.getD ((i).toNat) 0 > now)))) (rassign h305 rfl rfl) fun a308 h307 => ?_
      have h309 := h307.subs (l' := [(15, _), (13, _), (12, _), (11, _), (10, _), (0, _), (1, _), (2, _), (3, _), (4, _)]) rfl
      clear h307 h227 h229 h231 h233 h235 h237 h239 h241 h243 h245 h248 h251 h254 h257 h260 h263 h266 h269 h272 h274 h276 h279 h282 h285 h288 h291 h294 h297 h300 h303 h305 a101 a230 a232 a234 a236 a238 a240 a242 a244 a246 a249 a252 a255 a258 a261 a264 a267 a270 a273 a275 a277 a280 a283 a286 a289 a292 a295 a298 a301 a304 a306
      refine wpList_nil ?_
      refine hK228 _ _ ?_
      refine wp_seq_k fun K310 hK310 => ?_
      refine wp_seq_k fun K311 hK311 => ?_
      refine wp_region_lit ?_
      refine sv h309 (wanted_none rfl) rfl rfl rfl (v := .slice a94 ((agN g c i own n93).length) cc95) (rmove h309 rfl rfl) fun a313 h312 => ?_
      refine sv h312 (wanted_none rfl) rfl rfl rfl (v := .int .i64 (((agN g c i own n93).length : Nat) : Int)) (rlenS h312 rfl rfl Try.underlying38) fun a315 h314 => ?_
      refine sv h314 (wanted_none rfl) rfl rfl rfl (v := .bool (decide ((((agN g c i own n93).length : Nat) : Int) > 0))) (rbin h314 rfl rfl rfl (cGt _ _ _ _ rfl)) fun a317 h316 => ?_
      have h318 := h316.subs (l' := [(102, _), (15, _), (13, _), (12, _), (11, _), (10, _), (0, _), (1, _), (2, _), (3, _), (4, _)]) rfl
      clear h316 h309 h312 h314 a308 a313 a315
      refine wpList_nil ?_
      refine hK311 _ _ ?_
      rcases Bool.eq_false_or_eq_true (decide ((((agN g c i own n93).length : Nat) : Int) > 0)) with hc319 | hc319
      · skip
        have hp320 : (((agN g c i own n93).length : Nat) : Int) > 0 := (of_decide_eq_true hc319)
        refine wp_condS h318 rfl hc319 ?_
        simp only [if_true]
        have h321 := h318.subs (l' := [(15, _), (13, _), (12, _), (11, _), (10, _), (0, _), (1, _), (2, _), (3, _), (4, _)]) rfl
        clear h318
        refine wp_seq_k fun K322 hK322 => ?_
        refine wp_seq_k fun K323 hK323 => ?_
        refine wp_region_lit ?_
        refine sv h321 (wanted_none rfl) rfl rfl rfl (v := .bool (((decide (W.getD ((i).toNat) 0 ≠ 0)) && (decide (W.getD ((i).toNat) 0 ≠ c))) && (decide (L.getD ((i).toNat) 0 > now)))) (rmove h321 rfl rfl) fun a325 h324 => ?_
        refine sv h324 (wanted_none rfl) rfl rfl rfl (v := .bool (!(((decide (W.getD ((i).toNat) 0 ≠ 0)) && (decide (W.getD ((i).toNat) 0 ≠ c))) && (decide (L.getD ((i).toNat) 0 > now))))) (rnot h324 rfl (b := (((decide (W.getD ((i).toNat) 0 ≠ 0)) && (decide (W.getD ((i).toNat) 0 ≠ c))) && (decide (L.getD ((i).toNat) 0 > now)))) rfl) fun a327 h326 => ?_
        have h328 := h326.subs (l' := [(104, _), (15, _), (13, _), (12, _), (11, _), (10, _), (0, _), (1, _), (2, _), (3, _), (4, _)]) rfl
        clear h326 h321 h324 a317 a325
        refine wpList_nil ?_
        refine hK323 _ _ ?_
        rcases Bool.eq_false_or_eq_true (((decide (W.getD ((i).toNat) 0 ≠ 0)) && (decide (W.getD ((i).toNat) 0 ≠ c))) && (decide (L.getD ((i).toNat) 0 > now))) with hc329 | hc329
        · skip
          have hp330 : ((W.getD ((i).toNat) 0 ≠ 0) ∧ (W.getD ((i).toNat) 0 ≠ c)) ∧ (L.getD ((i).toNat) 0 > now) := (And.intro (And.intro (of_decide_eq_true (andT (andT hc329).1).1) (of_decide_eq_true (andT (andT hc329).1).2)) (of_decide_eq_true (andT hc329).2))
          refine wp_condS h328 rfl (bNotT hc329) ?_
          simp only [Bool.false_eq_true, if_false]
          have h331 := h328.subs (l' := [(15, _), (13, _), (12, _), (11, _), (10, _), (0, _), (1, _), (2, _), (3, _), (4, _)]) rfl
          clear h328
          refine wp_skip ?_
          refine hK322 _ _ ?_
          refine wp_seq_k fun K332 hK332 => ?_
          refine wp_region_lit ?_
          refine sv h331 (wanted_none rfl) rfl rfl rfl (v := .slice a94 ((agN g c i own n93).length) cc95) (rmove h331 rfl rfl) fun a334 h333 => ?_
          have h335 := h333.subs (l' := [(120, _), (15, _), (13, _), (12, _), (11, _), (0, _), (1, _), (2, _), (3, _), (4, _)]) rfl
          clear h333 h331 a327
          refine sv h335 (wanted_none rfl) rfl rfl rfl (v := .slice a94 ((agN g c i own n93).length) cc95) (rassign h335 rfl rfl) fun a337 h336 => ?_
          have h338 := h336.subs (l' := [(10, _), (120, _), (15, _), (13, _), (12, _), (0, _), (1, _), (2, _), (3, _), (4, _)]) rfl
          clear h336 h335 a334
          refine sv h338 (wanted_none rfl) rfl rfl rfl (v := .int .i64 32) (rassign h338 rfl rfl) fun a340 h339 => ?_
          have h341 := h339.subs (l' := [(11, _), (10, _), (15, _), (13, _), (12, _), (0, _), (1, _), (2, _), (3, _), (4, _)]) rfl
          clear h339 h338 a337
          refine wpList_nil ?_
          refine hK332 _ _ ?_
          refine wp_ret ?_
          try simp only [Exit.then, Exit.inBlock]
          refine retR (v := .tuple #[.slice a94 ((agN g c i own n93).length) cc95, .int .i64 32]) (res2 h341 rfl rfl rfl) h341.defs ?_
          have hb : askOkB now c i = true := askOkB_iff.2 (by unfold askOk; omega)
          have hn8 : n93 = 8 := by omega
          have e8 : agL g c i own = agN g c i own n93 := by rw [hn8]; rfl
          have ho : askO wt now c i = true := (other_ref hR (by omega) (by omega)).trans hc329
          obtain ⟨e1, e2, e3, e4⟩ := askQ_someY (g := g) (wt := wt) (now := now) hb (show 0 < (agL g c i own).length by rw [e8]; omega) ho
          have s342 : Sep _ [ownC 0 3 1 a94 (agN g c i own n93).length cc95 ((agN g c i own n93).map iV), blkC rg 43 [.slice (some ⟨gb, 0, none⟩) 297 297, .slice (some ⟨wb, 0, none⟩) 33 33, .slice (some ⟨lb, 0, none⟩) 33 33], blkC gb 58 (G.flatMap g3C), blkC wb 3 (W.map iV), blkC lb 3 (L.map iV), Ch.many R] := s90
          refine ⟨a94, cc95, G, W, L, by rw [e1, e2, e8], by rw [e1]; rw [e8]; exact Sep.tail_un (xs := [_, _, _, _, _]) s342, by rw [e3, e4]; exact hR⟩
        · skip
          have hp343 : ((¬ (W.getD ((i).toNat) 0 ≠ 0)) ∨ (¬ (W.getD ((i).toNat) 0 ≠ c))) ∨ (¬ (L.getD ((i).toNat) 0 > now)) := ((andF hc329).imp (fun q => ((andF q).imp (fun q => (of_decide_eq_false q)) (fun q => (of_decide_eq_false q)))) (fun q => (of_decide_eq_false q)))
          refine wp_condS h328 rfl (bNotF hc329) ?_
          simp only [if_true]
          have h344 := h328.subs (l' := [(15, _), (13, _), (12, _), (11, _), (10, _), (0, _), (1, _), (2, _), (3, _), (4, _)]) rfl
          clear h328
          refine wp_seq_k fun K345 hK345 => ?_
          refine wp_region_lit ?_
          refine sv h344 (wanted_none rfl) rfl rfl rfl (v := .pointer (some ⟨rg, 0, none⟩)) (rmove h344 rfl rfl) fun a347 h346 => ?_
          refine sv h346 (wanted_none rfl) rfl rfl rfl (v := .pointer (some ⟨rg, 0, none⟩)) (rnil h346 rfl rfl) fun a349 h348 => ?_
          refine sv h348 (wanted_none rfl) rfl rfl rfl (v := .pointer (some ⟨rg, 1, none⟩)) (rfa h348 rfl rfl (fun w => fa_commonsref19_Table_la_1 rg 0 w)) fun a351 h350 => ?_
          refine sw h350 (wanted_none rfl) rfl rfl rfl (v := .slice (some ⟨wb, 0, none⟩) 33 33) (rld h350 rfl rfl (ldB Try.underlying38 rfl (s90.get 1 rfl : Blk _ _ _ _) rfl)) fun a353 h352 => ?_
          refine sv h352 (wanted_none rfl) rfl rfl rfl (v := .int .i64 i) (rmove h352 rfl rfl) fun a355 h354 => ?_
          refine sv h354 (wanted_none rfl) rfl rfl rfl (v := .int .i64 c) (rmove h354 rfl rfl) fun a357 h356 => ?_
          refine sv h356 (wanted_none rfl) rfl rfl rfl (v := .pointer (some ⟨wb, (i).toNat, none⟩)) (rindexA h356 rfl rfl rfl (fun w => ixS Try.underlying38 (by kernel_rfl) (sz := 1) (j := (i).toNat) (by omega) (by omega) (Nat.mul_one _) w)) fun a359 h358 => ?_
          refine so (wanted_none rfl) fun K365 hK365 => xstore h358 rfl rfl s90 3 rfl rfl rfl [.int .i64 c] rfl (by kernel_rfl) rfl (by rw [List.length_map]; show (i).toNat + 1 ≤ _; omega) (L' := (W.set ((i).toNat) c).map iV) (li_set (by omega)) (cs' := [ownC 0 3 1 a94 (agN g c i own n93).length cc95 ((agN g c i own n93).map iV), blkC rg 43 [.slice (some ⟨gb, 0, none⟩) 297 297, .slice (some ⟨wb, 0, none⟩) 33 33, .slice (some ⟨lb, 0, none⟩) 33 33], blkC gb 58 (G.flatMap g3C), blkC wb 3 ((W.set ((i).toNat) c).map iV), blkC lb 3 (L.map iV), Ch.many R]) rfl fun a361 w362 h360 s363 t364 => hK365 _ _ ?_
          clear hK365 K365
          clear t364
          have h366 := h360.subs (l' := [(15, _), (13, _), (12, _), (11, _), (10, _), (0, _), (1, _), (2, _), (3, _), (4, _)]) rfl
          clear h360 h344 h346 h348 h350 h352 h354 h356 h358 a327 a347 a349 a351 a353 a355 a357 a359
          refine wpList_nil ?_
          refine hK345 _ _ ?_
          refine wp_region_lit ?_
          refine sv h366 (wanted_none rfl) rfl rfl rfl (v := .pointer (some ⟨rg, 0, none⟩)) (rmove h366 rfl rfl) fun a368 h367 => ?_
          refine sv h367 (wanted_none rfl) rfl rfl rfl (v := .pointer (some ⟨rg, 0, none⟩)) (rnil h367 rfl rfl) fun a370 h369 => ?_
          refine sv h369 (wanted_none rfl) rfl rfl rfl (v := .pointer (some ⟨rg, 2, none⟩)) (rfa h369 rfl rfl (fun w => fa_commonsref19_Table_la_2 rg 0 w)) fun a372 h371 => ?_
          refine sw h371 (wanted_none rfl) rfl rfl rfl (v := .slice (some ⟨lb, 0, none⟩) 33 33) (rld h371 rfl rfl (ldB Try.underlying38 rfl (s363.get 1 rfl : Blk _ _ _ _) rfl)) fun a374 h373 => ?_
          refine sv h373 (wanted_none rfl) rfl rfl rfl (v := .int .i64 i) (rmove h373 rfl rfl) fun a376 h375 => ?_
          refine sv h375 (wanted_none rfl) rfl rfl rfl (v := .int .i64 now) (rmove h375 rfl rfl) fun a378 h377 => ?_
          refine sv h377 (wanted_none rfl) rfl rfl rfl (v := .int .i64 (now + 64)) (rbin h377 rfl rfl rfl (bAdd _ _ _ (by omega) (by omega) (by omega))) fun a380 h379 => ?_
          refine sv h379 (wanted_none rfl) rfl rfl rfl (v := .pointer (some ⟨lb, (i).toNat, none⟩)) (rindexA h379 rfl rfl rfl (fun w => ixS Try.underlying38 (by kernel_rfl) (sz := 1) (j := (i).toNat) (by omega) (by omega) (Nat.mul_one _) w)) fun a382 h381 => ?_
          refine so (wanted_none rfl) fun K388 hK388 => xstore h381 rfl rfl s363 4 rfl rfl rfl [.int .i64 (now + 64)] rfl (by kernel_rfl) rfl (by rw [List.length_map]; show (i).toNat + 1 ≤ _; omega) (L' := (L.set ((i).toNat) (now + 64)).map iV) (li_set (by omega)) (cs' := [ownC 0 3 1 a94 (agN g c i own n93).length cc95 ((agN g c i own n93).map iV), blkC rg 43 [.slice (some ⟨gb, 0, none⟩) 297 297, .slice (some ⟨wb, 0, none⟩) 33 33, .slice (some ⟨lb, 0, none⟩) 33 33], blkC gb 58 (G.flatMap g3C), blkC wb 3 ((W.set ((i).toNat) c).map iV), blkC lb 3 ((L.set ((i).toNat) (now + 64)).map iV), Ch.many R]) rfl fun a384 w385 h383 s386 t387 => hK388 _ _ ?_
          clear hK388 K388
          clear t387
          have h389 := h383.subs (l' := [(15, _), (13, _), (12, _), (11, _), (10, _), (0, _), (1, _), (2, _), (3, _), (4, _)]) rfl
          clear h383 h366 h367 h369 h371 h373 h375 h377 h379 h381 a361 a368 a370 a372 a374 a376 a378 a380 a382
          refine wpList_nil ?_
          refine hK322 _ _ ?_
          refine wp_seq_k fun K390 hK390 => ?_
          refine wp_region_lit ?_
          refine sv h389 (wanted_none rfl) rfl rfl rfl (v := .slice a94 ((agN g c i own n93).length) cc95) (rmove h389 rfl rfl) fun a392 h391 => ?_
          have h393 := h391.subs (l' := [(120, _), (15, _), (13, _), (12, _), (11, _), (0, _), (1, _), (2, _), (3, _), (4, _)]) rfl
          clear h391 h389 a384
          refine sv h393 (wanted_none rfl) rfl rfl rfl (v := .slice a94 ((agN g c i own n93).length) cc95) (rassign h393 rfl rfl) fun a395 h394 => ?_
          have h396 := h394.subs (l' := [(10, _), (120, _), (15, _), (13, _), (12, _), (0, _), (1, _), (2, _), (3, _), (4, _)]) rfl
          clear h394 h393 a392
          refine sv h396 (wanted_none rfl) rfl rfl rfl (v := .int .i64 32) (rassign h396 rfl rfl) fun a398 h397 => ?_
          have h399 := h397.subs (l' := [(11, _), (10, _), (15, _), (13, _), (12, _), (0, _), (1, _), (2, _), (3, _), (4, _)]) rfl
          clear h397 h396 a395
          refine wpList_nil ?_
          refine hK390 _ _ ?_
          refine wp_ret ?_
          try simp only [Exit.then, Exit.inBlock]
          refine retR (v := .tuple #[.slice a94 ((agN g c i own n93).length) cc95, .int .i64 32]) (res2 h399 rfl rfl rfl) h399.defs ?_
          have hb : askOkB now c i = true := askOkB_iff.2 (by unfold askOk; omega)
          have hn8 : n93 = 8 := by omega
          have e8 : agL g c i own = agN g c i own n93 := by rw [hn8]; rfl
          have ho : askO wt now c i = false := (other_ref hR (by omega) (by omega)).trans hc329
          obtain ⟨e1, e2, e3, e4⟩ := askQ_someN (g := g) (wt := wt) (now := now) hb (show 0 < (agL g c i own).length by rw [e8]; omega) ho
          have s400 : Sep _ [ownC 0 3 1 a94 (agN g c i own n93).length cc95 ((agN g c i own n93).map iV), blkC rg 43 [.slice (some ⟨gb, 0, none⟩) 297 297, .slice (some ⟨wb, 0, none⟩) 33 33, .slice (some ⟨lb, 0, none⟩) 33 33], blkC gb 58 (G.flatMap g3C), blkC wb 3 ((W.set ((i).toNat) c).map iV), blkC lb 3 ((L.set ((i).toNat) (now + 64)).map iV), Ch.many R] := s386
          refine ⟨a94, cc95, G, W.set ((i).toNat) c, L.set ((i).toNat) (now + 64), by rw [e1, e2, e8], by rw [e1]; rw [e8]; exact Sep.tail_un (xs := [_, _, _, _, _]) s400, by rw [e3, e4]; exact (hR.setW (by omega) (by omega) (by omega) _)⟩
      · skip
        have hp401 : ¬ ((((agN g c i own n93).length : Nat) : Int) > 0) := (of_decide_eq_false hc319)
        refine wp_condS h318 rfl hc319 ?_
        simp only [Bool.false_eq_true, if_false]
        have h402 := h318.subs (l' := [(15, _), (13, _), (12, _), (11, _), (10, _), (0, _), (1, _), (2, _), (3, _), (4, _)]) rfl
        clear h318
        refine wp_skip ?_
        refine hK310 _ _ ?_
        refine wp_seq_k fun K403 hK403 => ?_
        refine wp_seq_k fun K404 hK404 => ?_
        refine wp_region_lit ?_
        refine sv h402 (wanted_none rfl) rfl rfl rfl (v := .bool (((decide (W.getD ((i).toNat) 0 ≠ 0)) && (decide (W.getD ((i).toNat) 0 ≠ c))) && (decide (L.getD ((i).toNat) 0 > now)))) (rmove h402 rfl rfl) fun a406 h405 => ?_
        refine wpList_nil ?_
        refine hK404 _ _ ?_
        rcases Bool.eq_false_or_eq_true (((decide (W.getD ((i).toNat) 0 ≠ 0)) && (decide (W.getD ((i).toNat) 0 ≠ c))) && (decide (L.getD ((i).toNat) 0 > now))) with hc407 | hc407
        · skip
          have hp408 : ((W.getD ((i).toNat) 0 ≠ 0) ∧ (W.getD ((i).toNat) 0 ≠ c)) ∧ (L.getD ((i).toNat) 0 > now) := (And.intro (And.intro (of_decide_eq_true (andT (andT hc407).1).1) (of_decide_eq_true (andT (andT hc407).1).2)) (of_decide_eq_true (andT hc407).2))
          refine wp_condS h405 rfl hc407 ?_
          simp only [if_true]
          have h409 := h405.subs (l' := [(15, _), (13, _), (12, _), (11, _), (10, _), (0, _), (1, _), (2, _), (3, _), (4, _)]) rfl
          clear h405 h402 a317
          refine wp_seq_k fun K410 hK410 => ?_
          refine wp_region_lit ?_
          have h411 := h409.subs (l' := [(15, _), (13, _), (12, _), (11, _), (0, _), (1, _), (2, _), (3, _), (4, _)]) rfl
          clear h409
          refine sv h411 (wanted_none rfl) rfl rfl rfl (v := .slice none 0 0) (rassign h411 rfl rfl) fun a413 h412 => ?_
          have h414 := h412.subs (l' := [(10, _), (15, _), (13, _), (12, _), (0, _), (1, _), (2, _), (3, _), (4, _)]) rfl
          clear h412 h411 a406
          refine sv h414 (wanted_none rfl) rfl rfl rfl (v := .int .i64 32) (rassign h414 rfl rfl) fun a416 h415 => ?_
          refine wpList_nil ?_
          refine hK410 _ _ ?_
          refine wp_ret ?_
          try simp only [Exit.then, Exit.inBlock]
          refine retR (v := .tuple #[.slice none 0 0, .int .i64 32]) (res2 h415 rfl rfl rfl) h415.defs ?_
          have hb : askOkB now c i = true := askOkB_iff.2 (by unfold askOk; omega)
          have hn8 : n93 = 8 := by omega
          have e8 : agL g c i own = agN g c i own n93 := by rw [hn8]; rfl
          have ho : askO wt now c i = true := (other_ref hR (by omega) (by omega)).trans hc407
          obtain ⟨e1, e2, e3, e4⟩ := askQ_noneY (g := g) (wt := wt) (now := now) hb (show (agL g c i own).length = 0 by rw [e8]; omega) ho
          rw [List.eq_nil_of_length_eq_zero (show (agL g c i own).length = 0 by rw [e8]; omega)] at e1
          have s417 := s90.ownNil 0 3 1
          have s418 : Sep _ [ownC 0 3 1 none 0 0 [], blkC rg 43 [.slice (some ⟨gb, 0, none⟩) 297 297, .slice (some ⟨wb, 0, none⟩) 33 33, .slice (some ⟨lb, 0, none⟩) 33 33], blkC gb 58 (G.flatMap g3C), blkC wb 3 (W.map iV), blkC lb 3 (L.map iV), Ch.many R] := (s417.pick [0, 2, 3, 4, 5, 6] (by decide) rfl)
          refine ⟨none, 0, G, W, L, by rw [e1, e2]; rfl, by rw [e1]; exact Sep.tail_un (xs := [_, _, _, _, _]) s418, by rw [e3, e4]; exact hR⟩
        · skip
          have hp419 : ((¬ (W.getD ((i).toNat) 0 ≠ 0)) ∨ (¬ (W.getD ((i).toNat) 0 ≠ c))) ∨ (¬ (L.getD ((i).toNat) 0 > now)) := ((andF hc407).imp (fun q => ((andF q).imp (fun q => (of_decide_eq_false q)) (fun q => (of_decide_eq_false q)))) (fun q => (of_decide_eq_false q)))
          refine wp_condS h405 rfl hc407 ?_
          simp only [Bool.false_eq_true, if_false]
          have h420 := h405.subs (l' := [(15, _), (13, _), (12, _), (11, _), (10, _), (0, _), (1, _), (2, _), (3, _), (4, _)]) rfl
          clear h405 h402 a317
          refine wp_skip ?_
          refine hK403 _ _ ?_
          refine wp_seq_k fun K421 hK421 => ?_
          refine wp_seq_k fun K422 hK422 => ?_
          refine wp_region_lit ?_
          refine sv h420 (wanted_none rfl) rfl rfl rfl (v := .pointer (some ⟨rg, 0, none⟩)) (rmove h420 rfl rfl) fun a424 h423 => ?_
          refine sv h423 (wanted_none rfl) rfl rfl rfl (v := .pointer (some ⟨rg, 0, none⟩)) (rnil h423 rfl rfl) fun a426 h425 => ?_
          refine sv h425 (wanted_none rfl) rfl rfl rfl (v := .pointer (some ⟨rg, 1, none⟩)) (rfa h425 rfl rfl (fun w => fa_commonsref19_Table_la_1 rg 0 w)) fun a428 h427 => ?_
          refine sw h427 (wanted_none rfl) rfl rfl rfl (v := .slice (some ⟨wb, 0, none⟩) 33 33) (rld h427 rfl rfl (ldB Try.underlying38 rfl (s90.get 1 rfl : Blk _ _ _ _) rfl)) fun a430 h429 => ?_
          refine sv h429 (wanted_none rfl) rfl rfl rfl (v := .int .i64 i) (rmove h429 rfl rfl) fun a432 h431 => ?_
          refine sv h431 (wanted_none rfl) rfl rfl rfl (v := .pointer (some ⟨wb, (i).toNat, none⟩)) (rindexA h431 rfl rfl rfl (fun w => ixS Try.underlying38 (by kernel_rfl) (sz := 1) (j := (i).toNat) (by omega) (by omega) (Nat.mul_one _) w)) fun a434 h433 => ?_
          refine sw h433 (wanted_none rfl) rfl rfl rfl (v := .int .i64 (W.getD ((i).toNat) 0)) (rld h433 rfl rfl (ldB Try.underlying3 rfl (s90.get 3 rfl : Blk _ _ _ _) (li_get (by omega)))) fun a436 h435 => ?_
          refine sv h435 (wanted_none rfl) rfl rfl rfl (v := .int .i64 c) (rmove h435 rfl rfl) fun a438 h437 => ?_
          refine sv h437 (wanted_none rfl) rfl rfl rfl (v := .bool (decide (W.getD ((i).toNat) 0 = c))) (rbin h437 rfl rfl rfl (cEq _ _ _ _ rfl)) fun a440 h439 => ?_
          have h441 := h439.subs (l' := [(130, _), (15, _), (13, _), (12, _), (11, _), (10, _), (0, _), (1, _), (2, _), (3, _), (4, _)]) rfl
          clear h439 h420 h423 h425 h427 h429 h431 h433 h435 h437 a406 a424 a426 a428 a430 a432 a434 a436 a438
          refine wpList_nil ?_
          refine hK422 _ _ ?_
          rcases Bool.eq_false_or_eq_true (decide (W.getD ((i).toNat) 0 = c)) with hc442 | hc442
          · skip
            have hp443 : W.getD ((i).toNat) 0 = c := (of_decide_eq_true hc442)
            refine wp_condS h441 rfl hc442 ?_
            simp only [if_true]
            have h444 := h441.subs (l' := [(15, _), (13, _), (12, _), (11, _), (10, _), (0, _), (1, _), (2, _), (3, _), (4, _)]) rfl
            clear h441
            refine wp_region_lit ?_
            refine sv h444 (wanted_none rfl) rfl rfl rfl (v := .pointer (some ⟨rg, 0, none⟩)) (rmove h444 rfl rfl) fun a446 h445 => ?_
            refine sv h445 (wanted_none rfl) rfl rfl rfl (v := .pointer (some ⟨rg, 0, none⟩)) (rnil h445 rfl rfl) fun a448 h447 => ?_
            refine sv h447 (wanted_none rfl) rfl rfl rfl (v := .pointer (some ⟨rg, 1, none⟩)) (rfa h447 rfl rfl (fun w => fa_commonsref19_Table_la_1 rg 0 w)) fun a450 h449 => ?_
            refine sw h449 (wanted_none rfl) rfl rfl rfl (v := .slice (some ⟨wb, 0, none⟩) 33 33) (rld h449 rfl rfl (ldB Try.underlying38 rfl (s90.get 1 rfl : Blk _ _ _ _) rfl)) fun a452 h451 => ?_
            refine sv h451 (wanted_none rfl) rfl rfl rfl (v := .int .i64 i) (rmove h451 rfl rfl) fun a454 h453 => ?_
            refine sv h453 (wanted_none rfl) rfl rfl rfl (v := .pointer (some ⟨wb, (i).toNat, none⟩)) (rindexA h453 rfl rfl rfl (fun w => ixS Try.underlying38 (by kernel_rfl) (sz := 1) (j := (i).toNat) (by omega) (by omega) (Nat.mul_one _) w)) fun a456 h455 => ?_
            refine so (wanted_none rfl) fun K462 hK462 => xstore h455 rfl rfl s90 3 rfl rfl rfl [.int .i64 0] rfl (by kernel_rfl) rfl (by rw [List.length_map]; show (i).toNat + 1 ≤ _; omega) (L' := (W.set ((i).toNat) 0).map iV) (li_set (by omega)) (cs' := [ownC 0 3 1 a94 (agN g c i own n93).length cc95 ((agN g c i own n93).map iV), blkC rg 43 [.slice (some ⟨gb, 0, none⟩) 297 297, .slice (some ⟨wb, 0, none⟩) 33 33, .slice (some ⟨lb, 0, none⟩) 33 33], blkC gb 58 (G.flatMap g3C), blkC wb 3 ((W.set ((i).toNat) 0).map iV), blkC lb 3 (L.map iV), Ch.many R]) rfl fun a458 w459 h457 s460 t461 => hK462 _ _ ?_
            clear hK462 K462
            clear t461
            have h463 := h457.subs (l' := [(15, _), (13, _), (12, _), (11, _), (10, _), (0, _), (1, _), (2, _), (3, _), (4, _)]) rfl
            clear h457 h444 h445 h447 h449 h451 h453 h455 a440 a446 a448 a450 a452 a454 a456
            refine wpList_nil ?_
            refine hK421 _ _ ?_
            refine wp_seq_k fun K464 hK464 => ?_
            refine wp_region_lit ?_
            refine sv h463 (wanted_none rfl) rfl rfl rfl (v := .pointer (some ⟨rg, 0, none⟩)) (rmove h463 rfl rfl) fun a466 h465 => ?_
            refine sv h465 (wanted_none rfl) rfl rfl rfl (v := .pointer (some ⟨rg, 0, none⟩)) (rnil h465 rfl rfl) fun a468 h467 => ?_
            refine sv h467 (wanted_none rfl) rfl rfl rfl (v := .pointer (some ⟨rg, 0, none⟩)) (rfa h467 rfl rfl (fun w => fa_commonsref19_Table_la_0 rg 0 w)) fun a470 h469 => ?_
            refine sw h469 (wanted_none rfl) rfl rfl rfl (v := .slice (some ⟨gb, 0, none⟩) 297 297) (rld h469 rfl rfl (ldB Try.underlying41 rfl (s460.get 1 rfl : Blk _ _ _ _) rfl)) fun a472 h471 => ?_
            refine sv h471 (wanted_none rfl) rfl rfl rfl (v := .int .i64 i) (rmove h471 rfl rfl) fun a474 h473 => ?_
            refine sv h473 (wanted_none rfl) rfl rfl rfl (v := .int .i64 (9 * i)) (rbin h473 rfl rfl rfl (bMul _ _ _ (by omega) (by omega) (by omega))) fun a476 h475 => ?_
            refine sv h475 (wanted_none rfl) rfl rfl rfl (v := .int .i64 c) (rmove h475 rfl rfl) fun a478 h477 => ?_
            refine sv h477 (wanted_none rfl) rfl rfl rfl (v := .int .i64 (9 * i + c)) (rbin h477 rfl rfl rfl (bAdd _ _ _ (by omega) (by omega) (by omega))) fun a480 h479 => ?_
            refine sv h479 (wanted_none rfl) rfl rfl rfl (v := .bool own) (rmove h479 rfl rfl) fun a482 h481 => ?_
            refine sv h481 (wanted_none rfl) rfl rfl rfl (v := .int .i64 now) (rmove h481 rfl rfl) fun a484 h483 => ?_
            refine sv h483 (wanted_none rfl) rfl rfl rfl (v := .int .i64 (now + 64)) (rbin h483 rfl rfl rfl (bAdd _ _ _ (by omega) (by omega) (by omega))) fun a486 h485 => ?_
            refine sv h485 (wanted_none rfl) rfl rfl rfl (v := .agg #[.bool true, .bool own, .int .i64 (now + 64)]) (rbuild h485 (xs := [(0, .const (.bool true)), (1, .tmp 145), (2, .tmp 147)]) rfl (vs := [(0, .bool true), (1, .bool own), (2, .int .i64 (now + 64))]) rfl (fun w => by kernel_rfl)) fun a488 h487 => ?_
            refine sv h487 (wanted_none rfl) rfl rfl rfl (v := .pointer (some ⟨gb, ((9 * i + c).toNat) * 3, none⟩)) (rindexA h487 rfl rfl rfl (fun w => ixS Try.underlying41 (by kernel_rfl) (sz := 3) (j := (9 * i + c).toNat) (by omega) (by omega) rfl w)) fun a490 h489 => ?_
            refine so (wanted_none rfl) fun K496 hK496 => xstore h489 rfl rfl s460 2 rfl rfl rfl (g3C (true, own, now + 64)) rfl (by kernel_rfl) rfl (by rw [ls_len g3C_len]; show ((9 * i + c).toNat) * 3 + 3 ≤ _; omega) (L' := (G.set ((9 * i + c).toNat) (true, own, now + 64)).flatMap g3C) (ls_set g3C_len (by omega) rfl) (cs' := [ownC 0 3 1 a94 (agN g c i own n93).length cc95 ((agN g c i own n93).map iV), blkC rg 43 [.slice (some ⟨gb, 0, none⟩) 297 297, .slice (some ⟨wb, 0, none⟩) 33 33, .slice (some ⟨lb, 0, none⟩) 33 33], blkC gb 58 ((G.set ((9 * i + c).toNat) (true, own, now + 64)).flatMap g3C), blkC wb 3 ((W.set ((i).toNat) 0).map iV), blkC lb 3 (L.map iV), Ch.many R]) rfl fun a492 w493 h491 s494 t495 => hK496 _ _ ?_
            clear hK496 K496
            clear t495
            have h497 := h491.subs (l' := [(15, _), (13, _), (12, _), (11, _), (10, _), (0, _), (1, _), (2, _), (3, _), (4, _)]) rfl
            clear h491 h463 h465 h467 h469 h471 h473 h475 h477 h479 h481 h483 h485 h487 h489 a458 a466 a468 a470 a472 a474 a476 a478 a480 a482 a484 a486 a488 a490
            refine wpList_nil ?_
            refine hK464 _ _ ?_
            refine wp_seq_k fun K498 hK498 => ?_
            refine wp_region_lit ?_
            have h499 := h497.subs (l' := [(15, _), (13, _), (12, _), (11, _), (0, _), (1, _), (2, _), (3, _), (4, _)]) rfl
            clear h497
            refine sv h499 (wanted_none rfl) rfl rfl rfl (v := .slice none 0 0) (rassign h499 rfl rfl) fun a501 h500 => ?_
            have h502 := h500.subs (l' := [(10, _), (15, _), (13, _), (12, _), (0, _), (1, _), (2, _), (3, _), (4, _)]) rfl
            clear h500 h499 a492
            refine sv h502 (wanted_none rfl) rfl rfl rfl (v := .int .i64 0) (rassign h502 rfl rfl) fun a504 h503 => ?_
            refine wpList_nil ?_
            refine hK498 _ _ ?_
            refine wp_ret ?_
            try simp only [Exit.then, Exit.inBlock]
            refine retR (v := .tuple #[.slice none 0 0, .int .i64 0]) (res2 h503 rfl rfl rfl) h503.defs ?_
            have hb : askOkB now c i = true := askOkB_iff.2 (by unfold askOk; omega)
            have hn8 : n93 = 8 := by omega
            have e8 : agL g c i own = agN g c i own n93 := by rw [hn8]; rfl
            have ho : askO wt now c i = false := (other_ref hR (by omega) (by omega)).trans hc407
            obtain ⟨e1, e2, e3, e4⟩ := askQ_noneN (g := g) (wt := wt) (now := now) hb (show (agL g c i own).length = 0 by rw [e8]; omega) ho
            rw [List.eq_nil_of_length_eq_zero (show (agL g c i own).length = 0 by rw [e8]; omega)] at e1
            have s505 := s494.ownNil 0 3 1
            rw [ownW_eq hR (by omega) (by omega) hp443 (by omega)] at e4
            have s506 : Sep _ [ownC 0 3 1 none 0 0 [], blkC rg 43 [.slice (some ⟨gb, 0, none⟩) 297 297, .slice (some ⟨wb, 0, none⟩) 33 33, .slice (some ⟨lb, 0, none⟩) 33 33], blkC gb 58 ((G.set ((9 * i + c).toNat) (true, own, now + 64)).flatMap g3C), blkC wb 3 ((W.set ((i).toNat) 0).map iV), blkC lb 3 (L.map iV), Ch.many R] := (s505.pick [0, 2, 3, 4, 5, 6] (by decide) rfl)
            refine ⟨none, 0, G.set ((9 * i + c).toNat) (true, own, now + 64), W.set ((i).toNat) 0, L, by rw [e1, e2]; rfl, by rw [e1]; exact Sep.tail_un (xs := [_, _, _, _, _]) s506, by rw [e3, e4]; exact ((hR.clrW (by omega) (by omega)).setG (by omega) (by omega) (by omega) (by omega) _ _)⟩
          · skip
            have hp507 : ¬ (W.getD ((i).toNat) 0 = c) := (of_decide_eq_false hc442)
            refine wp_condS h441 rfl hc442 ?_
            simp only [Bool.false_eq_true, if_false]
            have h508 := h441.subs (l' := [(15, _), (13, _), (12, _), (11, _), (10, _), (0, _), (1, _), (2, _), (3, _), (4, _)]) rfl
            clear h441
            refine wp_skip ?_
            refine hK421 _ _ ?_
            refine wp_seq_k fun K509 hK509 => ?_
            refine wp_region_lit ?_
            refine sv h508 (wanted_none rfl) rfl rfl rfl (v := .pointer (some ⟨rg, 0, none⟩)) (rmove h508 rfl rfl) fun a511 h510 => ?_
            refine sv h510 (wanted_none rfl) rfl rfl rfl (v := .pointer (some ⟨rg, 0, none⟩)) (rnil h510 rfl rfl) fun a513 h512 => ?_
            refine sv h512 (wanted_none rfl) rfl rfl rfl (v := .pointer (some ⟨rg, 0, none⟩)) (rfa h512 rfl rfl (fun w => fa_commonsref19_Table_la_0 rg 0 w)) fun a515 h514 => ?_
            refine sw h514 (wanted_none rfl) rfl rfl rfl (v := .slice (some ⟨gb, 0, none⟩) 297 297) (rld h514 rfl rfl (ldB Try.underlying41 rfl (s90.get 1 rfl : Blk _ _ _ _) rfl)) fun a517 h516 => ?_
            refine sv h516 (wanted_none rfl) rfl rfl rfl (v := .int .i64 i) (rmove h516 rfl rfl) fun a519 h518 => ?_
            refine sv h518 (wanted_none rfl) rfl rfl rfl (v := .int .i64 (9 * i)) (rbin h518 rfl rfl rfl (bMul _ _ _ (by omega) (by omega) (by omega))) fun a521 h520 => ?_
            refine sv h520 (wanted_none rfl) rfl rfl rfl (v := .int .i64 c) (rmove h520 rfl rfl) fun a523 h522 => ?_
            refine sv h522 (wanted_none rfl) rfl rfl rfl (v := .int .i64 (9 * i + c)) (rbin h522 rfl rfl rfl (bAdd _ _ _ (by omega) (by omega) (by omega))) fun a525 h524 => ?_
            refine sv h524 (wanted_none rfl) rfl rfl rfl (v := .bool own) (rmove h524 rfl rfl) fun a527 h526 => ?_
            refine sv h526 (wanted_none rfl) rfl rfl rfl (v := .int .i64 now) (rmove h526 rfl rfl) fun a529 h528 => ?_
            refine sv h528 (wanted_none rfl) rfl rfl rfl (v := .int .i64 (now + 64)) (rbin h528 rfl rfl rfl (bAdd _ _ _ (by omega) (by omega) (by omega))) fun a531 h530 => ?_
            refine sv h530 (wanted_none rfl) rfl rfl rfl (v := .agg #[.bool true, .bool own, .int .i64 (now + 64)]) (rbuild h530 (xs := [(0, .const (.bool true)), (1, .tmp 145), (2, .tmp 147)]) rfl (vs := [(0, .bool true), (1, .bool own), (2, .int .i64 (now + 64))]) rfl (fun w => by kernel_rfl)) fun a533 h532 => ?_
            refine sv h532 (wanted_none rfl) rfl rfl rfl (v := .pointer (some ⟨gb, ((9 * i + c).toNat) * 3, none⟩)) (rindexA h532 rfl rfl rfl (fun w => ixS Try.underlying41 (by kernel_rfl) (sz := 3) (j := (9 * i + c).toNat) (by omega) (by omega) rfl w)) fun a535 h534 => ?_
            refine so (wanted_none rfl) fun K541 hK541 => xstore h534 rfl rfl s90 2 rfl rfl rfl (g3C (true, own, now + 64)) rfl (by kernel_rfl) rfl (by rw [ls_len g3C_len]; show ((9 * i + c).toNat) * 3 + 3 ≤ _; omega) (L' := (G.set ((9 * i + c).toNat) (true, own, now + 64)).flatMap g3C) (ls_set g3C_len (by omega) rfl) (cs' := [ownC 0 3 1 a94 (agN g c i own n93).length cc95 ((agN g c i own n93).map iV), blkC rg 43 [.slice (some ⟨gb, 0, none⟩) 297 297, .slice (some ⟨wb, 0, none⟩) 33 33, .slice (some ⟨lb, 0, none⟩) 33 33], blkC gb 58 ((G.set ((9 * i + c).toNat) (true, own, now + 64)).flatMap g3C), blkC wb 3 (W.map iV), blkC lb 3 (L.map iV), Ch.many R]) rfl fun a537 w538 h536 s539 t540 => hK541 _ _ ?_
            clear hK541 K541
            clear t540
            have h542 := h536.subs (l' := [(15, _), (13, _), (12, _), (11, _), (10, _), (0, _), (1, _), (2, _), (3, _), (4, _)]) rfl
            clear h536 h508 h510 h512 h514 h516 h518 h520 h522 h524 h526 h528 h530 h532 h534 a440 a511 a513 a515 a517 a519 a521 a523 a525 a527 a529 a531 a533 a535
            refine wpList_nil ?_
            refine hK509 _ _ ?_
            refine wp_seq_k fun K543 hK543 => ?_
            refine wp_region_lit ?_
            have h544 := h542.subs (l' := [(15, _), (13, _), (12, _), (11, _), (0, _), (1, _), (2, _), (3, _), (4, _)]) rfl
            clear h542
            refine sv h544 (wanted_none rfl) rfl rfl rfl (v := .slice none 0 0) (rassign h544 rfl rfl) fun a546 h545 => ?_
            have h547 := h545.subs (l' := [(10, _), (15, _), (13, _), (12, _), (0, _), (1, _), (2, _), (3, _), (4, _)]) rfl
            clear h545 h544 a537
            refine sv h547 (wanted_none rfl) rfl rfl rfl (v := .int .i64 0) (rassign h547 rfl rfl) fun a549 h548 => ?_
            refine wpList_nil ?_
            refine hK543 _ _ ?_
            refine wp_ret ?_
            try simp only [Exit.then, Exit.inBlock]
            refine retR (v := .tuple #[.slice none 0 0, .int .i64 0]) (res2 h548 rfl rfl rfl) h548.defs ?_
            have hb : askOkB now c i = true := askOkB_iff.2 (by unfold askOk; omega)
            have hn8 : n93 = 8 := by omega
            have e8 : agL g c i own = agN g c i own n93 := by rw [hn8]; rfl
            have ho : askO wt now c i = false := (other_ref hR (by omega) (by omega)).trans hc407
            obtain ⟨e1, e2, e3, e4⟩ := askQ_noneN (g := g) (wt := wt) (now := now) hb (show (agL g c i own).length = 0 by rw [e8]; omega) ho
            rw [List.eq_nil_of_length_eq_zero (show (agL g c i own).length = 0 by rw [e8]; omega)] at e1
            have s550 := s539.ownNil 0 3 1
            rw [ownW_ne hR (by omega) (by omega) hp507] at e4
            have s551 : Sep _ [ownC 0 3 1 none 0 0 [], blkC rg 43 [.slice (some ⟨gb, 0, none⟩) 297 297, .slice (some ⟨wb, 0, none⟩) 33 33, .slice (some ⟨lb, 0, none⟩) 33 33], blkC gb 58 ((G.set ((9 * i + c).toNat) (true, own, now + 64)).flatMap g3C), blkC wb 3 (W.map iV), blkC lb 3 (L.map iV), Ch.many R] := (s550.pick [0, 2, 3, 4, 5, 6] (by decide) rfl)
            refine ⟨none, 0, G.set ((9 * i + c).toNat) (true, own, now + 64), W, L, by rw [e1, e2]; rfl, by rw [e1]; exact Sep.tail_un (xs := [_, _, _, _, _]) s551, by rw [e3, e4]; exact (hR.setG (by omega) (by omega) (by omega) (by omega) _ _)⟩

end Go.Proofs.Ytpalgffmdinfpaa
end
section
namespace Go.Proofs.Ytpalgffmdinfpaa
open Go.RowKit
set_option linter.unusedSimpArgs false
set_option linter.unusedVariables false
set_option maxRecDepth 100000

def tab3 (tg gm wm n m : Nat) (g : GrF) (wt : WtF) : List Ch := [blkC tg 54 [.map (some gm), .map (some wm)], mapC KG gm n g, mapC KW wm m wt]
theorem tab3_of {w : World} {tg gm wm n m : Nat} {g : GrF} {wt : WtF} (h : TabP w tg gm wm n m g wt) : Sep w (tab3 tg gm wm n m g wt) := by
  have hne := h.ne
  refine Sep.cons h.t (Sep.cons h.g (Sep.cons h.w (Sep.nil _) (fun i d hi => by simp at hi)) (fun i d hi b e1 e2 => ?_)) (fun i d hi b e1 e2 => ?_)
  · cases i with
    | zero => cases hi; exact hne.1 (e1.symm.trans e2)
    | succ i => simp at hi
  · cases i with
    | zero => cases hi; exact hne.2.1 (e1.symm.trans e2)
    | succ i => cases i with
      | zero => cases hi; exact hne.2.2 (e1.symm.trans e2)
      | succ i => simp at hi
theorem tab3_to {w : World} {tg gm wm n m : Nat} {g : GrF} {wt : WtF} {R : List Ch} (h : Sep w (tab3 tg gm wm n m g wt ++ R)) : TabP w tg gm wm n m g wt :=
  ⟨h.get 0 rfl, h.get 1 rfl, h.get 2 rfl, fun e => h.ap 1 2 _ _ (by decide) rfl rfl gm rfl e, fun e => h.ap 0 1 _ _ (by decide) rfl rfl tg rfl e, fun e => h.ap 0 2 _ _ (by decide) rfl rfl tg rfl e⟩
theorem tab3_turn {w w' : World} {tg gm wm n m n' m' : Nat} {g g' : GrF} {wt wt' : WtF} {R : List Ch} (h : Sep w (tab3 tg gm wm n m g wt ++ R)) {X : Nat → Prop} (t : Turns X w w') (hX : ∀ k, X k → k = tg ∨ k = gm ∨ k = wm) (h' : TabP w' tg gm wm n' m' g' wt') : Sep w' (tab3 tg gm wm n' m' g' wt' ++ R) := by
  refine h.turn t (fun k _ hk => ?_) (tab3_of h') (fun i c hi k hk => .inr ?_)
  · rcases hX k hk with e | e | e
    · exact ⟨0, _, rfl, e⟩
    · exact ⟨1, _, rfl, e⟩
    · exact ⟨2, _, rfl, e⟩
  · match i, hi with
    | 0, hi => cases hi; exact ⟨0, _, rfl, hk⟩
    | 1, hi => cases hi; exact ⟨1, _, rfl, hk⟩
    | 2, hi => cases hi; exact ⟨2, _, rfl, hk⟩
theorem newT_s {w : World} {R : List Ch} (hS : Sep w R) : CallsR Try.prog 8 #[] w fun v w' => ∃ tg gm wm, v = .pointer (some ⟨tg, 0, none⟩) ∧ Sep w' (tab3 tg gm wm 0 0 (fun _ => none) (fun _ => none) ++ R) :=
  (newT_any w).mono fun e w' ⟨tg, gm, wm, e1, h, ⟨b1, b2, b3⟩, hb⟩ => by
    refine ⟨_, e1, tg, gm, wm, rfl, Sep.turn (A := []) hS (X := fun _ => False) (Turns.of_below hb) (fun k _ e => e.elim) (tab3_of h) (fun i c hi k hk => .inl ?_)⟩
    match i, hi with
    | 0, hi => cases hi; cases hk; exact b1
    | 1, hi => cases hi; cases hk; exact b2
    | 2, hi => cases hi; cases hk; exact b3
theorem askT_s {w : World} {tg gm wm n m : Nat} {g : GrF} {wt : WtF} {R : List Ch} (hS : Sep w (tab3 tg gm wm n m g wt ++ R)) (hgok : GrOk g) (hn : n < 1000000) (hm : m < 1000000) (now c i : Int) (own : Bool) :
    CallsR Try.prog 17 #[.pointer (some ⟨tg, 0, none⟩), .int .i64 now, .int .i64 c, .int .i64 i, .bool own] w fun v w' => ∃ la lc n' m', v = .tuple #[.slice la (askLst g now c i own).length lc, .int .i64 (askE g wt now c i own)] ∧
      Sep w' (ownC 0 3 1 la (askLst g now c i own).length lc ((askLst g now c i own).map iV) :: (tab3 tg gm wm n' m' (askG g wt now c i own) (askW g wt now c i own) ++ R)) ∧ n' ≤ n + 1 ∧ m' ≤ m + 1 :=
  (askT_any (tab3_to hS) hgok hn hm now c i own).mono fun e w' ⟨la, lc, e1, hO, ⟨n', m', q1, q2, hT⟩, ht⟩ => by
    refine ⟨_, e1, la, lc, n', m', rfl, ?_, q1, q2⟩
    have h1 := tab3_turn hS ht (fun k hk => .inr hk) hT
    refine Sep.cons (Own.low hO (Nat.zero_le _)) h1 (fun j d hj b e1 e2 => ?_)
    have hb := (World.ownsRow.lt hO b e1).1
    have hlt : ∀ k, (∃ (j : Nat) (d : Ch), (tab3 tg gm wm n m g wt ++ R)[j]? = some d ∧ d.F k) → k < w.heap.size := fun k ⟨j, d, hj, hd⟩ => d.lt (hS.all j d hj) k hd
    have : b < w.heap.size := by
      rcases Nat.lt_or_ge j 3 with q | q
      · have : j = 0 ∨ j = 1 ∨ j = 2 := by omega
        rcases this with rfl | rfl | rfl
        · cases hj; exact hlt b ⟨0, _, rfl, e2⟩
        · cases hj; exact hlt b ⟨1, _, rfl, e2⟩
        · cases hj; exact hlt b ⟨2, _, rfl, e2⟩
      · rw [List.getElem?_append_right (by show 3 ≤ j; omega)] at hj
        exact hlt b ⟨j, d, by rw [List.getElem?_append_right (by show 3 ≤ j; omega)]; exact hj, e2⟩
    omega
theorem giveT_s {w : World} {tg gm wm n m : Nat} {g : GrF} {wt : WtF} {R : List Ch} (hS : Sep w (tab3 tg gm wm n m g wt ++ R)) {c i : Int} (hk : wfK (c, i)) :
    CallsR Try.prog 21 #[.pointer (some ⟨tg, 0, none⟩), .int .i64 c, .int .i64 i] w fun v w' => v = .int .i64 (if (g (c, i)).isSome = true then 0 else 10) ∧ Sep w' (tab3 tg gm wm n m (updG g (c, i) none) wt ++ R) :=
  (give_any (tab3_to hS) hk).mono fun e w' ⟨e1, hT, ht⟩ => ⟨_, e1, rfl, tab3_turn hS ht (fun k hk => .inr (.inl hk)) hT⟩
theorem dropT_s {w : World} {tg gm wm n m : Nat} {g : GrF} {wt : WtF} {R : List Ch} (hS : Sep w (tab3 tg gm wm n m g wt ++ R)) (c : Int) :
    CallsR Try.prog 18 #[.pointer (some ⟨tg, 0, none⟩), .int .i64 c] w fun v w' => v = .tuple #[] ∧ Sep w' (tab3 tg gm wm n m (dropG c g) (dropW c wt) ++ R) :=
  (dropT_any (tab3_to hS) c).mono fun e w' ⟨e1, hT, ht⟩ => ⟨_, e1, rfl, tab3_turn hS ht (fun k hk => .inr hk) hT⟩
end Go.Proofs.Ytpalgffmdinfpaa
end
section
namespace Go.Proofs.Ytpalgffmdinfpaa
open Go.RowKit
set_option linter.unusedSimpArgs false
set_option linter.unusedVariables false
set_option maxRecDepth 100000

theorem RelL.empty : RelL (fun _ => none) (fun _ => none) (List.replicate 297 (false, false, 0)) (List.replicate 33 0) (List.replicate 33 0) :=
  ⟨⟨by simp, by simp, by simp⟩, fun c i a1 a2 b1 b2 => repl_getD _ _ _, fun i b1 b2 => repl_getD _ _ _⟩
def inR (c i : Int) : Bool := decide (1 ≤ c ∧ c ≤ 8 ∧ 1 ≤ i ∧ i ≤ 32)
theorem inR_iff {c i : Int} : inR c i = true ↔ 1 ≤ c ∧ c ≤ 8 ∧ 1 ≤ i ∧ i ≤ 32 := by unfold inR; rw [decide_eq_true_eq]
theorem hasR_eq {g : GrF} {wt : WtF} {G : List Gr3} {W L : List Int} (h : RelL g wt G W L) {c i : Int} : ((((decide (c ≥ 1) && decide (c ≤ 8)) && decide (i ≥ 1)) && decide (i ≤ 32)) && (G.getD (9 * i + c).toNat (false, false, 0)).1) = (inR c i && (g (c, i)).isSome) := by
  cases hi : inR c i with
  | true =>
    have hi := inR_iff.1 hi
    rw [h.g c i hi.1 hi.2.1 hi.2.2.1 hi.2.2.2]
    have e1 : c ≥ 1 := hi.1
    have e2 : i ≥ 1 := hi.2.2.1
    simp [e1, e2, hi.2.1, hi.2.2.2]
    unfold encG
    cases g (c, i) <;> rfl
  | false =>
    have hn : ¬ (1 ≤ c ∧ c ≤ 8 ∧ 1 ≤ i ∧ i ≤ 32) := fun q => by rw [inR_iff.2 q] at hi; cases hi
    by_cases a1 : c ≥ 1 <;> by_cases a2 : c ≤ 8 <;> by_cases a3 : i ≥ 1 <;> by_cases a4 : i ≤ 32 <;> simp [a1, a2, a3, a4]
    exact absurd ⟨a1, a2, a3, a4⟩ hn
theorem giveQ {g : GrF} {c i : Int} (h : (inR c i && (g (c, i)).isSome) = true) : (if (g (c, i)).isSome = true then (0 : Int) else 10) = 0 ∧ True := ⟨if_pos (andT h).2, trivial⟩
theorem giveQn {g : GrF} (hok : GrOk g) {c i : Int} (h : (inR c i && (g (c, i)).isSome) = false) : (if (g (c, i)).isSome = true then (0 : Int) else 10) = 10 ∧ updG g (c, i) none = g := by
  have hn : g (c, i) = none := by
    cases hg : g (c, i) with
    | none => rfl
    | some a =>
      have := hok _ _ hg
      rw [hg, inR_iff.2 ⟨this.1, this.2.1, this.2.2.1, this.2.2.2⟩] at h; cases h
  refine ⟨by rw [hn]; rfl, ?_⟩
  funext p
  by_cases e : p = (c, i)
  · subst e; rw [updG_same, hn]
  · rw [updG_ne _ _ e]

theorem fa_commonsref19_Table_lc2_0 (g off : Nat) (w : World) : (Instr.fieldAt 43 (.pointer (some ⟨g, off, none⟩)) 0).run Try.prog w = .ok (.pointer (some ⟨g, off + 0, none⟩)) w := rfl
theorem fa_commonsref19_Grant_lc2_0 (g off : Nat) (w : World) : (Instr.fieldAt 58 (.pointer (some ⟨g, off, none⟩)) 0).run Try.prog w = .ok (.pointer (some ⟨g, off + 0, none⟩)) w := rfl
theorem cp_commonsref19_Table_Has_lc3 (args : Array Value) (w : World) : (callFunc 24 args).run Try.prog w = .ok (.enter 24 args) w := by
  have h := Try.func24
  go_simp
theorem fa_commonsref19_Table_lc3_0 (g off : Nat) (w : World) : (Instr.fieldAt 43 (.pointer (some ⟨g, off, none⟩)) 0).run Try.prog w = .ok (.pointer (some ⟨g, off + 0, none⟩)) w := rfl

set_option maxHeartbeats 4000000 in
theorem newR_s {w : World} {R : List Ch} (hS0 : Sep w R) :
    CallsR Try.prog 9 #[] w (fun v w' => ∃ rg gb wb lb G W L, v = .pointer (some ⟨rg, 0, none⟩) ∧ Sep w' ([blkC rg 43 [.slice (some ⟨gb, 0, none⟩) 297 297, .slice (some ⟨wb, 0, none⟩) 33 33, .slice (some ⟨lb, 0, none⟩) 33 33], blkC gb 58 (G.flatMap g3C), blkC wb 3 (W.map iV), blkC lb 3 (L.map iV)] ++ R) ∧ RelL (fun _ => none) (fun _ => none) G W L) := by
  have hS : Sep w [Ch.many R] := Sep.tail_many (xs := []) hS0; clear hS0
  refine enterR Try.func9 rfl (N := 6) Try.ntmps9 (by show 0 ≤ 6; decide) [] rfl fun a2 h1 => ?_
  refine wp_seq_k fun K3 hK3 => ?_
  refine wp_region_lit ?_
  refine sv h1 (wanted_none rfl) rfl rfl rfl (v := .pointer none) (rassign h1 rfl rfl) fun a5 h4 => ?_
  refine wpList_nil ?_
  refine hK3 _ _ ?_
  refine wp_seq_k fun K6 hK6 => ?_
  have s8 := hS.drew
  refine wp_region_held_drew (S := fun w' => Sep w' [Ch.many R]) (by kernel_rfl) s8 (fun hq7 => ?_)
  refine wpAnyH_ready (rs := [0, 1, 2]) (by kernel_rfl) (by simp) (toc rfl (wanted_none rfl) (fun K9 hK9 => ?_) (toc rfl (wanted_none rfl) (fun K9 hK9 => ?_) (toc rfl (wanted_none rfl) (fun K9 hK9 => ?_) AllReadyH.nil)))
  · skip
    refine xmakeS g3C_len (by decide) h4 rfl rfl rfl rfl Try.underlying41 (z := (.agg #[.bool false, .bool false, .int .i64 0])) (n := 297) (by kernel_rfl) (m := (false, false, 0)) rfl rfl rfl (by decide) s8 fun a13 g11 w14 h12 s15 b16 e17 => ?_
    clear b16 e17
    refine hK9 _ _ (s15.pick [1] (by decide) rfl) fun hq10 => ?_
    clear hK9 K9
    refine wpAnyH_ready (rs := [1, 2]) (by kernel_rfl) (by simp) (toc rfl (wanted_none rfl) (fun K18 hK18 => ?_) (toc rfl (wanted_none rfl) (fun K18 hK18 => ?_) AllReadyH.nil))
    · skip
      refine xmakeI h12 rfl rfl rfl rfl Try.underlying38 (n := 33) (by kernel_rfl) rfl rfl (by decide) s15 fun a22 g20 w23 h21 s24 b25 e26 => ?_
      clear b25 e26
      refine hK18 _ _ (s24.pick [2] (by decide) rfl) fun hq19 => ?_
      clear hK18 K18
      refine to_ 2 rfl (wanted_none rfl) (by kernel_rfl) fun K35 hK35 => xmakeI h21 rfl rfl rfl rfl Try.underlying38 (n := 33) (by kernel_rfl) rfl rfl (by decide) s24 fun a30 g28 w31 h29 s32 b33 e34 => ?_
      clear b33 e34
      refine hK35 _ _ (s32.pick [3] (by decide) rfl) fun hq27 => ?_
      clear hK35 K35
      refine tv hq27 h29 3 rfl rfl rfl rfl (by kernel_rfl) (by kernel_rfl) (by kernel_rfl) (fun _ _ _ _ h => h) (wanted_none rfl) (v := .agg #[.slice (some ⟨g11, 0, none⟩) 297 297, .slice (some ⟨g20, 0, none⟩) 33 33, .slice (some ⟨g28, 0, none⟩) 33 33]) (fun w1 _ => (rbuild h29 (xs := [(0, .tmp 1), (1, .tmp 2), (2, .tmp 3)]) rfl (vs := [(0, .slice (some ⟨g11, 0, none⟩) 297 297), (1, .slice (some ⟨g20, 0, none⟩) 33 33), (2, .slice (some ⟨g28, 0, none⟩) 33 33)]) rfl (fun w => by kernel_rfl)) w1) fun a37 h36 => ?_
      refine to_ 4 rfl (wanted_none rfl) (by kernel_rfl) fun K46 hK46 => xbox h36 rfl rfl rfl rfl rfl (z := [.slice (some ⟨g11, 0, none⟩) 297 297, .slice (some ⟨g20, 0, none⟩) 33 33, .slice (some ⟨g28, 0, none⟩) 33 33]) rfl s32 fun a41 g39 w42 h40 s43 b44 e45 => ?_
      clear b44 e45
      refine hK46 _ _ (s43.pick [4] (by decide) rfl) fun hq38 => ?_
      clear hK46 K46
      have h47 := h40.subs (l' := [(5, _), (4, _), (3, _), (2, _), (1, _)]) rfl
      clear h40 h1 h4 h12 h21 h29 h36 a2 a5 a13 a22 a30 a37
      refine tv hq38 h47 5 rfl rfl rfl rfl (by kernel_rfl) (by kernel_rfl) (by kernel_rfl) (fun _ _ _ _ h => h) (wanted_none rfl) (v := .pointer (some ⟨g39, 0, none⟩)) (fun w1 _ => (rassign h47 rfl rfl) w1) fun a49 h48 => ?_
      have h50 := h48.subs (l' := [(0, _)]) rfl
      clear h48 h47 a41
      refine wpAnyH_done (by kernel_rfl) ?_ _
      refine hK6 _ _ ?_
      refine wp_ret ?_
      try simp only [Exit.then, Exit.inBlock]
      refine retR (v := .pointer (some ⟨g39, 0, none⟩)) (res1 h50 rfl rfl) h50.defs ?_
      exact ⟨g39, g11, g20, g28, _, _, _, rfl, Sep.tail_un (xs := [_, _, _, _]) (s43.pick [0, 3, 2, 1, 4] (by decide) rfl), RelL.empty⟩
    · skip
      refine xmakeI h12 rfl rfl rfl rfl Try.underlying38 (n := 33) (by kernel_rfl) rfl rfl (by decide) s15 fun a54 g52 w55 h53 s56 b57 e58 => ?_
      clear b57 e58
      refine hK18 _ _ (s56.pick [2] (by decide) rfl) fun hq51 => ?_
      clear hK18 K18
      refine to_ 1 rfl (wanted_none rfl) (by kernel_rfl) fun K67 hK67 => xmakeI h53 rfl rfl rfl rfl Try.underlying38 (n := 33) (by kernel_rfl) rfl rfl (by decide) s56 fun a62 g60 w63 h61 s64 b65 e66 => ?_
      clear b65 e66
      refine hK67 _ _ (s64.pick [3] (by decide) rfl) fun hq59 => ?_
      clear hK67 K67
      refine tv hq59 h61 3 rfl rfl rfl rfl (by kernel_rfl) (by kernel_rfl) (by kernel_rfl) (fun _ _ _ _ h => h) (wanted_none rfl) (v := .agg #[.slice (some ⟨g11, 0, none⟩) 297 297, .slice (some ⟨g60, 0, none⟩) 33 33, .slice (some ⟨g52, 0, none⟩) 33 33]) (fun w1 _ => (rbuild h61 (xs := [(0, .tmp 1), (1, .tmp 2), (2, .tmp 3)]) rfl (vs := [(0, .slice (some ⟨g11, 0, none⟩) 297 297), (1, .slice (some ⟨g60, 0, none⟩) 33 33), (2, .slice (some ⟨g52, 0, none⟩) 33 33)]) rfl (fun w => by kernel_rfl)) w1) fun a69 h68 => ?_
      refine to_ 4 rfl (wanted_none rfl) (by kernel_rfl) fun K78 hK78 => xbox h68 rfl rfl rfl rfl rfl (z := [.slice (some ⟨g11, 0, none⟩) 297 297, .slice (some ⟨g60, 0, none⟩) 33 33, .slice (some ⟨g52, 0, none⟩) 33 33]) rfl s64 fun a73 g71 w74 h72 s75 b76 e77 => ?_
      clear b76 e77
      refine hK78 _ _ (s75.pick [4] (by decide) rfl) fun hq70 => ?_
      clear hK78 K78
      have h79 := h72.subs (l' := [(5, _), (4, _), (2, _), (3, _), (1, _)]) rfl
      clear h72 h1 h4 h12 h53 h61 h68 a2 a5 a13 a54 a62 a69
      refine tv hq70 h79 5 rfl rfl rfl rfl (by kernel_rfl) (by kernel_rfl) (by kernel_rfl) (fun _ _ _ _ h => h) (wanted_none rfl) (v := .pointer (some ⟨g71, 0, none⟩)) (fun w1 _ => (rassign h79 rfl rfl) w1) fun a81 h80 => ?_
      have h82 := h80.subs (l' := [(0, _)]) rfl
      clear h80 h79 a73
      refine wpAnyH_done (by kernel_rfl) ?_ _
      refine hK6 _ _ ?_
      refine wp_ret ?_
      try simp only [Exit.then, Exit.inBlock]
      refine retR (v := .pointer (some ⟨g71, 0, none⟩)) (res1 h82 rfl rfl) h82.defs ?_
      exact ⟨g71, g11, g60, g52, _, _, _, rfl, Sep.tail_un (xs := [_, _, _, _]) (s75.pick [0, 3, 1, 2, 4] (by decide) rfl), RelL.empty⟩
  · skip
    refine xmakeI h4 rfl rfl rfl rfl Try.underlying38 (n := 33) (by kernel_rfl) rfl rfl (by decide) s8 fun a86 g84 w87 h85 s88 b89 e90 => ?_
    clear b89 e90
    refine hK9 _ _ (s88.pick [1] (by decide) rfl) fun hq83 => ?_
    clear hK9 K9
    refine wpAnyH_ready (rs := [0, 2]) (by kernel_rfl) (by simp) (toc rfl (wanted_none rfl) (fun K91 hK91 => ?_) (toc rfl (wanted_none rfl) (fun K91 hK91 => ?_) AllReadyH.nil))
    · skip
      refine xmakeS g3C_len (by decide) h85 rfl rfl rfl rfl Try.underlying41 (z := (.agg #[.bool false, .bool false, .int .i64 0])) (n := 297) (by kernel_rfl) (m := (false, false, 0)) rfl rfl rfl (by decide) s88 fun a95 g93 w96 h94 s97 b98 e99 => ?_
      clear b98 e99
      refine hK91 _ _ (s97.pick [2] (by decide) rfl) fun hq92 => ?_
      clear hK91 K91
      refine to_ 2 rfl (wanted_none rfl) (by kernel_rfl) fun K108 hK108 => xmakeI h94 rfl rfl rfl rfl Try.underlying38 (n := 33) (by kernel_rfl) rfl rfl (by decide) s97 fun a103 g101 w104 h102 s105 b106 e107 => ?_
      clear b106 e107
      refine hK108 _ _ (s105.pick [3] (by decide) rfl) fun hq100 => ?_
      clear hK108 K108
      refine tv hq100 h102 3 rfl rfl rfl rfl (by kernel_rfl) (by kernel_rfl) (by kernel_rfl) (fun _ _ _ _ h => h) (wanted_none rfl) (v := .agg #[.slice (some ⟨g93, 0, none⟩) 297 297, .slice (some ⟨g84, 0, none⟩) 33 33, .slice (some ⟨g101, 0, none⟩) 33 33]) (fun w1 _ => (rbuild h102 (xs := [(0, .tmp 1), (1, .tmp 2), (2, .tmp 3)]) rfl (vs := [(0, .slice (some ⟨g93, 0, none⟩) 297 297), (1, .slice (some ⟨g84, 0, none⟩) 33 33), (2, .slice (some ⟨g101, 0, none⟩) 33 33)]) rfl (fun w => by kernel_rfl)) w1) fun a110 h109 => ?_
      refine to_ 4 rfl (wanted_none rfl) (by kernel_rfl) fun K119 hK119 => xbox h109 rfl rfl rfl rfl rfl (z := [.slice (some ⟨g93, 0, none⟩) 297 297, .slice (some ⟨g84, 0, none⟩) 33 33, .slice (some ⟨g101, 0, none⟩) 33 33]) rfl s105 fun a114 g112 w115 h113 s116 b117 e118 => ?_
      clear b117 e118
      refine hK119 _ _ (s116.pick [4] (by decide) rfl) fun hq111 => ?_
      clear hK119 K119
      have h120 := h113.subs (l' := [(5, _), (4, _), (3, _), (1, _), (2, _)]) rfl
      clear h113 h1 h4 h85 h94 h102 h109 a2 a5 a86 a95 a103 a110
      refine tv hq111 h120 5 rfl rfl rfl rfl (by kernel_rfl) (by kernel_rfl) (by kernel_rfl) (fun _ _ _ _ h => h) (wanted_none rfl) (v := .pointer (some ⟨g112, 0, none⟩)) (fun w1 _ => (rassign h120 rfl rfl) w1) fun a122 h121 => ?_
      have h123 := h121.subs (l' := [(0, _)]) rfl
      clear h121 h120 a114
      refine wpAnyH_done (by kernel_rfl) ?_ _
      refine hK6 _ _ ?_
      refine wp_ret ?_
      try simp only [Exit.then, Exit.inBlock]
      refine retR (v := .pointer (some ⟨g112, 0, none⟩)) (res1 h123 rfl rfl) h123.defs ?_
      exact ⟨g112, g93, g84, g101, _, _, _, rfl, Sep.tail_un (xs := [_, _, _, _]) (s116.pick [0, 2, 3, 1, 4] (by decide) rfl), RelL.empty⟩
    · skip
      refine xmakeI h85 rfl rfl rfl rfl Try.underlying38 (n := 33) (by kernel_rfl) rfl rfl (by decide) s88 fun a127 g125 w128 h126 s129 b130 e131 => ?_
      clear b130 e131
      refine hK91 _ _ (s129.pick [2] (by decide) rfl) fun hq124 => ?_
      clear hK91 K91
      refine to_ 0 rfl (wanted_none rfl) (by kernel_rfl) fun K140 hK140 => xmakeS g3C_len (by decide) h126 rfl rfl rfl rfl Try.underlying41 (z := (.agg #[.bool false, .bool false, .int .i64 0])) (n := 297) (by kernel_rfl) (m := (false, false, 0)) rfl rfl rfl (by decide) s129 fun a135 g133 w136 h134 s137 b138 e139 => ?_
      clear b138 e139
      refine hK140 _ _ (s137.pick [3] (by decide) rfl) fun hq132 => ?_
      clear hK140 K140
      refine tv hq132 h134 3 rfl rfl rfl rfl (by kernel_rfl) (by kernel_rfl) (by kernel_rfl) (fun _ _ _ _ h => h) (wanted_none rfl) (v := .agg #[.slice (some ⟨g133, 0, none⟩) 297 297, .slice (some ⟨g84, 0, none⟩) 33 33, .slice (some ⟨g125, 0, none⟩) 33 33]) (fun w1 _ => (rbuild h134 (xs := [(0, .tmp 1), (1, .tmp 2), (2, .tmp 3)]) rfl (vs := [(0, .slice (some ⟨g133, 0, none⟩) 297 297), (1, .slice (some ⟨g84, 0, none⟩) 33 33), (2, .slice (some ⟨g125, 0, none⟩) 33 33)]) rfl (fun w => by kernel_rfl)) w1) fun a142 h141 => ?_
      refine to_ 4 rfl (wanted_none rfl) (by kernel_rfl) fun K151 hK151 => xbox h141 rfl rfl rfl rfl rfl (z := [.slice (some ⟨g133, 0, none⟩) 297 297, .slice (some ⟨g84, 0, none⟩) 33 33, .slice (some ⟨g125, 0, none⟩) 33 33]) rfl s137 fun a146 g144 w147 h145 s148 b149 e150 => ?_
      clear b149 e150
      refine hK151 _ _ (s148.pick [4] (by decide) rfl) fun hq143 => ?_
      clear hK151 K151
      have h152 := h145.subs (l' := [(5, _), (4, _), (1, _), (3, _), (2, _)]) rfl
      clear h145 h1 h4 h85 h126 h134 h141 a2 a5 a86 a127 a135 a142
      refine tv hq143 h152 5 rfl rfl rfl rfl (by kernel_rfl) (by kernel_rfl) (by kernel_rfl) (fun _ _ _ _ h => h) (wanted_none rfl) (v := .pointer (some ⟨g144, 0, none⟩)) (fun w1 _ => (rassign h152 rfl rfl) w1) fun a154 h153 => ?_
      have h155 := h153.subs (l' := [(0, _)]) rfl
      clear h153 h152 a146
      refine wpAnyH_done (by kernel_rfl) ?_ _
      refine hK6 _ _ ?_
      refine wp_ret ?_
      try simp only [Exit.then, Exit.inBlock]
      refine retR (v := .pointer (some ⟨g144, 0, none⟩)) (res1 h155 rfl rfl) h155.defs ?_
      exact ⟨g144, g133, g84, g125, _, _, _, rfl, Sep.tail_un (xs := [_, _, _, _]) (s148.pick [0, 1, 3, 2, 4] (by decide) rfl), RelL.empty⟩
  · skip
    refine xmakeI h4 rfl rfl rfl rfl Try.underlying38 (n := 33) (by kernel_rfl) rfl rfl (by decide) s8 fun a159 g157 w160 h158 s161 b162 e163 => ?_
    clear b162 e163
    refine hK9 _ _ (s161.pick [1] (by decide) rfl) fun hq156 => ?_
    clear hK9 K9
    refine wpAnyH_ready (rs := [0, 1]) (by kernel_rfl) (by simp) (toc rfl (wanted_none rfl) (fun K164 hK164 => ?_) (toc rfl (wanted_none rfl) (fun K164 hK164 => ?_) AllReadyH.nil))
    · skip
      refine xmakeS g3C_len (by decide) h158 rfl rfl rfl rfl Try.underlying41 (z := (.agg #[.bool false, .bool false, .int .i64 0])) (n := 297) (by kernel_rfl) (m := (false, false, 0)) rfl rfl rfl (by decide) s161 fun a168 g166 w169 h167 s170 b171 e172 => ?_
      clear b171 e172
      refine hK164 _ _ (s170.pick [2] (by decide) rfl) fun hq165 => ?_
      clear hK164 K164
      refine to_ 1 rfl (wanted_none rfl) (by kernel_rfl) fun K181 hK181 => xmakeI h167 rfl rfl rfl rfl Try.underlying38 (n := 33) (by kernel_rfl) rfl rfl (by decide) s170 fun a176 g174 w177 h175 s178 b179 e180 => ?_
      clear b179 e180
      refine hK181 _ _ (s178.pick [3] (by decide) rfl) fun hq173 => ?_
      clear hK181 K181
      refine tv hq173 h175 3 rfl rfl rfl rfl (by kernel_rfl) (by kernel_rfl) (by kernel_rfl) (fun _ _ _ _ h => h) (wanted_none rfl) (v := .agg #[.slice (some ⟨g166, 0, none⟩) 297 297, .slice (some ⟨g174, 0, none⟩) 33 33, .slice (some ⟨g157, 0, none⟩) 33 33]) (fun w1 _ => (rbuild h175 (xs := [(0, .tmp 1), (1, .tmp 2), (2, .tmp 3)]) rfl (vs := [(0, .slice (some ⟨g166, 0, none⟩) 297 297), (1, .slice (some ⟨g174, 0, none⟩) 33 33), (2, .slice (some ⟨g157, 0, none⟩) 33 33)]) rfl (fun w => by kernel_rfl)) w1) fun a183 h182 => ?_
      refine to_ 4 rfl (wanted_none rfl) (by kernel_rfl) fun K192 hK192 => xbox h182 rfl rfl rfl rfl rfl (z := [.slice (some ⟨g166, 0, none⟩) 297 297, .slice (some ⟨g174, 0, none⟩) 33 33, .slice (some ⟨g157, 0, none⟩) 33 33]) rfl s178 fun a187 g185 w188 h186 s189 b190 e191 => ?_
      clear b190 e191
      refine hK192 _ _ (s189.pick [4] (by decide) rfl) fun hq184 => ?_
      clear hK192 K192
      have h193 := h186.subs (l' := [(5, _), (4, _), (2, _), (1, _), (3, _)]) rfl
      clear h186 h1 h4 h158 h167 h175 h182 a2 a5 a159 a168 a176 a183
      refine tv hq184 h193 5 rfl rfl rfl rfl (by kernel_rfl) (by kernel_rfl) (by kernel_rfl) (fun _ _ _ _ h => h) (wanted_none rfl) (v := .pointer (some ⟨g185, 0, none⟩)) (fun w1 _ => (rassign h193 rfl rfl) w1) fun a195 h194 => ?_
      have h196 := h194.subs (l' := [(0, _)]) rfl
      clear h194 h193 a187
      refine wpAnyH_done (by kernel_rfl) ?_ _
      refine hK6 _ _ ?_
      refine wp_ret ?_
      try simp only [Exit.then, Exit.inBlock]
      refine retR (v := .pointer (some ⟨g185, 0, none⟩)) (res1 h196 rfl rfl) h196.defs ?_
      exact ⟨g185, g166, g174, g157, _, _, _, rfl, Sep.tail_un (xs := [_, _, _, _]) (s189.pick [0, 2, 1, 3, 4] (by decide) rfl), RelL.empty⟩
    · skip
      refine xmakeI h158 rfl rfl rfl rfl Try.underlying38 (n := 33) (by kernel_rfl) rfl rfl (by decide) s161 fun a200 g198 w201 h199 s202 b203 e204 => ?_
      clear b203 e204
      refine hK164 _ _ (s202.pick [2] (by decide) rfl) fun hq197 => ?_
      clear hK164 K164
      refine to_ 0 rfl (wanted_none rfl) (by kernel_rfl) fun K213 hK213 => xmakeS g3C_len (by decide) h199 rfl rfl rfl rfl Try.underlying41 (z := (.agg #[.bool false, .bool false, .int .i64 0])) (n := 297) (by kernel_rfl) (m := (false, false, 0)) rfl rfl rfl (by decide) s202 fun a208 g206 w209 h207 s210 b211 e212 => ?_
      clear b211 e212
      refine hK213 _ _ (s210.pick [3] (by decide) rfl) fun hq205 => ?_
      clear hK213 K213
      refine tv hq205 h207 3 rfl rfl rfl rfl (by kernel_rfl) (by kernel_rfl) (by kernel_rfl) (fun _ _ _ _ h => h) (wanted_none rfl) (v := .agg #[.slice (some ⟨g206, 0, none⟩) 297 297, .slice (some ⟨g198, 0, none⟩) 33 33, .slice (some ⟨g157, 0, none⟩) 33 33]) (fun w1 _ => (rbuild h207 (xs := [(0, .tmp 1), (1, .tmp 2), (2, .tmp 3)]) rfl (vs := [(0, .slice (some ⟨g206, 0, none⟩) 297 297), (1, .slice (some ⟨g198, 0, none⟩) 33 33), (2, .slice (some ⟨g157, 0, none⟩) 33 33)]) rfl (fun w => by kernel_rfl)) w1) fun a215 h214 => ?_
      refine to_ 4 rfl (wanted_none rfl) (by kernel_rfl) fun K224 hK224 => xbox h214 rfl rfl rfl rfl rfl (z := [.slice (some ⟨g206, 0, none⟩) 297 297, .slice (some ⟨g198, 0, none⟩) 33 33, .slice (some ⟨g157, 0, none⟩) 33 33]) rfl s210 fun a219 g217 w220 h218 s221 b222 e223 => ?_
      clear b222 e223
      refine hK224 _ _ (s221.pick [4] (by decide) rfl) fun hq216 => ?_
      clear hK224 K224
      have h225 := h218.subs (l' := [(5, _), (4, _), (1, _), (2, _), (3, _)]) rfl
      clear h218 h1 h4 h158 h199 h207 h214 a2 a5 a159 a200 a208 a215
      refine tv hq216 h225 5 rfl rfl rfl rfl (by kernel_rfl) (by kernel_rfl) (by kernel_rfl) (fun _ _ _ _ h => h) (wanted_none rfl) (v := .pointer (some ⟨g217, 0, none⟩)) (fun w1 _ => (rassign h225 rfl rfl) w1) fun a227 h226 => ?_
      have h228 := h226.subs (l' := [(0, _)]) rfl
      clear h226 h225 a219
      refine wpAnyH_done (by kernel_rfl) ?_ _
      refine hK6 _ _ ?_
      refine wp_ret ?_
      try simp only [Exit.then, Exit.inBlock]
      refine retR (v := .pointer (some ⟨g217, 0, none⟩)) (res1 h228 rfl rfl) h228.defs ?_
      exact ⟨g217, g206, g198, g157, _, _, _, rfl, Sep.tail_un (xs := [_, _, _, _]) s221, RelL.empty⟩

set_option maxHeartbeats 4000000 in
theorem hasR_s {w : World} {rg gb wb lb : Nat} {g : GrF} {wt : WtF} {G : List Gr3} {W L : List Int} {R : List Ch} {c i : Int} (hS0 : Sep w ([blkC rg 43 [.slice (some ⟨gb, 0, none⟩) 297 297, .slice (some ⟨wb, 0, none⟩) 33 33, .slice (some ⟨lb, 0, none⟩) 33 33], blkC gb 58 (G.flatMap g3C), blkC wb 3 (W.map iV), blkC lb 3 (L.map iV)] ++ R)) (hR : RelL g wt G W L) (hcw : -9223372036854775808 ≤ c ∧ c ≤ 9223372036854775807) (hiw : -9223372036854775808 ≤ i ∧ i ≤ 9223372036854775807) :
    CallsR Try.prog 24 #[.pointer (some ⟨rg, 0, none⟩), .int .i64 c, .int .i64 i] w (fun v w' => v = .bool (inR c i && (g (c, i)).isSome) ∧ Sep w' ([blkC rg 43 [.slice (some ⟨gb, 0, none⟩) 297 297, .slice (some ⟨wb, 0, none⟩) 33 33, .slice (some ⟨lb, 0, none⟩) 33 33], blkC gb 58 (G.flatMap g3C), blkC wb 3 (W.map iV), blkC lb 3 (L.map iV)] ++ R)) := by
  have hS : Sep w [blkC rg 43 [.slice (some ⟨gb, 0, none⟩) 297 297, .slice (some ⟨wb, 0, none⟩) 33 33, .slice (some ⟨lb, 0, none⟩) 33 33], blkC gb 58 (G.flatMap g3C), blkC wb 3 (W.map iV), blkC lb 3 (L.map iV), Ch.many R] := Sep.tail_many (xs := [_, _, _, _]) hS0; clear hS0; obtain ⟨hG, hW, hL⟩ := hR.n
  refine enterR Try.func24 rfl (N := 34) Try.ntmps24 (by show 3 ≤ 34; decide) [(0, .pointer (some ⟨rg, 0, none⟩)), (1, .int .i64 c), (2, .int .i64 i)] rfl fun a2 h1 => ?_
  refine wp_seq_k fun K3 hK3 => ?_
  refine wp_region_lit ?_
  refine sv h1 (wanted_none rfl) rfl rfl rfl (v := .bool false) (rassign h1 rfl rfl) fun a5 h4 => ?_
  refine wpList_nil ?_
  refine hK3 _ _ ?_
  refine wp_seq_k fun K6 hK6 => ?_
  refine wp_region_lit ?_
  refine sv h4 (wanted_none rfl) rfl rfl rfl (v := .int .i64 c) (rmove h4 rfl rfl) fun a8 h7 => ?_
  refine sv h7 (wanted_none rfl) rfl rfl rfl (v := .bool (decide (c ≥ 1))) (rbin h7 rfl rfl rfl (cGe _ _ _ _ rfl)) fun a10 h9 => ?_
  refine sv h9 (wanted_none rfl) rfl rfl rfl (v := .bool (decide (c ≥ 1))) (rmove h9 rfl rfl) fun a12 h11 => ?_
  refine sg h11 (wT h11 rfl rfl rfl) rfl rfl rfl (v := .int .i64 c) (fun hC13 => by have hq := (of_decide_eq_true hC13); exact (rmove h11 rfl rfl) _) fun a15 h14 => ?_
  refine sg h14 (wT h14 rfl rfl rfl) rfl rfl rfl (v := .bool (decide (c ≤ 8))) (fun hC16 => by have hq := (of_decide_eq_true hC16); exact (rbin h14 rfl (opg rfl hC16) rfl (cLe _ _ _ _ rfl)) _) fun a18 h17 => ?_
  refine sv h17 (wanted_none rfl) rfl rfl rfl (v := .bool ((decide (c ≥ 1)) && (decide (c ≤ 8)))) (rpickA h17 rfl (E := (decide (c ≥ 1))) (F := (decide (c ≤ 8))) rfl rfl rfl (fun e => if_pos (by rw [e]; try rfl))) fun a20 h19 => ?_
  refine sv h19 (wanted_none rfl) rfl rfl rfl (v := .bool ((decide (c ≥ 1)) && (decide (c ≤ 8)))) (rmove h19 rfl rfl) fun a22 h21 => ?_
  refine sg h21 (wT h21 rfl rfl rfl) rfl rfl rfl (v := .int .i64 i) (fun hC23 => by have hq := (And.intro (of_decide_eq_true (andT hC23).1) (of_decide_eq_true (andT hC23).2)); exact (rmove h21 rfl rfl) _) fun a25 h24 => ?_
  refine sg h24 (wT h24 rfl rfl rfl) rfl rfl rfl (v := .bool (decide (i ≥ 1))) (fun hC26 => by have hq := (And.intro (of_decide_eq_true (andT hC26).1) (of_decide_eq_true (andT hC26).2)); exact (rbin h24 rfl (opg rfl hC26) rfl (cGe _ _ _ _ rfl)) _) fun a28 h27 => ?_
  refine sv h27 (wanted_none rfl) rfl rfl rfl (v := .bool (((decide (c ≥ 1)) && (decide (c ≤ 8))) && (decide (i ≥ 1)))) (rpickA h27 rfl (E := ((decide (c ≥ 1)) && (decide (c ≤ 8)))) (F := (decide (i ≥ 1))) rfl rfl rfl (fun e => if_pos (by rw [e]; try rfl))) fun a30 h29 => ?_
  refine sv h29 (wanted_none rfl) rfl rfl rfl (v := .bool (((decide (c ≥ 1)) && (decide (c ≤ 8))) && (decide (i ≥ 1)))) (rmove h29 rfl rfl) fun a32 h31 => ?_
  refine sg h31 (wT h31 rfl rfl rfl) rfl rfl rfl (v := .int .i64 i) (fun hC33 => by have hq := (And.intro (And.intro (of_decide_eq_true (andT (andT hC33).1).1) (of_decide_eq_true (andT (andT hC33).1).2)) (of_decide_eq_true (andT hC33).2)); exact (rmove h31 rfl rfl) _) fun a35 h34 => ?_
  refine sg h34 (wT h34 rfl rfl rfl) rfl rfl rfl (v := .bool (decide (i ≤ 32))) (fun hC36 => by have hq := (And.intro (And.intro (of_decide_eq_true (andT (andT hC36).1).1) (of_decide_eq_true (andT (andT hC36).1).2)) (of_decide_eq_true (andT hC36).2)); exact (rbin h34 rfl (opg rfl hC36) rfl (cLe _ _ _ _ rfl)) _) fun a38 h37 => ?_
  refine sv h37 (wanted_none rfl) rfl rfl rfl (v := .bool ((((decide (c ≥ 1)) && (decide (c ≤ 8))) && (decide (i ≥ 1))) && (decide (i ≤ 32)))) (rpickA h37 rfl (E := (((decide (c ≥ 1)) && (decide (c ≤ 8))) && (decide (i ≥ 1)))) (F := (decide (i ≤ 32))) rfl rfl rfl (fun e => if_pos (by rw [e]; try rfl))) fun a40 h39 => ?_
  refine sv h39 (wanted_none rfl) rfl rfl rfl (v := .bool ((((decide (c ≥ 1)) && (decide (c ≤ 8))) && (decide (i ≥ 1))) && (decide (i ≤ 32)))) (rmove h39 rfl rfl) fun a42 h41 => ?_
  refine sg h41 (wT h41 rfl rfl rfl) rfl rfl rfl (v := .pointer (some ⟨rg, 0, none⟩)) (fun hC43 => by have hq := (And.intro (And.intro (And.intro (of_decide_eq_true (andT (andT (andT hC43).1).1).1) (of_decide_eq_true (andT (andT (andT hC43).1).1).2)) (of_decide_eq_true (andT (andT hC43).1).2)) (of_decide_eq_true (andT hC43).2)); exact (rmove h41 rfl rfl) _) fun a45 h44 => ?_
  refine sg h44 (wT h44 rfl rfl rfl) rfl rfl rfl (v := .pointer (some ⟨rg, 0, none⟩)) (fun hC46 => by have hq := (And.intro (And.intro (And.intro (of_decide_eq_true (andT (andT (andT hC46).1).1).1) (of_decide_eq_true (andT (andT (andT hC46).1).1).2)) (of_decide_eq_true (andT (andT hC46).1).2)) (of_decide_eq_true (andT hC46).2)); exact (rnil h44 rfl (opg rfl hC46)) _) fun a48 h47 => ?_
  refine sg h47 (wT h47 rfl rfl rfl) rfl rfl rfl (v := .pointer (some ⟨rg, 0, none⟩)) (fun hC49 => by have hq := (And.intro (And.intro (And.intro (of_decide_eq_true (andT (andT (andT hC49).1).1).1) (of_decide_eq_true (andT (andT (andT hC49).1).1).2)) (of_decide_eq_true (andT (andT hC49).1).2)) (of_decide_eq_true (andT hC49).2)); exact (rfa h47 rfl (opg rfl hC49) (fun w => fa_commonsref19_Table_lc2_0 rg 0 w)) _) fun a51 h50 => ?_
  refine sg h50 (wT h50 rfl rfl rfl) rfl rfl rfl (v := .slice (some ⟨gb, 0, none⟩) 297 297) (fun hC52 => by have hq := (And.intro (And.intro (And.intro (of_decide_eq_true (andT (andT (andT hC52).1).1).1) (of_decide_eq_true (andT (andT (andT hC52).1).1).2)) (of_decide_eq_true (andT (andT hC52).1).2)) (of_decide_eq_true (andT hC52).2)); exact (rld h50 rfl (opg rfl hC52) (ldB Try.underlying41 rfl (hS.get 0 rfl : Blk _ _ _ _) rfl))) fun a54 h53 => ?_
  refine sg h53 (wT h53 rfl rfl rfl) rfl rfl rfl (v := .int .i64 i) (fun hC55 => by have hq := (And.intro (And.intro (And.intro (of_decide_eq_true (andT (andT (andT hC55).1).1).1) (of_decide_eq_true (andT (andT (andT hC55).1).1).2)) (of_decide_eq_true (andT (andT hC55).1).2)) (of_decide_eq_true (andT hC55).2)); exact (rmove h53 rfl rfl) _) fun a57 h56 => ?_
  refine sg h56 (wT h56 rfl rfl rfl) rfl rfl rfl (v := .int .i64 (9 * i)) (fun hC58 => by have hq := (And.intro (And.intro (And.intro (of_decide_eq_true (andT (andT (andT hC58).1).1).1) (of_decide_eq_true (andT (andT (andT hC58).1).1).2)) (of_decide_eq_true (andT (andT hC58).1).2)) (of_decide_eq_true (andT hC58).2)); exact (rbin h56 rfl rfl (opg rfl hC58) (bMul _ _ _ (by omega) (by omega) (by omega))) _) fun a60 h59 => ?_
  refine sg h59 (wT h59 rfl rfl rfl) rfl rfl rfl (v := .int .i64 c) (fun hC61 => by have hq := (And.intro (And.intro (And.intro (of_decide_eq_true (andT (andT (andT hC61).1).1).1) (of_decide_eq_true (andT (andT (andT hC61).1).1).2)) (of_decide_eq_true (andT (andT hC61).1).2)) (of_decide_eq_true (andT hC61).2)); exact (rmove h59 rfl rfl) _) fun a63 h62 => ?_
  refine sg h62 (wT h62 rfl rfl rfl) rfl rfl rfl (v := .int .i64 (9 * i + c)) (fun hC64 => by have hq := (And.intro (And.intro (And.intro (of_decide_eq_true (andT (andT (andT hC64).1).1).1) (of_decide_eq_true (andT (andT (andT hC64).1).1).2)) (of_decide_eq_true (andT (andT hC64).1).2)) (of_decide_eq_true (andT hC64).2)); exact (rbin h62 rfl (opg rfl hC64) (opg rfl hC64) (bAdd _ _ _ (by omega) (by omega) (by omega))) _) fun a66 h65 => ?_
  refine sg h65 (wT h65 rfl rfl rfl) rfl rfl rfl (v := .pointer (some ⟨gb, ((9 * i + c).toNat) * 3, none⟩)) (fun hC67 => by have hq := (And.intro (And.intro (And.intro (of_decide_eq_true (andT (andT (andT hC67).1).1).1) (of_decide_eq_true (andT (andT (andT hC67).1).1).2)) (of_decide_eq_true (andT (andT hC67).1).2)) (of_decide_eq_true (andT hC67).2)); exact (rindexA h65 rfl (opg rfl hC67) (opg rfl hC67) (fun w => ixS Try.underlying41 (by kernel_rfl) (sz := 3) (j := (9 * i + c).toNat) (by omega) (by omega) rfl w)) _) fun a69 h68 => ?_
  refine sg h68 (wT h68 rfl rfl rfl) rfl rfl rfl (v := .pointer (some ⟨gb, ((9 * i + c).toNat) * 3 + 0, none⟩)) (fun hC70 => by have hq := (And.intro (And.intro (And.intro (of_decide_eq_true (andT (andT (andT hC70).1).1).1) (of_decide_eq_true (andT (andT (andT hC70).1).1).2)) (of_decide_eq_true (andT (andT hC70).1).2)) (of_decide_eq_true (andT hC70).2)); exact (rfa h68 rfl (opg rfl hC70) (fun w => fa_commonsref19_Grant_lc2_0 gb (((9 * i + c).toNat) * 3) w)) _) fun a72 h71 => ?_
  refine sg h71 (wT h71 rfl rfl rfl) rfl rfl rfl (v := .bool ((G.getD ((9 * i + c).toNat) (false, false, 0)).1)) (fun hC73 => by have hq := (And.intro (And.intro (And.intro (of_decide_eq_true (andT (andT (andT hC73).1).1).1) (of_decide_eq_true (andT (andT (andT hC73).1).1).2)) (of_decide_eq_true (andT (andT hC73).1).2)) (of_decide_eq_true (andT hC73).2)); exact (rld h71 rfl (opg rfl hC73) (ldB Try.underlying4 rfl (hS.get 1 rfl : Blk _ _ _ _) ((ls_get g3C_len (j := ((9 * i + c).toNat)) (k := 0) (false, false, 0) (by omega) (by decide) rfl).trans rfl)))) fun a75 h74 => ?_
  refine sv h74 (wanted_none rfl) rfl rfl rfl (v := .bool (((((decide (c ≥ 1)) && (decide (c ≤ 8))) && (decide (i ≥ 1))) && (decide (i ≤ 32))) && ((G.getD ((9 * i + c).toNat) (false, false, 0)).1))) (rpickA h74 rfl (E := ((((decide (c ≥ 1)) && (decide (c ≤ 8))) && (decide (i ≥ 1))) && (decide (i ≤ 32)))) (F := ((G.getD ((9 * i + c).toNat) (false, false, 0)).1)) rfl rfl rfl (fun e => if_pos (by rw [e]; try rfl))) fun a77 h76 => ?_
  have h78 := h76.subs (l' := [(33, _), (32, _), (31, _), (30, _), (29, _), (28, _), (27, _), (26, _), (25, _), (24, _), (23, _), (22, _), (21, _), (20, _), (19, _), (18, _), (17, _), (16, _), (15, _), (14, _), (13, _), (12, _), (11, _), (10, _), (9, _), (8, _), (7, _), (0, _), (1, _), (2, _)]) rfl
  clear h76 h1 h4 h7 h9 h11 h14 h17 h19 h21 h24 h27 h29 h31 h34 h37 h39 h41 h44 h47 h50 h53 h56 h59 h62 h65 h68 h71 h74 a2 a5 a8 a10 a12 a15 a18 a20 a22 a25 a28 a30 a32 a35 a38 a40 a42 a45 a48 a51 a54 a57 a60 a63 a66 a69 a72 a75
  refine sv h78 (wanted_none rfl) rfl rfl rfl (v := .bool (((((decide (c ≥ 1)) && (decide (c ≤ 8))) && (decide (i ≥ 1))) && (decide (i ≤ 32))) && ((G.getD ((9 * i + c).toNat) (false, false, 0)).1))) (rassign h78 rfl rfl) fun a80 h79 => ?_
  have h81 := h79.subs (l' := [(6, _), (0, _), (1, _), (2, _)]) rfl
  clear h79 h78 a77
  refine wpList_nil ?_
  refine hK6 _ _ ?_
  refine wp_ret ?_
  try simp only [Exit.then, Exit.inBlock]
  refine retR (v := .bool (((((decide (c ≥ 1)) && (decide (c ≤ 8))) && (decide (i ≥ 1))) && (decide (i ≤ 32))) && ((G.getD ((9 * i + c).toNat) (false, false, 0)).1))) (res1 h81 rfl rfl) h81.defs ?_
  exact ⟨by rw [hasR_eq hR], Sep.tail_un (xs := [_, _, _, _]) hS⟩

set_option maxHeartbeats 4000000 in
theorem giveR_s {w : World} {rg gb wb lb : Nat} {g : GrF} {wt : WtF} {G : List Gr3} {W L : List Int} {R : List Ch} {c i : Int} (hS0 : Sep w ([blkC rg 43 [.slice (some ⟨gb, 0, none⟩) 297 297, .slice (some ⟨wb, 0, none⟩) 33 33, .slice (some ⟨lb, 0, none⟩) 33 33], blkC gb 58 (G.flatMap g3C), blkC wb 3 (W.map iV), blkC lb 3 (L.map iV)] ++ R)) (hR : RelL g wt G W L) (hok : GrOk g) (hcw : -9223372036854775808 ≤ c ∧ c ≤ 9223372036854775807) (hiw : -9223372036854775808 ≤ i ∧ i ≤ 9223372036854775807) :
    CallsR Try.prog 22 #[.pointer (some ⟨rg, 0, none⟩), .int .i64 c, .int .i64 i] w (fun v w' => ∃ G' W' L', v = .int .i64 (if (g (c, i)).isSome = true then 0 else 10) ∧ Sep w' ([blkC rg 43 [.slice (some ⟨gb, 0, none⟩) 297 297, .slice (some ⟨wb, 0, none⟩) 33 33, .slice (some ⟨lb, 0, none⟩) 33 33], blkC gb 58 (G'.flatMap g3C), blkC wb 3 (W'.map iV), blkC lb 3 (L'.map iV)] ++ R) ∧ RelL (updG g (c, i) none) wt G' W' L') := by
  have hS : Sep w [blkC rg 43 [.slice (some ⟨gb, 0, none⟩) 297 297, .slice (some ⟨wb, 0, none⟩) 33 33, .slice (some ⟨lb, 0, none⟩) 33 33], blkC gb 58 (G.flatMap g3C), blkC wb 3 (W.map iV), blkC lb 3 (L.map iV), Ch.many R] := Sep.tail_many (xs := [_, _, _, _]) hS0; clear hS0; obtain ⟨hG, hW, hL⟩ := hR.n
  refine enterR Try.func22 rfl (N := 24) Try.ntmps22 (by show 3 ≤ 24; decide) [(0, .pointer (some ⟨rg, 0, none⟩)), (1, .int .i64 c), (2, .int .i64 i)] rfl fun a2 h1 => ?_
  refine wp_seq_k fun K3 hK3 => ?_
  refine wp_region_lit ?_
  refine sv h1 (wanted_none rfl) rfl rfl rfl (v := .int .i64 0) (rassign h1 rfl rfl) fun a5 h4 => ?_
  refine wpList_nil ?_
  refine hK3 _ _ ?_
  refine wp_seq_k fun K6 hK6 => ?_
  refine wp_region_lit ?_
  refine sv h4 (wanted_none rfl) rfl rfl rfl (v := .pointer (some ⟨rg, 0, none⟩)) (rmove h4 rfl rfl) fun a8 h7 => ?_
  refine sv h7 (wanted_none rfl) rfl rfl rfl (v := .int .i64 c) (rmove h7 rfl rfl) fun a10 h9 => ?_
  refine sv h9 (wanted_none rfl) rfl rfl rfl (v := .int .i64 i) (rmove h9 rfl rfl) fun a12 h11 => ?_
  refine so (wanted_none rfl) fun K19 hK19 => xcall h11 rfl rfl rfl (xs := [.tmp 8, .tmp 9, .tmp 10]) rfl cp_commonsref19_Table_Has_lc3 rfl (vs := [.pointer (some ⟨rg, 0, none⟩), .int .i64 c, .int .i64 i]) rfl (args := #[.pointer (some ⟨rg, 0, none⟩), .int .i64 c, .int .i64 i]) rfl (hasR_s (R := [Ch.many R]) (hS : Sep _ [blkC rg 43 [.slice (some ⟨gb, 0, none⟩) 297 297, .slice (some ⟨wb, 0, none⟩) 33 33, .slice (some ⟨lb, 0, none⟩) 33 33], blkC gb 58 (G.flatMap g3C), blkC wb 3 (W.map iV), blkC lb 3 (L.map iV), Ch.many R]) hR hcw hiw) fun a14 v15 w16 r17 h13 => hK19 _ _ ?_
  clear hK19 K19
  obtain ⟨rfl, s18⟩ := r17
  refine sv h13 (wanted_none rfl) rfl rfl rfl (v := .bool ((inR c i) && ((g (c, i)).isSome))) (rassign h13 rfl rfl) fun a21 h20 => ?_
  have h22 := h20.subs (l' := [(7, _), (6, _), (0, _), (1, _), (2, _)]) rfl
  clear h20 h1 h4 h7 h9 h11 h13 a2 a5 a8 a10 a12 a14
  refine wpList_nil ?_
  refine hK6 _ _ ?_
  refine wp_seq_k fun K23 hK23 => ?_
  refine wp_seq_k fun K24 hK24 => ?_
  refine wp_region_lit ?_
  refine sv h22 (wanted_none rfl) rfl rfl rfl (v := .bool ((inR c i) && ((g (c, i)).isSome))) (rmove h22 rfl rfl) fun a26 h25 => ?_
  refine sv h25 (wanted_none rfl) rfl rfl rfl (v := .bool (!((inR c i) && ((g (c, i)).isSome)))) (rnot h25 rfl (b := ((inR c i) && ((g (c, i)).isSome))) rfl) fun a28 h27 => ?_
  have h29 := h27.subs (l' := [(13, _), (7, _), (6, _), (0, _), (1, _), (2, _)]) rfl
  clear h27 h22 h25 a21 a26
  refine wpList_nil ?_
  refine hK24 _ _ ?_
  rcases Bool.eq_false_or_eq_true ((inR c i) && ((g (c, i)).isSome)) with hc30 | hc30
  · skip
    have hp31 : ((inR c i) = true) ∧ (((g (c, i)).isSome) = true) := (And.intro (andT hc30).1 (andT hc30).2)
    have hp32 := inR_iff.1 (andT hc30).1
    refine wp_condS h29 rfl (bNotT hc30) ?_
    simp only [Bool.false_eq_true, if_false]
    have h33 := h29.subs (l' := [(7, _), (6, _), (0, _), (1, _), (2, _)]) rfl
    clear h29
    refine wp_skip ?_
    refine hK23 _ _ ?_
    refine wp_seq_k fun K34 hK34 => ?_
    refine wp_region_lit ?_
    refine sv h33 (wanted_none rfl) rfl rfl rfl (v := .pointer (some ⟨rg, 0, none⟩)) (rmove h33 rfl rfl) fun a36 h35 => ?_
    refine sv h35 (wanted_none rfl) rfl rfl rfl (v := .pointer (some ⟨rg, 0, none⟩)) (rnil h35 rfl rfl) fun a38 h37 => ?_
    refine sv h37 (wanted_none rfl) rfl rfl rfl (v := .pointer (some ⟨rg, 0, none⟩)) (rfa h37 rfl rfl (fun w => fa_commonsref19_Table_lc3_0 rg 0 w)) fun a40 h39 => ?_
    refine sw h39 (wanted_none rfl) rfl rfl rfl (v := .slice (some ⟨gb, 0, none⟩) 297 297) (rld h39 rfl rfl (ldB Try.underlying41 rfl (s18.get 0 rfl : Blk _ _ _ _) rfl)) fun a42 h41 => ?_
    refine sv h41 (wanted_none rfl) rfl rfl rfl (v := .int .i64 i) (rmove h41 rfl rfl) fun a44 h43 => ?_
    refine sv h43 (wanted_none rfl) rfl rfl rfl (v := .int .i64 (9 * i)) (rbin h43 rfl rfl rfl (bMul _ _ _ (by omega) (by omega) (by omega))) fun a46 h45 => ?_
    refine sv h45 (wanted_none rfl) rfl rfl rfl (v := .int .i64 c) (rmove h45 rfl rfl) fun a48 h47 => ?_
    refine sv h47 (wanted_none rfl) rfl rfl rfl (v := .int .i64 (9 * i + c)) (rbin h47 rfl rfl rfl (bAdd _ _ _ (by omega) (by omega) (by omega))) fun a50 h49 => ?_
    refine sv h49 (wanted_none rfl) rfl rfl rfl (v := .agg #[.bool false, .bool false, .int .i64 0]) (rbuild h49 (xs := []) rfl (vs := []) rfl (fun w => by kernel_rfl)) fun a52 h51 => ?_
    refine sv h51 (wanted_none rfl) rfl rfl rfl (v := .pointer (some ⟨gb, ((9 * i + c).toNat) * 3, none⟩)) (rindexA h51 rfl rfl rfl (fun w => ixS Try.underlying41 (by kernel_rfl) (sz := 3) (j := (9 * i + c).toNat) (by omega) (by omega) rfl w)) fun a54 h53 => ?_
    refine so (wanted_none rfl) fun K60 hK60 => xstore h53 rfl rfl s18 1 rfl rfl rfl (g3C (false, false, 0)) rfl (by kernel_rfl) rfl (by rw [ls_len g3C_len]; show ((9 * i + c).toNat) * 3 + 3 ≤ _; omega) (L' := (G.set ((9 * i + c).toNat) (false, false, 0)).flatMap g3C) (ls_set g3C_len (by omega) rfl) (cs' := [blkC rg 43 [.slice (some ⟨gb, 0, none⟩) 297 297, .slice (some ⟨wb, 0, none⟩) 33 33, .slice (some ⟨lb, 0, none⟩) 33 33], blkC gb 58 ((G.set ((9 * i + c).toNat) (false, false, 0)).flatMap g3C), blkC wb 3 (W.map iV), blkC lb 3 (L.map iV), Ch.many R]) rfl fun a56 w57 h55 s58 t59 => hK60 _ _ ?_
    clear hK60 K60
    clear t59
    have h61 := h55.subs (l' := [(7, _), (6, _), (0, _), (1, _), (2, _)]) rfl
    clear h55 h33 h35 h37 h39 h41 h43 h45 h47 h49 h51 h53 a28 a36 a38 a40 a42 a44 a46 a48 a50 a52 a54
    refine wpList_nil ?_
    refine hK34 _ _ ?_
    refine wp_seq_k fun K62 hK62 => ?_
    refine wp_region_lit ?_
    have h63 := h61.subs (l' := [(7, _), (0, _), (1, _), (2, _)]) rfl
    clear h61
    refine sv h63 (wanted_none rfl) rfl rfl rfl (v := .int .i64 0) (rassign h63 rfl rfl) fun a65 h64 => ?_
    refine wpList_nil ?_
    refine hK62 _ _ ?_
    refine wp_ret ?_
    try simp only [Exit.then, Exit.inBlock]
    refine retR (v := .int .i64 0) (res1 h64 rfl rfl) h64.defs ?_
    exact ⟨(G.set ((9 * i + c).toNat) (false, false, 0)), _, _, by rw [(giveQ hc30).1], Sep.tail_un (xs := [_, _, _, _]) s58, hR.clrG (by omega) (by omega) (by omega) (by omega)⟩
  · skip
    have hp66 : ((inR c i) = false) ∨ (((g (c, i)).isSome) = false) := ((andF hc30).imp (fun q => q) (fun q => q))
    refine wp_condS h29 rfl (bNotF hc30) ?_
    simp only [if_true]
    have h67 := h29.subs (l' := [(7, _), (6, _), (0, _), (1, _), (2, _)]) rfl
    clear h29
    refine wp_seq_k fun K68 hK68 => ?_
    refine wp_region_lit ?_
    have h69 := h67.subs (l' := [(7, _), (0, _), (1, _), (2, _)]) rfl
    clear h67
    refine sv h69 (wanted_none rfl) rfl rfl rfl (v := .int .i64 10) (rassign h69 rfl rfl) fun a71 h70 => ?_
    refine wpList_nil ?_
    refine hK68 _ _ ?_
    refine wp_ret ?_
    try simp only [Exit.then, Exit.inBlock]
    refine retR (v := .int .i64 10) (res1 h70 rfl rfl) h70.defs ?_
    exact ⟨G, W, L, by rw [(giveQn hok hc30).1], Sep.tail_un (xs := [_, _, _, _]) s18, by rw [(giveQn hok hc30).2]; exact hR⟩

end Go.Proofs.Ytpalgffmdinfpaa
end
section
namespace Go.Proofs.Ytpalgffmdinfpaa
open Go.RowKit
set_option linter.unusedSimpArgs false
set_option linter.unusedVariables false
set_option maxRecDepth 100000

def WtOk (wt : WtF) : Prop := ∀ i a, wt i = some a → 1 ≤ a.1 ∧ a.1 ≤ 8 ∧ 1 ≤ i ∧ i ≤ 32
def dropGN (c : Int) (n : Nat) (g : GrF) : GrF := fun p => if p.1 = c ∧ p.2 ≤ (n : Int) then none else g p
def dropWN (c : Int) (n : Nat) (wt : WtF) : WtF := fun i => match wt i with | some a => if a.1 = c ∧ i ≤ (n : Int) then none else some a | none => none
theorem dropGN_0 {c : Int} {g : GrF} (hok : GrOk g) : dropGN c 0 g = g := by
  funext p; unfold dropGN
  split
  · rename_i h
    cases hg : g p with
    | none => rfl
    | some a => have := hok _ _ hg; omega
  · rfl
theorem dropWN_0 {c : Int} {wt : WtF} (hwo : WtOk wt) : dropWN c 0 wt = wt := by
  funext i; unfold dropWN
  cases hw : wt i with
  | none => rfl
  | some a => have := hwo _ _ hw; show (if a.1 = c ∧ i ≤ ((0 : Nat) : Int) then none else some a) = _; rw [if_neg (by omega)]
theorem dropGN_32 {c : Int} {g : GrF} (hok : GrOk g) : dropGN c 32 g = dropG c g := by
  funext p; unfold dropGN dropG
  by_cases h : p.1 = c
  · rw [if_pos h]
    split
    · rfl
    · cases hg : g p with
      | none => rfl
      | some a => have := hok _ _ hg; omega
  · rw [if_neg h, if_neg (fun q => h q.1)]
theorem dropWN_32 {c : Int} {wt : WtF} (hwo : WtOk wt) : dropWN c 32 wt = dropW c wt := by
  funext i; unfold dropWN dropW
  cases hw : wt i with
  | none => rfl
  | some a =>
    have := hwo _ _ hw
    show (if a.1 = c ∧ i ≤ ((32 : Nat) : Int) then none else some a) = if a.1 = c then none else some a
    by_cases h : a.1 = c
    · rw [if_pos h, if_pos ⟨h, by omega⟩]
    · rw [if_neg h, if_neg (fun q => h q.1)]
theorem drop_bad {g : GrF} {wt : WtF} {G : List Gr3} {W L : List Int} {c : Int} {n : Nat} (hok : GrOk g) (hwo : WtOk wt) (hc : ¬ (1 ≤ c ∧ c ≤ 8)) (h : RelL (dropGN c n g) (dropWN c n wt) G W L) : RelL (dropGN c (n + 1) g) (dropWN c (n + 1) wt) G W L := by
  have e1 : ∀ m, dropGN c m g = g := fun m => by
    funext p; unfold dropGN
    split
    · cases hg : g p with
      | none => rfl
      | some a => have := hok _ _ hg; omega
    · rfl
  have e2 : ∀ m, dropWN c m wt = wt := fun m => by
    funext i; unfold dropWN
    cases hw : wt i with
    | none => rfl
    | some a => have := hwo _ _ hw; show (if a.1 = c ∧ i ≤ (m : Int) then none else some a) = _; rw [if_neg (by omega)]
  rw [e1, e2] at h ⊢; exact h
theorem dropGN_succ (c : Int) (n : Nat) (g : GrF) : dropGN c (n + 1) g = updG (dropGN c n g) (c, ((n + 1 : Nat) : Int)) none := by
  funext p
  by_cases e : p = (c, ((n + 1 : Nat) : Int))
  · subst e; rw [updG_same]; unfold dropGN; rw [if_pos ⟨rfl, Int.le_refl _⟩]
  · rw [updG_ne _ _ e]; unfold dropGN
    by_cases h : p.1 = c ∧ p.2 ≤ (n : Int)
    · rw [if_pos h, if_pos ⟨h.1, by omega⟩]
    · rw [if_neg h, if_neg (fun q => e (Prod.ext q.1 (by show p.2 = _; have := q.2; have := fun z => h ⟨q.1, z⟩; omega)))]
theorem drop_eq {g : GrF} {wt : WtF} {G : List Gr3} {W L : List Int} {c : Int} {n : Nat} (hc : 1 ≤ c) (hc8 : c ≤ 8) (hn : n < 32) (h : RelL (dropGN c n g) (dropWN c n wt) G W L) (he : W.getD (n + 1) 0 = c) :
    RelL (dropGN c (n + 1) g) (dropWN c (n + 1) wt) (G.set (9 * ((n + 1 : Nat) : Int) + c).toNat (false, false, 0)) (W.set (n + 1) 0) L := by
  have e : dropWN c (n + 1) wt = updG (dropWN c n wt) ((n + 1 : Nat) : Int) none := by
    have q := h.w ((n + 1 : Nat) : Int) (by omega) (by omega)
    funext i
    by_cases e : i = ((n + 1 : Nat) : Int)
    · subst e; rw [updG_same]
      rw [Int.toNat_natCast, he] at q
      unfold dropWN at q ⊢
      cases hw : wt ((n + 1 : Nat) : Int) with
      | none => rfl
      | some a =>
        rw [hw] at q
        have hn2 : ¬ (a.1 = c ∧ ((n + 1 : Nat) : Int) ≤ (n : Int)) := by omega
        simp only [if_neg hn2] at q
        show (if a.1 = c ∧ ((n + 1 : Nat) : Int) ≤ ((n + 1 : Nat) : Int) then none else some a) = none
        rw [if_pos ⟨q.1.symm, Int.le_refl _⟩]
    · rw [updG_ne _ _ e]; unfold dropWN
      cases hw : wt i with
      | none => rfl
      | some a =>
        show (if a.1 = c ∧ i ≤ ((n + 1 : Nat) : Int) then none else some a) = if a.1 = c ∧ i ≤ (n : Int) then none else some a
        by_cases z : a.1 = c ∧ i ≤ (n : Int)
        · rw [if_pos z, if_pos ⟨z.1, by omega⟩]
        · rw [if_neg z, if_neg (fun y => z ⟨y.1, by omega⟩)]
  rw [dropGN_succ, e]
  have r := (h.clrG (c := c) (i := ((n + 1 : Nat) : Int)) hc hc8 (by omega) (by omega)).clrW (i := ((n + 1 : Nat) : Int)) (by omega) (by omega)
  rw [Int.toNat_natCast] at r
  exact r
theorem drop_ne {g : GrF} {wt : WtF} {G : List Gr3} {W L : List Int} {c : Int} {n : Nat} (hc : 1 ≤ c) (hc8 : c ≤ 8) (hn : n < 32) (h : RelL (dropGN c n g) (dropWN c n wt) G W L) (he : ¬ (W.getD (n + 1) 0 = c)) :
    RelL (dropGN c (n + 1) g) (dropWN c (n + 1) wt) (G.set (9 * ((n + 1 : Nat) : Int) + c).toNat (false, false, 0)) W L := by
  have e : dropWN c (n + 1) wt = dropWN c n wt := by
    have q := h.w ((n + 1 : Nat) : Int) (by omega) (by omega)
    funext i
    unfold dropWN at q ⊢
    cases hw : wt i with
    | none => rfl
    | some a =>
      show (if a.1 = c ∧ i ≤ ((n + 1 : Nat) : Int) then none else some a) = if a.1 = c ∧ i ≤ (n : Int) then none else some a
      by_cases z : a.1 = c ∧ i ≤ (n : Int)
      · rw [if_pos z, if_pos ⟨z.1, by omega⟩]
      · rw [if_neg z, if_neg (fun y => ?_)]
        have ei : i = ((n + 1 : Nat) : Int) := by have := fun k => z ⟨y.1, k⟩; omega
        subst ei
        rw [hw] at q
        simp only [if_neg z] at q
        rw [Int.toNat_natCast] at q
        exact he (q.1.trans y.1)
  rw [dropGN_succ, e]
  exact h.clrG (c := c) (i := ((n + 1 : Nat) : Int)) hc hc8 (by omega) (by omega)
/-- who has a grant that is over -/
def ovB (g : GrF) (now c : Int) (i : Int) : Bool := match g (c, i) with | some a => decide (a.2 ≤ now) | none => false
def overC (g : GrF) (now c : Int) : Nat → Bool | 0 => false | m + 1 => overC g now c m || ovB g now c ((m + 1 : Nat) : Int)
def overL (g : GrF) (now : Int) : List Int := all8.filter (fun c => overC g now c 32)
def ovN (G : List Gr3) (now c : Int) : Nat → Bool | 0 => false | m + 1 => ovN G now c m || ((G.getD (9 * ((m + 1 : Nat) : Int) + c).toNat (false, false, 0)).1 && decide ((G.getD (9 * ((m + 1 : Nat) : Int) + c).toNat (false, false, 0)).2.2 ≤ now))
def ovA (G : List Gr3) (now : Int) (n : Nat) : List Int := (all8.take n).filter (fun c => ovN G now c 32)
theorem fa_commonsref19_Table_ld1_0 (g off : Nat) (w : World) : (Instr.fieldAt 43 (.pointer (some ⟨g, off, none⟩)) 0).run Try.prog w = .ok (.pointer (some ⟨g, off + 0, none⟩)) w := rfl
theorem fa_commonsref19_Table_ld1_1 (g off : Nat) (w : World) : (Instr.fieldAt 43 (.pointer (some ⟨g, off, none⟩)) 1).run Try.prog w = .ok (.pointer (some ⟨g, off + 1, none⟩)) w := rfl
set_option maxHeartbeats 4000000 in
theorem dropR_s {w : World} {rg gb wb lb : Nat} {g : GrF} {wt : WtF} {G : List Gr3} {W L : List Int} {R : List Ch} {c : Int} (hS0 : Sep w ([blkC rg 43 [.slice (some ⟨gb, 0, none⟩) 297 297, .slice (some ⟨wb, 0, none⟩) 33 33, .slice (some ⟨lb, 0, none⟩) 33 33], blkC gb 58 (G.flatMap g3C), blkC wb 3 (W.map iV), blkC lb 3 (L.map iV)] ++ R)) (hR : RelL g wt G W L) (hok : GrOk g) (hwo : WtOk wt) (hcw : -9223372036854775808 ≤ c ∧ c ≤ 9223372036854775807) :
    CallsR Try.prog 23 #[.pointer (some ⟨rg, 0, none⟩), .int .i64 c] w (fun v w' => ∃ G' W' L', v = .tuple #[] ∧ Sep w' ([blkC rg 43 [.slice (some ⟨gb, 0, none⟩) 297 297, .slice (some ⟨wb, 0, none⟩) 33 33, .slice (some ⟨lb, 0, none⟩) 33 33], blkC gb 58 (G'.flatMap g3C), blkC wb 3 (W'.map iV), blkC lb 3 (L'.map iV)] ++ R) ∧ RelL (dropG c g) (dropW c wt) G' W' L') := by
  have hS : Sep w [blkC rg 43 [.slice (some ⟨gb, 0, none⟩) 297 297, .slice (some ⟨wb, 0, none⟩) 33 33, .slice (some ⟨lb, 0, none⟩) 33 33], blkC gb 58 (G.flatMap g3C), blkC wb 3 (W.map iV), blkC lb 3 (L.map iV), Ch.many R] := Sep.tail_many (xs := [_, _, _, _]) hS0; clear hS0; obtain ⟨hG, hW, hL⟩ := hR.n
  refine enterR Try.func23 rfl (N := 40) Try.ntmps23 (by show 2 ≤ 40; decide) [(0, .pointer (some ⟨rg, 0, none⟩)), (1, .int .i64 c)] rfl fun a2 h1 => ?_
  refine wp_seq_k fun K3 hK3 => ?_
  refine wp_region_lit ?_
  refine sv h1 (wanted_none rfl) rfl rfl rfl (v := .int .i64 1) (rassign h1 rfl rfl) fun a5 h4 => ?_
  refine wpList_nil ?_
  refine hK3 _ _ ?_
  refine wp_block ?_
  refine wp_loop3 (fun (n : Nat) (G1 : List Gr3) (W1 : List Int) a' w' => Kn 40 [(4, .int .i64 ((n + 1 : Nat) : Int)), (0, .pointer (some ⟨rg, 0, none⟩)), (1, .int .i64 c)] a' ∧ Sep w' [blkC rg 43 [.slice (some ⟨gb, 0, none⟩) 297 297, .slice (some ⟨wb, 0, none⟩) 33 33, .slice (some ⟨lb, 0, none⟩) 33 33], blkC gb 58 (G1.flatMap g3C), blkC wb 3 (W1.map iV), blkC lb 3 (L.map iV), Ch.many R] ∧ (n ≤ 32) ∧ (RelL (dropGN c n g) (dropWN c n wt) G1 W1 L)) (fun (n : Nat) (G1 : List Gr3) (W1 : List Int) => 32 - n) 0 G W ⟨h4.subs rfl, hS, by omega, by rw [dropGN_0 hok, dropWN_0 hwo]; exact hR⟩ ?_
  clear h4
  rintro n13 G114 W115 a6 w7 ⟨h8, s9, hn11, hr12⟩ K10 hK10
  obtain ⟨hG1, hW1, _⟩ := hr12.n
  refine wp_seq_k fun K16 hK16 => ?_
  refine wp_seq_k fun K17 hK17 => ?_
  refine wp_region_lit ?_
  refine sv h8 (wanted_none rfl) rfl rfl rfl (v := .int .i64 ((n13 + 1 : Nat) : Int)) (rmove h8 rfl rfl) fun a19 h18 => ?_
  refine sv h18 (wanted_none rfl) rfl rfl rfl (v := .bool (decide (((n13 + 1 : Nat) : Int) ≤ 32))) (rbin h18 rfl rfl rfl (cLe _ _ _ _ rfl)) fun a21 h20 => ?_
  have h22 := h20.subs (l' := [(6, _), (4, _), (0, _), (1, _)]) rfl
  clear h20 h8 h18 a6 a19
  refine wpList_nil ?_
  refine hK17 _ _ ?_
  rcases Bool.eq_false_or_eq_true (decide (((n13 + 1 : Nat) : Int) ≤ 32)) with hc23 | hc23
  · skip
    have hp24 : ((n13 + 1 : Nat) : Int) ≤ 32 := (of_decide_eq_true hc23)
    refine wp_condS h22 rfl hc23 ?_
    simp only [if_true]
    have h25 := h22.subs (l' := [(4, _), (0, _), (1, _)]) rfl
    clear h22
    refine wp_skip ?_
    refine hK16 _ _ ?_
    refine wp_seq_k fun K26 hK26 => ?_
    refine wp_block ?_
    refine wp_seq_k fun K27 hK27 => ?_
    refine wp_region_lit ?_
    refine sv h25 (wanted_none rfl) rfl rfl rfl (v := .int .i64 c) (rmove h25 rfl rfl) fun a29 h28 => ?_
    refine sv h28 (wanted_none rfl) rfl rfl rfl (v := .bool (decide (c ≥ 1))) (rbin h28 rfl rfl rfl (cGe _ _ _ _ rfl)) fun a31 h30 => ?_
    refine sv h30 (wanted_none rfl) rfl rfl rfl (v := .bool (decide (c ≥ 1))) (rmove h30 rfl rfl) fun a33 h32 => ?_
    refine sg h32 (wT h32 rfl rfl rfl) rfl rfl rfl (v := .int .i64 c) (fun hC34 => by have hq := (of_decide_eq_true hC34); exact (rmove h32 rfl rfl) _) fun a36 h35 => ?_
    refine sg h35 (wT h35 rfl rfl rfl) rfl rfl rfl (v := .bool (decide (c ≤ 8))) (fun hC37 => by have hq := (of_decide_eq_true hC37); exact (rbin h35 rfl (opg rfl hC37) rfl (cLe _ _ _ _ rfl)) _) fun a39 h38 => ?_
    refine sv h38 (wanted_none rfl) rfl rfl rfl (v := .bool ((decide (c ≥ 1)) && (decide (c ≤ 8)))) (rpickA h38 rfl (E := (decide (c ≥ 1))) (F := (decide (c ≤ 8))) rfl rfl rfl (fun e => if_pos (by rw [e]; try rfl))) fun a41 h40 => ?_
    have h42 := h40.subs (l' := [(14, _), (4, _), (0, _), (1, _)]) rfl
    clear h40 h25 h28 h30 h32 h35 h38 a21 a29 a31 a33 a36 a39
    refine wpList_nil ?_
    refine hK27 _ _ ?_
    rcases Bool.eq_false_or_eq_true ((decide (c ≥ 1)) && (decide (c ≤ 8))) with hc43 | hc43
    · skip
      have hp44 : (c ≥ 1) ∧ (c ≤ 8) := (And.intro (of_decide_eq_true (andT hc43).1) (of_decide_eq_true (andT hc43).2))
      refine wp_condS h42 rfl hc43 ?_
      simp only [if_true]
      have h45 := h42.subs (l' := [(4, _), (0, _), (1, _)]) rfl
      clear h42
      refine wp_seq_k fun K46 hK46 => ?_
      refine wp_region_lit ?_
      refine sv h45 (wanted_none rfl) rfl rfl rfl (v := .pointer (some ⟨rg, 0, none⟩)) (rmove h45 rfl rfl) fun a48 h47 => ?_
      refine sv h47 (wanted_none rfl) rfl rfl rfl (v := .pointer (some ⟨rg, 0, none⟩)) (rnil h47 rfl rfl) fun a50 h49 => ?_
      refine sv h49 (wanted_none rfl) rfl rfl rfl (v := .pointer (some ⟨rg, 0, none⟩)) (rfa h49 rfl rfl (fun w => fa_commonsref19_Table_ld1_0 rg 0 w)) fun a52 h51 => ?_
      refine sw h51 (wanted_none rfl) rfl rfl rfl (v := .slice (some ⟨gb, 0, none⟩) 297 297) (rld h51 rfl rfl (ldB Try.underlying41 rfl (s9.get 0 rfl : Blk _ _ _ _) rfl)) fun a54 h53 => ?_
      refine sv h53 (wanted_none rfl) rfl rfl rfl (v := .int .i64 ((n13 + 1 : Nat) : Int)) (rmove h53 rfl rfl) fun a56 h55 => ?_
      refine sv h55 (wanted_none rfl) rfl rfl rfl (v := .int .i64 (9 * ((n13 + 1 : Nat) : Int))) (rbin h55 rfl rfl rfl (bMul _ _ _ (by omega) (by omega) (by omega))) fun a58 h57 => ?_
      refine sv h57 (wanted_none rfl) rfl rfl rfl (v := .int .i64 c) (rmove h57 rfl rfl) fun a60 h59 => ?_
      refine sv h59 (wanted_none rfl) rfl rfl rfl (v := .int .i64 (9 * ((n13 + 1 : Nat) : Int) + c)) (rbin h59 rfl rfl rfl (bAdd _ _ _ (by omega) (by omega) (by omega))) fun a62 h61 => ?_
      refine sv h61 (wanted_none rfl) rfl rfl rfl (v := .agg #[.bool false, .bool false, .int .i64 0]) (rbuild h61 (xs := []) rfl (vs := []) rfl (fun w => by kernel_rfl)) fun a64 h63 => ?_
      refine sv h63 (wanted_none rfl) rfl rfl rfl (v := .pointer (some ⟨gb, ((9 * ((n13 + 1 : Nat) : Int) + c).toNat) * 3, none⟩)) (rindexA h63 rfl rfl rfl (fun w => ixS Try.underlying41 (by kernel_rfl) (sz := 3) (j := (9 * ((n13 + 1 : Nat) : Int) + c).toNat) (by omega) (by omega) rfl w)) fun a66 h65 => ?_
      refine so (wanted_none rfl) fun K72 hK72 => xstore h65 rfl rfl s9 1 rfl rfl rfl (g3C (false, false, 0)) rfl (by kernel_rfl) rfl (by rw [ls_len g3C_len]; show ((9 * ((n13 + 1 : Nat) : Int) + c).toNat) * 3 + 3 ≤ _; omega) (L' := (G114.set ((9 * ((n13 + 1 : Nat) : Int) + c).toNat) (false, false, 0)).flatMap g3C) (ls_set g3C_len (by omega) rfl) (cs' := [blkC rg 43 [.slice (some ⟨gb, 0, none⟩) 297 297, .slice (some ⟨wb, 0, none⟩) 33 33, .slice (some ⟨lb, 0, none⟩) 33 33], blkC gb 58 ((G114.set ((9 * ((n13 + 1 : Nat) : Int) + c).toNat) (false, false, 0)).flatMap g3C), blkC wb 3 (W115.map iV), blkC lb 3 (L.map iV), Ch.many R]) rfl fun a68 w69 h67 s70 t71 => hK72 _ _ ?_
      clear hK72 K72
      clear t71
      have h73 := h67.subs (l' := [(4, _), (0, _), (1, _)]) rfl
      clear h67 h45 h47 h49 h51 h53 h55 h57 h59 h61 h63 h65 a41 a48 a50 a52 a54 a56 a58 a60 a62 a64 a66
      refine wpList_nil ?_
      refine hK46 _ _ ?_
      refine wp_seq_k fun K74 hK74 => ?_
      refine wp_region_lit ?_
      refine sv h73 (wanted_none rfl) rfl rfl rfl (v := .pointer (some ⟨rg, 0, none⟩)) (rmove h73 rfl rfl) fun a76 h75 => ?_
      refine sv h75 (wanted_none rfl) rfl rfl rfl (v := .pointer (some ⟨rg, 0, none⟩)) (rnil h75 rfl rfl) fun a78 h77 => ?_
      refine sv h77 (wanted_none rfl) rfl rfl rfl (v := .pointer (some ⟨rg, 1, none⟩)) (rfa h77 rfl rfl (fun w => fa_commonsref19_Table_ld1_1 rg 0 w)) fun a80 h79 => ?_
      refine sw h79 (wanted_none rfl) rfl rfl rfl (v := .slice (some ⟨wb, 0, none⟩) 33 33) (rld h79 rfl rfl (ldB Try.underlying38 rfl (s70.get 0 rfl : Blk _ _ _ _) rfl)) fun a82 h81 => ?_
      refine sv h81 (wanted_none rfl) rfl rfl rfl (v := .int .i64 ((n13 + 1 : Nat) : Int)) (rmove h81 rfl rfl) fun a84 h83 => ?_
      refine sv h83 (wanted_none rfl) rfl rfl rfl (v := .pointer (some ⟨wb, n13 + 1, none⟩)) (rindexA h83 rfl rfl rfl (fun w => ixS Try.underlying38 (by kernel_rfl) (sz := 1) (j := n13 + 1) rfl (by omega) (Nat.mul_one _) w)) fun a86 h85 => ?_
      refine sw h85 (wanted_none rfl) rfl rfl rfl (v := .int .i64 (W115.getD (n13 + 1) 0)) (rld h85 rfl rfl (ldB Try.underlying3 rfl (s70.get 2 rfl : Blk _ _ _ _) (li_get (by omega)))) fun a88 h87 => ?_
      refine sv h87 (wanted_none rfl) rfl rfl rfl (v := .int .i64 c) (rmove h87 rfl rfl) fun a90 h89 => ?_
      refine sv h89 (wanted_none rfl) rfl rfl rfl (v := .bool (decide (W115.getD (n13 + 1) 0 = c))) (rbin h89 rfl rfl rfl (cEq _ _ _ _ rfl)) fun a92 h91 => ?_
      have h93 := h91.subs (l' := [(33, _), (4, _), (0, _), (1, _)]) rfl
      clear h91 h73 h75 h77 h79 h81 h83 h85 h87 h89 a68 a76 a78 a80 a82 a84 a86 a88 a90
      refine wpList_nil ?_
      refine hK74 _ _ ?_
      rcases Bool.eq_false_or_eq_true (decide (W115.getD (n13 + 1) 0 = c)) with hc94 | hc94
      · skip
        have hp95 : W115.getD (n13 + 1) 0 = c := (of_decide_eq_true hc94)
        refine wp_condS h93 rfl hc94 ?_
        simp only [if_true]
        have h96 := h93.subs (l' := [(4, _), (0, _), (1, _)]) rfl
        clear h93
        refine wp_region_lit ?_
        refine sv h96 (wanted_none rfl) rfl rfl rfl (v := .pointer (some ⟨rg, 0, none⟩)) (rmove h96 rfl rfl) fun a98 h97 => ?_
        refine sv h97 (wanted_none rfl) rfl rfl rfl (v := .pointer (some ⟨rg, 0, none⟩)) (rnil h97 rfl rfl) fun a100 h99 => ?_
        refine sv h99 (wanted_none rfl) rfl rfl rfl (v := .pointer (some ⟨rg, 1, none⟩)) (rfa h99 rfl rfl (fun w => fa_commonsref19_Table_ld1_1 rg 0 w)) fun a102 h101 => ?_
        refine sw h101 (wanted_none rfl) rfl rfl rfl (v := .slice (some ⟨wb, 0, none⟩) 33 33) (rld h101 rfl rfl (ldB Try.underlying38 rfl (s70.get 0 rfl : Blk _ _ _ _) rfl)) fun a104 h103 => ?_
        refine sv h103 (wanted_none rfl) rfl rfl rfl (v := .int .i64 ((n13 + 1 : Nat) : Int)) (rmove h103 rfl rfl) fun a106 h105 => ?_
        refine sv h105 (wanted_none rfl) rfl rfl rfl (v := .pointer (some ⟨wb, n13 + 1, none⟩)) (rindexA h105 rfl rfl rfl (fun w => ixS Try.underlying38 (by kernel_rfl) (sz := 1) (j := n13 + 1) rfl (by omega) (Nat.mul_one _) w)) fun a108 h107 => ?_
        refine so (wanted_none rfl) fun K114 hK114 => xstore h107 rfl rfl s70 2 rfl rfl rfl [.int .i64 0] rfl (by kernel_rfl) rfl (by rw [List.length_map]; show n13 + 1 + 1 ≤ _; omega) (L' := (W115.set (n13 + 1) 0).map iV) (li_set (by omega)) (cs' := [blkC rg 43 [.slice (some ⟨gb, 0, none⟩) 297 297, .slice (some ⟨wb, 0, none⟩) 33 33, .slice (some ⟨lb, 0, none⟩) 33 33], blkC gb 58 ((G114.set ((9 * ((n13 + 1 : Nat) : Int) + c).toNat) (false, false, 0)).flatMap g3C), blkC wb 3 ((W115.set (n13 + 1) 0).map iV), blkC lb 3 (L.map iV), Ch.many R]) rfl fun a110 w111 h109 s112 t113 => hK114 _ _ ?_
        clear hK114 K114
        clear t113
        have h115 := h109.subs (l' := [(4, _), (0, _), (1, _)]) rfl
        clear h109 h96 h97 h99 h101 h103 h105 h107 a92 a98 a100 a102 a104 a106 a108
        refine wpList_nil ?_
        refine hK26 _ _ ?_
        refine wp_region_lit ?_
        refine sv h115 (wanted_none rfl) rfl rfl rfl (v := .int .i64 ((n13 + 1 : Nat) : Int)) (rmove h115 rfl rfl) fun a117 h116 => ?_
        refine sv h116 (wanted_none rfl) rfl rfl rfl (v := .int .i64 ((n13 + 2 : Nat) : Int)) (rbin h116 rfl rfl rfl (bAdd _ _ _ (by omega) (by omega) (by omega))) fun a119 h118 => ?_
        have h120 := h118.subs (l' := [(8, _), (7, _), (0, _), (1, _)]) rfl
        clear h118 h115 h116 a110 a117
        refine sv h120 (wanted_none rfl) rfl rfl rfl (v := .int .i64 ((n13 + 2 : Nat) : Int)) (rassign h120 rfl rfl) fun a122 h121 => ?_
        have h123 := h121.subs (l' := [(4, _), (0, _), (1, _)]) rfl
        clear h121 h120 a119
        refine wpList_nil ?_
        exact hK10 (n13 + 1) (G114.set ((9 * ((n13 + 1 : Nat) : Int) + c).toNat) (false, false, 0)) (W115.set (n13 + 1) 0) _ _ ⟨h123.subs rfl, s112, by omega, (drop_eq (by omega) (by omega) (by omega) hr12 hp95)⟩ (by omega)
      · skip
        have hp124 : ¬ (W115.getD (n13 + 1) 0 = c) := (of_decide_eq_false hc94)
        refine wp_condS h93 rfl hc94 ?_
        simp only [Bool.false_eq_true, if_false]
        have h125 := h93.subs (l' := [(4, _), (0, _), (1, _)]) rfl
        clear h93
        refine wp_skip ?_
        refine hK26 _ _ ?_
        refine wp_region_lit ?_
        refine sv h125 (wanted_none rfl) rfl rfl rfl (v := .int .i64 ((n13 + 1 : Nat) : Int)) (rmove h125 rfl rfl) fun a127 h126 => ?_
        refine sv h126 (wanted_none rfl) rfl rfl rfl (v := .int .i64 ((n13 + 2 : Nat) : Int)) (rbin h126 rfl rfl rfl (bAdd _ _ _ (by omega) (by omega) (by omega))) fun a129 h128 => ?_
        have h130 := h128.subs (l' := [(8, _), (7, _), (0, _), (1, _)]) rfl
        clear h128 h125 h126 a92 a127
        refine sv h130 (wanted_none rfl) rfl rfl rfl (v := .int .i64 ((n13 + 2 : Nat) : Int)) (rassign h130 rfl rfl) fun a132 h131 => ?_
        have h133 := h131.subs (l' := [(4, _), (0, _), (1, _)]) rfl
        clear h131 h130 a129
        refine wpList_nil ?_
        exact hK10 (n13 + 1) (G114.set ((9 * ((n13 + 1 : Nat) : Int) + c).toNat) (false, false, 0)) W115 _ _ ⟨h133.subs rfl, s70, by omega, (drop_ne (by omega) (by omega) (by omega) hr12 hp124)⟩ (by omega)
    · skip
      have hp134 : (¬ (c ≥ 1)) ∨ (¬ (c ≤ 8)) := ((andF hc43).imp (fun q => (of_decide_eq_false q)) (fun q => (of_decide_eq_false q)))
      refine wp_condS h42 rfl hc43 ?_
      simp only [Bool.false_eq_true, if_false]
      have h135 := h42.subs (l' := [(4, _), (0, _), (1, _)]) rfl
      clear h42
      refine wp_skip ?_
      refine hK26 _ _ ?_
      refine wp_region_lit ?_
      refine sv h135 (wanted_none rfl) rfl rfl rfl (v := .int .i64 ((n13 + 1 : Nat) : Int)) (rmove h135 rfl rfl) fun a137 h136 => ?_
      refine sv h136 (wanted_none rfl) rfl rfl rfl (v := .int .i64 ((n13 + 2 : Nat) : Int)) (rbin h136 rfl rfl rfl (bAdd _ _ _ (by omega) (by omega) (by omega))) fun a139 h138 => ?_
      have h140 := h138.subs (l' := [(8, _), (7, _), (0, _), (1, _)]) rfl
      clear h138 h135 h136 a41 a137
      refine sv h140 (wanted_none rfl) rfl rfl rfl (v := .int .i64 ((n13 + 2 : Nat) : Int)) (rassign h140 rfl rfl) fun a142 h141 => ?_
      have h143 := h141.subs (l' := [(4, _), (0, _), (1, _)]) rfl
      clear h141 h140 a139
      refine wpList_nil ?_
      exact hK10 (n13 + 1) G114 W115 _ _ ⟨h143.subs rfl, s9, by omega, (drop_bad hok hwo (by omega) hr12)⟩ (by omega)
  · skip
    have hp144 : ¬ (((n13 + 1 : Nat) : Int) ≤ 32) := (of_decide_eq_false hc23)
    refine wp_condS h22 rfl hc23 ?_
    simp only [Bool.false_eq_true, if_false]
    have h145 := h22.subs (l' := [(4, _), (0, _), (1, _)]) rfl
    clear h22
    refine wp_exit ?_
    simp only [Exit.then, Exit.inBlock, ↓reduceIte, Nat.reduceEqDiff]
    refine endR (v := .tuple #[]) (fun _ => res0 rfl _) h145.defs ?_
    have hn32 : n13 = 32 := by omega
    rw [hn32, dropGN_32 hok, dropWN_32 hwo] at hr12
    exact ⟨_, _, _, rfl, Sep.tail_un (xs := [_, _, _, _]) s9, hr12⟩

end Go.Proofs.Ytpalgffmdinfpaa
end
section
namespace Go.Proofs.Ytpalgffmdinfpaa
open Go.RowKit
set_option linter.unusedSimpArgs false
set_option linter.unusedVariables false
set_option maxRecDepth 100000

def findV (g : GrF) (c i : Int) : Value := if (g (c, i)).isSome = true then .tuple #[.agg #[.int .i64 c, .int .i64 i, .bool ((g (c, i)).getD (false, 0)).1, .int .i64 ((g (c, i)).getD (false, 0)).2], .bool true] else .tuple #[.agg #[.int .i64 0, .int .i64 0, .bool false, .int .i64 0], .bool false]
/-- slices.Sort, slices.Compact of a list that the call made -/
theorem sortI_s {w : World} {B : Nat} {a : Option Addr} {c : Nat} {L : List Int} {R : List Ch} (hS : Sep w (ownC B 3 1 a L.length c (L.map iV) :: R)) (hn : L.length ≤ 1000) :
    CallsR Try.prog 29 #[.slice a L.length c] w fun v w' => v = .tuple #[] ∧ Sep w' (ownC 0 3 1 a (sortI L).length c ((sortI L).map iV) :: R) :=
  (sortI_any a c L w 0 (Own.low (hS.get 0 rfl) (Nat.zero_le _)) (Nat.zero_le _) hn).mono fun e w' ⟨e1, hO, ht, _⟩ => by
    refine ⟨_, e1, rfl, ?_⟩
    refine Sep.upd hS 0 rfl ht (fun k _ hk => ?_) (c' := ownC 0 3 1 a (sortI L).length c ((sortI L).map iV)) hO (fun k hk => .inl ?_)
    · show (Value.slice a L.length c).ownBlock = some k
      cases a with
      | none => cases hk
      | some p => exact hk.symm
    · cases a with
      | none => cases hk
      | some p => exact hk
theorem Own.take1 {w : World} {B : Nat} {e : TypeId} {a : Option Addr} {n k c : Nat} {cs : List Value} (h : Own w B e 1 a n c cs) (hk : k ≤ n) (ha : a ≠ none) : Own w B e 1 a k c (cs.take k) := by
  obtain ⟨h0, h1⟩ := h
  rcases h1 with ⟨hv, _⟩ | ⟨g, cap, cur, hv, hg, hh, h2, h3, h4, h5⟩
  · cases hv; exact absurd rfl ha
  · cases hv
    refine ⟨by rw [List.length_take, h0]; omega, .inr ⟨g, c, cur, rfl, hg, hh, by omega, h3, h4, ?_⟩⟩
    rw [← h5, List.take_take, Nat.mul_one, Nat.mul_one, Nat.min_eq_left hk]
theorem compactI_s {w : World} {B : Nat} {a : Option Addr} {c : Nat} {L : List Int} {R : List Ch} (hS : Sep w (ownC B 3 1 a L.length c (L.map iV) :: R)) (hn : L.length ≤ 1000) :
    CallsR Try.prog 30 #[.slice a L.length c] w fun v w' => v = .slice a (Lib.compact L).length c ∧ Sep w' (ownC 0 3 1 a (Lib.compact L).length c ((Lib.compact L).map iV) :: R) := by
  have h : Own w 0 3 1 a L.length c (L.map iV) := Own.low (hS.get 0 rfl) (Nat.zero_le _)
  have h' := h
  rcases h.2 with ⟨hnil, h0⟩ | ⟨g, cap, cur, hv, hbase, hb, h1, h2, h3, h4⟩
  · have hl : L = [] := List.eq_nil_of_length_eq_zero h0
    subst hl
    exact (slices_Compact_int_empty a c w).mono fun e w' q => ⟨_, q.1, rfl, by rw [q.2]; exact Sep.upd hS 0 rfl (Turns.refl (fun _ => False) w) (fun k _ e => e.elim) (c' := ownC 0 3 1 a 0 c []) h' (fun k hk => .inl hk)⟩
  · cases hv
    have hh : Sort.Holds (Value.int .i64) w g 0 L.toArray := holds_of_blockI hb (by have z : cur.toList.take (L.length * 1) = L.map iV := h4; rw [Nat.mul_one] at z; exact z)
    have hcl : (Lib.compact L).length ≤ L.length := by
      unfold Lib.compact Lib.compactUpTo
      rw [List.length_map]
      exact Nat.le_trans (List.length_filter_le _ _) (by rw [List.length_range]; exact Nat.le_refl _)
    refine (slices_Compact_int g 0 c L w hh (by omega) h1).mono fun e w' q => ?_
    obtain ⟨q1, n, rfl⟩ := q
    have hG := grownBy_sortedI (w := w) (g := g) (n := n) (os := #[]) (Lib.compact L ++ List.replicate (L.length - (Lib.compact L).length) 0).toArray
    rw [Go.Sort.grow_empty] at hG
    have hO := ownsRow_sortedI (n := n) (os := #[]) (ss := L) (ts := Lib.compact L ++ List.replicate (L.length - (Lib.compact L).length) 0) (by rw [List.length_append, List.length_replicate]; omega) hbase hb h1 h2 h3
    rw [Go.Sort.grow_empty] at hO
    have hT := Own.take1 (show Own _ 0 3 1 (some ⟨g, 0, none⟩) L.length c _ from hO) hcl (fun e => by cases e)
    have e2 : ((Lib.compact L ++ List.replicate (L.length - (Lib.compact L).length) 0).map (Value.int .i64)).take (Lib.compact L).length = (Lib.compact L).map iV := by
      rw [← List.map_take, List.take_left']; rfl; rfl
    rw [e2] at hT
    exact ⟨_, q1, rfl, Sep.upd hS 0 rfl (Turns.of_row hG) (fun k _ hk => hk) (c' := ownC 0 3 1 (some ⟨g, 0, none⟩) (Lib.compact L).length c ((Lib.compact L).map iV)) hT (fun k hk => .inl hk)⟩
/-- a sorted list, each but once -/
theorem compact_up {L : List Int} (hs : L.Pairwise (fun x y => x ≤ y)) : (Lib.compact L).Pairwise (fun x y => x < y) ∧ ∀ k, k ∈ Lib.compact L ↔ k ∈ L := by
  have key : ∀ m, m ≤ L.length → (Lib.compactUpTo L.toArray m).Pairwise (fun x y => x < y) ∧ (∀ k, k ∈ Lib.compactUpTo L.toArray m ↔ k ∈ L.take m) := by
    intro m
    induction m with
    | zero => intro _; exact ⟨by simp [Lib.compactUpTo], fun k => by simp [Lib.compactUpTo]⟩
    | succ m ih =>
      intro hm
      obtain ⟨h1, h2⟩ := ih (by omega)
      have hget : L.toArray[m]! = L[m]'(by omega) := by simp [getElem!_pos, show m < L.length by omega]
      have htake : L.take (m + 1) = L.take m ++ [L[m]'(by omega)] := by rw [List.take_succ_eq_append_getElem (by omega)]
      rw [Lib.compactUpTo_succ, htake]
      by_cases hk : Lib.keeps L.toArray m = true
      · rw [if_pos hk, hget]
        refine ⟨List.pairwise_append.2 ⟨h1, by simp, fun a ha b hb => ?_⟩, fun k => by rw [List.mem_append, List.mem_append, h2]⟩
        rw [List.mem_singleton] at hb; subst hb
        obtain ⟨j, hj, e⟩ := List.mem_iff_getElem.1 ((h2 a).1 ha)
        rw [List.length_take] at hj
        rw [List.getElem_take] at e
        subst e
        have hmp : m ≠ 0 := by omega
        unfold Lib.keeps at hk
        have hk' := of_decide_eq_true hk
        rcases hk' with hk' | hk'
        · exact absurd hk' hmp
        · rw [hget, show L.toArray[m - 1]! = L[m - 1]'(by omega) by simp [getElem!_pos, show m - 1 < L.length by omega]] at hk'
          have l1 : L[m - 1]'(by omega) ≤ L[m]'(by omega) := List.pairwise_iff_getElem.1 hs (m - 1) m (by omega) (by omega) (by omega)
          have l2 : L[j]'(by omega) ≤ L[m - 1]'(by omega) := by
            rcases Nat.lt_or_ge j (m - 1) with q | q
            · exact List.pairwise_iff_getElem.1 hs j (m - 1) (by omega) (by omega) q
            · have : j = m - 1 := by omega
              subst this; exact Int.le_refl _
          omega
      · have hk0 : Lib.keeps L.toArray m = false := by simpa using hk
        rw [hk0]
        simp only [Bool.false_eq_true, if_false, List.append_nil]
        refine ⟨h1, fun k => ?_⟩
        rw [h2, List.mem_append]
        refine ⟨fun q => .inl q, fun q => q.elim id fun q => ?_⟩
        rw [List.mem_singleton] at q; subst q
        unfold Lib.keeps at hk0
        have hk' := of_decide_eq_false hk0
        have hm0 : m ≠ 0 := fun e => hk' (.inl e)
        have he : ¬ (L.toArray[m]! ≠ L.toArray[m - 1]!) := fun e => hk' (.inr e)
        rw [hget, show L.toArray[m - 1]! = L[m - 1]'(by omega) by simp [getElem!_pos, show m - 1 < L.length by omega]] at he
        have he' : L[m]'(by omega) = L[m - 1]'(by omega) := Decidable.not_not.1 he
        rw [he']
        exact List.mem_iff_getElem.2 ⟨m - 1, by rw [List.length_take]; omega, by rw [List.getElem_take]⟩
  have := key L.length (Nat.le_refl _)
  unfold Lib.compact
  rw [List.take_of_length_le (Nat.le_refl _)] at this
  exact this
/-- the keys that a range has told -/
structure GathK (g : GrF) (left : Int × Int → Bool) (K : List (Int × Int)) : Prop where
  nd : K.Nodup
  wf : ∀ p ∈ K, wfK p ∧ (g p).isSome = true ∧ left p = false
  all : ∀ p, wfK p → (g p).isSome = true → left p = false → p ∈ K
theorem GathK.start (g : GrF) : GathK g (fun i => (g i).isSome) [] := ⟨List.nodup_nil, fun p h => (by cases h), fun p _ h1 h2 => (by rw [h1] at h2; cases h2)⟩
theorem GathK.push {g : GrF} {left : Int × Int → Bool} {K : List (Int × Int)} (h : GathK g left K) {p : Int × Int} (hp : KG.ok p) (hl : left p = true) (hg : (g p).isSome = true) : GathK g (fun j => left j && !decide (j = p)) (K ++ [p]) := by
  have hn : p ∉ K := fun q => by have := (h.wf p q).2.2; rw [hl] at this; cases this
  refine ⟨List.nodup_append.2 ⟨h.nd, by simp, fun a ha b hb e => ?_⟩, fun q hq => ?_, fun q hw hs hlq => ?_⟩
  · rw [List.mem_singleton] at hb; subst hb; subst e; exact hn ha
  · rcases List.mem_append.1 hq with z | z
    · have := h.wf q z; exact ⟨this.1, this.2.1, by rw [this.2.2]; rfl⟩
    · rw [List.mem_singleton] at z; subst z; exact ⟨hp, hg, by simp⟩
  · by_cases e : q = p
    · subst e; simp
    · exact List.mem_append_left _ (h.all q hw hs (by simpa [e] using hlq))
def keys8 : List (Int × Int) := (List.range 256).map fun k => (((k % 8 + 1 : Nat) : Int), ((k / 8 + 1 : Nat) : Int))
theorem mem_keys8 {p : Int × Int} (h : 1 ≤ p.1 ∧ p.1 ≤ 8 ∧ 1 ≤ p.2 ∧ p.2 ≤ 32) : p ∈ keys8 := by
  refine List.mem_map.2 ⟨((p.2 - 1) * 8 + (p.1 - 1)).toNat, List.mem_range.2 (by omega), Prod.ext ?_ ?_⟩
  · show ((((p.2 - 1) * 8 + (p.1 - 1)).toNat % 8 + 1 : Nat) : Int) = p.1; omega
  · show ((((p.2 - 1) * 8 + (p.1 - 1)).toNat / 8 + 1 : Nat) : Int) = p.2; omega
theorem GathK.len {g : GrF} {left : Int × Int → Bool} {K : List (Int × Int)} (h : GathK g left K) (ok : GrOk g) : K.length ≤ 256 := by
  have z := List.Nodup.length_le_of_subset h.nd (l₂ := keys8) (fun p hp => by
    obtain ⟨a, ha⟩ := Option.isSome_iff_exists.1 (h.wf p hp).2.1
    exact mem_keys8 (ok p a ha))
  rwa [show keys8.length = 256 by simp [keys8]] at z
def ovK (g : GrF) (now : Int) (p : Int × Int) : Bool := match g p with | some a => decide (a.2 ≤ now) | none => false
def ovLst (g : GrF) (now : Int) (K : List (Int × Int)) : List Int := (K.filter (ovK g now)).map (·.1)
theorem ovLst_len (g : GrF) (now : Int) (K : List (Int × Int)) : (ovLst g now K).length ≤ K.length := by unfold ovLst; rw [List.length_map]; exact List.length_filter_le _ _
theorem ovLst_yes {g : GrF} {now : Int} {K : List (Int × Int)} {p : Int × Int} {u : Bool × Int} (hg : g p = some u) (h : decide (u.2 ≤ now) = true) : ovLst g now (K ++ [p]) = ovLst g now K ++ [p.1] := by
  unfold ovLst
  rw [List.filter_append, List.map_append]
  have : ovK g now p = true := by unfold ovK; rw [hg]; exact h
  simp [this]
theorem ovLst_no {g : GrF} {now : Int} {K : List (Int × Int)} {p : Int × Int} {u : Bool × Int} (hg : g p = some u) (h : decide (u.2 ≤ now) = false) : ovLst g now (K ++ [p]) = ovLst g now K := by
  unfold ovLst
  rw [List.filter_append, List.map_append]
  have : ovK g now p = false := by unfold ovK; rw [hg]; exact h
  simp [this]
theorem overC_iff (g : GrF) (now c : Int) : ∀ m, overC g now c m = true ↔ ∃ i : Int, 1 ≤ i ∧ i ≤ (m : Int) ∧ ovK g now (c, i) = true
  | 0 => ⟨fun h => (by cases h), fun ⟨i, h1, h2, _⟩ => by omega⟩
  | m + 1 => by
    unfold overC
    rw [Bool.or_eq_true, overC_iff g now c m]
    constructor
    · rintro (⟨i, h1, h2, h3⟩ | h)
      · exact ⟨i, h1, by omega, h3⟩
      · exact ⟨((m + 1 : Nat) : Int), by omega, Int.le_refl _, h⟩
    · rintro ⟨i, h1, h2, h3⟩
      by_cases e : i = ((m + 1 : Nat) : Int)
      · subst e; exact .inr h3
      · exact .inl ⟨i, h1, by omega, h3⟩
theorem upI_eq {L M : List Int} (h1 : L.Pairwise (fun x y => x < y)) (h2 : M.Pairwise (fun x y => x < y)) (h : ∀ k, k ∈ L ↔ k ∈ M) : L = M :=
  List.Perm.eq_of_pairwise (le := fun a b => decide (a ≤ b) = true) (fun a b _ _ h1 h2 => by simp only [decide_eq_true_eq] at h1 h2; omega) (h1.imp fun {a b} h => by simp only [decide_eq_true_eq]; omega) (h2.imp fun {a b} h => by simp only [decide_eq_true_eq]; omega)
    ((List.perm_ext_iff_of_nodup (h1.imp fun {a b} h => by omega) (h2.imp fun {a b} h => by omega)).2 h)
theorem sortI_up (L : List Int) : (sortI L).Pairwise (fun x y => x ≤ y) := by
  unfold sortI
  exact (List.pairwise_mergeSort (fun a b c => by simp only [decide_eq_true_eq]; omega) (fun a b => by simp only [Bool.or_eq_true, decide_eq_true_eq]; omega) L).imp fun {a b} h => of_decide_eq_true h
theorem over_eq {g : GrF} {left : Int × Int → Bool} {K : List (Int × Int)} (hok : GrOk g) (h : GathK g left K) (hl : ∀ p, KG.ok p → left p = false) (now : Int) : Lib.compact (sortI (ovLst g now K)) = overL g now := by
  obtain ⟨h1, h2⟩ := compact_up (sortI_up (ovLst g now K))
  refine upI_eq h1 (List.Pairwise.filter _ (by unfold all8; simp)) fun k => ?_
  rw [h2, show sortI (ovLst g now K) = (ovLst g now K).mergeSort _ from rfl, List.mem_mergeSort]
  unfold ovLst overL
  rw [List.mem_map, List.mem_filter, overC_iff, mem_all8]
  constructor
  · rintro ⟨p, hp, rfl⟩
    obtain ⟨hp1, hp2⟩ := List.mem_filter.1 hp
    obtain ⟨a, ha⟩ := Option.isSome_iff_exists.1 (h.wf p hp1).2.1
    have := hok p a ha
    exact ⟨⟨this.1, this.2.1⟩, p.2, this.2.2.1, this.2.2.2, hp2⟩
  · rintro ⟨⟨a1, a2⟩, i, b1, b2, hov⟩
    refine ⟨(k, i), List.mem_filter.2 ⟨?_, hov⟩, rfl⟩
    have hw : wfK (k, i) := ⟨wf_i64 (by omega) (by omega), wf_i64 (by omega) (by omega)⟩
    refine h.all (k, i) hw ?_ (hl _ hw)
    unfold ovK at hov
    cases hg : g (k, i) with
    | none => rw [hg] at hov; cases hov
    | some a => rfl

theorem fa_lease_key_le1_0 (g off : Nat) (w : World) : (Instr.fieldAt 60 (.pointer (some ⟨g, off, none⟩)) 0).run Try.prog w = .ok (.pointer (some ⟨g, off + 0, none⟩)) w := rfl
theorem fa_lease_key_le1_1 (g off : Nat) (w : World) : (Instr.fieldAt 60 (.pointer (some ⟨g, off, none⟩)) 1).run Try.prog w = .ok (.pointer (some ⟨g, off + 1, none⟩)) w := rfl
theorem fa_lease_grant_le1_0 (g off : Nat) (w : World) : (Instr.fieldAt 62 (.pointer (some ⟨g, off, none⟩)) 0).run Try.prog w = .ok (.pointer (some ⟨g, off + 0, none⟩)) w := rfl
theorem fa_lease_grant_le1_1 (g off : Nat) (w : World) : (Instr.fieldAt 62 (.pointer (some ⟨g, off, none⟩)) 1).run Try.prog w = .ok (.pointer (some ⟨g, off + 1, none⟩)) w := rfl
theorem fa_lease_Table_le2_0 (g off : Nat) (w : World) : (Instr.fieldAt 54 (.pointer (some ⟨g, off, none⟩)) 0).run Try.prog w = .ok (.pointer (some ⟨g, off + 0, none⟩)) w := rfl
theorem cp_lease_key_held_le2 (args : Array Value) (w : World) : (callFunc 25 args).run Try.prog w = .ok (.enter 25 args) w := by
  have h := Try.func25
  go_simp
theorem fa_lease_Table_le3_0 (g off : Nat) (w : World) : (Instr.fieldAt 54 (.pointer (some ⟨g, off, none⟩)) 0).run Try.prog w = .ok (.pointer (some ⟨g, off + 0, none⟩)) w := rfl
theorem cp_slices_Sort_int_int_le3 (args : Array Value) (w : World) : (callFunc 29 args).run Try.prog w = .ok (.enter 29 args) w := by
  have h := Try.func29
  go_simp
theorem cp_slices_Compact_int_int_le3 (args : Array Value) (w : World) : (callFunc 30 args).run Try.prog w = .ok (.enter 30 args) w := by
  have h := Try.func30
  go_simp
theorem fa_lease_grant_le3_1 (g off : Nat) (w : World) : (Instr.fieldAt 62 (.pointer (some ⟨g, off, none⟩)) 1).run Try.prog w = .ok (.pointer (some ⟨g, off + 1, none⟩)) w := rfl
theorem fa_lease_key_le3_0 (g off : Nat) (w : World) : (Instr.fieldAt 60 (.pointer (some ⟨g, off, none⟩)) 0).run Try.prog w = .ok (.pointer (some ⟨g, off + 0, none⟩)) w := rfl

set_option maxHeartbeats 4000000 in
theorem heldT_s {w : World} {R : List Ch} (hS0 : Sep w R) (c i u : Int) (o : Bool) :
    CallsR Try.prog 25 #[.agg #[.int .i64 c, .int .i64 i], .agg #[.bool o, .int .i64 u]] w (fun v w' => v = .agg #[.int .i64 c, .int .i64 i, .bool o, .int .i64 u] ∧ Sep w' R) := by
  have hS : Sep w [Ch.many R] := Sep.tail_many (xs := []) hS0; clear hS0
  refine enterR Try.func25 rfl (N := 14) Try.ntmps25 (by show 2 ≤ 14; decide) [(0, .agg #[.int .i64 c, .int .i64 i]), (1, .agg #[.bool o, .int .i64 u])] rfl fun a2 h1 => ?_
  refine wp_seq_k fun K3 hK3 => ?_
  refine wp_region_lit ?_
  refine so (wanted_none rfl) fun K11 hK11 => xbox h1 rfl rfl rfl rfl rfl (z := [.int .i64 c, .int .i64 i]) rfl hS fun a6 g4 w7 h5 s8 b9 e10 => hK11 _ _ ?_
  clear hK11 K11
  clear b9 e10
  refine so (wanted_none rfl) fun K19 hK19 => xbox h5 rfl rfl rfl rfl rfl (z := [.bool o, .int .i64 u]) rfl s8 fun a14 g12 w15 h13 s16 b17 e18 => hK19 _ _ ?_
  clear hK19 K19
  clear b17 e18
  refine so (wanted_none rfl) fun K27 hK27 => xalloc h13 rfl rfl rfl rfl (z := [.int .i64 0, .int .i64 0, .bool false, .int .i64 0]) (fun _ => rfl) s16 fun a22 g20 w23 h21 s24 b25 e26 => hK27 _ _ ?_
  clear hK27 K27
  clear b25 e26
  refine wpList_nil ?_
  refine hK3 _ _ ?_
  refine wp_seq_k fun K28 hK28 => ?_
  refine wp_region_lit ?_
  refine sv h21 (wanted_none rfl) rfl rfl rfl (v := .pointer (some ⟨g4, 0, none⟩)) (rfa h21 rfl rfl (fun w => fa_lease_key_le1_0 g4 0 w)) fun a30 h29 => ?_
  refine sw h29 (wanted_none rfl) rfl rfl rfl (v := .int .i64 c) (rld h29 rfl rfl (ldB Try.underlying3 rfl (s24.get 2 rfl : Blk _ _ _ _) rfl)) fun a32 h31 => ?_
  refine sv h31 (wanted_none rfl) rfl rfl rfl (v := .pointer (some ⟨g4, 1, none⟩)) (rfa h31 rfl rfl (fun w => fa_lease_key_le1_1 g4 0 w)) fun a34 h33 => ?_
  refine sw h33 (wanted_none rfl) rfl rfl rfl (v := .int .i64 i) (rld h33 rfl rfl (ldB Try.underlying3 rfl (s24.get 2 rfl : Blk _ _ _ _) rfl)) fun a36 h35 => ?_
  refine sv h35 (wanted_none rfl) rfl rfl rfl (v := .pointer (some ⟨g12, 0, none⟩)) (rfa h35 rfl rfl (fun w => fa_lease_grant_le1_0 g12 0 w)) fun a38 h37 => ?_
  refine sw h37 (wanted_none rfl) rfl rfl rfl (v := .bool o) (rld h37 rfl rfl (ldB Try.underlying4 rfl (s24.get 1 rfl : Blk _ _ _ _) rfl)) fun a40 h39 => ?_
  refine sv h39 (wanted_none rfl) rfl rfl rfl (v := .pointer (some ⟨g12, 1, none⟩)) (rfa h39 rfl rfl (fun w => fa_lease_grant_le1_1 g12 0 w)) fun a42 h41 => ?_
  refine sw h41 (wanted_none rfl) rfl rfl rfl (v := .int .i64 u) (rld h41 rfl rfl (ldB Try.underlying3 rfl (s24.get 1 rfl : Blk _ _ _ _) rfl)) fun a44 h43 => ?_
  refine sv h43 (wanted_none rfl) rfl rfl rfl (v := .agg #[.int .i64 c, .int .i64 i, .bool o, .int .i64 u]) (rbuild h43 (xs := [(0, .tmp 6), (1, .tmp 8), (2, .tmp 10), (3, .tmp 12)]) rfl (vs := [(0, .int .i64 c), (1, .int .i64 i), (2, .bool o), (3, .int .i64 u)]) rfl (fun w => by kernel_rfl)) fun a46 h45 => ?_
  refine so (wanted_none rfl) fun K52 hK52 => xstore h45 rfl rfl s24 0 rfl rfl rfl [.int .i64 c, .int .i64 i, .bool o, .int .i64 u] rfl (by kernel_rfl) rfl (by show 0 + 4 ≤ 4; decide) (L' := [.int .i64 c, .int .i64 i, .bool o, .int .i64 u]) rfl (cs' := [blkC g20 36 [.int .i64 c, .int .i64 i, .bool o, .int .i64 u], blkC g12 62 [.bool o, .int .i64 u], blkC g4 60 [.int .i64 c, .int .i64 i], Ch.many R]) rfl fun a48 w49 h47 s50 t51 => hK52 _ _ ?_
  clear hK52 K52
  clear t51
  have h53 := h47.subs (l' := [(4, _), (3, _), (2, _), (0, _), (1, _)]) rfl
  clear h47 h1 h5 h13 h21 h29 h31 h33 h35 h37 h39 h41 h43 h45 a2 a6 a14 a22 a30 a32 a34 a36 a38 a40 a42 a44 a46
  refine wpList_nil ?_
  refine hK28 _ _ ?_
  refine wp_ret ?_
  try simp only [Exit.then, Exit.inBlock]
  refine retRw (v := .agg #[.int .i64 c, .int .i64 i, .bool o, .int .i64 u]) (resC h53 rfl rfl (s50.get 0 rfl : Blk _ _ _ _) Try.underlying36 rfl (by kernel_rfl)) h53.defs ?_
  exact ⟨rfl, Sep.tail_un (xs := []) (s50.pick [3] (by decide) rfl)⟩

set_option maxHeartbeats 4000000 in
theorem findT_s {w : World} {tg gm wm n m : Nat} {g : GrF} {wt : WtF} {R : List Ch} (hS0 : Sep w (tab3 tg gm wm n m g wt ++ R)) {c i : Int} (hk : wfK (c, i)) :
    CallsR Try.prog 19 #[.pointer (some ⟨tg, 0, none⟩), .int .i64 c, .int .i64 i] w (fun v w' => v = findV g c i ∧ Sep w' (tab3 tg gm wm n m g wt ++ R)) := by
  have hS : Sep w [blkC tg 54 [.map (some gm), .map (some wm)], mapC KG gm n g, mapC KW wm m wt, Ch.many R] := Sep.tail_many (xs := tab3 tg gm wm n m g wt) hS0; clear hS0
  refine enterR Try.func19 rfl (N := 29) Try.ntmps19 (by show 3 ≤ 29; decide) [(0, .pointer (some ⟨tg, 0, none⟩)), (1, .int .i64 c), (2, .int .i64 i)] rfl fun a2 h1 => ?_
  refine wp_seq_k fun K3 hK3 => ?_
  refine wp_region_lit ?_
  refine so (wanted_none rfl) fun K11 hK11 => xalloc h1 rfl rfl rfl rfl (z := [.int .i64 0, .int .i64 0, .bool false, .int .i64 0]) (fun _ => rfl) hS fun a6 g4 w7 h5 s8 b9 e10 => hK11 _ _ ?_
  clear hK11 K11
  clear b9 e10
  refine sv h5 (wanted_none rfl) rfl rfl rfl (v := .bool false) (rassign h5 rfl rfl) fun a13 h12 => ?_
  refine wpList_nil ?_
  refine hK3 _ _ ?_
  refine wp_seq_k fun K14 hK14 => ?_
  refine wp_region_lit ?_
  refine sv h12 (wanted_none rfl) rfl rfl rfl (v := .int .i64 c) (rmove h12 rfl rfl) fun a16 h15 => ?_
  refine sv h15 (wanted_none rfl) rfl rfl rfl (v := .int .i64 i) (rmove h15 rfl rfl) fun a18 h17 => ?_
  refine sv h17 (wanted_none rfl) rfl rfl rfl (v := .agg #[.int .i64 c, .int .i64 i]) (rbuild h17 (xs := [(0, .tmp 11), (1, .tmp 12)]) rfl (vs := [(0, .int .i64 c), (1, .int .i64 i)]) rfl (fun w => by kernel_rfl)) fun a20 h19 => ?_
  refine so (wanted_none rfl) fun K28 hK28 => xalloc h19 rfl rfl rfl rfl (z := [.int .i64 0, .int .i64 0]) (fun _ => rfl) s8 fun a23 g21 w24 h22 s25 b26 e27 => hK28 _ _ ?_
  clear hK28 K28
  clear b26 e27
  refine so (wanted_none rfl) fun K34 hK34 => xstore h22 rfl rfl s25 0 rfl rfl rfl [.int .i64 c, .int .i64 i] rfl (by kernel_rfl) rfl (by show 0 + 2 ≤ 2; decide) (L' := [.int .i64 c, .int .i64 i]) rfl (cs' := [blkC g21 60 [.int .i64 c, .int .i64 i], blkC g4 36 [.int .i64 0, .int .i64 0, .bool false, .int .i64 0], blkC tg 54 [.map (some gm), .map (some wm)], mapC KG gm n g, mapC KW wm m wt, Ch.many R]) rfl fun a30 w31 h29 s32 t33 => hK34 _ _ ?_
  clear hK34 K34
  clear t33
  have h35 := h29.subs (l' := [(8, _), (7, _), (6, _), (0, _), (1, _), (2, _)]) rfl
  clear h29 h1 h5 h12 h15 h17 h19 h22 a2 a6 a13 a16 a18 a20 a23
  refine wpList_nil ?_
  refine hK14 _ _ ?_
  refine wp_seq_k fun K36 hK36 => ?_
  have s38 := s32.drew
  refine wp_region_held_drew (S := fun w' => Sep w' [blkC g21 60 [.int .i64 c, .int .i64 i], blkC g4 36 [.int .i64 0, .int .i64 0, .bool false, .int .i64 0], blkC tg 54 [.map (some gm), .map (some wm)], mapC KG gm n g, mapC KW wm m wt, Ch.many R]) (by kernel_rfl) s38 (fun hq37 => ?_)
  refine tv hq37 h35 0 rfl rfl rfl rfl (by kernel_rfl) (by kernel_rfl) (by kernel_rfl) (fun _ _ _ _ h => h) (wanted_none rfl) (v := .pointer (some ⟨tg, 0, none⟩)) (fun w1 _ => (rmove h35 rfl rfl) w1) fun a40 h39 => ?_
  refine tv hq37 h39 1 rfl rfl rfl rfl (by kernel_rfl) (by kernel_rfl) (by kernel_rfl) (fun _ _ _ _ h => h) (wanted_none rfl) (v := .pointer (some ⟨tg, 0, none⟩)) (fun w1 _ => (rnil h39 rfl rfl) w1) fun a42 h41 => ?_
  refine tv hq37 h41 2 rfl rfl rfl rfl (by kernel_rfl) (by kernel_rfl) (by kernel_rfl) (fun _ _ _ _ h => h) (wanted_none rfl) (v := .pointer (some ⟨tg, 0, none⟩)) (fun w1 _ => (rfa h41 rfl rfl (fun w => fa_lease_Table_le2_0 tg 0 w)) w1) fun a44 h43 => ?_
  refine tv hq37 h43 3 rfl rfl rfl rfl (by kernel_rfl) (by kernel_rfl) (by kernel_rfl) (fun _ _ _ _ h => h) (wanted_none rfl) (v := .map (some gm)) (fun w1 hSw => (rld h43 rfl rfl (ldB Try.underlying51 rfl (hSw.get 2 rfl : Blk _ _ _ _) rfl))) fun a46 h45 => ?_
  refine tv hq37 h45 4 rfl rfl rfl rfl (by kernel_rfl) (by kernel_rfl) (by kernel_rfl) (fun _ _ _ _ h => h) (wanted_none rfl) (v := .agg #[.int .i64 c, .int .i64 i]) (fun w1 hSw => (rld h45 rfl rfl (ldA Try.underlying60 rfl (n := 2) (by kernel_rfl) (hSw.get 0 rfl : Blk _ _ _ _) rfl rfl))) fun a48 h47 => ?_
  refine tv hq37 h47 5 rfl rfl rfl rfl (by kernel_rfl) (by kernel_rfl) (by kernel_rfl) (fun _ _ _ _ h => h) (wanted_none rfl) (v := .tuple #[.agg #[.bool (((g (c, i)).getD (false, 0)).1), .int .i64 (((g (c, i)).getD (false, 0)).2)], .bool ((g (c, i)).isSome)]) (fun w1 hSw => (rlook h47 rfl rfl rfl (by have z := (hSw.get 3 rfl : MapG KG _ _ _ _).look (i := (c, i)) hk; exact z))) fun a50 h49 => ?_
  refine tv hq37 h49 6 rfl rfl rfl rfl (by kernel_rfl) (by kernel_rfl) (by kernel_rfl) (fun _ _ _ _ h => h) (wanted_none rfl) (v := .tuple #[.agg #[.bool (((g (c, i)).getD (false, 0)).1), .int .i64 (((g (c, i)).getD (false, 0)).2)], .bool ((g (c, i)).isSome)]) (fun w1 _ => (rmove h49 rfl rfl) w1) fun a52 h51 => ?_
  refine tv hq37 h51 7 rfl rfl rfl rfl (by kernel_rfl) (by kernel_rfl) (by kernel_rfl) (fun _ _ _ _ h => h) (wanted_none rfl) (v := .agg #[.bool (((g (c, i)).getD (false, 0)).1), .int .i64 (((g (c, i)).getD (false, 0)).2)]) (fun w1 _ => (rext h51 rfl rfl rfl) w1) fun a54 h53 => ?_
  refine tv hq37 h53 8 rfl rfl rfl rfl (by kernel_rfl) (by kernel_rfl) (by kernel_rfl) (fun _ _ _ _ h => h) (wanted_none rfl) (v := .bool ((g (c, i)).isSome)) (fun w1 _ => (rext h53 rfl rfl rfl) w1) fun a56 h55 => ?_
  refine to_ 9 rfl (wanted_none rfl) (by kernel_rfl) fun K65 hK65 => xalloc h55 rfl rfl rfl rfl (z := [.bool false, .int .i64 0]) (fun _ => rfl) s38 fun a60 g58 w61 h59 s62 b63 e64 => ?_
  clear b63 e64
  refine hK65 _ _ (s62.pick [1, 2, 3, 4, 5, 6] (by decide) rfl) fun hq57 => ?_
  clear hK65 K65
  refine to_ 10 rfl (wanted_none rfl) (by kernel_rfl) fun K72 hK72 => xstore h59 rfl rfl s62 0 rfl rfl rfl [.bool (((g (c, i)).getD (false, 0)).1), .int .i64 (((g (c, i)).getD (false, 0)).2)] rfl (by kernel_rfl) rfl (by show 0 + 2 ≤ 2; decide) (L' := [.bool (((g (c, i)).getD (false, 0)).1), .int .i64 (((g (c, i)).getD (false, 0)).2)]) rfl (cs' := [blkC g58 62 [.bool (((g (c, i)).getD (false, 0)).1), .int .i64 (((g (c, i)).getD (false, 0)).2)], blkC g21 60 [.int .i64 c, .int .i64 i], blkC g4 36 [.int .i64 0, .int .i64 0, .bool false, .int .i64 0], blkC tg 54 [.map (some gm), .map (some wm)], mapC KG gm n g, mapC KW wm m wt, Ch.many R]) rfl fun a68 w69 h67 s70 t71 => ?_
  clear t71
  refine hK72 _ _ (s70.pick [1, 2, 3, 4, 5, 6] (by decide) rfl) fun hq66 => ?_
  clear hK72 K72
  refine tv hq66 h67 11 rfl rfl rfl rfl (by kernel_rfl) (by kernel_rfl) (by kernel_rfl) (fun _ _ _ _ h => h) (wanted_none rfl) (v := .bool ((g (c, i)).isSome)) (fun w1 _ => (rassign h67 rfl rfl) w1) fun a74 h73 => ?_
  have h75 := h73.subs (l' := [(10, _), (9, _), (8, _), (7, _), (6, _), (0, _), (1, _), (2, _)]) rfl
  clear h73 h35 h39 h41 h43 h45 h47 h49 h51 h53 h55 h59 h67 a30 a40 a42 a44 a46 a48 a50 a52 a54 a56 a60 a68
  refine wpAnyH_done (by kernel_rfl) ?_ _
  refine hK36 _ _ ?_
  refine wp_seq_k fun K76 hK76 => ?_
  refine wp_seq_k fun K77 hK77 => ?_
  refine wp_region_lit ?_
  refine sv h75 (wanted_none rfl) rfl rfl rfl (v := .bool ((g (c, i)).isSome)) (rmove h75 rfl rfl) fun a79 h78 => ?_
  refine sv h78 (wanted_none rfl) rfl rfl rfl (v := .bool (!((g (c, i)).isSome))) (rnot h78 rfl (b := (g (c, i)).isSome) rfl) fun a81 h80 => ?_
  have h82 := h80.subs (l' := [(24, _), (10, _), (9, _), (8, _), (7, _), (6, _), (0, _), (1, _), (2, _)]) rfl
  clear h80 h75 h78 a74 a79
  refine wpList_nil ?_
  refine hK77 _ _ ?_
  rcases Bool.eq_false_or_eq_true ((g (c, i)).isSome) with hc83 | hc83
  · skip
    refine wp_condS h82 rfl (bNotT hc83) ?_
    simp only [Bool.false_eq_true, if_false]
    have h85 := h82.subs (l' := [(10, _), (9, _), (8, _), (7, _), (6, _), (0, _), (1, _), (2, _)]) rfl
    clear h82
    refine wp_skip ?_
    refine hK76 _ _ ?_
    refine wp_seq_k fun K86 hK86 => ?_
    refine wp_region_lit ?_
    refine sw h85 (wanted_none rfl) rfl rfl rfl (v := .agg #[.int .i64 c, .int .i64 i]) (rld h85 rfl rfl (ldA Try.underlying60 rfl (n := 2) (by kernel_rfl) (s70.get 1 rfl : Blk _ _ _ _) rfl rfl)) fun a88 h87 => ?_
    refine sw h87 (wanted_none rfl) rfl rfl rfl (v := .agg #[.bool (((g (c, i)).getD (false, 0)).1), .int .i64 (((g (c, i)).getD (false, 0)).2)]) (rld h87 rfl rfl (ldA Try.underlying62 rfl (n := 2) (by kernel_rfl) (s70.get 0 rfl : Blk _ _ _ _) rfl rfl)) fun a90 h89 => ?_
    refine so (wanted_none rfl) fun K97 hK97 => xcall h89 rfl rfl rfl (xs := [.tmp 26, .tmp 27]) rfl cp_lease_key_held_le2 rfl (vs := [.agg #[.int .i64 c, .int .i64 i], .agg #[.bool (((g (c, i)).getD (false, 0)).1), .int .i64 (((g (c, i)).getD (false, 0)).2)]]) rfl (args := #[.agg #[.int .i64 c, .int .i64 i], .agg #[.bool (((g (c, i)).getD (false, 0)).1), .int .i64 (((g (c, i)).getD (false, 0)).2)]]) rfl (heldT_s (R := [blkC g58 62 [.bool (((g (c, i)).getD (false, 0)).1), .int .i64 (((g (c, i)).getD (false, 0)).2)], blkC g21 60 [.int .i64 c, .int .i64 i], blkC g4 36 [.int .i64 0, .int .i64 0, .bool false, .int .i64 0], blkC tg 54 [.map (some gm), .map (some wm)], mapC KG gm n g, mapC KW wm m wt, Ch.many R]) s70 c i (((g (c, i)).getD (false, 0)).2) (((g (c, i)).getD (false, 0)).1)) fun a92 v93 w94 r95 h91 => hK97 _ _ ?_
    clear hK97 K97
    obtain ⟨rfl, s96⟩ := r95
    refine so (wanted_none rfl) fun K103 hK103 => xstore h91 rfl rfl s96 2 rfl rfl rfl [.int .i64 c, .int .i64 i, .bool (((g (c, i)).getD (false, 0)).1), .int .i64 (((g (c, i)).getD (false, 0)).2)] rfl (by kernel_rfl) rfl (by show 0 + 4 ≤ 4; decide) (L' := [.int .i64 c, .int .i64 i, .bool (((g (c, i)).getD (false, 0)).1), .int .i64 (((g (c, i)).getD (false, 0)).2)]) rfl (cs' := [blkC g58 62 [.bool (((g (c, i)).getD (false, 0)).1), .int .i64 (((g (c, i)).getD (false, 0)).2)], blkC g21 60 [.int .i64 c, .int .i64 i], blkC g4 36 [.int .i64 c, .int .i64 i, .bool (((g (c, i)).getD (false, 0)).1), .int .i64 (((g (c, i)).getD (false, 0)).2)], blkC tg 54 [.map (some gm), .map (some wm)], mapC KG gm n g, mapC KW wm m wt, Ch.many R]) rfl fun a99 w100 h98 s101 t102 => hK103 _ _ ?_
    clear hK103 K103
    clear t102
    have h104 := h98.subs (l' := [(28, _), (27, _), (26, _), (10, _), (9, _), (8, _), (6, _), (0, _), (1, _), (2, _)]) rfl
    clear h98 h85 h87 h89 h91 a81 a88 a90 a92
    refine sv h104 (wanted_none rfl) rfl rfl rfl (v := .bool true) (rassign h104 rfl rfl) fun a106 h105 => ?_
    have h107 := h105.subs (l' := [(7, _), (10, _), (9, _), (8, _), (6, _), (0, _), (1, _), (2, _)]) rfl
    clear h105 h104 a99
    refine wpList_nil ?_
    refine hK86 _ _ ?_
    refine wp_ret ?_
    try simp only [Exit.then, Exit.inBlock]
    refine retRw (v := .tuple #[.agg #[.int .i64 c, .int .i64 i, .bool (((g (c, i)).getD (false, 0)).1), .int .i64 (((g (c, i)).getD (false, 0)).2)], .bool true]) (resCt h107 rfl rfl rfl (s101.get 2 rfl : Blk _ _ _ _) Try.underlying36 rfl (by kernel_rfl)) h107.defs ?_
    exact ⟨by unfold findV; rw [if_pos hc83], Sep.tail_un (xs := tab3 _ _ _ _ _ _ _) (s101.pick [3, 4, 5, 6] (by decide) rfl)⟩
  · skip
    refine wp_condS h82 rfl (bNotF hc83) ?_
    simp only [if_true]
    have h109 := h82.subs (l' := [(10, _), (9, _), (8, _), (7, _), (6, _), (0, _), (1, _), (2, _)]) rfl
    clear h82
    refine wp_seq_k fun K110 hK110 => ?_
    refine wp_region_lit ?_
    refine sv h109 (wanted_none rfl) rfl rfl rfl (v := .agg #[.int .i64 0, .int .i64 0, .bool false, .int .i64 0]) (rbuild h109 (xs := []) rfl (vs := []) rfl (fun w => by kernel_rfl)) fun a112 h111 => ?_
    refine so (wanted_none rfl) fun K118 hK118 => xstore h111 rfl rfl s70 2 rfl rfl rfl [.int .i64 0, .int .i64 0, .bool false, .int .i64 0] rfl (by kernel_rfl) rfl (by show 0 + 4 ≤ 4; decide) (L' := [.int .i64 0, .int .i64 0, .bool false, .int .i64 0]) rfl (cs' := [blkC g58 62 [.bool (((g (c, i)).getD (false, 0)).1), .int .i64 (((g (c, i)).getD (false, 0)).2)], blkC g21 60 [.int .i64 c, .int .i64 i], blkC g4 36 [.int .i64 0, .int .i64 0, .bool false, .int .i64 0], blkC tg 54 [.map (some gm), .map (some wm)], mapC KG gm n g, mapC KW wm m wt, Ch.many R]) rfl fun a114 w115 h113 s116 t117 => hK118 _ _ ?_
    clear hK118 K118
    clear t117
    have h119 := h113.subs (l' := [(25, _), (10, _), (9, _), (8, _), (6, _), (0, _), (1, _), (2, _)]) rfl
    clear h113 h109 h111 a81 a112
    refine sv h119 (wanted_none rfl) rfl rfl rfl (v := .bool false) (rassign h119 rfl rfl) fun a121 h120 => ?_
    have h122 := h120.subs (l' := [(7, _), (10, _), (9, _), (8, _), (6, _), (0, _), (1, _), (2, _)]) rfl
    clear h120 h119 a114
    refine wpList_nil ?_
    refine hK110 _ _ ?_
    refine wp_ret ?_
    try simp only [Exit.then, Exit.inBlock]
    refine retRw (v := .tuple #[.agg #[.int .i64 0, .int .i64 0, .bool false, .int .i64 0], .bool false]) (resCt h122 rfl rfl rfl (s116.get 2 rfl : Blk _ _ _ _) Try.underlying36 rfl (by kernel_rfl)) h122.defs ?_
    exact ⟨by unfold findV; rw [if_neg (by rw [hc83]; exact Bool.false_ne_true)], Sep.tail_un (xs := tab3 _ _ _ _ _ _ _) (s116.pick [3, 4, 5, 6] (by decide) rfl)⟩

set_option maxHeartbeats 4000000 in
theorem overT_s {w : World} {tg gm wm n m : Nat} {g : GrF} {wt : WtF} {R : List Ch} (hS0 : Sep w (tab3 tg gm wm n m g wt ++ R)) (hok : GrOk g) (now : Int) :
    CallsR Try.prog 15 #[.pointer (some ⟨tg, 0, none⟩), .int .i64 now] w (fun v w' => ∃ la lc, v = .slice la (overL g now).length lc ∧ Sep w' ((ownC 0 3 1 la (overL g now).length lc ((overL g now).map iV) :: tab3 tg gm wm n m g wt) ++ R)) := by
  have hS : Sep w [blkC tg 54 [.map (some gm), .map (some wm)], mapC KG gm n g, mapC KW wm m wt, Ch.many R] := Sep.tail_many (xs := tab3 tg gm wm n m g wt) hS0; clear hS0
  refine enterR Try.func15 rfl (N := 31) Try.ntmps15 (by show 2 ≤ 31; decide) [(0, .pointer (some ⟨tg, 0, none⟩)), (1, .int .i64 now)] rfl fun a2 h1 => ?_
  refine wp_seq_k fun K3 hK3 => ?_
  refine wp_region_lit ?_
  refine sv h1 (wanted_none rfl) rfl rfl rfl (v := .slice none 0 0) (rassign h1 rfl rfl) fun a5 h4 => ?_
  refine wpList_nil ?_
  refine hK3 _ _ ?_
  refine wp_seq_k fun K6 hK6 => ?_
  refine wp_region_lit ?_
  refine sv h4 (wanted_none rfl) rfl rfl rfl (v := .slice none 0 0) (rassign h4 rfl rfl) fun a8 h7 => ?_
  refine wpList_nil ?_
  refine hK6 _ _ ?_
  refine wp_seq_k fun K9 hK9 => ?_
  refine wp_seq_k fun K10 hK10 => ?_
  refine wp_region_lit ?_
  refine sv h7 (wanted_none rfl) rfl rfl rfl (v := .pointer (some ⟨tg, 0, none⟩)) (rmove h7 rfl rfl) fun a12 h11 => ?_
  refine sv h11 (wanted_none rfl) rfl rfl rfl (v := .pointer (some ⟨tg, 0, none⟩)) (rnil h11 rfl rfl) fun a14 h13 => ?_
  refine sv h13 (wanted_none rfl) rfl rfl rfl (v := .pointer (some ⟨tg, 0, none⟩)) (rfa h13 rfl rfl (fun w => fa_lease_Table_le3_0 tg 0 w)) fun a16 h15 => ?_
  refine sw h15 (wanted_none rfl) rfl rfl rfl (v := .map (some gm)) (rld h15 rfl rfl (ldB Try.underlying51 rfl (hS.get 0 rfl : Blk _ _ _ _) rfl)) fun a18 h17 => ?_
  refine so (wanted_none rfl) fun K26 hK26 => xrange (M := KG) h17 rfl rfl rfl rfl rfl hS 1 rfl rfl fun a22 r19 w23 cnt20 h21 s24 b25 => hK26 _ _ ?_
  clear hK26 K26
  clear b25
  have s27 : Sep w23 [blkC tg 54 [.map (some gm), .map (some wm)], ranC KG gm r19 n g (fun i => (g i).isSome) cnt20, mapC KW wm m wt, Ch.many R] := s24; clear s24
  have h28 := h21.subs (l' := [(12, _), (5, _), (4, _), (0, _), (1, _)]) rfl
  clear h21 h1 h4 h7 h11 h13 h15 h17 a2 a5 a8 a12 a14 a16 a18
  refine wpList_nil ?_
  refine hK10 _ _ ?_
  refine wp_block ?_
  have s29 := s27.ownNil 0 3 1
  refine wp_loop5 (fun (left : Int × Int → Bool) (cnt : Nat) (K : List (Int × Int)) (a : Option Addr) (cc : Nat) a' w' => Kn 31 [(12, .pointer (some ⟨r19, 0, none⟩)), (5, .slice a ((ovLst g now K).length) cc), (4, .slice none 0 0), (0, .pointer (some ⟨tg, 0, none⟩)), (1, .int .i64 now)] a' ∧ Sep w' [ownC 0 3 1 a (ovLst g now K).length cc ((ovLst g now K).map iV), blkC tg 54 [.map (some gm), .map (some wm)], ranC KG gm r19 n g left cnt, mapC KW wm m wt, Ch.many R] ∧ (GathK g left K)) (fun (left : Int × Int → Bool) (cnt : Nat) (K : List (Int × Int)) (a : Option Addr) (cc : Nat) => cnt) (fun i => (g i).isSome) cnt20 [] none 0 ⟨h28.subs rfl, s29, GathK.start g⟩ ?_
  clear h28 s29
  rintro left36 cnt37 K38 a39 cc40 a30 w31 ⟨h32, s33, hga35⟩ K34 hK34
  refine wp_seq_k fun K41 hK41 => ?_
  refine wp_region_lit ?_
  refine so (wanted_none rfl) fun Ka43 hKa43 => xnext (M := KG) h32 rfl rfl rfl rfl s33 2 rfl rfl (fun a43 h42 hlh42 => hKa43 _ _ ?_) ?_
  · skip
    refine sv h42 (wanted_none rfl) rfl rfl rfl (v := .bool false) (rext h42 rfl rfl rfl) fun a45 h44 => ?_
    have h46 := h44.subs (l' := [(14, _), (12, _), (5, _), (4, _), (0, _), (1, _)]) rfl
    clear h44 h32 h42 a30 a43
    refine wpList_nil ?_
    refine hK41 _ _ ?_
    refine wp_seq_k fun K47 hK47 => ?_
    refine wp_condS h46 rfl rfl ?_
    simp only [Bool.false_eq_true, if_false]
    have h48 := h46.subs (l' := [(12, _), (5, _), (4, _), (0, _), (1, _)]) rfl
    clear h46
    refine wp_exit ?_
    refine hK9 _ _ ?_
    refine wp_seq_k fun K49 hK49 => ?_
    refine wp_region_lit ?_
    refine sv h48 (wanted_none rfl) rfl rfl rfl (v := .slice a39 ((ovLst g now K38).length) cc40) (rmove h48 rfl rfl) fun a51 h50 => ?_
    refine so (wanted_none rfl) fun K58 hK58 => xcall h50 rfl rfl rfl (xs := [.tmp 27]) rfl cp_slices_Sort_int_int_le3 rfl (vs := [.slice a39 ((ovLst g now K38).length) cc40]) rfl (args := #[.slice a39 ((ovLst g now K38).length) cc40]) rfl (sortI_s (R := [blkC tg 54 [.map (some gm), .map (some wm)], ranC KG gm r19 n g left36 cnt37, mapC KW wm m wt, Ch.many R]) (s33 : Sep _ [ownC 0 3 1 a39 (ovLst g now K38).length cc40 ((ovLst g now K38).map iV), blkC tg 54 [.map (some gm), .map (some wm)], ranC KG gm r19 n g left36 cnt37, mapC KW wm m wt, Ch.many R]) (by have := ovLst_len g now K38; have := hga35.len hok; omega)) fun a53 v54 w55 r56 h52 => hK58 _ _ ?_
    clear hK58 K58
    obtain ⟨rfl, s57⟩ := r56
    rw [← sortI_len (ovLst g now K38)] at h52
    have h59 := h52.subs (l' := [(12, _), (5, _), (4, _), (0, _), (1, _)]) rfl
    clear h52 h48 h50 a45 a51
    refine wpList_nil ?_
    refine hK49 _ _ ?_
    refine wp_seq_k fun K60 hK60 => ?_
    refine wp_region_lit ?_
    refine sv h59 (wanted_none rfl) rfl rfl rfl (v := .slice a39 ((sortI (ovLst g now K38)).length) cc40) (rmove h59 rfl rfl) fun a62 h61 => ?_
    refine so (wanted_none rfl) fun K69 hK69 => xcall h61 rfl rfl rfl (xs := [.tmp 29]) rfl cp_slices_Compact_int_int_le3 rfl (vs := [.slice a39 ((sortI (ovLst g now K38)).length) cc40]) rfl (args := #[.slice a39 ((sortI (ovLst g now K38)).length) cc40]) rfl (compactI_s (R := [blkC tg 54 [.map (some gm), .map (some wm)], ranC KG gm r19 n g left36 cnt37, mapC KW wm m wt, Ch.many R]) (s57 : Sep _ [ownC 0 3 1 a39 (sortI (ovLst g now K38)).length cc40 ((sortI (ovLst g now K38)).map iV), blkC tg 54 [.map (some gm), .map (some wm)], ranC KG gm r19 n g left36 cnt37, mapC KW wm m wt, Ch.many R]) (by rw [sortI_len]; have := ovLst_len g now K38; have := hga35.len hok; omega)) fun a64 v65 w66 r67 h63 => hK69 _ _ ?_
    clear hK69 K69
    obtain ⟨rfl, s68⟩ := r67
    have h70 := h63.subs (l' := [(30, _), (29, _), (12, _), (5, _), (0, _), (1, _)]) rfl
    clear h63 h59 h61 a53 a62
    refine sv h70 (wanted_none rfl) rfl rfl rfl (v := .slice a39 ((Lib.compact (sortI (ovLst g now K38))).length) cc40) (rassign h70 rfl rfl) fun a72 h71 => ?_
    have h73 := h71.subs (l' := [(4, _), (12, _), (5, _), (0, _), (1, _)]) rfl
    clear h71 h70 a64
    refine wpList_nil ?_
    refine hK60 _ _ ?_
    refine wp_ret ?_
    try simp only [Exit.then, Exit.inBlock]
    refine retR (v := .slice a39 ((Lib.compact (sortI (ovLst g now K38))).length) cc40) (res1 h73 rfl rfl) h73.defs ?_
    have s74 := s68.ran_map 2 rfl
    have e8 : Lib.compact (sortI (ovLst g now K38)) = overL g now := over_eq hok hga35 hlh42 now
    have s75 : Sep _ [ownC 0 3 1 a39 (Lib.compact (sortI (ovLst g now K38))).length cc40 ((Lib.compact (sortI (ovLst g now K38))).map iV), blkC tg 54 [.map (some gm), .map (some wm)], mapC KG gm n g, mapC KW wm m wt, Ch.many R] := s74
    refine ⟨a39, cc40, by rw [← e8], by rw [← e8]; exact Sep.tail_un (xs := [_, _, _, _]) s75⟩
  · skip
    rintro a81 w78 p76 u77 cnt80 h82 s79x okp76 hlp76 hgp76 hnp76 hep76
    refine hKa43 _ _ ?_
    have s79 : Sep w78 [ownC 0 3 1 a39 (ovLst g now K38).length cc40 ((ovLst g now K38).map iV), blkC tg 54 [.map (some gm), .map (some wm)], ranC KG gm r19 n g (fun j => left36 j && !decide (j = p76)) cnt80, mapC KW wm m wt, Ch.many R] := s79x; clear s79x
    refine sv h82 (wanted_none rfl) rfl rfl rfl (v := .bool true) (rext h82 rfl rfl rfl) fun a84 h83 => ?_
    have h85 := h83.subs (l' := [(14, _), (12, _), (5, _), (4, _), (0, _), (1, _)]) rfl
    clear h83 h32 h82 a30 a81
    refine wpList_nil ?_
    refine hK41 _ _ ?_
    refine wp_seq_k fun K86 hK86 => ?_
    refine wp_condS h85 rfl rfl ?_
    simp only [if_true]
    have h87 := h85.subs (l' := [(12, _), (5, _), (4, _), (0, _), (1, _)]) rfl
    clear h85
    refine wp_skip ?_
    refine hK86 _ _ ?_
    refine wp_block ?_
    refine wp_seq_k fun K88 hK88 => ?_
    refine wp_region_lit ?_
    refine sw h87 (wanted_none rfl) rfl rfl rfl (v := .tuple #[.agg #[.int .i64 p76.1, .int .i64 p76.2], .agg #[.bool u77.1, .int .i64 u77.2]]) (rentry h87 rfl rfl hep76) fun a90 h89 => ?_
    refine sv h89 (wanted_none rfl) rfl rfl rfl (v := .agg #[.int .i64 p76.1, .int .i64 p76.2]) (rext h89 rfl rfl rfl) fun a92 h91 => ?_
    refine sv h91 (wanted_none rfl) rfl rfl rfl (v := .agg #[.bool u77.1, .int .i64 u77.2]) (rext h91 rfl rfl rfl) fun a94 h93 => ?_
    refine so (wanted_none rfl) fun K102 hK102 => xalloc h93 rfl rfl rfl rfl (z := [.int .i64 0, .int .i64 0]) (fun _ => rfl) s79 fun a97 g95 w98 h96 s99 b100 e101 => hK102 _ _ ?_
    clear hK102 K102
    clear b100 e101
    refine so (wanted_none rfl) fun K110 hK110 => xalloc h96 rfl rfl rfl rfl (z := [.bool false, .int .i64 0]) (fun _ => rfl) s99 fun a105 g103 w106 h104 s107 b108 e109 => hK110 _ _ ?_
    clear hK110 K110
    clear b108 e109
    refine so (wanted_none rfl) fun K116 hK116 => xstore h104 rfl rfl s107 1 rfl rfl rfl [.int .i64 p76.1, .int .i64 p76.2] rfl (by kernel_rfl) rfl (by show 0 + 2 ≤ 2; decide) (L' := [.int .i64 p76.1, .int .i64 p76.2]) rfl (cs' := [blkC g103 62 [.bool false, .int .i64 0], blkC g95 60 [.int .i64 p76.1, .int .i64 p76.2], ownC 0 3 1 a39 (ovLst g now K38).length cc40 ((ovLst g now K38).map iV), blkC tg 54 [.map (some gm), .map (some wm)], ranC KG gm r19 n g (fun j => left36 j && !decide (j = p76)) cnt80, mapC KW wm m wt, Ch.many R]) rfl fun a112 w113 h111 s114 t115 => hK116 _ _ ?_
    clear hK116 K116
    clear t115
    refine so (wanted_none rfl) fun K122 hK122 => xstore h111 rfl rfl s114 0 rfl rfl rfl [.bool u77.1, .int .i64 u77.2] rfl (by kernel_rfl) rfl (by show 0 + 2 ≤ 2; decide) (L' := [.bool u77.1, .int .i64 u77.2]) rfl (cs' := [blkC g103 62 [.bool u77.1, .int .i64 u77.2], blkC g95 60 [.int .i64 p76.1, .int .i64 p76.2], ownC 0 3 1 a39 (ovLst g now K38).length cc40 ((ovLst g now K38).map iV), blkC tg 54 [.map (some gm), .map (some wm)], ranC KG gm r19 n g (fun j => left36 j && !decide (j = p76)) cnt80, mapC KW wm m wt, Ch.many R]) rfl fun a118 w119 h117 s120 t121 => hK122 _ _ ?_
    clear hK122 K122
    clear t121
    have h123 := h117.subs (l' := [(7, _), (6, _), (12, _), (5, _), (4, _), (0, _), (1, _)]) rfl
    clear h117 h87 h89 h91 h93 h96 h104 h111 a84 a90 a92 a94 a97 a105 a112
    refine wpList_nil ?_
    refine hK88 _ _ ?_
    refine wp_seq_k fun K124 hK124 => ?_
    refine wp_region_lit ?_
    refine sv h123 (wanted_none rfl) rfl rfl rfl (v := .pointer (some ⟨g103, 1, none⟩)) (rfa h123 rfl rfl (fun w => fa_lease_grant_le3_1 g103 0 w)) fun a126 h125 => ?_
    refine sw h125 (wanted_none rfl) rfl rfl rfl (v := .int .i64 u77.2) (rld h125 rfl rfl (ldB Try.underlying3 rfl (s120.get 0 rfl : Blk _ _ _ _) rfl)) fun a128 h127 => ?_
    refine sv h127 (wanted_none rfl) rfl rfl rfl (v := .int .i64 now) (rmove h127 rfl rfl) fun a130 h129 => ?_
    refine sv h129 (wanted_none rfl) rfl rfl rfl (v := .bool (decide (u77.2 ≤ now))) (rbin h129 rfl rfl rfl (cLe _ _ _ _ rfl)) fun a132 h131 => ?_
    have h133 := h131.subs (l' := [(21, _), (7, _), (6, _), (12, _), (5, _), (4, _), (0, _), (1, _)]) rfl
    clear h131 h123 h125 h127 h129 a118 a126 a128 a130
    refine wpList_nil ?_
    refine hK124 _ _ ?_
    rcases Bool.eq_false_or_eq_true (decide (u77.2 ≤ now)) with hc134 | hc134
    · skip
      have hp135 : u77.2 ≤ now := (of_decide_eq_true hc134)
      refine wp_condS h133 rfl hc134 ?_
      simp only [if_true]
      have h136 := h133.subs (l' := [(7, _), (6, _), (12, _), (5, _), (4, _), (0, _), (1, _)]) rfl
      clear h133
      refine wp_region_lit ?_
      refine sv h136 (wanted_none rfl) rfl rfl rfl (v := .slice a39 ((ovLst g now K38).length) cc40) (rmove h136 rfl rfl) fun a138 h137 => ?_
      refine sv h137 (wanted_none rfl) rfl rfl rfl (v := .pointer (some ⟨g95, 0, none⟩)) (rfa h137 rfl rfl (fun w => fa_lease_key_le3_0 g95 0 w)) fun a140 h139 => ?_
      refine sw h139 (wanted_none rfl) rfl rfl rfl (v := .int .i64 p76.1) (rld h139 rfl rfl (ldB Try.underlying3 rfl (s120.get 1 rfl : Blk _ _ _ _) rfl)) fun a142 h141 => ?_
      refine so (wanted_none rfl) fun K150 hK150 => xbuildS h141 rfl rfl rfl (E := 3) (xs := [(0, .tmp 24)]) rfl (vs := [(0, .int .i64 p76.1)]) rfl (z := [.int .i64 p76.1]) (fun _ => by kernel_rfl) s120 fun a145 g143 w146 h144 s147 b148 e149 => hK150 _ _ ?_
      clear hK150 K150
      clear b148 e149
      refine so (wanted_none rfl) fun K157 hK157 => xappI h144 rfl rfl rfl rfl EIL s147 3 rfl rfl 0 (y := p76.1) rfl rfl (by have := ovLst_len g now K38; have := hga35.len hok; omega) (L' := ovLst g now (K38 ++ [p76])) (ovLst_yes hgp76 hc134).symm fun a154 p151 c152 w155 h153 s156 => hK157 _ _ ?_
      clear hK157 K157
      have s158 : Sep w155 [blkC g103 62 [.bool u77.1, .int .i64 u77.2], blkC g95 60 [.int .i64 p76.1, .int .i64 p76.2], ownC 0 3 1 p151 (ovLst g now (K38 ++ [p76])).length c152 ((ovLst g now (K38 ++ [p76])).map iV), blkC tg 54 [.map (some gm), .map (some wm)], ranC KG gm r19 n g (fun j => left36 j && !decide (j = p76)) cnt80, mapC KW wm m wt, Ch.many R] := s156.pick [1, 2, 3, 4, 5, 6, 7] (by decide) rfl; clear s156
      have h159 := h153.subs (l' := [(26, _), (25, _), (24, _), (23, _), (22, _), (7, _), (6, _), (12, _), (4, _), (0, _), (1, _)]) rfl
      clear h153 h136 h137 h139 h141 h144 a132 a138 a140 a142 a145
      refine sv h159 (wanted_none rfl) rfl rfl rfl (v := .slice p151 ((ovLst g now (K38 ++ [p76])).length) c152) (rassign h159 rfl rfl) fun a161 h160 => ?_
      have h162 := h160.subs (l' := [(5, _), (7, _), (6, _), (12, _), (4, _), (0, _), (1, _)]) rfl
      clear h160 h159 a154
      refine wpList_nil ?_
      exact hK34 (fun j => left36 j && !decide (j = p76)) cnt80 (K38 ++ [p76]) p151 c152 _ _ ⟨h162.subs rfl, (s158.pick [2, 3, 4, 5, 6] (by decide) rfl), hga35.push okp76 hlp76 (by rw [hgp76]; rfl)⟩ (hnp76)
    · skip
      have hp163 : ¬ (u77.2 ≤ now) := (of_decide_eq_false hc134)
      refine wp_condS h133 rfl hc134 ?_
      simp only [Bool.false_eq_true, if_false]
      have h164 := h133.subs (l' := [(7, _), (6, _), (12, _), (5, _), (4, _), (0, _), (1, _)]) rfl
      clear h133
      refine wp_skip ?_
      have e165 : ovLst g now (K38 ++ [p76]) = ovLst g now K38 := ovLst_no hgp76 hc134
      rw [← e165] at h164 s120
      exact hK34 (fun j => left36 j && !decide (j = p76)) cnt80 (K38 ++ [p76]) a39 cc40 _ _ ⟨h164.subs rfl, (s120.pick [2, 3, 4, 5, 6] (by decide) rfl), hga35.push okp76 hlp76 (by rw [hgp76]; rfl)⟩ (hnp76)

end Go.Proofs.Ytpalgffmdinfpaa
end
section
namespace Go.Proofs.Ytpalgffmdinfpaa
open Go.RowKit Go.Sort Go.Lib
set_option linter.unusedSimpArgs false
set_option linter.unusedVariables false

theorem flatK_eq {α : Type} [Inhabited α] {enc : α → List Value} {sz : Nat} (h : ∀ x, (enc x).length = sz) (d : Array α) : flatK enc sz d = (d.toList.flatMap enc).toArray := by
  apply Array.ext'
  refine List.ext_getElem? fun i => ?_
  by_cases hi : i < d.size * sz
  · have hsz : 0 < sz := by rcases Nat.eq_zero_or_pos sz with e | e; · subst e; simp at hi
                            · exact e
    have hd : i / sz < d.size := Nat.div_lt_of_lt_mul (by rw [Nat.mul_comm]; exact hi)
    have hm : i % sz < sz := Nat.mod_lt _ hsz
    rw [show (d.toList.flatMap enc).toArray.toList = d.toList.flatMap enc from rfl]
    rw [ls_get h (L := d.toList) (j := i / sz) (k := i % sz) default (by simpa using hd) hm (by rw [Nat.mul_comm]; exact Nat.div_add_mod i sz)]
    have e : d.toList.getD (i / sz) default = d[i / sz]! := by simp [List.getD_eq_getElem?_getD, getElem!_pos, hd]
    rw [e, Array.getElem?_toList, Array.getElem?_eq_getElem (by simpa using hi)]
    have hl : i % sz < (enc d[i / sz]!).length := by rw [h]; exact hm
    rw [List.getElem?_eq_getElem hl]
    simp [flatK, hl]
  · rw [List.getElem?_eq_none (by simp [flatK]; omega), List.getElem?_eq_none (by show (d.toList.flatMap enc).length ≤ i; rw [ls_len h]; simp; omega)]
theorem holds_of_blockV {w : World} {g : Nat} {cur : Array Value} {e : TypeId} {ss : List Value} (hb : w.heap[g]? = some (.cells cur e (0, 0))) (ht : cur.toList.take ss.length = ss) : Holds id w g 0 ss.toArray := by
  intro j hj
  have hj' : j < ss.length := by simpa using hj
  refine ⟨?_, by simp [World.frozen?, hb]⟩
  have h1 : (cur.toList.take ss.length)[j]? = ss[j]? := by rw [ht]
  rw [List.getElem?_take_of_lt hj'] at h1
  simp only [World.cell?, hb, Nat.zero_add]
  simp only [Option.isSome_none, Bool.false_eq_true, if_false]
  rw [← Array.getElem?_toList, h1]
  simp [hj']
theorem heap_sortedV {w : World} {g n : Nat} {os : Array Obj} {cur : Array Value} {e : TypeId} {fr : Nat × Nat} (d : Array Value) (hb : w.heap[g]? = some (.cells cur e fr)) :
    (grow (putRow id (Sort.ahead w n) g 0 d) os).heap[g]? = some (.cells (putCells id 0 d cur) e fr) := by
  have hg : g < w.heap.size := (Array.getElem?_eq_some_iff.1 hb).1
  rw [heap_grow_old _ _ (by simpa using hg)]
  simp [putRow, mapBlock, Sort.ahead, Array.getElem?_modify, hb, onCells]
theorem grownBy_sortedV {w : World} {g n : Nat} {os : Array Obj} (d : Array Value) : w.grownBy (grow (putRow id (Sort.ahead w n) g 0 d) os) (some g) := by
  refine ⟨rfl, rfl, rfl, by simp, fun k hk hne => ?_⟩
  rw [heap_grow_old _ _ (by simpa using hk)]
  have : g ≠ k := fun e => hne (by rw [e])
  simp [putRow, mapBlock, Sort.ahead, Array.getElem?_modify, this]
theorem take_putCellsV (cur : Array Value) (ts : List Value) (h : ts.length ≤ cur.size) : (putCells id 0 ts.toArray cur).toList.take ts.length = ts := by
  apply List.ext_getElem?
  intro j
  by_cases hj : j < ts.length
  · rw [List.getElem?_take_of_lt hj, Array.getElem?_toList]
    simp [putCells, hj, show j < cur.size by omega]
  · rw [List.getElem?_take_eq_none (by omega), List.getElem?_eq_none (by omega)]
/-- a list of one's own as the sort sees it -/
theorem own_sortK {α : Type} [Inhabited α] {enc : α → List Value} {sz : Nat} (henc : ∀ x, (enc x).length = sz) {w : World} {B : Nat} {e : TypeId} {g c : Nat} {L : List α} (h : Own w B e sz (some ⟨g, 0, none⟩) L.length c (L.flatMap enc)) :
    HoldsK enc sz w g 0 L.toArray ∧ g < w.heap.size ∧ ∀ n os (M : List α), M.length = L.length → Own (sortWorldK enc sz w g 0 n M.toArray os) B e sz (some ⟨g, 0, none⟩) M.length c (M.flatMap enc) ∧ w.grownBy (sortWorldK enc sz w g 0 n M.toArray os) (some g) := by
  obtain ⟨h0, h1⟩ := h
  rcases h1 with ⟨hv, _⟩ | ⟨g', cap, cur, hv, hbase, hb, h2, h3, h4, h5⟩
  · cases hv
  · cases hv
    have hlen : ∀ M : List α, M.length = L.length → (M.flatMap enc).length = L.length * sz := fun M hM => by rw [ls_len henc, hM]
    refine ⟨?_, (Array.getElem?_eq_some_iff.1 hb).1, fun n os M hM => ?_⟩
    · unfold HoldsK
      rw [flatK_eq henc]
      exact holds_of_blockV hb (by rw [show L.toArray.toList = L from rfl, hlen L rfl]; exact h5)
    · unfold sortWorldK putRowK
      rw [flatK_eq henc, show M.toArray.toList = M from rfl]
      have hcap : L.length * sz ≤ cur.size := by rw [h4]; exact Nat.mul_le_mul_right _ h2
      refine ⟨⟨by rw [hlen M hM, hM], .inr ⟨g, c, _, rfl, hbase, heap_sortedV _ hb, by omega, h3, by simp [putCells, h4], ?_⟩⟩, grownBy_sortedV _⟩
      have := take_putCellsV cur (M.flatMap enc) (by rw [hlen M hM]; exact hcap)
      rw [hM, ← hlen M hM]; exact this
end Go.Proofs.Ytpalgffmdinfpaa
end
section
namespace Go.Proofs.Ytpalgffmdinfpaa
open Go.Shelf
def shHSlF020_f35_ren : Go.Shelf.Ren := ⟨fun | 20 => 35 | n => n, fun | 24 => 36 | 22 => 33 | 3 => 3 | 25 => 66 | 4 => 4 | 0 => 0 | n => n, fun | n => n⟩
def shHSlF014_f32_ren : Go.Shelf.Ren := ⟨fun | 14 => 32 | 20 => 35 | 21 => 36 | 22 => 37 | 23 => 38 | 24 => 39 | 25 => 40 | 26 => 41 | 27 => 42 | 46 => 54 | 47 => 55 | 48 => 56 | 49 => 57 | 50 => 58 | 15 => 33 | 57 => 63 | 28 => 43 | 29 => 44 | n => n, fun | 24 => 36 | 22 => 33 | 3 => 3 | 25 => 66 | 4 => 4 | 0 => 0 | 46 => 80 | 45 => 79 | 50 => 84 | 66 => 95 | 39 => 76 | 55 => 89 | 70 => 99 | 76 => 104 | 77 => 105 | 53 => 87 | 5 => 5 | 9 => 9 | n => n, fun | n => n⟩
def shHSlF06_f26_ren : Go.Shelf.Ren := ⟨fun | 6 => 26 | 15 => 33 | 14 => 32 | 28 => 43 | 29 => 44 | 20 => 35 | 21 => 36 | 22 => 37 | 23 => 38 | 24 => 39 | 25 => 40 | 26 => 41 | 27 => 42 | 46 => 54 | 47 => 55 | 48 => 56 | 49 => 57 | 50 => 58 | 57 => 63 | n => n, fun | 22 => 33 | 24 => 36 | 25 => 66 | 3 => 3 | 39 => 76 | 0 => 0 | 53 => 87 | 55 => 89 | 4 => 4 | 46 => 80 | 45 => 79 | 50 => 84 | 5 => 5 | 9 => 9 | 66 => 95 | 70 => 99 | 76 => 104 | 77 => 105 | n => n, fun | n => n⟩
theorem shHSlF06_f26 : Go.Proofs.SlLaysF0.n6 Try.prog shHSlF06_f26_ren := {
  mixed := by kernel_rfl
  f6 := ⟨Try.f26.name, by decide, Try.func26.trans (congrArg some (by kernel_rfl))⟩
  f14 := ⟨Try.f32.name, by decide, Try.func32.trans (congrArg some (by kernel_rfl))⟩
  f15 := Try.func33.trans (congrArg some (by kernel_rfl))
  f20 := ⟨Try.f35.name, by decide, Try.func35.trans (congrArg some (by kernel_rfl))⟩
  f21 := ⟨Try.f36.name, by decide, Try.func36.trans (congrArg some (by kernel_rfl))⟩
  f22 := ⟨Try.f37.name, by decide, Try.func37.trans (congrArg some (by kernel_rfl))⟩
  f23 := ⟨Try.f38.name, by decide, Try.func38.trans (congrArg some (by kernel_rfl))⟩
  f24 := ⟨Try.f39.name, by decide, Try.func39.trans (congrArg some (by kernel_rfl))⟩
  f25 := ⟨Try.f40.name, by decide, Try.func40.trans (congrArg some (by kernel_rfl))⟩
  f26 := ⟨Try.f41.name, by decide, Try.func41.trans (congrArg some (by kernel_rfl))⟩
  f27 := ⟨Try.f42.name, by decide, Try.func42.trans (congrArg some (by kernel_rfl))⟩
  f28 := Try.func43.trans (congrArg some (by kernel_rfl))
  f29 := Try.func44.trans (congrArg some (by kernel_rfl))
  f46 := ⟨Try.f54.name, by decide, Try.func54.trans (congrArg some (by kernel_rfl))⟩
  f47 := Try.func55.trans (congrArg some (by kernel_rfl))
  f48 := Try.func56.trans (congrArg some (by kernel_rfl))
  f49 := ⟨Try.f57.name, by decide, Try.func57.trans (congrArg some (by kernel_rfl))⟩
  f50 := ⟨Try.f58.name, by decide, Try.func58.trans (congrArg some (by kernel_rfl))⟩
  f57 := ⟨Try.f63.name, by decide, Try.func63.trans (congrArg some (by kernel_rfl))⟩
  t0 := Try.underlying0
  a0 := Try.isAgg0
  z0 := Try.sizeOf0
  v0 := Try.zeroValue0
  t3 := Try.underlying3
  a3 := Try.isAgg3
  z3 := Try.sizeOf3
  v3 := Try.zeroValue3
  t4 := Try.underlying4
  a4 := Try.isAgg4
  z4 := Try.sizeOf4
  v4 := Try.zeroValue4
  t5 := Try.underlying5
  a5 := Try.isAgg5
  z5 := Try.sizeOf5
  v5 := Try.zeroValue5
  t9 := Try.underlying9
  a9 := Try.isAgg9
  z9 := Try.sizeOf9
  v9 := Try.zeroValue9
  t22 := Try.underlying33
  a22 := Try.isAgg33
  z22 := Try.sizeOf33
  v22 := Try.zeroValue33
  t25 := Try.underlying66
  a25 := Try.isAgg66
  z25 := Try.sizeOf66
  v25 := Try.zeroValue66
  t39 := Try.underlying76
  a39 := Try.isAgg76
  z39 := Try.sizeOf76
  v39 := Try.zeroValue76
  t45 := Try.underlying79
  a45 := Try.isAgg79
  z45 := Try.sizeOf79
  v45 := Try.zeroValue79
  t46 := Try.underlying80
  a46 := Try.isAgg80
  z46 := Try.sizeOf80
  v46 := Try.zeroValue80
  t50 := Try.underlying84
  a50 := Try.isAgg84
  z50 := Try.sizeOf84
  v50 := Try.zeroValue84
  t53 := Try.underlying87
  a53 := Try.isAgg87
  z53 := Try.sizeOf87
  v53 := Try.zeroValue87
  t55 := Try.underlying89
  a55 := Try.isAgg89
  z55 := Try.sizeOf89
  v55 := Try.zeroValue89
  t66 := Try.underlying95
  a66 := Try.isAgg95
  z66 := Try.sizeOf95
  v66 := Try.zeroValue95
  t70 := Try.underlying99
  a70 := Try.isAgg99
  z70 := Try.sizeOf99
  v70 := Try.zeroValue99
  t76 := Try.underlying104
  a76 := Try.isAgg104
  z76 := Try.sizeOf104
  v76 := Try.zeroValue104
  t77 := Try.underlying105
  a77 := Try.isAgg105
  z77 := Try.sizeOf105
  v77 := Try.zeroValue105 }
open Go.RowKit Go.Lib Go.Sort in
theorem slices_SortFunc_none {α : Type} [Inhabited α] (p : Option Addr) (cap : Nat) (fv : Value) (w : World) :
    Calls Try.prog 26 #[.slice p 0 cap, fv] w fun e w' => e = .returned (.tuple #[]) ∧ w' = w := AnyF.slices_SortFunc_none shHSlF06_f26 p cap fv w
open Go.RowKit Go.Lib Go.Sort in
theorem slices_SortFunc_total {α : Type} [Inhabited α] (k : Nat) (aE : ∀ w, (isAgg 36).run Try.prog w = .ok true w) (zE : ∀ w, (Go.sizeOf 36).run Try.prog w = .ok k w) (enc : α → List Value) (hk : ∀ x, (enc x).length = k) (h1 : ∀ x, ∀ v ∈ enc x, v.oneCell' = true) (cf : α → α → Int) (hO : SWO (ltOf cf)) (g : Nat) (cb : Array Value) (blk off cap : Nat) (d : Array α) (w : World) (eg : ∀ args w, (callFunc g args).run Try.prog w = .ok (.enter g args) w) (hcmp : CmpLays Try.prog g cb enc k cf blk off d.size w) (hH : HoldsK enc k w blk off d) (hblk : blk < w.heap.size) (hsz : d.size < 4611686018427387904) (hT : ∀ x y, (ltOf cf) x y = false → (ltOf cf) y x = false → x = y) :
    Calls Try.prog 26 #[.slice (some ⟨blk, off, none⟩) d.size cap, .func (.func g) #[] cb] w fun e w' =>
      e = .returned (.tuple #[]) ∧ ∃ n os, w' = sortWorldK enc k w blk off n (d.toList.mergeSort fun x y => !(ltOf cf) y x).toArray os := AnyQ.slices_SortFunc_total shHSlF06_f26 k aE zE enc hk h1 cf hO g cb blk off cap d w eg hcmp hH hblk hsz hT
end Go.Proofs.Ytpalgffmdinfpaa
end
