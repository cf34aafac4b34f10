/- The document's Inner, by kinds: [0, 1]. (genWirIn.py) -/
import Derived.Test.YtanediaaidfcaaaWirIn
namespace Go.Proofs.Ytanediaaidfcaaa
open Go.RowKit
set_option linter.unusedSimpArgs false
set_option linter.unusedVariables false

set_option maxRecDepth 100000 in
set_option maxHeartbeats 4000000 in
theorem inner_none (P : PkM) (hP : smallP P) (hS : longP P) (a : Option Addr) (c : Nat) (w : World) (ha : Row w 1 a P.N.length c (P.N.map strV)) (hk : ¬ (1 ≤ P.I 0 ∧ P.I 0 ≤ 5)) :
    Calls Try.prog 23 #[.agg (pkC P a P.N.length c).toArray] w fun e w' => ∃ ba bc, e = .returned (.tuple #[.slice ba (fHead.foldl (stepW P) ⟨[], false⟩).b.length bc, .bool (!(fHead.foldl (stepW P) ⟨[], false⟩).no && eqPk P (setL P P0z fHead))]) ∧ OwnB w' w.heap.size ba bc (fHead.foldl (stepW P) ⟨[], false⟩).b ∧ Below w.heap.size w w' := by
  have HO := hid (fun (W : World) (hW : Below w.heap.size w W) => others_none P a c W (ha.mono hW) hk)
  obtain ⟨rb, hrb⟩ : ∃ rb, rb = eqPk P (setL P P0z fHead) := ⟨_, rfl⟩
  rw [← hrb] at HO ⊢
  clear hrb
  have e1 : (P.I 0 == 1) = false := by simp; omega
  have e2 : (P.I 0 == 2) = false := by simp; omega
  have e3 : (P.I 0 == 3) = false := by simp; omega
  have e4 : (P.I 0 == 4) = false := by simp; omega
  have e5 : (P.I 0 == 5) = false := by simp; omega
  obtain ⟨m0, hm0⟩ : ∃ m0, m0 = (⟨[], false⟩ : WM) := ⟨_, rfl⟩
  have l0 : m0.b.length ≤ 0 := by rw [hm0]; simp
  obtain ⟨m1, hm1⟩ : ∃ m1, m1 = wnum m0 (P.I 0) 1 1 5 := ⟨_, rfl⟩
  have l1 : m1.b.length ≤ 8 := by rw [hm1]; have := wnum_len m0 (P.I 0) 1 1 5 (by decide); omega
  obtain ⟨m2, hm2⟩ : ∃ m2, m2 = wnum m1 (P.I 1) 1 1 8 := ⟨_, rfl⟩
  have l2 : m2.b.length ≤ 16 := by rw [hm2]; have := wnum_len m1 (P.I 1) 1 1 8 (by decide); omega
  obtain ⟨m3, hm3⟩ : ∃ m3, m3 = wnum m2 (P.I 2) 4 0 9223372036854775807 := ⟨_, rfl⟩
  have l3 : m3.b.length ≤ 24 := by rw [hm3]; have := wnum_len m2 (P.I 2) 4 0 9223372036854775807 (by decide); omega
  obtain ⟨m4, hm4⟩ : ∃ m4, m4 = wnum m3 (P.I 3) 8 0 9223372036854775807 := ⟨_, rfl⟩
  have l4 : m4.b.length ≤ 32 := by rw [hm4]; have := wnum_len m3 (P.I 3) 8 0 9223372036854775807 (by decide); omega
  rw [show (fHead.foldl (stepW P) ⟨[], false⟩) = m4 by rw [hm4, hm3, hm2, hm1, hm0]; rfl]
  have HM0 := hid hm0
  have HM1 := hid hm1
  have HM2 := hid hm2
  have HM3 := hid hm3
  have HM4 := hid hm4
  clear hk ha hm0 hm1 hm2 hm3 hm4
  go_enter Try.func23, Try.ntmps23
  go_step
  go_step
  go_step
  refine wpl_boxT rfl 35 _ rfl (pkC P a P.N.length c) rfl ?_
  intro w1 k1 b1 s1
  have KP1 := hid k1; have B1 := hid b1; have hgB : w.heap.size < w1.heap.size := by omega
  clear k1 b1 s1
  refine wpk_enter (N := 209) (l := [(1, .pointer (some ⟨w.heap.size, 0, none⟩))]) ⟨rfl, (by intro x hx; simp only [List.mem_cons, List.not_mem_nil, or_false] at hx; rcases hx with rfl <;> rfl), rfl⟩ fun a2 h1 => ?_
  refine wpk_val h1 (wanted_none rfl) rfl (by decide) (fr rfl) (.slice none 0 0) rfl fun a4 h3 => ?_
  refine wpk_val h3 (wanted_none rfl) rfl (by decide) (fr rfl) (.bool false) rfl fun a6 h5 => ?_
  go_step
  go_step
  go_step
  go_step
  go_step
  refine wpk_val h5 (wanted_none rfl) rfl (by decide) (fr rfl) (.agg #[.slice none 0 0, .bool false]) (by unfold execOp; simp only [List.map_toArray, List.map_nil]; exact run_v (buildW _)) fun a8 h7 => ?_
  refine wpk_box h7 rfl rfl (by decide) (fr rfl) 83 rfl [.slice none 0 0, .bool false] (h7.eval (k := 8) (v := .agg #[.slice none 0 0, .bool false]) (by simp)) fun a10 w2 h9 k2 b2 s2 => ?_
  have HW0 : Hid (WIn w2 w1.heap.size w1.heap.size m0) := hid (by rw [HM0.out]; exact ⟨none, 0, k2, Own.nil _ _ _ _⟩)
  have HB0 := hid b2
  clear k2 b2 s2
  refine wpk_val h9 (wanted_none rfl) rfl (by decide) (fr rfl) (.pointer (some ⟨w1.heap.size, 0, none⟩)) (by unfold execOp; simp only [h9.eval (k := 9) (v := .pointer (some ⟨w1.heap.size, 0, none⟩)) (by simp)]; rfl) fun a12 h11 => ?_
  have h13 := h11.subs (l' := [(4, .pointer (some ⟨w1.heap.size, 0, none⟩)), (3, .bool false), (2, .slice none 0 0), (1, .pointer (some ⟨w.heap.size, 0, none⟩))]) rfl
  clear h11
  go_step
  go_step
  go_step
  go_step
  go_step
  refine wpk_val h13 (wanted_none rfl) rfl (by decide) (fr rfl) (.pointer (some ⟨w1.heap.size, 0, none⟩)) (by unfold execOp; simp only [h13.eval (k := 4) (v := .pointer (some ⟨w1.heap.size, 0, none⟩)) (by simp)]; rfl) fun a15 h14 => ?_
  refine wpk_val h14 (wanted_none rfl) rfl (by decide) (fr rfl) (.pointer (some ⟨w.heap.size, 0, none⟩)) (by unfold execOp; simp only [h14.eval (k := 1) (v := .pointer (some ⟨w.heap.size, 0, none⟩)) (by simp)]; exact run_v (fa_35_0_0 (w.heap.size) _)) fun a17 h16 => ?_
  refine wpk_val h16 (wanted_none rfl) rfl (by decide) (fr rfl) (.int .i64 (P.I 0)) (by unfold execOp; simp only [h16.eval (k := 11) (v := .pointer (some ⟨w.heap.size, 0, none⟩)) (by simp)]; exact run_v (loadI ((Blk.below KP1.out HB0.out hgB).cell (i := 0) (by show 0 < 43; omega)))) fun a19 h18 => ?_
  refine wpk_call h18 (wanted_none rfl) rfl (by decide) (fr rfl) (fun args => call_40 args _) rfl #[.pointer (some ⟨w1.heap.size, 0, none⟩), .int .i64 (P.I 0), .int .i64 1, .int .i64 1, .int .i64 5] (by simp only [List.map_toArray, List.map_cons, List.map_nil, h18.eval (k := 10) (v := .pointer (some ⟨w1.heap.size, 0, none⟩)) (by simp), h18.eval (k := 12) (v := .int .i64 (P.I 0)) (by simp)]; rfl) (R := fun v w' => v = .tuple #[] ∧ WIn w' w1.heap.size w1.heap.size m1 ∧ Below w1.heap.size w1 w') (Calls.mono (wnum_any HW0.out (Nat.le_refl _) (by omega) (P.I 0) 1 5 1 (hP 0)) (fun e w' q => ⟨_, q.1, rfl, (by rw [HM1.out]; exact q.2.1), HB0.out.trans q.2.2⟩)) fun a21 v0 w3 r0 h20 => ?_
  obtain ⟨rfl, q1, q2⟩ := r0
  have HW1 := hid q1; have HB1 := hid q2
  clear q1 q2 HW0 HB0
  have h22 := h20.subs (l' := [(4, .pointer (some ⟨w1.heap.size, 0, none⟩)), (3, .bool false), (2, .slice none 0 0), (1, .pointer (some ⟨w.heap.size, 0, none⟩))]) rfl
  clear h20
  go_step
  go_step
  go_step
  go_step
  go_step
  refine wpk_val h22 (wanted_none rfl) rfl (by decide) (fr rfl) (.pointer (some ⟨w1.heap.size, 0, none⟩)) (by unfold execOp; simp only [h22.eval (k := 4) (v := .pointer (some ⟨w1.heap.size, 0, none⟩)) (by simp)]; rfl) fun a24 h23 => ?_
  refine wpk_val h23 (wanted_none rfl) rfl (by decide) (fr rfl) (.pointer (some ⟨w.heap.size, 1, none⟩)) (by unfold execOp; simp only [h23.eval (k := 1) (v := .pointer (some ⟨w.heap.size, 0, none⟩)) (by simp)]; exact run_v (fa_35_0_1 (w.heap.size) _)) fun a26 h25 => ?_
  refine wpk_val h25 (wanted_none rfl) rfl (by decide) (fr rfl) (.int .i64 (P.I 1)) (by unfold execOp; simp only [h25.eval (k := 15) (v := .pointer (some ⟨w.heap.size, 1, none⟩)) (by simp)]; exact run_v (loadI ((Blk.below KP1.out HB1.out hgB).cell (i := 1) (by show 1 < 43; omega)))) fun a28 h27 => ?_
  refine wpk_call h27 (wanted_none rfl) rfl (by decide) (fr rfl) (fun args => call_40 args _) rfl #[.pointer (some ⟨w1.heap.size, 0, none⟩), .int .i64 (P.I 1), .int .i64 1, .int .i64 1, .int .i64 8] (by simp only [List.map_toArray, List.map_cons, List.map_nil, h27.eval (k := 14) (v := .pointer (some ⟨w1.heap.size, 0, none⟩)) (by simp), h27.eval (k := 16) (v := .int .i64 (P.I 1)) (by simp)]; rfl) (R := fun v w' => v = .tuple #[] ∧ WIn w' w1.heap.size w1.heap.size m2 ∧ Below w1.heap.size w1 w') (Calls.mono (wnum_any HW1.out (Nat.le_refl _) (by omega) (P.I 1) 1 8 1 (hP 1)) (fun e w' q => ⟨_, q.1, rfl, (by rw [HM2.out]; exact q.2.1), HB1.out.trans q.2.2⟩)) fun a30 v1 w4 r1 h29 => ?_
  obtain ⟨rfl, q1, q2⟩ := r1
  have HW2 := hid q1; have HB2 := hid q2
  clear q1 q2 HW1 HB1
  have h31 := h29.subs (l' := [(4, .pointer (some ⟨w1.heap.size, 0, none⟩)), (3, .bool false), (2, .slice none 0 0), (1, .pointer (some ⟨w.heap.size, 0, none⟩))]) rfl
  clear h29
  go_step
  go_step
  go_step
  go_step
  go_step
  refine wpk_val h31 (wanted_none rfl) rfl (by decide) (fr rfl) (.pointer (some ⟨w1.heap.size, 0, none⟩)) (by unfold execOp; simp only [h31.eval (k := 4) (v := .pointer (some ⟨w1.heap.size, 0, none⟩)) (by simp)]; rfl) fun a33 h32 => ?_
  refine wpk_val h32 (wanted_none rfl) rfl (by decide) (fr rfl) (.pointer (some ⟨w.heap.size, 2, none⟩)) (by unfold execOp; simp only [h32.eval (k := 1) (v := .pointer (some ⟨w.heap.size, 0, none⟩)) (by simp)]; exact run_v (fa_35_0_2 (w.heap.size) _)) fun a35 h34 => ?_
  refine wpk_val h34 (wanted_none rfl) rfl (by decide) (fr rfl) (.int .i64 (P.I 2)) (by unfold execOp; simp only [h34.eval (k := 19) (v := .pointer (some ⟨w.heap.size, 2, none⟩)) (by simp)]; exact run_v (loadI ((Blk.below KP1.out HB2.out hgB).cell (i := 2) (by show 2 < 43; omega)))) fun a37 h36 => ?_
  refine wpk_call h36 (wanted_none rfl) rfl (by decide) (fr rfl) (fun args => call_40 args _) rfl #[.pointer (some ⟨w1.heap.size, 0, none⟩), .int .i64 (P.I 2), .int .i64 4, .int .i64 0, .int .i64 9223372036854775807] (by simp only [List.map_toArray, List.map_cons, List.map_nil, h36.eval (k := 18) (v := .pointer (some ⟨w1.heap.size, 0, none⟩)) (by simp), h36.eval (k := 20) (v := .int .i64 (P.I 2)) (by simp)]; rfl) (R := fun v w' => v = .tuple #[] ∧ WIn w' w1.heap.size w1.heap.size m3 ∧ Below w1.heap.size w1 w') (Calls.mono (wnum_any HW2.out (Nat.le_refl _) (by omega) (P.I 2) 0 9223372036854775807 4 (hP 2)) (fun e w' q => ⟨_, q.1, rfl, (by rw [HM3.out]; exact q.2.1), HB2.out.trans q.2.2⟩)) fun a39 v2 w5 r2 h38 => ?_
  obtain ⟨rfl, q1, q2⟩ := r2
  have HW3 := hid q1; have HB3 := hid q2
  clear q1 q2 HW2 HB2
  have h40 := h38.subs (l' := [(4, .pointer (some ⟨w1.heap.size, 0, none⟩)), (3, .bool false), (2, .slice none 0 0), (1, .pointer (some ⟨w.heap.size, 0, none⟩))]) rfl
  clear h38
  go_step
  go_step
  go_step
  go_step
  go_step
  refine wpk_val h40 (wanted_none rfl) rfl (by decide) (fr rfl) (.pointer (some ⟨w1.heap.size, 0, none⟩)) (by unfold execOp; simp only [h40.eval (k := 4) (v := .pointer (some ⟨w1.heap.size, 0, none⟩)) (by simp)]; rfl) fun a42 h41 => ?_
  refine wpk_val h41 (wanted_none rfl) rfl (by decide) (fr rfl) (.pointer (some ⟨w.heap.size, 3, none⟩)) (by unfold execOp; simp only [h41.eval (k := 1) (v := .pointer (some ⟨w.heap.size, 0, none⟩)) (by simp)]; exact run_v (fa_35_0_3 (w.heap.size) _)) fun a44 h43 => ?_
  refine wpk_val h43 (wanted_none rfl) rfl (by decide) (fr rfl) (.int .i64 (P.I 3)) (by unfold execOp; simp only [h43.eval (k := 23) (v := .pointer (some ⟨w.heap.size, 3, none⟩)) (by simp)]; exact run_v (loadI ((Blk.below KP1.out HB3.out hgB).cell (i := 3) (by show 3 < 43; omega)))) fun a46 h45 => ?_
  refine wpk_call h45 (wanted_none rfl) rfl (by decide) (fr rfl) (fun args => call_40 args _) rfl #[.pointer (some ⟨w1.heap.size, 0, none⟩), .int .i64 (P.I 3), .int .i64 8, .int .i64 0, .int .i64 9223372036854775807] (by simp only [List.map_toArray, List.map_cons, List.map_nil, h45.eval (k := 22) (v := .pointer (some ⟨w1.heap.size, 0, none⟩)) (by simp), h45.eval (k := 24) (v := .int .i64 (P.I 3)) (by simp)]; rfl) (R := fun v w' => v = .tuple #[] ∧ WIn w' w1.heap.size w1.heap.size m4 ∧ Below w1.heap.size w1 w') (Calls.mono (wnum_any HW3.out (Nat.le_refl _) (by omega) (P.I 3) 0 9223372036854775807 8 (hP 3)) (fun e w' q => ⟨_, q.1, rfl, (by rw [HM4.out]; exact q.2.1), HB3.out.trans q.2.2⟩)) fun a48 v3 w6 r3 h47 => ?_
  obtain ⟨rfl, q1, q2⟩ := r3
  have HW4 := hid q1; have HB4 := hid q2
  clear q1 q2 HW3 HB3
  have h49 := h47.subs (l' := [(4, .pointer (some ⟨w1.heap.size, 0, none⟩)), (3, .bool false), (2, .slice none 0 0), (1, .pointer (some ⟨w.heap.size, 0, none⟩))]) rfl
  clear h47
  go_step
  go_step
  go_step
  go_step
  go_step
  go_step
  refine wpk_val h49 (wanted_none rfl) rfl (by decide) (fr rfl) (.pointer (some ⟨w.heap.size, 0, none⟩)) (by unfold execOp; simp only [h49.eval (k := 1) (v := .pointer (some ⟨w.heap.size, 0, none⟩)) (by simp)]; exact run_v (fa_35_0_0 (w.heap.size) _)) fun a51 h50 => ?_
  refine wpk_val h50 (wanted_none rfl) rfl (by decide) (fr rfl) (.int .i64 (P.I 0)) (by unfold execOp; simp only [h50.eval (k := 26) (v := .pointer (some ⟨w.heap.size, 0, none⟩)) (by simp)]; exact run_v (loadI ((Blk.below KP1.out HB4.out hgB).cell (i := 0) (by show 0 < 43; omega)))) fun a53 h52 => ?_
  refine wpk_val h52 (wanted_none rfl) rfl (by decide) (fr rfl) (.bool false) (by unfold execOp; simp only [h52.eval (k := 27) (v := .int .i64 (P.I 0)) (by simp)]; exact run_v (eqIb _ _ _ _ _ e1)) fun a55 h54 => ?_
  refine wpk_val h54 (wanted_none rfl) rfl (by decide) (fr rfl) (.bool false) (by unfold execOp; simp only [h54.eval (k := 28) (v := .bool false) (by simp)]; rfl) fun a57 h56 => ?_
  refine wpk_val h56 (by rw [wanted_of (g := 3) (want := false) (b := false) rfl (h56.yields (prev := 29) rfl (by simp))]; rfl) rfl (by decide) (fr rfl) (.pointer (some ⟨w.heap.size, 0, none⟩)) (by unfold execOp; simp only [h56.eval (k := 1) (v := .pointer (some ⟨w.heap.size, 0, none⟩)) (by simp)]; exact run_v (fa_35_0_0 (w.heap.size) _)) fun a59 h58 => ?_
  refine wpk_val h58 (by rw [wanted_of (g := 3) (want := false) (b := false) rfl (h58.yields (prev := 29) rfl (by simp))]; rfl) rfl (by decide) (fr rfl) (.int .i64 (P.I 0)) (by unfold execOp; simp only [h58.eval (k := 30) (v := .pointer (some ⟨w.heap.size, 0, none⟩)) (by simp)]; exact run_v (loadI ((Blk.below KP1.out HB4.out hgB).cell (i := 0) (by show 0 < 43; omega)))) fun a61 h60 => ?_
  refine wpk_val h60 (by rw [wanted_of (g := 3) (want := false) (b := false) rfl (h60.yields (prev := 29) rfl (by simp))]; rfl) rfl (by decide) (fr rfl) (.bool false) (by unfold execOp; simp only [h60.eval (k := 31) (v := .int .i64 (P.I 0)) (by simp)]; exact run_v (eqIb _ _ _ _ _ e2)) fun a63 h62 => ?_
  refine wpk_val h62 (wanted_none rfl) rfl (by decide) (fr rfl) (.bool false) (run_pick rfl (h62.eval (k := 29) (v := .bool false) (by simp)) (by rw [if_neg (by simp)]; exact h62.eval (k := 32) (v := .bool false) (by simp))) fun a65 h64 => ?_
  have h66 := h64.subs (l' := [(33, .bool false), (4, .pointer (some ⟨w1.heap.size, 0, none⟩)), (3, .bool false), (2, .slice none 0 0), (1, .pointer (some ⟨w.heap.size, 0, none⟩))]) rfl
  clear h64
  go_step
  go_step
  go_step
  refine wp_cond (t := false) (h66.eval (k := 33) (v := .bool false) (by simp)) ?_
  simp only [Bool.false_eq_true, if_false]
  have h67 := h66.subs (l' := [(4, .pointer (some ⟨w1.heap.size, 0, none⟩)), (3, .bool false), (2, .slice none 0 0), (1, .pointer (some ⟨w.heap.size, 0, none⟩))]) rfl
  clear h66
  go_step
  go_step
  go_step
  go_step
  go_step
  go_step
  refine wpk_val h67 (wanted_none rfl) rfl (by decide) (fr rfl) (.pointer (some ⟨w.heap.size, 0, none⟩)) (by unfold execOp; simp only [h67.eval (k := 1) (v := .pointer (some ⟨w.heap.size, 0, none⟩)) (by simp)]; exact run_v (fa_35_0_0 (w.heap.size) _)) fun a69 h68 => ?_
  refine wpk_val h68 (wanted_none rfl) rfl (by decide) (fr rfl) (.int .i64 (P.I 0)) (by unfold execOp; simp only [h68.eval (k := 68) (v := .pointer (some ⟨w.heap.size, 0, none⟩)) (by simp)]; exact run_v (loadI ((Blk.below KP1.out HB4.out hgB).cell (i := 0) (by show 0 < 43; omega)))) fun a71 h70 => ?_
  refine wpk_val h70 (wanted_none rfl) rfl (by decide) (fr rfl) (.bool false) (by unfold execOp; simp only [h70.eval (k := 69) (v := .int .i64 (P.I 0)) (by simp)]; exact run_v (eqIb _ _ _ _ _ e3)) fun a73 h72 => ?_
  have h74 := h72.subs (l' := [(70, .bool false), (4, .pointer (some ⟨w1.heap.size, 0, none⟩)), (3, .bool false), (2, .slice none 0 0), (1, .pointer (some ⟨w.heap.size, 0, none⟩))]) rfl
  clear h72
  go_step
  go_step
  go_step
  refine wp_cond (t := false) (h74.eval (k := 70) (v := .bool false) (by simp)) ?_
  simp only [Bool.false_eq_true, if_false]
  have h75 := h74.subs (l' := [(4, .pointer (some ⟨w1.heap.size, 0, none⟩)), (3, .bool false), (2, .slice none 0 0), (1, .pointer (some ⟨w.heap.size, 0, none⟩))]) rfl
  clear h74
  go_step
  go_step
  go_step
  go_step
  go_step
  go_step
  refine wpk_val h75 (wanted_none rfl) rfl (by decide) (fr rfl) (.pointer (some ⟨w.heap.size, 0, none⟩)) (by unfold execOp; simp only [h75.eval (k := 1) (v := .pointer (some ⟨w.heap.size, 0, none⟩)) (by simp)]; exact run_v (fa_35_0_0 (w.heap.size) _)) fun a77 h76 => ?_
  refine wpk_val h76 (wanted_none rfl) rfl (by decide) (fr rfl) (.int .i64 (P.I 0)) (by unfold execOp; simp only [h76.eval (k := 99) (v := .pointer (some ⟨w.heap.size, 0, none⟩)) (by simp)]; exact run_v (loadI ((Blk.below KP1.out HB4.out hgB).cell (i := 0) (by show 0 < 43; omega)))) fun a79 h78 => ?_
  refine wpk_val h78 (wanted_none rfl) rfl (by decide) (fr rfl) (.bool false) (by unfold execOp; simp only [h78.eval (k := 100) (v := .int .i64 (P.I 0)) (by simp)]; exact run_v (eqIb _ _ _ _ _ e4)) fun a81 h80 => ?_
  have h82 := h80.subs (l' := [(101, .bool false), (4, .pointer (some ⟨w1.heap.size, 0, none⟩)), (3, .bool false), (2, .slice none 0 0), (1, .pointer (some ⟨w.heap.size, 0, none⟩))]) rfl
  clear h80
  go_step
  go_step
  go_step
  refine wp_cond (t := false) (h82.eval (k := 101) (v := .bool false) (by simp)) ?_
  simp only [Bool.false_eq_true, if_false]
  have h83 := h82.subs (l' := [(4, .pointer (some ⟨w1.heap.size, 0, none⟩)), (3, .bool false), (2, .slice none 0 0), (1, .pointer (some ⟨w.heap.size, 0, none⟩))]) rfl
  clear h82
  go_step
  go_step
  go_step
  go_step
  go_step
  go_step
  refine wpk_val h83 (wanted_none rfl) rfl (by decide) (fr rfl) (.pointer (some ⟨w.heap.size, 0, none⟩)) (by unfold execOp; simp only [h83.eval (k := 1) (v := .pointer (some ⟨w.heap.size, 0, none⟩)) (by simp)]; exact run_v (fa_35_0_0 (w.heap.size) _)) fun a85 h84 => ?_
  refine wpk_val h84 (wanted_none rfl) rfl (by decide) (fr rfl) (.int .i64 (P.I 0)) (by unfold execOp; simp only [h84.eval (k := 188) (v := .pointer (some ⟨w.heap.size, 0, none⟩)) (by simp)]; exact run_v (loadI ((Blk.below KP1.out HB4.out hgB).cell (i := 0) (by show 0 < 43; omega)))) fun a87 h86 => ?_
  refine wpk_val h86 (wanted_none rfl) rfl (by decide) (fr rfl) (.bool false) (by unfold execOp; simp only [h86.eval (k := 189) (v := .int .i64 (P.I 0)) (by simp)]; exact run_v (eqIb _ _ _ _ _ e5)) fun a89 h88 => ?_
  have h90 := h88.subs (l' := [(190, .bool false), (4, .pointer (some ⟨w1.heap.size, 0, none⟩)), (3, .bool false), (2, .slice none 0 0), (1, .pointer (some ⟨w.heap.size, 0, none⟩))]) rfl
  clear h88
  go_step
  go_step
  go_step
  refine wp_cond (t := false) (h90.eval (k := 190) (v := .bool false) (by simp)) ?_
  simp only [Bool.false_eq_true, if_false]
  have h91 := h90.subs (l' := [(4, .pointer (some ⟨w1.heap.size, 0, none⟩)), (3, .bool false), (2, .slice none 0 0), (1, .pointer (some ⟨w.heap.size, 0, none⟩))]) rfl
  clear h90
  go_step
  go_step
  go_step
  go_step
  go_step
  refine wpk_val h91 (wanted_none rfl) rfl (by decide) (fr rfl) (.agg (pkC P a P.N.length c).toArray) (by unfold execOp; simp only [h91.eval (k := 1) (v := .pointer (some ⟨w.heap.size, 0, none⟩)) (by simp)]; exact run_v (run_loadAt_mid _ _ _ _ (pkC P a P.N.length c) _ (Blk.below KP1.out HB4.out hgB).range Try.underlying35 rfl (by rw [infoPk]; rfl))) fun a93 h92 => ?_
  refine wpk_call h92 (wanted_none rfl) rfl (by decide) (fr rfl) (fun args => call_42 args _) rfl #[.agg (pkC P a P.N.length c).toArray] (by simp only [List.map_toArray, List.map_cons, List.map_nil, h92.eval (k := 195) (v := .agg (pkC P a P.N.length c).toArray) (by simp)]) (R := fun v w' => v = .bool rb ∧ Below w6.heap.size w6 w') (Calls.mono (HO.out w6 ((B1.out.trans (HB4.out.mono B1.out.size)))) (fun e w' q => ⟨_, q.1, rfl, q.2⟩)) fun a95 v4 w7 r4 h94 => ?_
  obtain ⟨rfl, q2⟩ := r4
  obtain ⟨ba, bc, hbW, hoW⟩ := HW4.out
  have hbW := hid (hbW.mono q2); have hoW := hid (hoW.mono q2); have HB4z := hid (HB4.out.trans (q2.mono HB4.out.size))
  clear q2 HW4 HB4
  refine wpk_val h94 (wanted_none rfl) rfl (by decide) (fr rfl) (.bool rb) (by unfold execOp; simp only [h94.eval (k := 196) (v := .bool rb) (by simp)]; rfl) fun a97 h96 => ?_
  have h98 := h96.subs (l' := [(7, .bool rb), (4, .pointer (some ⟨w1.heap.size, 0, none⟩)), (3, .bool false), (2, .slice none 0 0), (1, .pointer (some ⟨w.heap.size, 0, none⟩))]) rfl
  clear h96
  go_step
  go_step
  go_step
  go_step
  cases hno : m4.no with
  | false =>
    refine wp_region_held_drew (S := fun w' => w' = w7.drew) (by kernel_rfl) rfl (fun hS99 => ?_)
    have B4x := hid HB4z.out.drew
    refine wpk_take hS99 h98 0 rfl rfl (by decide) (fr rfl) (by kernel_rfl) (by kernel_rfl) (by kernel_rfl) (fun _ _ _ _ h => h) (.pointer (some ⟨w1.heap.size, 0, none⟩)) (Or.inl ⟨Eq.refl true, fun w1 hSw => (by cases hSw; exact (by show (execOp _ (⟨_, .move (.tmp 4), _, _, _, _⟩ : Oper)).run _ _ = _; exact (by unfold execOp; simp only [h98.eval (k := 4) (v := .pointer (some ⟨w1.heap.size, 0, none⟩)) (by simp)]; rfl)))⟩) fun a101 h100 => ?_
    refine wpk_take hS99 h100 1 rfl rfl (by decide) (fr rfl) (by kernel_rfl) (by kernel_rfl) (by kernel_rfl) (fun _ _ _ _ h => h) (.pointer (some ⟨w1.heap.size, 0, none⟩)) (Or.inl ⟨Eq.refl true, fun w1 hSw => (by cases hSw; exact (by show (execOp _ (⟨_, .nilCheck (.tmp 197), _, _, _, _⟩ : Oper)).run _ _ = _; exact (by unfold execOp; simp only [h100.eval (k := 197) (v := .pointer (some ⟨w1.heap.size, 0, none⟩)) (by simp)]; exact rfl)))⟩) fun a103 h102 => ?_
    refine wpk_take hS99 h102 2 rfl rfl (by decide) (fr rfl) (by kernel_rfl) (by kernel_rfl) (by kernel_rfl) (fun _ _ _ _ h => h) (.pointer (some ⟨w1.heap.size, 0, none⟩)) (Or.inl ⟨Eq.refl true, fun w1 hSw => (by cases hSw; exact (by show (execOp _ (⟨_, .fieldAddr 83 (.tmp 198) 0, _, _, _, _⟩ : Oper)).run _ _ = _; exact (by unfold execOp; simp only [h102.eval (k := 198) (v := .pointer (some ⟨w1.heap.size, 0, none⟩)) (by simp)]; exact run_v (fa_83_0_0 (w1.heap.size) _))))⟩) fun a105 h104 => ?_
    refine wpk_take hS99 h104 3 rfl rfl (by decide) (fr rfl) (by kernel_rfl) (by kernel_rfl) (by kernel_rfl) (fun _ _ _ _ h => h) (.slice ba m4.b.length bc) (Or.inl ⟨Eq.refl true, fun w1 hSw => (by cases hSw; exact (by show (execOp _ (⟨_, .load 37 (.tmp 199), _, _, _, _⟩ : Oper)).run _ _ = _; exact (by unfold execOp; simp only [h104.eval (k := 199) (v := .pointer (some ⟨w1.heap.size, 0, none⟩)) (by simp)]; exact run_v (loadB ((Blk.drew hbW.out).cell (i := 0) (by simp))))))⟩) fun a107 h106 => ?_
    refine wpk_take hS99 h106 4 rfl rfl (by decide) (fr rfl) (by kernel_rfl) (by kernel_rfl) (by kernel_rfl) (fun _ _ _ _ h => h) (.pointer (some ⟨w1.heap.size, 0, none⟩)) (Or.inl ⟨Eq.refl true, fun w1 hSw => (by cases hSw; exact (by show (execOp _ (⟨_, .move (.tmp 4), _, _, _, _⟩ : Oper)).run _ _ = _; exact (by unfold execOp; simp only [h106.eval (k := 4) (v := .pointer (some ⟨w1.heap.size, 0, none⟩)) (by simp)]; rfl)))⟩) fun a109 h108 => ?_
    refine wpk_take hS99 h108 5 rfl rfl (by decide) (fr rfl) (by kernel_rfl) (by kernel_rfl) (by kernel_rfl) (fun _ _ _ _ h => h) (.pointer (some ⟨w1.heap.size, 0, none⟩)) (Or.inl ⟨Eq.refl true, fun w1 hSw => (by cases hSw; exact (by show (execOp _ (⟨_, .nilCheck (.tmp 201), _, _, _, _⟩ : Oper)).run _ _ = _; exact (by unfold execOp; simp only [h108.eval (k := 201) (v := .pointer (some ⟨w1.heap.size, 0, none⟩)) (by simp)]; exact rfl)))⟩) fun a111 h110 => ?_
    refine wpk_take hS99 h110 6 rfl rfl (by decide) (fr rfl) (by kernel_rfl) (by kernel_rfl) (by kernel_rfl) (fun _ _ _ _ h => h) (.pointer (some ⟨w1.heap.size, 1, none⟩)) (Or.inl ⟨Eq.refl true, fun w1 hSw => (by cases hSw; exact (by show (execOp _ (⟨_, .fieldAddr 83 (.tmp 202) 1, _, _, _, _⟩ : Oper)).run _ _ = _; exact (by unfold execOp; simp only [h110.eval (k := 202) (v := .pointer (some ⟨w1.heap.size, 0, none⟩)) (by simp)]; exact run_v (fa_83_0_1 (w1.heap.size) _))))⟩) fun a113 h112 => ?_
    refine wpk_take hS99 h112 7 rfl rfl (by decide) (fr rfl) (by kernel_rfl) (by kernel_rfl) (by kernel_rfl) (fun _ _ _ _ h => h) (.bool false) (Or.inl ⟨Eq.refl true, fun w1 hSw => (by cases hSw; exact (by show (execOp _ (⟨_, .load 4 (.tmp 203), _, _, _, _⟩ : Oper)).run _ _ = _; exact (by unfold execOp; simp only [h112.eval (k := 203) (v := .pointer (some ⟨w1.heap.size, 1, none⟩)) (by simp)]; exact run_v (loadBo (by rw [(Blk.drew hbW.out).cell (i := 1) (by simp)]; simp [hno])))))⟩) fun a115 h114 => ?_
    refine wpk_take hS99 h114 8 rfl rfl (by decide) (fr rfl) (by kernel_rfl) (by kernel_rfl) (by kernel_rfl) (fun _ _ _ _ h => h) (.bool true) (Or.inl ⟨Eq.refl true, fun w1 hSw => (by cases hSw; exact (by show (execOp _ (⟨_, .unOp .not 4 (.tmp 204), _, _, _, _⟩ : Oper)).run _ _ = _; exact (run_not rfl (h114.eval (k := 204) (v := .bool false) (by simp)))))⟩) fun a117 h116 => ?_
    refine wpk_take hS99 h116 9 rfl rfl (by decide) (fr rfl) (by kernel_rfl) (by kernel_rfl) (by kernel_rfl) (fun _ _ _ _ h => h) (.bool true) (Or.inl ⟨Eq.refl true, fun w1 hSw => (by cases hSw; exact (by show (execOp _ (⟨_, .move (.tmp 205), _, _, _, _⟩ : Oper)).run _ _ = _; exact (by unfold execOp; simp only [h116.eval (k := 205) (v := .bool true) (by simp)]; rfl)))⟩) fun a119 h118 => ?_
    refine wpk_take hS99 h118 10 rfl rfl (by decide) (fr rfl) (by kernel_rfl) (by kernel_rfl) (by kernel_rfl) (fun _ _ _ _ h => h) (.bool rb) (Or.inl ⟨(by rw [wanted_of (g := 9) (want := true) (b := true) rfl (h118.yields (prev := 206) rfl (by simp))]; rfl), fun w1 hSw => (by cases hSw; exact (by show (execOp _ (⟨_, .move (.tmp 7), _, _, _, _⟩ : Oper)).run _ _ = _; exact (by unfold execOp; simp only [h118.eval (k := 7) (v := .bool rb) (by simp)]; rfl)))⟩) fun a121 h120 => ?_
    refine wpk_take hS99 h120 11 rfl rfl (by decide) (fr rfl) (by kernel_rfl) (by kernel_rfl) (by kernel_rfl) (fun _ _ _ _ h => h) (.bool rb) (Or.inl ⟨Eq.refl true, fun w1 hSw => (by cases hSw; exact (by show (execOp _ (⟨_, .pick (.tmp 206) (.tmp 207) (.const (.bool false)), _, _, _, _⟩ : Oper)).run _ _ = _; exact (run_pick rfl (h120.eval (k := 206) (v := .bool true) (by simp)) (by rw [if_pos rfl]; exact h120.eval (k := 207) (v := .bool rb) (by simp)))))⟩) fun a123 h122 => ?_
    have h124 := h122.subs (l' := [(208, .bool rb), (207, .bool rb), (206, .bool true), (205, .bool true), (204, .bool false), (203, .pointer (some ⟨w1.heap.size, 1, none⟩)), (202, .pointer (some ⟨w1.heap.size, 0, none⟩)), (201, .pointer (some ⟨w1.heap.size, 0, none⟩)), (200, .slice ba m4.b.length bc), (199, .pointer (some ⟨w1.heap.size, 0, none⟩)), (198, .pointer (some ⟨w1.heap.size, 0, none⟩)), (197, .pointer (some ⟨w1.heap.size, 0, none⟩)), (7, .bool rb), (4, .pointer (some ⟨w1.heap.size, 0, none⟩)), (3, .bool false), (1, .pointer (some ⟨w.heap.size, 0, none⟩))]) rfl
    clear h122
    refine wpk_take hS99 h124 12 rfl rfl (by decide) (fr rfl) (by kernel_rfl) (by kernel_rfl) (by kernel_rfl) (fun _ _ _ _ h => h) (.slice ba m4.b.length bc) (Or.inl ⟨Eq.refl true, fun w1 hSw => (by cases hSw; exact (by show (execOp _ (⟨_, .assign (.tmp 200), _, _, _, _⟩ : Oper)).run _ _ = _; exact (by unfold execOp; simp only [h124.eval (k := 200) (v := .slice ba m4.b.length bc) (by simp)]; rfl)))⟩) fun a126 h125 => ?_
    have h127 := h125.subs (l' := [(2, .slice ba m4.b.length bc), (208, .bool rb), (207, .bool rb), (206, .bool true), (205, .bool true), (204, .bool false), (203, .pointer (some ⟨w1.heap.size, 1, none⟩)), (202, .pointer (some ⟨w1.heap.size, 0, none⟩)), (201, .pointer (some ⟨w1.heap.size, 0, none⟩)), (200, .slice ba m4.b.length bc), (199, .pointer (some ⟨w1.heap.size, 0, none⟩)), (198, .pointer (some ⟨w1.heap.size, 0, none⟩)), (197, .pointer (some ⟨w1.heap.size, 0, none⟩)), (7, .bool rb), (4, .pointer (some ⟨w1.heap.size, 0, none⟩)), (1, .pointer (some ⟨w.heap.size, 0, none⟩))]) rfl
    clear h125
    refine wpk_take hS99 h127 13 rfl rfl (by decide) (fr rfl) (by kernel_rfl) (by kernel_rfl) (by kernel_rfl) (fun _ _ _ _ h => h) (.bool rb) (Or.inl ⟨Eq.refl true, fun w1 hSw => (by cases hSw; exact (by show (execOp _ (⟨_, .assign (.tmp 208), _, _, _, _⟩ : Oper)).run _ _ = _; exact (by unfold execOp; simp only [h127.eval (k := 208) (v := .bool rb) (by simp)]; rfl)))⟩) fun a129 h128 => ?_
    refine wpAnyH_done (by kernel_rfl) ?_ _
    have h130 := h128.subs (l' := [(3, .bool rb), (2, .slice ba m4.b.length bc), (7, .bool rb), (4, .pointer (some ⟨w1.heap.size, 0, none⟩)), (1, .pointer (some ⟨w.heap.size, 0, none⟩))]) rfl
    clear h128
    go_step
    go_step
    go_step
    refine bodyPost_ret (results_tmp2 rfl (h130.known (2, .slice ba m4.b.length bc) (by simp)) (h130.known (3, .bool rb) (by simp))) h130.defs ?_
    exact ⟨ba, bc, by rw [hno]; rfl, hoW.out.drew.low B1.out.size, B1.out.trans (B4x.out.mono B1.out.size)⟩
  | true =>
    refine wp_region_held_drew (S := fun w' => w' = w7.drew) (by kernel_rfl) rfl (fun hS131 => ?_)
    have B4x := hid HB4z.out.drew
    refine wpk_take hS131 h98 0 rfl rfl (by decide) (fr rfl) (by kernel_rfl) (by kernel_rfl) (by kernel_rfl) (fun _ _ _ _ h => h) (.pointer (some ⟨w1.heap.size, 0, none⟩)) (Or.inl ⟨Eq.refl true, fun w1 hSw => (by cases hSw; exact (by show (execOp _ (⟨_, .move (.tmp 4), _, _, _, _⟩ : Oper)).run _ _ = _; exact (by unfold execOp; simp only [h98.eval (k := 4) (v := .pointer (some ⟨w1.heap.size, 0, none⟩)) (by simp)]; rfl)))⟩) fun a133 h132 => ?_
    refine wpk_take hS131 h132 1 rfl rfl (by decide) (fr rfl) (by kernel_rfl) (by kernel_rfl) (by kernel_rfl) (fun _ _ _ _ h => h) (.pointer (some ⟨w1.heap.size, 0, none⟩)) (Or.inl ⟨Eq.refl true, fun w1 hSw => (by cases hSw; exact (by show (execOp _ (⟨_, .nilCheck (.tmp 197), _, _, _, _⟩ : Oper)).run _ _ = _; exact (by unfold execOp; simp only [h132.eval (k := 197) (v := .pointer (some ⟨w1.heap.size, 0, none⟩)) (by simp)]; exact rfl)))⟩) fun a135 h134 => ?_
    refine wpk_take hS131 h134 2 rfl rfl (by decide) (fr rfl) (by kernel_rfl) (by kernel_rfl) (by kernel_rfl) (fun _ _ _ _ h => h) (.pointer (some ⟨w1.heap.size, 0, none⟩)) (Or.inl ⟨Eq.refl true, fun w1 hSw => (by cases hSw; exact (by show (execOp _ (⟨_, .fieldAddr 83 (.tmp 198) 0, _, _, _, _⟩ : Oper)).run _ _ = _; exact (by unfold execOp; simp only [h134.eval (k := 198) (v := .pointer (some ⟨w1.heap.size, 0, none⟩)) (by simp)]; exact run_v (fa_83_0_0 (w1.heap.size) _))))⟩) fun a137 h136 => ?_
    refine wpk_take hS131 h136 3 rfl rfl (by decide) (fr rfl) (by kernel_rfl) (by kernel_rfl) (by kernel_rfl) (fun _ _ _ _ h => h) (.slice ba m4.b.length bc) (Or.inl ⟨Eq.refl true, fun w1 hSw => (by cases hSw; exact (by show (execOp _ (⟨_, .load 37 (.tmp 199), _, _, _, _⟩ : Oper)).run _ _ = _; exact (by unfold execOp; simp only [h136.eval (k := 199) (v := .pointer (some ⟨w1.heap.size, 0, none⟩)) (by simp)]; exact run_v (loadB ((Blk.drew hbW.out).cell (i := 0) (by simp))))))⟩) fun a139 h138 => ?_
    refine wpk_take hS131 h138 4 rfl rfl (by decide) (fr rfl) (by kernel_rfl) (by kernel_rfl) (by kernel_rfl) (fun _ _ _ _ h => h) (.pointer (some ⟨w1.heap.size, 0, none⟩)) (Or.inl ⟨Eq.refl true, fun w1 hSw => (by cases hSw; exact (by show (execOp _ (⟨_, .move (.tmp 4), _, _, _, _⟩ : Oper)).run _ _ = _; exact (by unfold execOp; simp only [h138.eval (k := 4) (v := .pointer (some ⟨w1.heap.size, 0, none⟩)) (by simp)]; rfl)))⟩) fun a141 h140 => ?_
    refine wpk_take hS131 h140 5 rfl rfl (by decide) (fr rfl) (by kernel_rfl) (by kernel_rfl) (by kernel_rfl) (fun _ _ _ _ h => h) (.pointer (some ⟨w1.heap.size, 0, none⟩)) (Or.inl ⟨Eq.refl true, fun w1 hSw => (by cases hSw; exact (by show (execOp _ (⟨_, .nilCheck (.tmp 201), _, _, _, _⟩ : Oper)).run _ _ = _; exact (by unfold execOp; simp only [h140.eval (k := 201) (v := .pointer (some ⟨w1.heap.size, 0, none⟩)) (by simp)]; exact rfl)))⟩) fun a143 h142 => ?_
    refine wpk_take hS131 h142 6 rfl rfl (by decide) (fr rfl) (by kernel_rfl) (by kernel_rfl) (by kernel_rfl) (fun _ _ _ _ h => h) (.pointer (some ⟨w1.heap.size, 1, none⟩)) (Or.inl ⟨Eq.refl true, fun w1 hSw => (by cases hSw; exact (by show (execOp _ (⟨_, .fieldAddr 83 (.tmp 202) 1, _, _, _, _⟩ : Oper)).run _ _ = _; exact (by unfold execOp; simp only [h142.eval (k := 202) (v := .pointer (some ⟨w1.heap.size, 0, none⟩)) (by simp)]; exact run_v (fa_83_0_1 (w1.heap.size) _))))⟩) fun a145 h144 => ?_
    refine wpk_take hS131 h144 7 rfl rfl (by decide) (fr rfl) (by kernel_rfl) (by kernel_rfl) (by kernel_rfl) (fun _ _ _ _ h => h) (.bool true) (Or.inl ⟨Eq.refl true, fun w1 hSw => (by cases hSw; exact (by show (execOp _ (⟨_, .load 4 (.tmp 203), _, _, _, _⟩ : Oper)).run _ _ = _; exact (by unfold execOp; simp only [h144.eval (k := 203) (v := .pointer (some ⟨w1.heap.size, 1, none⟩)) (by simp)]; exact run_v (loadBo (by rw [(Blk.drew hbW.out).cell (i := 1) (by simp)]; simp [hno])))))⟩) fun a147 h146 => ?_
    refine wpk_take hS131 h146 8 rfl rfl (by decide) (fr rfl) (by kernel_rfl) (by kernel_rfl) (by kernel_rfl) (fun _ _ _ _ h => h) (.bool false) (Or.inl ⟨Eq.refl true, fun w1 hSw => (by cases hSw; exact (by show (execOp _ (⟨_, .unOp .not 4 (.tmp 204), _, _, _, _⟩ : Oper)).run _ _ = _; exact (run_not rfl (h146.eval (k := 204) (v := .bool true) (by simp)))))⟩) fun a149 h148 => ?_
    refine wpk_take hS131 h148 9 rfl rfl (by decide) (fr rfl) (by kernel_rfl) (by kernel_rfl) (by kernel_rfl) (fun _ _ _ _ h => h) (.bool false) (Or.inl ⟨Eq.refl true, fun w1 hSw => (by cases hSw; exact (by show (execOp _ (⟨_, .move (.tmp 205), _, _, _, _⟩ : Oper)).run _ _ = _; exact (by unfold execOp; simp only [h148.eval (k := 205) (v := .bool false) (by simp)]; rfl)))⟩) fun a151 h150 => ?_
    refine wpk_take hS131 h150 10 rfl rfl (by decide) (fr rfl) (by kernel_rfl) (by kernel_rfl) (by kernel_rfl) (fun _ _ _ _ h => h) undef (Or.inr ⟨(by rw [wanted_of (g := 9) (want := true) (b := false) rfl (h150.yields (prev := 206) rfl (by simp))]; rfl), rfl⟩) fun a153 h152 => ?_
    refine wpk_take hS131 h152 11 rfl rfl (by decide) (fr rfl) (by kernel_rfl) (by kernel_rfl) (by kernel_rfl) (fun _ _ _ _ h => h) (.bool false) (Or.inl ⟨Eq.refl true, fun w1 hSw => (by cases hSw; exact (by show (execOp _ (⟨_, .pick (.tmp 206) (.tmp 207) (.const (.bool false)), _, _, _, _⟩ : Oper)).run _ _ = _; exact (run_pick rfl (h152.eval (k := 206) (v := .bool false) (by simp)) rfl)))⟩) fun a155 h154 => ?_
    have h156 := h154.subs (l' := [(208, .bool false), (207, undef), (206, .bool false), (205, .bool false), (204, .bool true), (203, .pointer (some ⟨w1.heap.size, 1, none⟩)), (202, .pointer (some ⟨w1.heap.size, 0, none⟩)), (201, .pointer (some ⟨w1.heap.size, 0, none⟩)), (200, .slice ba m4.b.length bc), (199, .pointer (some ⟨w1.heap.size, 0, none⟩)), (198, .pointer (some ⟨w1.heap.size, 0, none⟩)), (197, .pointer (some ⟨w1.heap.size, 0, none⟩)), (7, .bool rb), (4, .pointer (some ⟨w1.heap.size, 0, none⟩)), (3, .bool false), (1, .pointer (some ⟨w.heap.size, 0, none⟩))]) rfl
    clear h154
    refine wpk_take hS131 h156 12 rfl rfl (by decide) (fr rfl) (by kernel_rfl) (by kernel_rfl) (by kernel_rfl) (fun _ _ _ _ h => h) (.slice ba m4.b.length bc) (Or.inl ⟨Eq.refl true, fun w1 hSw => (by cases hSw; exact (by show (execOp _ (⟨_, .assign (.tmp 200), _, _, _, _⟩ : Oper)).run _ _ = _; exact (by unfold execOp; simp only [h156.eval (k := 200) (v := .slice ba m4.b.length bc) (by simp)]; rfl)))⟩) fun a158 h157 => ?_
    have h159 := h157.subs (l' := [(2, .slice ba m4.b.length bc), (208, .bool false), (207, undef), (206, .bool false), (205, .bool false), (204, .bool true), (203, .pointer (some ⟨w1.heap.size, 1, none⟩)), (202, .pointer (some ⟨w1.heap.size, 0, none⟩)), (201, .pointer (some ⟨w1.heap.size, 0, none⟩)), (200, .slice ba m4.b.length bc), (199, .pointer (some ⟨w1.heap.size, 0, none⟩)), (198, .pointer (some ⟨w1.heap.size, 0, none⟩)), (197, .pointer (some ⟨w1.heap.size, 0, none⟩)), (7, .bool rb), (4, .pointer (some ⟨w1.heap.size, 0, none⟩)), (1, .pointer (some ⟨w.heap.size, 0, none⟩))]) rfl
    clear h157
    refine wpk_take hS131 h159 13 rfl rfl (by decide) (fr rfl) (by kernel_rfl) (by kernel_rfl) (by kernel_rfl) (fun _ _ _ _ h => h) (.bool false) (Or.inl ⟨Eq.refl true, fun w1 hSw => (by cases hSw; exact (by show (execOp _ (⟨_, .assign (.tmp 208), _, _, _, _⟩ : Oper)).run _ _ = _; exact (by unfold execOp; simp only [h159.eval (k := 208) (v := .bool false) (by simp)]; rfl)))⟩) fun a161 h160 => ?_
    refine wpAnyH_done (by kernel_rfl) ?_ _
    have h162 := h160.subs (l' := [(3, .bool false), (2, .slice ba m4.b.length bc), (7, .bool rb), (4, .pointer (some ⟨w1.heap.size, 0, none⟩)), (1, .pointer (some ⟨w.heap.size, 0, none⟩))]) rfl
    clear h160
    go_step
    go_step
    go_step
    refine bodyPost_ret (results_tmp2 rfl (h162.known (2, .slice ba m4.b.length bc) (by simp)) (h162.known (3, .bool false) (by simp))) h162.defs ?_
    exact ⟨ba, bc, by rw [hno]; rfl, hoW.out.drew.low B1.out.size, B1.out.trans (B4x.out.mono B1.out.size)⟩

set_option maxRecDepth 100000 in
set_option maxHeartbeats 4000000 in
theorem inner_1 (P : PkM) (hP : smallP P) (hS : longP P) (a : Option Addr) (c : Nat) (w : World) (ha : Row w 1 a P.N.length c (P.N.map strV)) (hk : P.I 0 = 1) :
    Calls Try.prog 23 #[.agg (pkC P a P.N.length c).toArray] w fun e w' => ∃ ba bc, e = .returned (.tuple #[.slice ba ((fHead ++ fRest 1).foldl (stepW P) ⟨[], false⟩).b.length bc, .bool (!((fHead ++ fRest 1).foldl (stepW P) ⟨[], false⟩).no && eqPk P (setL P P0z (fHead ++ fRest 1)))]) ∧ OwnB w' w.heap.size ba bc ((fHead ++ fRest 1).foldl (stepW P) ⟨[], false⟩).b ∧ Below w.heap.size w w' := by
  have HO := hid (fun (W : World) (hW : Below w.heap.size w W) => others_1 P a c W (ha.mono hW) hk)
  obtain ⟨rb, hrb⟩ : ∃ rb, rb = eqPk P (setL P P0z (fHead ++ fRest 1)) := ⟨_, rfl⟩
  rw [← hrb] at HO ⊢
  clear hrb
  have e1 : (P.I 0 == 1) = true := by rw [hk]; rfl
  have e2 : (P.I 0 == 2) = false := by rw [hk]; rfl
  have e3 : (P.I 0 == 3) = false := by rw [hk]; rfl
  have e4 : (P.I 0 == 4) = false := by rw [hk]; rfl
  have e5 : (P.I 0 == 5) = false := by rw [hk]; rfl
  obtain ⟨m0, hm0⟩ : ∃ m0, m0 = (⟨[], false⟩ : WM) := ⟨_, rfl⟩
  have l0 : m0.b.length ≤ 0 := by rw [hm0]; simp
  obtain ⟨m1, hm1⟩ : ∃ m1, m1 = wnum m0 (P.I 0) 1 1 5 := ⟨_, rfl⟩
  have l1 : m1.b.length ≤ 8 := by rw [hm1]; have := wnum_len m0 (P.I 0) 1 1 5 (by decide); omega
  obtain ⟨m2, hm2⟩ : ∃ m2, m2 = wnum m1 (P.I 1) 1 1 8 := ⟨_, rfl⟩
  have l2 : m2.b.length ≤ 16 := by rw [hm2]; have := wnum_len m1 (P.I 1) 1 1 8 (by decide); omega
  obtain ⟨m3, hm3⟩ : ∃ m3, m3 = wnum m2 (P.I 2) 4 0 9223372036854775807 := ⟨_, rfl⟩
  have l3 : m3.b.length ≤ 24 := by rw [hm3]; have := wnum_len m2 (P.I 2) 4 0 9223372036854775807 (by decide); omega
  obtain ⟨m4, hm4⟩ : ∃ m4, m4 = wnum m3 (P.I 3) 8 0 9223372036854775807 := ⟨_, rfl⟩
  have l4 : m4.b.length ≤ 32 := by rw [hm4]; have := wnum_len m3 (P.I 3) 8 0 9223372036854775807 (by decide); omega
  obtain ⟨m5, hm5⟩ : ∃ m5, m5 = wnum m4 (P.I 4) 1 1 4 := ⟨_, rfl⟩
  have l5 : m5.b.length ≤ 40 := by rw [hm5]; have := wnum_len m4 (P.I 4) 1 1 4 (by decide); omega
  obtain ⟨m6, hm6⟩ : ∃ m6, m6 = wnum m5 (P.I 5) 4 0 9223372036854775807 := ⟨_, rfl⟩
  have l6 : m6.b.length ≤ 48 := by rw [hm6]; have := wnum_len m5 (P.I 5) 4 0 9223372036854775807 (by decide); omega
  obtain ⟨m7, hm7⟩ : ∃ m7, m7 = wnum m6 (P.I 6) 2 0 9223372036854775807 := ⟨_, rfl⟩
  have l7 : m7.b.length ≤ 56 := by rw [hm7]; have := wnum_len m6 (P.I 6) 2 0 9223372036854775807 (by decide); omega
  obtain ⟨m8, hm8⟩ : ∃ m8, m8 = wtext m7 (P.S 7) 2 128 := ⟨_, rfl⟩
  have l8 : m8.b.length ≤ 564 := by rw [hm8]; have := wtext_len m7 (P.S 7) 2 128 (by decide) (hS 7 (by decide)); omega
  obtain ⟨m9, hm9⟩ : ∃ m9, m9 = wnum m8 (P.I 8) 8 0 9223372036854775807 := ⟨_, rfl⟩
  have l9 : m9.b.length ≤ 572 := by rw [hm9]; have := wnum_len m8 (P.I 8) 8 0 9223372036854775807 (by decide); omega
  obtain ⟨m10, hm10⟩ : ∃ m10, m10 = wnum m9 (P.I 9) 8 0 9223372036854775807 := ⟨_, rfl⟩
  have l10 : m10.b.length ≤ 580 := by rw [hm10]; have := wnum_len m9 (P.I 9) 8 0 9223372036854775807 (by decide); omega
  rw [show ((fHead ++ fRest 1).foldl (stepW P) ⟨[], false⟩) = m10 by rw [hm10, hm9, hm8, hm7, hm6, hm5, hm4, hm3, hm2, hm1, hm0]; rfl]
  have HM0 := hid hm0
  have HM1 := hid hm1
  have HM2 := hid hm2
  have HM3 := hid hm3
  have HM4 := hid hm4
  have HM5 := hid hm5
  have HM6 := hid hm6
  have HM7 := hid hm7
  have HM8 := hid hm8
  have HM9 := hid hm9
  have HM10 := hid hm10
  clear hk ha hm0 hm1 hm2 hm3 hm4 hm5 hm6 hm7 hm8 hm9 hm10
  go_enter Try.func23, Try.ntmps23
  go_step
  go_step
  go_step
  refine wpl_boxT rfl 35 _ rfl (pkC P a P.N.length c) rfl ?_
  intro w1 k1 b1 s1
  have KP1 := hid k1; have B1 := hid b1; have hgB : w.heap.size < w1.heap.size := by omega
  clear k1 b1 s1
  refine wpk_enter (N := 209) (l := [(1, .pointer (some ⟨w.heap.size, 0, none⟩))]) ⟨rfl, (by intro x hx; simp only [List.mem_cons, List.not_mem_nil, or_false] at hx; rcases hx with rfl <;> rfl), rfl⟩ fun a2 h1 => ?_
  refine wpk_val h1 (wanted_none rfl) rfl (by decide) (fr rfl) (.slice none 0 0) rfl fun a4 h3 => ?_
  refine wpk_val h3 (wanted_none rfl) rfl (by decide) (fr rfl) (.bool false) rfl fun a6 h5 => ?_
  go_step
  go_step
  go_step
  go_step
  go_step
  refine wpk_val h5 (wanted_none rfl) rfl (by decide) (fr rfl) (.agg #[.slice none 0 0, .bool false]) (by unfold execOp; simp only [List.map_toArray, List.map_nil]; exact run_v (buildW _)) fun a8 h7 => ?_
  refine wpk_box h7 rfl rfl (by decide) (fr rfl) 83 rfl [.slice none 0 0, .bool false] (h7.eval (k := 8) (v := .agg #[.slice none 0 0, .bool false]) (by simp)) fun a10 w2 h9 k2 b2 s2 => ?_
  have HW0 : Hid (WIn w2 w1.heap.size w1.heap.size m0) := hid (by rw [HM0.out]; exact ⟨none, 0, k2, Own.nil _ _ _ _⟩)
  have HB0 := hid b2
  clear k2 b2 s2
  refine wpk_val h9 (wanted_none rfl) rfl (by decide) (fr rfl) (.pointer (some ⟨w1.heap.size, 0, none⟩)) (by unfold execOp; simp only [h9.eval (k := 9) (v := .pointer (some ⟨w1.heap.size, 0, none⟩)) (by simp)]; rfl) fun a12 h11 => ?_
  have h13 := h11.subs (l' := [(4, .pointer (some ⟨w1.heap.size, 0, none⟩)), (3, .bool false), (2, .slice none 0 0), (1, .pointer (some ⟨w.heap.size, 0, none⟩))]) rfl
  clear h11
  go_step
  go_step
  go_step
  go_step
  go_step
  refine wpk_val h13 (wanted_none rfl) rfl (by decide) (fr rfl) (.pointer (some ⟨w1.heap.size, 0, none⟩)) (by unfold execOp; simp only [h13.eval (k := 4) (v := .pointer (some ⟨w1.heap.size, 0, none⟩)) (by simp)]; rfl) fun a15 h14 => ?_
  refine wpk_val h14 (wanted_none rfl) rfl (by decide) (fr rfl) (.pointer (some ⟨w.heap.size, 0, none⟩)) (by unfold execOp; simp only [h14.eval (k := 1) (v := .pointer (some ⟨w.heap.size, 0, none⟩)) (by simp)]; exact run_v (fa_35_0_0 (w.heap.size) _)) fun a17 h16 => ?_
  refine wpk_val h16 (wanted_none rfl) rfl (by decide) (fr rfl) (.int .i64 (P.I 0)) (by unfold execOp; simp only [h16.eval (k := 11) (v := .pointer (some ⟨w.heap.size, 0, none⟩)) (by simp)]; exact run_v (loadI ((Blk.below KP1.out HB0.out hgB).cell (i := 0) (by show 0 < 43; omega)))) fun a19 h18 => ?_
  refine wpk_call h18 (wanted_none rfl) rfl (by decide) (fr rfl) (fun args => call_40 args _) rfl #[.pointer (some ⟨w1.heap.size, 0, none⟩), .int .i64 (P.I 0), .int .i64 1, .int .i64 1, .int .i64 5] (by simp only [List.map_toArray, List.map_cons, List.map_nil, h18.eval (k := 10) (v := .pointer (some ⟨w1.heap.size, 0, none⟩)) (by simp), h18.eval (k := 12) (v := .int .i64 (P.I 0)) (by simp)]; rfl) (R := fun v w' => v = .tuple #[] ∧ WIn w' w1.heap.size w1.heap.size m1 ∧ Below w1.heap.size w1 w') (Calls.mono (wnum_any HW0.out (Nat.le_refl _) (by omega) (P.I 0) 1 5 1 (hP 0)) (fun e w' q => ⟨_, q.1, rfl, (by rw [HM1.out]; exact q.2.1), HB0.out.trans q.2.2⟩)) fun a21 v0 w3 r0 h20 => ?_
  obtain ⟨rfl, q1, q2⟩ := r0
  have HW1 := hid q1; have HB1 := hid q2
  clear q1 q2 HW0 HB0
  have h22 := h20.subs (l' := [(4, .pointer (some ⟨w1.heap.size, 0, none⟩)), (3, .bool false), (2, .slice none 0 0), (1, .pointer (some ⟨w.heap.size, 0, none⟩))]) rfl
  clear h20
  go_step
  go_step
  go_step
  go_step
  go_step
  refine wpk_val h22 (wanted_none rfl) rfl (by decide) (fr rfl) (.pointer (some ⟨w1.heap.size, 0, none⟩)) (by unfold execOp; simp only [h22.eval (k := 4) (v := .pointer (some ⟨w1.heap.size, 0, none⟩)) (by simp)]; rfl) fun a24 h23 => ?_
  refine wpk_val h23 (wanted_none rfl) rfl (by decide) (fr rfl) (.pointer (some ⟨w.heap.size, 1, none⟩)) (by unfold execOp; simp only [h23.eval (k := 1) (v := .pointer (some ⟨w.heap.size, 0, none⟩)) (by simp)]; exact run_v (fa_35_0_1 (w.heap.size) _)) fun a26 h25 => ?_
  refine wpk_val h25 (wanted_none rfl) rfl (by decide) (fr rfl) (.int .i64 (P.I 1)) (by unfold execOp; simp only [h25.eval (k := 15) (v := .pointer (some ⟨w.heap.size, 1, none⟩)) (by simp)]; exact run_v (loadI ((Blk.below KP1.out HB1.out hgB).cell (i := 1) (by show 1 < 43; omega)))) fun a28 h27 => ?_
  refine wpk_call h27 (wanted_none rfl) rfl (by decide) (fr rfl) (fun args => call_40 args _) rfl #[.pointer (some ⟨w1.heap.size, 0, none⟩), .int .i64 (P.I 1), .int .i64 1, .int .i64 1, .int .i64 8] (by simp only [List.map_toArray, List.map_cons, List.map_nil, h27.eval (k := 14) (v := .pointer (some ⟨w1.heap.size, 0, none⟩)) (by simp), h27.eval (k := 16) (v := .int .i64 (P.I 1)) (by simp)]; rfl) (R := fun v w' => v = .tuple #[] ∧ WIn w' w1.heap.size w1.heap.size m2 ∧ Below w1.heap.size w1 w') (Calls.mono (wnum_any HW1.out (Nat.le_refl _) (by omega) (P.I 1) 1 8 1 (hP 1)) (fun e w' q => ⟨_, q.1, rfl, (by rw [HM2.out]; exact q.2.1), HB1.out.trans q.2.2⟩)) fun a30 v1 w4 r1 h29 => ?_
  obtain ⟨rfl, q1, q2⟩ := r1
  have HW2 := hid q1; have HB2 := hid q2
  clear q1 q2 HW1 HB1
  have h31 := h29.subs (l' := [(4, .pointer (some ⟨w1.heap.size, 0, none⟩)), (3, .bool false), (2, .slice none 0 0), (1, .pointer (some ⟨w.heap.size, 0, none⟩))]) rfl
  clear h29
  go_step
  go_step
  go_step
  go_step
  go_step
  refine wpk_val h31 (wanted_none rfl) rfl (by decide) (fr rfl) (.pointer (some ⟨w1.heap.size, 0, none⟩)) (by unfold execOp; simp only [h31.eval (k := 4) (v := .pointer (some ⟨w1.heap.size, 0, none⟩)) (by simp)]; rfl) fun a33 h32 => ?_
  refine wpk_val h32 (wanted_none rfl) rfl (by decide) (fr rfl) (.pointer (some ⟨w.heap.size, 2, none⟩)) (by unfold execOp; simp only [h32.eval (k := 1) (v := .pointer (some ⟨w.heap.size, 0, none⟩)) (by simp)]; exact run_v (fa_35_0_2 (w.heap.size) _)) fun a35 h34 => ?_
  refine wpk_val h34 (wanted_none rfl) rfl (by decide) (fr rfl) (.int .i64 (P.I 2)) (by unfold execOp; simp only [h34.eval (k := 19) (v := .pointer (some ⟨w.heap.size, 2, none⟩)) (by simp)]; exact run_v (loadI ((Blk.below KP1.out HB2.out hgB).cell (i := 2) (by show 2 < 43; omega)))) fun a37 h36 => ?_
  refine wpk_call h36 (wanted_none rfl) rfl (by decide) (fr rfl) (fun args => call_40 args _) rfl #[.pointer (some ⟨w1.heap.size, 0, none⟩), .int .i64 (P.I 2), .int .i64 4, .int .i64 0, .int .i64 9223372036854775807] (by simp only [List.map_toArray, List.map_cons, List.map_nil, h36.eval (k := 18) (v := .pointer (some ⟨w1.heap.size, 0, none⟩)) (by simp), h36.eval (k := 20) (v := .int .i64 (P.I 2)) (by simp)]; rfl) (R := fun v w' => v = .tuple #[] ∧ WIn w' w1.heap.size w1.heap.size m3 ∧ Below w1.heap.size w1 w') (Calls.mono (wnum_any HW2.out (Nat.le_refl _) (by omega) (P.I 2) 0 9223372036854775807 4 (hP 2)) (fun e w' q => ⟨_, q.1, rfl, (by rw [HM3.out]; exact q.2.1), HB2.out.trans q.2.2⟩)) fun a39 v2 w5 r2 h38 => ?_
  obtain ⟨rfl, q1, q2⟩ := r2
  have HW3 := hid q1; have HB3 := hid q2
  clear q1 q2 HW2 HB2
  have h40 := h38.subs (l' := [(4, .pointer (some ⟨w1.heap.size, 0, none⟩)), (3, .bool false), (2, .slice none 0 0), (1, .pointer (some ⟨w.heap.size, 0, none⟩))]) rfl
  clear h38
  go_step
  go_step
  go_step
  go_step
  go_step
  refine wpk_val h40 (wanted_none rfl) rfl (by decide) (fr rfl) (.pointer (some ⟨w1.heap.size, 0, none⟩)) (by unfold execOp; simp only [h40.eval (k := 4) (v := .pointer (some ⟨w1.heap.size, 0, none⟩)) (by simp)]; rfl) fun a42 h41 => ?_
  refine wpk_val h41 (wanted_none rfl) rfl (by decide) (fr rfl) (.pointer (some ⟨w.heap.size, 3, none⟩)) (by unfold execOp; simp only [h41.eval (k := 1) (v := .pointer (some ⟨w.heap.size, 0, none⟩)) (by simp)]; exact run_v (fa_35_0_3 (w.heap.size) _)) fun a44 h43 => ?_
  refine wpk_val h43 (wanted_none rfl) rfl (by decide) (fr rfl) (.int .i64 (P.I 3)) (by unfold execOp; simp only [h43.eval (k := 23) (v := .pointer (some ⟨w.heap.size, 3, none⟩)) (by simp)]; exact run_v (loadI ((Blk.below KP1.out HB3.out hgB).cell (i := 3) (by show 3 < 43; omega)))) fun a46 h45 => ?_
  refine wpk_call h45 (wanted_none rfl) rfl (by decide) (fr rfl) (fun args => call_40 args _) rfl #[.pointer (some ⟨w1.heap.size, 0, none⟩), .int .i64 (P.I 3), .int .i64 8, .int .i64 0, .int .i64 9223372036854775807] (by simp only [List.map_toArray, List.map_cons, List.map_nil, h45.eval (k := 22) (v := .pointer (some ⟨w1.heap.size, 0, none⟩)) (by simp), h45.eval (k := 24) (v := .int .i64 (P.I 3)) (by simp)]; rfl) (R := fun v w' => v = .tuple #[] ∧ WIn w' w1.heap.size w1.heap.size m4 ∧ Below w1.heap.size w1 w') (Calls.mono (wnum_any HW3.out (Nat.le_refl _) (by omega) (P.I 3) 0 9223372036854775807 8 (hP 3)) (fun e w' q => ⟨_, q.1, rfl, (by rw [HM4.out]; exact q.2.1), HB3.out.trans q.2.2⟩)) fun a48 v3 w6 r3 h47 => ?_
  obtain ⟨rfl, q1, q2⟩ := r3
  have HW4 := hid q1; have HB4 := hid q2
  clear q1 q2 HW3 HB3
  have h49 := h47.subs (l' := [(4, .pointer (some ⟨w1.heap.size, 0, none⟩)), (3, .bool false), (2, .slice none 0 0), (1, .pointer (some ⟨w.heap.size, 0, none⟩))]) rfl
  clear h47
  go_step
  go_step
  go_step
  go_step
  go_step
  go_step
  refine wpk_val h49 (wanted_none rfl) rfl (by decide) (fr rfl) (.pointer (some ⟨w.heap.size, 0, none⟩)) (by unfold execOp; simp only [h49.eval (k := 1) (v := .pointer (some ⟨w.heap.size, 0, none⟩)) (by simp)]; exact run_v (fa_35_0_0 (w.heap.size) _)) fun a51 h50 => ?_
  refine wpk_val h50 (wanted_none rfl) rfl (by decide) (fr rfl) (.int .i64 (P.I 0)) (by unfold execOp; simp only [h50.eval (k := 26) (v := .pointer (some ⟨w.heap.size, 0, none⟩)) (by simp)]; exact run_v (loadI ((Blk.below KP1.out HB4.out hgB).cell (i := 0) (by show 0 < 43; omega)))) fun a53 h52 => ?_
  refine wpk_val h52 (wanted_none rfl) rfl (by decide) (fr rfl) (.bool true) (by unfold execOp; simp only [h52.eval (k := 27) (v := .int .i64 (P.I 0)) (by simp)]; exact run_v (eqIb _ _ _ _ _ e1)) fun a55 h54 => ?_
  refine wpk_val h54 (wanted_none rfl) rfl (by decide) (fr rfl) (.bool true) (by unfold execOp; simp only [h54.eval (k := 28) (v := .bool true) (by simp)]; rfl) fun a57 h56 => ?_
  refine wpk_skip h56 (by rw [wanted_of (g := 3) (want := false) (b := true) rfl (h56.yields (prev := 29) rfl (by simp))]; rfl) rfl (by decide) (fr rfl) fun a59 h58 => ?_
  refine wpk_skip h58 (by rw [wanted_of (g := 3) (want := false) (b := true) rfl (h58.yields (prev := 29) rfl (by simp))]; rfl) rfl (by decide) (fr rfl) fun a61 h60 => ?_
  refine wpk_skip h60 (by rw [wanted_of (g := 3) (want := false) (b := true) rfl (h60.yields (prev := 29) rfl (by simp))]; rfl) rfl (by decide) (fr rfl) fun a63 h62 => ?_
  refine wpk_val h62 (wanted_none rfl) rfl (by decide) (fr rfl) (.bool true) (run_pick rfl (h62.eval (k := 29) (v := .bool true) (by simp)) rfl) fun a65 h64 => ?_
  have h66 := h64.subs (l' := [(33, .bool true), (4, .pointer (some ⟨w1.heap.size, 0, none⟩)), (3, .bool false), (2, .slice none 0 0), (1, .pointer (some ⟨w.heap.size, 0, none⟩))]) rfl
  clear h64
  go_step
  go_step
  go_step
  refine wp_cond (t := true) (h66.eval (k := 33) (v := .bool true) (by simp)) ?_
  simp only [if_true]
  have h67 := h66.subs (l' := [(4, .pointer (some ⟨w1.heap.size, 0, none⟩)), (3, .bool false), (2, .slice none 0 0), (1, .pointer (some ⟨w.heap.size, 0, none⟩))]) rfl
  clear h66
  go_step
  go_step
  refine wpk_val h67 (wanted_none rfl) rfl (by decide) (fr rfl) (.pointer (some ⟨w1.heap.size, 0, none⟩)) (by unfold execOp; simp only [h67.eval (k := 4) (v := .pointer (some ⟨w1.heap.size, 0, none⟩)) (by simp)]; rfl) fun a69 h68 => ?_
  refine wpk_val h68 (wanted_none rfl) rfl (by decide) (fr rfl) (.pointer (some ⟨w.heap.size, 4, none⟩)) (by unfold execOp; simp only [h68.eval (k := 1) (v := .pointer (some ⟨w.heap.size, 0, none⟩)) (by simp)]; exact run_v (fa_35_0_4 (w.heap.size) _)) fun a71 h70 => ?_
  refine wpk_val h70 (wanted_none rfl) rfl (by decide) (fr rfl) (.int .i64 (P.I 4)) (by unfold execOp; simp only [h70.eval (k := 35) (v := .pointer (some ⟨w.heap.size, 4, none⟩)) (by simp)]; exact run_v (loadI ((Blk.below KP1.out HB4.out hgB).cell (i := 4) (by show 4 < 43; omega)))) fun a73 h72 => ?_
  refine wpk_call h72 (wanted_none rfl) rfl (by decide) (fr rfl) (fun args => call_40 args _) rfl #[.pointer (some ⟨w1.heap.size, 0, none⟩), .int .i64 (P.I 4), .int .i64 1, .int .i64 1, .int .i64 4] (by simp only [List.map_toArray, List.map_cons, List.map_nil, h72.eval (k := 34) (v := .pointer (some ⟨w1.heap.size, 0, none⟩)) (by simp), h72.eval (k := 36) (v := .int .i64 (P.I 4)) (by simp)]; rfl) (R := fun v w' => v = .tuple #[] ∧ WIn w' w1.heap.size w1.heap.size m5 ∧ Below w1.heap.size w1 w') (Calls.mono (wnum_any HW4.out (Nat.le_refl _) (by omega) (P.I 4) 1 4 1 (hP 4)) (fun e w' q => ⟨_, q.1, rfl, (by rw [HM5.out]; exact q.2.1), HB4.out.trans q.2.2⟩)) fun a75 v4 w7 r4 h74 => ?_
  obtain ⟨rfl, q1, q2⟩ := r4
  have HW5 := hid q1; have HB5 := hid q2
  clear q1 q2 HW4 HB4
  have h76 := h74.subs (l' := [(4, .pointer (some ⟨w1.heap.size, 0, none⟩)), (3, .bool false), (2, .slice none 0 0), (1, .pointer (some ⟨w.heap.size, 0, none⟩))]) rfl
  clear h74
  go_step
  go_step
  go_step
  go_step
  go_step
  go_step
  refine wpk_val h76 (wanted_none rfl) rfl (by decide) (fr rfl) (.pointer (some ⟨w.heap.size, 0, none⟩)) (by unfold execOp; simp only [h76.eval (k := 1) (v := .pointer (some ⟨w.heap.size, 0, none⟩)) (by simp)]; exact run_v (fa_35_0_0 (w.heap.size) _)) fun a78 h77 => ?_
  refine wpk_val h77 (wanted_none rfl) rfl (by decide) (fr rfl) (.int .i64 (P.I 0)) (by unfold execOp; simp only [h77.eval (k := 38) (v := .pointer (some ⟨w.heap.size, 0, none⟩)) (by simp)]; exact run_v (loadI ((Blk.below KP1.out HB5.out hgB).cell (i := 0) (by show 0 < 43; omega)))) fun a80 h79 => ?_
  refine wpk_val h79 (wanted_none rfl) rfl (by decide) (fr rfl) (.bool true) (by unfold execOp; simp only [h79.eval (k := 39) (v := .int .i64 (P.I 0)) (by simp)]; exact run_v (eqIb _ _ _ _ _ e1)) fun a82 h81 => ?_
  have h83 := h81.subs (l' := [(40, .bool true), (4, .pointer (some ⟨w1.heap.size, 0, none⟩)), (3, .bool false), (2, .slice none 0 0), (1, .pointer (some ⟨w.heap.size, 0, none⟩))]) rfl
  clear h81
  go_step
  go_step
  go_step
  refine wp_cond (t := true) (h83.eval (k := 40) (v := .bool true) (by simp)) ?_
  simp only [if_true]
  have h84 := h83.subs (l' := [(4, .pointer (some ⟨w1.heap.size, 0, none⟩)), (3, .bool false), (2, .slice none 0 0), (1, .pointer (some ⟨w.heap.size, 0, none⟩))]) rfl
  clear h83
  go_step
  go_step
  refine wpk_val h84 (wanted_none rfl) rfl (by decide) (fr rfl) (.pointer (some ⟨w1.heap.size, 0, none⟩)) (by unfold execOp; simp only [h84.eval (k := 4) (v := .pointer (some ⟨w1.heap.size, 0, none⟩)) (by simp)]; rfl) fun a86 h85 => ?_
  refine wpk_val h85 (wanted_none rfl) rfl (by decide) (fr rfl) (.pointer (some ⟨w.heap.size, 5, none⟩)) (by unfold execOp; simp only [h85.eval (k := 1) (v := .pointer (some ⟨w.heap.size, 0, none⟩)) (by simp)]; exact run_v (fa_35_0_5 (w.heap.size) _)) fun a88 h87 => ?_
  refine wpk_val h87 (wanted_none rfl) rfl (by decide) (fr rfl) (.int .i64 (P.I 5)) (by unfold execOp; simp only [h87.eval (k := 42) (v := .pointer (some ⟨w.heap.size, 5, none⟩)) (by simp)]; exact run_v (loadI ((Blk.below KP1.out HB5.out hgB).cell (i := 5) (by show 5 < 43; omega)))) fun a90 h89 => ?_
  refine wpk_call h89 (wanted_none rfl) rfl (by decide) (fr rfl) (fun args => call_40 args _) rfl #[.pointer (some ⟨w1.heap.size, 0, none⟩), .int .i64 (P.I 5), .int .i64 4, .int .i64 0, .int .i64 9223372036854775807] (by simp only [List.map_toArray, List.map_cons, List.map_nil, h89.eval (k := 41) (v := .pointer (some ⟨w1.heap.size, 0, none⟩)) (by simp), h89.eval (k := 43) (v := .int .i64 (P.I 5)) (by simp)]; rfl) (R := fun v w' => v = .tuple #[] ∧ WIn w' w1.heap.size w1.heap.size m6 ∧ Below w1.heap.size w1 w') (Calls.mono (wnum_any HW5.out (Nat.le_refl _) (by omega) (P.I 5) 0 9223372036854775807 4 (hP 5)) (fun e w' q => ⟨_, q.1, rfl, (by rw [HM6.out]; exact q.2.1), HB5.out.trans q.2.2⟩)) fun a92 v5 w8 r5 h91 => ?_
  obtain ⟨rfl, q1, q2⟩ := r5
  have HW6 := hid q1; have HB6 := hid q2
  clear q1 q2 HW5 HB5
  have h93 := h91.subs (l' := [(4, .pointer (some ⟨w1.heap.size, 0, none⟩)), (3, .bool false), (2, .slice none 0 0), (1, .pointer (some ⟨w.heap.size, 0, none⟩))]) rfl
  clear h91
  go_step
  go_step
  go_step
  go_step
  refine wpk_val h93 (wanted_none rfl) rfl (by decide) (fr rfl) (.pointer (some ⟨w1.heap.size, 0, none⟩)) (by unfold execOp; simp only [h93.eval (k := 4) (v := .pointer (some ⟨w1.heap.size, 0, none⟩)) (by simp)]; rfl) fun a95 h94 => ?_
  refine wpk_val h94 (wanted_none rfl) rfl (by decide) (fr rfl) (.pointer (some ⟨w.heap.size, 6, none⟩)) (by unfold execOp; simp only [h94.eval (k := 1) (v := .pointer (some ⟨w.heap.size, 0, none⟩)) (by simp)]; exact run_v (fa_35_0_6 (w.heap.size) _)) fun a97 h96 => ?_
  refine wpk_val h96 (wanted_none rfl) rfl (by decide) (fr rfl) (.int .i64 (P.I 6)) (by unfold execOp; simp only [h96.eval (k := 46) (v := .pointer (some ⟨w.heap.size, 6, none⟩)) (by simp)]; exact run_v (loadI ((Blk.below KP1.out HB6.out hgB).cell (i := 6) (by show 6 < 43; omega)))) fun a99 h98 => ?_
  refine wpk_call h98 (wanted_none rfl) rfl (by decide) (fr rfl) (fun args => call_40 args _) rfl #[.pointer (some ⟨w1.heap.size, 0, none⟩), .int .i64 (P.I 6), .int .i64 2, .int .i64 0, .int .i64 9223372036854775807] (by simp only [List.map_toArray, List.map_cons, List.map_nil, h98.eval (k := 45) (v := .pointer (some ⟨w1.heap.size, 0, none⟩)) (by simp), h98.eval (k := 47) (v := .int .i64 (P.I 6)) (by simp)]; rfl) (R := fun v w' => v = .tuple #[] ∧ WIn w' w1.heap.size w1.heap.size m7 ∧ Below w1.heap.size w1 w') (Calls.mono (wnum_any HW6.out (Nat.le_refl _) (by omega) (P.I 6) 0 9223372036854775807 2 (hP 6)) (fun e w' q => ⟨_, q.1, rfl, (by rw [HM7.out]; exact q.2.1), HB6.out.trans q.2.2⟩)) fun a101 v6 w9 r6 h100 => ?_
  obtain ⟨rfl, q1, q2⟩ := r6
  have HW7 := hid q1; have HB7 := hid q2
  clear q1 q2 HW6 HB6
  have h102 := h100.subs (l' := [(4, .pointer (some ⟨w1.heap.size, 0, none⟩)), (3, .bool false), (2, .slice none 0 0), (1, .pointer (some ⟨w.heap.size, 0, none⟩))]) rfl
  clear h100
  go_step
  go_step
  go_step
  go_step
  go_step
  refine wpk_val h102 (wanted_none rfl) rfl (by decide) (fr rfl) (.pointer (some ⟨w1.heap.size, 0, none⟩)) (by unfold execOp; simp only [h102.eval (k := 4) (v := .pointer (some ⟨w1.heap.size, 0, none⟩)) (by simp)]; rfl) fun a104 h103 => ?_
  refine wpk_val h103 (wanted_none rfl) rfl (by decide) (fr rfl) (.pointer (some ⟨w.heap.size, 7, none⟩)) (by unfold execOp; simp only [h103.eval (k := 1) (v := .pointer (some ⟨w.heap.size, 0, none⟩)) (by simp)]; exact run_v (fa_35_0_7 (w.heap.size) _)) fun a106 h105 => ?_
  refine wpk_val h105 (wanted_none rfl) rfl (by decide) (fr rfl) (.string (bsW (P.S 7))) (by unfold execOp; simp only [h105.eval (k := 54) (v := .pointer (some ⟨w.heap.size, 7, none⟩)) (by simp)]; exact run_v (loadS ((Blk.below KP1.out HB7.out hgB).cell (i := 7) (by show 7 < 43; omega)))) fun a108 h107 => ?_
  refine wpk_call h107 (wanted_none rfl) rfl (by decide) (fr rfl) (fun args => call_41 args _) rfl #[.pointer (some ⟨w1.heap.size, 0, none⟩), .string (bsW (P.S 7)), .int .i64 2, .int .i64 128] (by simp only [List.map_toArray, List.map_cons, List.map_nil, h107.eval (k := 53) (v := .pointer (some ⟨w1.heap.size, 0, none⟩)) (by simp), h107.eval (k := 55) (v := .string (bsW (P.S 7))) (by simp)]; rfl) (R := fun v w' => v = .tuple #[] ∧ WIn w' w1.heap.size w1.heap.size m8 ∧ Below w1.heap.size w1 w') (Calls.mono (wtext_any HW7.out (Nat.le_refl _) (by omega) (P.S 7) (by have := hS 7 (by decide); omega) 2 128 (by decide)) (fun e w' q => ⟨_, q.1, rfl, (by rw [HM8.out]; exact q.2.1), HB7.out.trans q.2.2⟩)) fun a110 v7 w10 r7 h109 => ?_
  obtain ⟨rfl, q1, q2⟩ := r7
  have HW8 := hid q1; have HB8 := hid q2
  clear q1 q2 HW7 HB7
  have h111 := h109.subs (l' := [(4, .pointer (some ⟨w1.heap.size, 0, none⟩)), (3, .bool false), (2, .slice none 0 0), (1, .pointer (some ⟨w.heap.size, 0, none⟩))]) rfl
  clear h109
  go_step
  go_step
  go_step
  go_step
  go_step
  refine wpk_val h111 (wanted_none rfl) rfl (by decide) (fr rfl) (.pointer (some ⟨w1.heap.size, 0, none⟩)) (by unfold execOp; simp only [h111.eval (k := 4) (v := .pointer (some ⟨w1.heap.size, 0, none⟩)) (by simp)]; rfl) fun a113 h112 => ?_
  refine wpk_val h112 (wanted_none rfl) rfl (by decide) (fr rfl) (.pointer (some ⟨w.heap.size, 8, none⟩)) (by unfold execOp; simp only [h112.eval (k := 1) (v := .pointer (some ⟨w.heap.size, 0, none⟩)) (by simp)]; exact run_v (fa_35_0_8 (w.heap.size) _)) fun a115 h114 => ?_
  refine wpk_val h114 (wanted_none rfl) rfl (by decide) (fr rfl) (.int .i64 (P.I 8)) (by unfold execOp; simp only [h114.eval (k := 58) (v := .pointer (some ⟨w.heap.size, 8, none⟩)) (by simp)]; exact run_v (loadI ((Blk.below KP1.out HB8.out hgB).cell (i := 8) (by show 8 < 43; omega)))) fun a117 h116 => ?_
  refine wpk_call h116 (wanted_none rfl) rfl (by decide) (fr rfl) (fun args => call_40 args _) rfl #[.pointer (some ⟨w1.heap.size, 0, none⟩), .int .i64 (P.I 8), .int .i64 8, .int .i64 0, .int .i64 9223372036854775807] (by simp only [List.map_toArray, List.map_cons, List.map_nil, h116.eval (k := 57) (v := .pointer (some ⟨w1.heap.size, 0, none⟩)) (by simp), h116.eval (k := 59) (v := .int .i64 (P.I 8)) (by simp)]; rfl) (R := fun v w' => v = .tuple #[] ∧ WIn w' w1.heap.size w1.heap.size m9 ∧ Below w1.heap.size w1 w') (Calls.mono (wnum_any HW8.out (Nat.le_refl _) (by omega) (P.I 8) 0 9223372036854775807 8 (hP 8)) (fun e w' q => ⟨_, q.1, rfl, (by rw [HM9.out]; exact q.2.1), HB8.out.trans q.2.2⟩)) fun a119 v8 w11 r8 h118 => ?_
  obtain ⟨rfl, q1, q2⟩ := r8
  have HW9 := hid q1; have HB9 := hid q2
  clear q1 q2 HW8 HB8
  have h120 := h118.subs (l' := [(4, .pointer (some ⟨w1.heap.size, 0, none⟩)), (3, .bool false), (2, .slice none 0 0), (1, .pointer (some ⟨w.heap.size, 0, none⟩))]) rfl
  clear h118
  go_step
  go_step
  go_step
  go_step
  go_step
  refine wpk_val h120 (wanted_none rfl) rfl (by decide) (fr rfl) (.pointer (some ⟨w.heap.size, 0, none⟩)) (by unfold execOp; simp only [h120.eval (k := 1) (v := .pointer (some ⟨w.heap.size, 0, none⟩)) (by simp)]; exact run_v (fa_35_0_0 (w.heap.size) _)) fun a122 h121 => ?_
  refine wpk_val h121 (wanted_none rfl) rfl (by decide) (fr rfl) (.int .i64 (P.I 0)) (by unfold execOp; simp only [h121.eval (k := 61) (v := .pointer (some ⟨w.heap.size, 0, none⟩)) (by simp)]; exact run_v (loadI ((Blk.below KP1.out HB9.out hgB).cell (i := 0) (by show 0 < 43; omega)))) fun a124 h123 => ?_
  refine wpk_val h123 (wanted_none rfl) rfl (by decide) (fr rfl) (.bool true) (by unfold execOp; simp only [h123.eval (k := 62) (v := .int .i64 (P.I 0)) (by simp)]; exact run_v (eqIb _ _ _ _ _ e1)) fun a126 h125 => ?_
  have h127 := h125.subs (l' := [(63, .bool true), (4, .pointer (some ⟨w1.heap.size, 0, none⟩)), (3, .bool false), (2, .slice none 0 0), (1, .pointer (some ⟨w.heap.size, 0, none⟩))]) rfl
  clear h125
  go_step
  go_step
  go_step
  refine wp_cond (t := true) (h127.eval (k := 63) (v := .bool true) (by simp)) ?_
  simp only [if_true]
  have h128 := h127.subs (l' := [(4, .pointer (some ⟨w1.heap.size, 0, none⟩)), (3, .bool false), (2, .slice none 0 0), (1, .pointer (some ⟨w.heap.size, 0, none⟩))]) rfl
  clear h127
  go_step
  refine wpk_val h128 (wanted_none rfl) rfl (by decide) (fr rfl) (.pointer (some ⟨w1.heap.size, 0, none⟩)) (by unfold execOp; simp only [h128.eval (k := 4) (v := .pointer (some ⟨w1.heap.size, 0, none⟩)) (by simp)]; rfl) fun a130 h129 => ?_
  refine wpk_val h129 (wanted_none rfl) rfl (by decide) (fr rfl) (.pointer (some ⟨w.heap.size, 9, none⟩)) (by unfold execOp; simp only [h129.eval (k := 1) (v := .pointer (some ⟨w.heap.size, 0, none⟩)) (by simp)]; exact run_v (fa_35_0_9 (w.heap.size) _)) fun a132 h131 => ?_
  refine wpk_val h131 (wanted_none rfl) rfl (by decide) (fr rfl) (.int .i64 (P.I 9)) (by unfold execOp; simp only [h131.eval (k := 65) (v := .pointer (some ⟨w.heap.size, 9, none⟩)) (by simp)]; exact run_v (loadI ((Blk.below KP1.out HB9.out hgB).cell (i := 9) (by show 9 < 43; omega)))) fun a134 h133 => ?_
  refine wpk_call h133 (wanted_none rfl) rfl (by decide) (fr rfl) (fun args => call_40 args _) rfl #[.pointer (some ⟨w1.heap.size, 0, none⟩), .int .i64 (P.I 9), .int .i64 8, .int .i64 0, .int .i64 9223372036854775807] (by simp only [List.map_toArray, List.map_cons, List.map_nil, h133.eval (k := 64) (v := .pointer (some ⟨w1.heap.size, 0, none⟩)) (by simp), h133.eval (k := 66) (v := .int .i64 (P.I 9)) (by simp)]; rfl) (R := fun v w' => v = .tuple #[] ∧ WIn w' w1.heap.size w1.heap.size m10 ∧ Below w1.heap.size w1 w') (Calls.mono (wnum_any HW9.out (Nat.le_refl _) (by omega) (P.I 9) 0 9223372036854775807 8 (hP 9)) (fun e w' q => ⟨_, q.1, rfl, (by rw [HM10.out]; exact q.2.1), HB9.out.trans q.2.2⟩)) fun a136 v9 w12 r9 h135 => ?_
  obtain ⟨rfl, q1, q2⟩ := r9
  have HW10 := hid q1; have HB10 := hid q2
  clear q1 q2 HW9 HB9
  have h137 := h135.subs (l' := [(4, .pointer (some ⟨w1.heap.size, 0, none⟩)), (3, .bool false), (2, .slice none 0 0), (1, .pointer (some ⟨w.heap.size, 0, none⟩))]) rfl
  clear h135
  go_step
  go_step
  go_step
  go_step
  go_step
  go_step
  refine wpk_val h137 (wanted_none rfl) rfl (by decide) (fr rfl) (.pointer (some ⟨w.heap.size, 0, none⟩)) (by unfold execOp; simp only [h137.eval (k := 1) (v := .pointer (some ⟨w.heap.size, 0, none⟩)) (by simp)]; exact run_v (fa_35_0_0 (w.heap.size) _)) fun a139 h138 => ?_
  refine wpk_val h138 (wanted_none rfl) rfl (by decide) (fr rfl) (.int .i64 (P.I 0)) (by unfold execOp; simp only [h138.eval (k := 68) (v := .pointer (some ⟨w.heap.size, 0, none⟩)) (by simp)]; exact run_v (loadI ((Blk.below KP1.out HB10.out hgB).cell (i := 0) (by show 0 < 43; omega)))) fun a141 h140 => ?_
  refine wpk_val h140 (wanted_none rfl) rfl (by decide) (fr rfl) (.bool false) (by unfold execOp; simp only [h140.eval (k := 69) (v := .int .i64 (P.I 0)) (by simp)]; exact run_v (eqIb _ _ _ _ _ e3)) fun a143 h142 => ?_
  have h144 := h142.subs (l' := [(70, .bool false), (4, .pointer (some ⟨w1.heap.size, 0, none⟩)), (3, .bool false), (2, .slice none 0 0), (1, .pointer (some ⟨w.heap.size, 0, none⟩))]) rfl
  clear h142
  go_step
  go_step
  go_step
  refine wp_cond (t := false) (h144.eval (k := 70) (v := .bool false) (by simp)) ?_
  simp only [Bool.false_eq_true, if_false]
  have h145 := h144.subs (l' := [(4, .pointer (some ⟨w1.heap.size, 0, none⟩)), (3, .bool false), (2, .slice none 0 0), (1, .pointer (some ⟨w.heap.size, 0, none⟩))]) rfl
  clear h144
  go_step
  go_step
  go_step
  go_step
  go_step
  go_step
  refine wpk_val h145 (wanted_none rfl) rfl (by decide) (fr rfl) (.pointer (some ⟨w.heap.size, 0, none⟩)) (by unfold execOp; simp only [h145.eval (k := 1) (v := .pointer (some ⟨w.heap.size, 0, none⟩)) (by simp)]; exact run_v (fa_35_0_0 (w.heap.size) _)) fun a147 h146 => ?_
  refine wpk_val h146 (wanted_none rfl) rfl (by decide) (fr rfl) (.int .i64 (P.I 0)) (by unfold execOp; simp only [h146.eval (k := 99) (v := .pointer (some ⟨w.heap.size, 0, none⟩)) (by simp)]; exact run_v (loadI ((Blk.below KP1.out HB10.out hgB).cell (i := 0) (by show 0 < 43; omega)))) fun a149 h148 => ?_
  refine wpk_val h148 (wanted_none rfl) rfl (by decide) (fr rfl) (.bool false) (by unfold execOp; simp only [h148.eval (k := 100) (v := .int .i64 (P.I 0)) (by simp)]; exact run_v (eqIb _ _ _ _ _ e4)) fun a151 h150 => ?_
  have h152 := h150.subs (l' := [(101, .bool false), (4, .pointer (some ⟨w1.heap.size, 0, none⟩)), (3, .bool false), (2, .slice none 0 0), (1, .pointer (some ⟨w.heap.size, 0, none⟩))]) rfl
  clear h150
  go_step
  go_step
  go_step
  refine wp_cond (t := false) (h152.eval (k := 101) (v := .bool false) (by simp)) ?_
  simp only [Bool.false_eq_true, if_false]
  have h153 := h152.subs (l' := [(4, .pointer (some ⟨w1.heap.size, 0, none⟩)), (3, .bool false), (2, .slice none 0 0), (1, .pointer (some ⟨w.heap.size, 0, none⟩))]) rfl
  clear h152
  go_step
  go_step
  go_step
  go_step
  go_step
  go_step
  refine wpk_val h153 (wanted_none rfl) rfl (by decide) (fr rfl) (.pointer (some ⟨w.heap.size, 0, none⟩)) (by unfold execOp; simp only [h153.eval (k := 1) (v := .pointer (some ⟨w.heap.size, 0, none⟩)) (by simp)]; exact run_v (fa_35_0_0 (w.heap.size) _)) fun a155 h154 => ?_
  refine wpk_val h154 (wanted_none rfl) rfl (by decide) (fr rfl) (.int .i64 (P.I 0)) (by unfold execOp; simp only [h154.eval (k := 188) (v := .pointer (some ⟨w.heap.size, 0, none⟩)) (by simp)]; exact run_v (loadI ((Blk.below KP1.out HB10.out hgB).cell (i := 0) (by show 0 < 43; omega)))) fun a157 h156 => ?_
  refine wpk_val h156 (wanted_none rfl) rfl (by decide) (fr rfl) (.bool false) (by unfold execOp; simp only [h156.eval (k := 189) (v := .int .i64 (P.I 0)) (by simp)]; exact run_v (eqIb _ _ _ _ _ e5)) fun a159 h158 => ?_
  have h160 := h158.subs (l' := [(190, .bool false), (4, .pointer (some ⟨w1.heap.size, 0, none⟩)), (3, .bool false), (2, .slice none 0 0), (1, .pointer (some ⟨w.heap.size, 0, none⟩))]) rfl
  clear h158
  go_step
  go_step
  go_step
  refine wp_cond (t := false) (h160.eval (k := 190) (v := .bool false) (by simp)) ?_
  simp only [Bool.false_eq_true, if_false]
  have h161 := h160.subs (l' := [(4, .pointer (some ⟨w1.heap.size, 0, none⟩)), (3, .bool false), (2, .slice none 0 0), (1, .pointer (some ⟨w.heap.size, 0, none⟩))]) rfl
  clear h160
  go_step
  go_step
  go_step
  go_step
  go_step
  refine wpk_val h161 (wanted_none rfl) rfl (by decide) (fr rfl) (.agg (pkC P a P.N.length c).toArray) (by unfold execOp; simp only [h161.eval (k := 1) (v := .pointer (some ⟨w.heap.size, 0, none⟩)) (by simp)]; exact run_v (run_loadAt_mid _ _ _ _ (pkC P a P.N.length c) _ (Blk.below KP1.out HB10.out hgB).range Try.underlying35 rfl (by rw [infoPk]; rfl))) fun a163 h162 => ?_
  refine wpk_call h162 (wanted_none rfl) rfl (by decide) (fr rfl) (fun args => call_42 args _) rfl #[.agg (pkC P a P.N.length c).toArray] (by simp only [List.map_toArray, List.map_cons, List.map_nil, h162.eval (k := 195) (v := .agg (pkC P a P.N.length c).toArray) (by simp)]) (R := fun v w' => v = .bool rb ∧ Below w12.heap.size w12 w') (Calls.mono (HO.out w12 ((B1.out.trans (HB10.out.mono B1.out.size)))) (fun e w' q => ⟨_, q.1, rfl, q.2⟩)) fun a165 v10 w13 r10 h164 => ?_
  obtain ⟨rfl, q2⟩ := r10
  obtain ⟨ba, bc, hbW, hoW⟩ := HW10.out
  have hbW := hid (hbW.mono q2); have hoW := hid (hoW.mono q2); have HB10z := hid (HB10.out.trans (q2.mono HB10.out.size))
  clear q2 HW10 HB10
  refine wpk_val h164 (wanted_none rfl) rfl (by decide) (fr rfl) (.bool rb) (by unfold execOp; simp only [h164.eval (k := 196) (v := .bool rb) (by simp)]; rfl) fun a167 h166 => ?_
  have h168 := h166.subs (l' := [(7, .bool rb), (4, .pointer (some ⟨w1.heap.size, 0, none⟩)), (3, .bool false), (2, .slice none 0 0), (1, .pointer (some ⟨w.heap.size, 0, none⟩))]) rfl
  clear h166
  go_step
  go_step
  go_step
  go_step
  cases hno : m10.no with
  | false =>
    refine wp_region_held_drew (S := fun w' => w' = w13.drew) (by kernel_rfl) rfl (fun hS169 => ?_)
    have B10x := hid HB10z.out.drew
    refine wpk_take hS169 h168 0 rfl rfl (by decide) (fr rfl) (by kernel_rfl) (by kernel_rfl) (by kernel_rfl) (fun _ _ _ _ h => h) (.pointer (some ⟨w1.heap.size, 0, none⟩)) (Or.inl ⟨Eq.refl true, fun w1 hSw => (by cases hSw; exact (by show (execOp _ (⟨_, .move (.tmp 4), _, _, _, _⟩ : Oper)).run _ _ = _; exact (by unfold execOp; simp only [h168.eval (k := 4) (v := .pointer (some ⟨w1.heap.size, 0, none⟩)) (by simp)]; rfl)))⟩) fun a171 h170 => ?_
    refine wpk_take hS169 h170 1 rfl rfl (by decide) (fr rfl) (by kernel_rfl) (by kernel_rfl) (by kernel_rfl) (fun _ _ _ _ h => h) (.pointer (some ⟨w1.heap.size, 0, none⟩)) (Or.inl ⟨Eq.refl true, fun w1 hSw => (by cases hSw; exact (by show (execOp _ (⟨_, .nilCheck (.tmp 197), _, _, _, _⟩ : Oper)).run _ _ = _; exact (by unfold execOp; simp only [h170.eval (k := 197) (v := .pointer (some ⟨w1.heap.size, 0, none⟩)) (by simp)]; exact rfl)))⟩) fun a173 h172 => ?_
    refine wpk_take hS169 h172 2 rfl rfl (by decide) (fr rfl) (by kernel_rfl) (by kernel_rfl) (by kernel_rfl) (fun _ _ _ _ h => h) (.pointer (some ⟨w1.heap.size, 0, none⟩)) (Or.inl ⟨Eq.refl true, fun w1 hSw => (by cases hSw; exact (by show (execOp _ (⟨_, .fieldAddr 83 (.tmp 198) 0, _, _, _, _⟩ : Oper)).run _ _ = _; exact (by unfold execOp; simp only [h172.eval (k := 198) (v := .pointer (some ⟨w1.heap.size, 0, none⟩)) (by simp)]; exact run_v (fa_83_0_0 (w1.heap.size) _))))⟩) fun a175 h174 => ?_
    refine wpk_take hS169 h174 3 rfl rfl (by decide) (fr rfl) (by kernel_rfl) (by kernel_rfl) (by kernel_rfl) (fun _ _ _ _ h => h) (.slice ba m10.b.length bc) (Or.inl ⟨Eq.refl true, fun w1 hSw => (by cases hSw; exact (by show (execOp _ (⟨_, .load 37 (.tmp 199), _, _, _, _⟩ : Oper)).run _ _ = _; exact (by unfold execOp; simp only [h174.eval (k := 199) (v := .pointer (some ⟨w1.heap.size, 0, none⟩)) (by simp)]; exact run_v (loadB ((Blk.drew hbW.out).cell (i := 0) (by simp))))))⟩) fun a177 h176 => ?_
    refine wpk_take hS169 h176 4 rfl rfl (by decide) (fr rfl) (by kernel_rfl) (by kernel_rfl) (by kernel_rfl) (fun _ _ _ _ h => h) (.pointer (some ⟨w1.heap.size, 0, none⟩)) (Or.inl ⟨Eq.refl true, fun w1 hSw => (by cases hSw; exact (by show (execOp _ (⟨_, .move (.tmp 4), _, _, _, _⟩ : Oper)).run _ _ = _; exact (by unfold execOp; simp only [h176.eval (k := 4) (v := .pointer (some ⟨w1.heap.size, 0, none⟩)) (by simp)]; rfl)))⟩) fun a179 h178 => ?_
    refine wpk_take hS169 h178 5 rfl rfl (by decide) (fr rfl) (by kernel_rfl) (by kernel_rfl) (by kernel_rfl) (fun _ _ _ _ h => h) (.pointer (some ⟨w1.heap.size, 0, none⟩)) (Or.inl ⟨Eq.refl true, fun w1 hSw => (by cases hSw; exact (by show (execOp _ (⟨_, .nilCheck (.tmp 201), _, _, _, _⟩ : Oper)).run _ _ = _; exact (by unfold execOp; simp only [h178.eval (k := 201) (v := .pointer (some ⟨w1.heap.size, 0, none⟩)) (by simp)]; exact rfl)))⟩) fun a181 h180 => ?_
    refine wpk_take hS169 h180 6 rfl rfl (by decide) (fr rfl) (by kernel_rfl) (by kernel_rfl) (by kernel_rfl) (fun _ _ _ _ h => h) (.pointer (some ⟨w1.heap.size, 1, none⟩)) (Or.inl ⟨Eq.refl true, fun w1 hSw => (by cases hSw; exact (by show (execOp _ (⟨_, .fieldAddr 83 (.tmp 202) 1, _, _, _, _⟩ : Oper)).run _ _ = _; exact (by unfold execOp; simp only [h180.eval (k := 202) (v := .pointer (some ⟨w1.heap.size, 0, none⟩)) (by simp)]; exact run_v (fa_83_0_1 (w1.heap.size) _))))⟩) fun a183 h182 => ?_
    refine wpk_take hS169 h182 7 rfl rfl (by decide) (fr rfl) (by kernel_rfl) (by kernel_rfl) (by kernel_rfl) (fun _ _ _ _ h => h) (.bool false) (Or.inl ⟨Eq.refl true, fun w1 hSw => (by cases hSw; exact (by show (execOp _ (⟨_, .load 4 (.tmp 203), _, _, _, _⟩ : Oper)).run _ _ = _; exact (by unfold execOp; simp only [h182.eval (k := 203) (v := .pointer (some ⟨w1.heap.size, 1, none⟩)) (by simp)]; exact run_v (loadBo (by rw [(Blk.drew hbW.out).cell (i := 1) (by simp)]; simp [hno])))))⟩) fun a185 h184 => ?_
    refine wpk_take hS169 h184 8 rfl rfl (by decide) (fr rfl) (by kernel_rfl) (by kernel_rfl) (by kernel_rfl) (fun _ _ _ _ h => h) (.bool true) (Or.inl ⟨Eq.refl true, fun w1 hSw => (by cases hSw; exact (by show (execOp _ (⟨_, .unOp .not 4 (.tmp 204), _, _, _, _⟩ : Oper)).run _ _ = _; exact (run_not rfl (h184.eval (k := 204) (v := .bool false) (by simp)))))⟩) fun a187 h186 => ?_
    refine wpk_take hS169 h186 9 rfl rfl (by decide) (fr rfl) (by kernel_rfl) (by kernel_rfl) (by kernel_rfl) (fun _ _ _ _ h => h) (.bool true) (Or.inl ⟨Eq.refl true, fun w1 hSw => (by cases hSw; exact (by show (execOp _ (⟨_, .move (.tmp 205), _, _, _, _⟩ : Oper)).run _ _ = _; exact (by unfold execOp; simp only [h186.eval (k := 205) (v := .bool true) (by simp)]; rfl)))⟩) fun a189 h188 => ?_
    refine wpk_take hS169 h188 10 rfl rfl (by decide) (fr rfl) (by kernel_rfl) (by kernel_rfl) (by kernel_rfl) (fun _ _ _ _ h => h) (.bool rb) (Or.inl ⟨(by rw [wanted_of (g := 9) (want := true) (b := true) rfl (h188.yields (prev := 206) rfl (by simp))]; rfl), fun w1 hSw => (by cases hSw; exact (by show (execOp _ (⟨_, .move (.tmp 7), _, _, _, _⟩ : Oper)).run _ _ = _; exact (by unfold execOp; simp only [h188.eval (k := 7) (v := .bool rb) (by simp)]; rfl)))⟩) fun a191 h190 => ?_
    refine wpk_take hS169 h190 11 rfl rfl (by decide) (fr rfl) (by kernel_rfl) (by kernel_rfl) (by kernel_rfl) (fun _ _ _ _ h => h) (.bool rb) (Or.inl ⟨Eq.refl true, fun w1 hSw => (by cases hSw; exact (by show (execOp _ (⟨_, .pick (.tmp 206) (.tmp 207) (.const (.bool false)), _, _, _, _⟩ : Oper)).run _ _ = _; exact (run_pick rfl (h190.eval (k := 206) (v := .bool true) (by simp)) (by rw [if_pos rfl]; exact h190.eval (k := 207) (v := .bool rb) (by simp)))))⟩) fun a193 h192 => ?_
    have h194 := h192.subs (l' := [(208, .bool rb), (207, .bool rb), (206, .bool true), (205, .bool true), (204, .bool false), (203, .pointer (some ⟨w1.heap.size, 1, none⟩)), (202, .pointer (some ⟨w1.heap.size, 0, none⟩)), (201, .pointer (some ⟨w1.heap.size, 0, none⟩)), (200, .slice ba m10.b.length bc), (199, .pointer (some ⟨w1.heap.size, 0, none⟩)), (198, .pointer (some ⟨w1.heap.size, 0, none⟩)), (197, .pointer (some ⟨w1.heap.size, 0, none⟩)), (7, .bool rb), (4, .pointer (some ⟨w1.heap.size, 0, none⟩)), (3, .bool false), (1, .pointer (some ⟨w.heap.size, 0, none⟩))]) rfl
    clear h192
    refine wpk_take hS169 h194 12 rfl rfl (by decide) (fr rfl) (by kernel_rfl) (by kernel_rfl) (by kernel_rfl) (fun _ _ _ _ h => h) (.slice ba m10.b.length bc) (Or.inl ⟨Eq.refl true, fun w1 hSw => (by cases hSw; exact (by show (execOp _ (⟨_, .assign (.tmp 200), _, _, _, _⟩ : Oper)).run _ _ = _; exact (by unfold execOp; simp only [h194.eval (k := 200) (v := .slice ba m10.b.length bc) (by simp)]; rfl)))⟩) fun a196 h195 => ?_
    have h197 := h195.subs (l' := [(2, .slice ba m10.b.length bc), (208, .bool rb), (207, .bool rb), (206, .bool true), (205, .bool true), (204, .bool false), (203, .pointer (some ⟨w1.heap.size, 1, none⟩)), (202, .pointer (some ⟨w1.heap.size, 0, none⟩)), (201, .pointer (some ⟨w1.heap.size, 0, none⟩)), (200, .slice ba m10.b.length bc), (199, .pointer (some ⟨w1.heap.size, 0, none⟩)), (198, .pointer (some ⟨w1.heap.size, 0, none⟩)), (197, .pointer (some ⟨w1.heap.size, 0, none⟩)), (7, .bool rb), (4, .pointer (some ⟨w1.heap.size, 0, none⟩)), (1, .pointer (some ⟨w.heap.size, 0, none⟩))]) rfl
    clear h195
    refine wpk_take hS169 h197 13 rfl rfl (by decide) (fr rfl) (by kernel_rfl) (by kernel_rfl) (by kernel_rfl) (fun _ _ _ _ h => h) (.bool rb) (Or.inl ⟨Eq.refl true, fun w1 hSw => (by cases hSw; exact (by show (execOp _ (⟨_, .assign (.tmp 208), _, _, _, _⟩ : Oper)).run _ _ = _; exact (by unfold execOp; simp only [h197.eval (k := 208) (v := .bool rb) (by simp)]; rfl)))⟩) fun a199 h198 => ?_
    refine wpAnyH_done (by kernel_rfl) ?_ _
    have h200 := h198.subs (l' := [(3, .bool rb), (2, .slice ba m10.b.length bc), (7, .bool rb), (4, .pointer (some ⟨w1.heap.size, 0, none⟩)), (1, .pointer (some ⟨w.heap.size, 0, none⟩))]) rfl
    clear h198
    go_step
    go_step
    go_step
    refine bodyPost_ret (results_tmp2 rfl (h200.known (2, .slice ba m10.b.length bc) (by simp)) (h200.known (3, .bool rb) (by simp))) h200.defs ?_
    exact ⟨ba, bc, by rw [hno]; rfl, hoW.out.drew.low B1.out.size, B1.out.trans (B10x.out.mono B1.out.size)⟩
  | true =>
    refine wp_region_held_drew (S := fun w' => w' = w13.drew) (by kernel_rfl) rfl (fun hS201 => ?_)
    have B10x := hid HB10z.out.drew
    refine wpk_take hS201 h168 0 rfl rfl (by decide) (fr rfl) (by kernel_rfl) (by kernel_rfl) (by kernel_rfl) (fun _ _ _ _ h => h) (.pointer (some ⟨w1.heap.size, 0, none⟩)) (Or.inl ⟨Eq.refl true, fun w1 hSw => (by cases hSw; exact (by show (execOp _ (⟨_, .move (.tmp 4), _, _, _, _⟩ : Oper)).run _ _ = _; exact (by unfold execOp; simp only [h168.eval (k := 4) (v := .pointer (some ⟨w1.heap.size, 0, none⟩)) (by simp)]; rfl)))⟩) fun a203 h202 => ?_
    refine wpk_take hS201 h202 1 rfl rfl (by decide) (fr rfl) (by kernel_rfl) (by kernel_rfl) (by kernel_rfl) (fun _ _ _ _ h => h) (.pointer (some ⟨w1.heap.size, 0, none⟩)) (Or.inl ⟨Eq.refl true, fun w1 hSw => (by cases hSw; exact (by show (execOp _ (⟨_, .nilCheck (.tmp 197), _, _, _, _⟩ : Oper)).run _ _ = _; exact (by unfold execOp; simp only [h202.eval (k := 197) (v := .pointer (some ⟨w1.heap.size, 0, none⟩)) (by simp)]; exact rfl)))⟩) fun a205 h204 => ?_
    refine wpk_take hS201 h204 2 rfl rfl (by decide) (fr rfl) (by kernel_rfl) (by kernel_rfl) (by kernel_rfl) (fun _ _ _ _ h => h) (.pointer (some ⟨w1.heap.size, 0, none⟩)) (Or.inl ⟨Eq.refl true, fun w1 hSw => (by cases hSw; exact (by show (execOp _ (⟨_, .fieldAddr 83 (.tmp 198) 0, _, _, _, _⟩ : Oper)).run _ _ = _; exact (by unfold execOp; simp only [h204.eval (k := 198) (v := .pointer (some ⟨w1.heap.size, 0, none⟩)) (by simp)]; exact run_v (fa_83_0_0 (w1.heap.size) _))))⟩) fun a207 h206 => ?_
    refine wpk_take hS201 h206 3 rfl rfl (by decide) (fr rfl) (by kernel_rfl) (by kernel_rfl) (by kernel_rfl) (fun _ _ _ _ h => h) (.slice ba m10.b.length bc) (Or.inl ⟨Eq.refl true, fun w1 hSw => (by cases hSw; exact (by show (execOp _ (⟨_, .load 37 (.tmp 199), _, _, _, _⟩ : Oper)).run _ _ = _; exact (by unfold execOp; simp only [h206.eval (k := 199) (v := .pointer (some ⟨w1.heap.size, 0, none⟩)) (by simp)]; exact run_v (loadB ((Blk.drew hbW.out).cell (i := 0) (by simp))))))⟩) fun a209 h208 => ?_
    refine wpk_take hS201 h208 4 rfl rfl (by decide) (fr rfl) (by kernel_rfl) (by kernel_rfl) (by kernel_rfl) (fun _ _ _ _ h => h) (.pointer (some ⟨w1.heap.size, 0, none⟩)) (Or.inl ⟨Eq.refl true, fun w1 hSw => (by cases hSw; exact (by show (execOp _ (⟨_, .move (.tmp 4), _, _, _, _⟩ : Oper)).run _ _ = _; exact (by unfold execOp; simp only [h208.eval (k := 4) (v := .pointer (some ⟨w1.heap.size, 0, none⟩)) (by simp)]; rfl)))⟩) fun a211 h210 => ?_
    refine wpk_take hS201 h210 5 rfl rfl (by decide) (fr rfl) (by kernel_rfl) (by kernel_rfl) (by kernel_rfl) (fun _ _ _ _ h => h) (.pointer (some ⟨w1.heap.size, 0, none⟩)) (Or.inl ⟨Eq.refl true, fun w1 hSw => (by cases hSw; exact (by show (execOp _ (⟨_, .nilCheck (.tmp 201), _, _, _, _⟩ : Oper)).run _ _ = _; exact (by unfold execOp; simp only [h210.eval (k := 201) (v := .pointer (some ⟨w1.heap.size, 0, none⟩)) (by simp)]; exact rfl)))⟩) fun a213 h212 => ?_
    refine wpk_take hS201 h212 6 rfl rfl (by decide) (fr rfl) (by kernel_rfl) (by kernel_rfl) (by kernel_rfl) (fun _ _ _ _ h => h) (.pointer (some ⟨w1.heap.size, 1, none⟩)) (Or.inl ⟨Eq.refl true, fun w1 hSw => (by cases hSw; exact (by show (execOp _ (⟨_, .fieldAddr 83 (.tmp 202) 1, _, _, _, _⟩ : Oper)).run _ _ = _; exact (by unfold execOp; simp only [h212.eval (k := 202) (v := .pointer (some ⟨w1.heap.size, 0, none⟩)) (by simp)]; exact run_v (fa_83_0_1 (w1.heap.size) _))))⟩) fun a215 h214 => ?_
    refine wpk_take hS201 h214 7 rfl rfl (by decide) (fr rfl) (by kernel_rfl) (by kernel_rfl) (by kernel_rfl) (fun _ _ _ _ h => h) (.bool true) (Or.inl ⟨Eq.refl true, fun w1 hSw => (by cases hSw; exact (by show (execOp _ (⟨_, .load 4 (.tmp 203), _, _, _, _⟩ : Oper)).run _ _ = _; exact (by unfold execOp; simp only [h214.eval (k := 203) (v := .pointer (some ⟨w1.heap.size, 1, none⟩)) (by simp)]; exact run_v (loadBo (by rw [(Blk.drew hbW.out).cell (i := 1) (by simp)]; simp [hno])))))⟩) fun a217 h216 => ?_
    refine wpk_take hS201 h216 8 rfl rfl (by decide) (fr rfl) (by kernel_rfl) (by kernel_rfl) (by kernel_rfl) (fun _ _ _ _ h => h) (.bool false) (Or.inl ⟨Eq.refl true, fun w1 hSw => (by cases hSw; exact (by show (execOp _ (⟨_, .unOp .not 4 (.tmp 204), _, _, _, _⟩ : Oper)).run _ _ = _; exact (run_not rfl (h216.eval (k := 204) (v := .bool true) (by simp)))))⟩) fun a219 h218 => ?_
    refine wpk_take hS201 h218 9 rfl rfl (by decide) (fr rfl) (by kernel_rfl) (by kernel_rfl) (by kernel_rfl) (fun _ _ _ _ h => h) (.bool false) (Or.inl ⟨Eq.refl true, fun w1 hSw => (by cases hSw; exact (by show (execOp _ (⟨_, .move (.tmp 205), _, _, _, _⟩ : Oper)).run _ _ = _; exact (by unfold execOp; simp only [h218.eval (k := 205) (v := .bool false) (by simp)]; rfl)))⟩) fun a221 h220 => ?_
    refine wpk_take hS201 h220 10 rfl rfl (by decide) (fr rfl) (by kernel_rfl) (by kernel_rfl) (by kernel_rfl) (fun _ _ _ _ h => h) undef (Or.inr ⟨(by rw [wanted_of (g := 9) (want := true) (b := false) rfl (h220.yields (prev := 206) rfl (by simp))]; rfl), rfl⟩) fun a223 h222 => ?_
    refine wpk_take hS201 h222 11 rfl rfl (by decide) (fr rfl) (by kernel_rfl) (by kernel_rfl) (by kernel_rfl) (fun _ _ _ _ h => h) (.bool false) (Or.inl ⟨Eq.refl true, fun w1 hSw => (by cases hSw; exact (by show (execOp _ (⟨_, .pick (.tmp 206) (.tmp 207) (.const (.bool false)), _, _, _, _⟩ : Oper)).run _ _ = _; exact (run_pick rfl (h222.eval (k := 206) (v := .bool false) (by simp)) rfl)))⟩) fun a225 h224 => ?_
    have h226 := h224.subs (l' := [(208, .bool false), (207, undef), (206, .bool false), (205, .bool false), (204, .bool true), (203, .pointer (some ⟨w1.heap.size, 1, none⟩)), (202, .pointer (some ⟨w1.heap.size, 0, none⟩)), (201, .pointer (some ⟨w1.heap.size, 0, none⟩)), (200, .slice ba m10.b.length bc), (199, .pointer (some ⟨w1.heap.size, 0, none⟩)), (198, .pointer (some ⟨w1.heap.size, 0, none⟩)), (197, .pointer (some ⟨w1.heap.size, 0, none⟩)), (7, .bool rb), (4, .pointer (some ⟨w1.heap.size, 0, none⟩)), (3, .bool false), (1, .pointer (some ⟨w.heap.size, 0, none⟩))]) rfl
    clear h224
    refine wpk_take hS201 h226 12 rfl rfl (by decide) (fr rfl) (by kernel_rfl) (by kernel_rfl) (by kernel_rfl) (fun _ _ _ _ h => h) (.slice ba m10.b.length bc) (Or.inl ⟨Eq.refl true, fun w1 hSw => (by cases hSw; exact (by show (execOp _ (⟨_, .assign (.tmp 200), _, _, _, _⟩ : Oper)).run _ _ = _; exact (by unfold execOp; simp only [h226.eval (k := 200) (v := .slice ba m10.b.length bc) (by simp)]; rfl)))⟩) fun a228 h227 => ?_
    have h229 := h227.subs (l' := [(2, .slice ba m10.b.length bc), (208, .bool false), (207, undef), (206, .bool false), (205, .bool false), (204, .bool true), (203, .pointer (some ⟨w1.heap.size, 1, none⟩)), (202, .pointer (some ⟨w1.heap.size, 0, none⟩)), (201, .pointer (some ⟨w1.heap.size, 0, none⟩)), (200, .slice ba m10.b.length bc), (199, .pointer (some ⟨w1.heap.size, 0, none⟩)), (198, .pointer (some ⟨w1.heap.size, 0, none⟩)), (197, .pointer (some ⟨w1.heap.size, 0, none⟩)), (7, .bool rb), (4, .pointer (some ⟨w1.heap.size, 0, none⟩)), (1, .pointer (some ⟨w.heap.size, 0, none⟩))]) rfl
    clear h227
    refine wpk_take hS201 h229 13 rfl rfl (by decide) (fr rfl) (by kernel_rfl) (by kernel_rfl) (by kernel_rfl) (fun _ _ _ _ h => h) (.bool false) (Or.inl ⟨Eq.refl true, fun w1 hSw => (by cases hSw; exact (by show (execOp _ (⟨_, .assign (.tmp 208), _, _, _, _⟩ : Oper)).run _ _ = _; exact (by unfold execOp; simp only [h229.eval (k := 208) (v := .bool false) (by simp)]; rfl)))⟩) fun a231 h230 => ?_
    refine wpAnyH_done (by kernel_rfl) ?_ _
    have h232 := h230.subs (l' := [(3, .bool false), (2, .slice ba m10.b.length bc), (7, .bool rb), (4, .pointer (some ⟨w1.heap.size, 0, none⟩)), (1, .pointer (some ⟨w.heap.size, 0, none⟩))]) rfl
    clear h230
    go_step
    go_step
    go_step
    refine bodyPost_ret (results_tmp2 rfl (h232.known (2, .slice ba m10.b.length bc) (by simp)) (h232.known (3, .bool false) (by simp))) h232.defs ?_
    exact ⟨ba, bc, by rw [hno]; rfl, hoW.out.drew.low B1.out.size, B1.out.trans (B10x.out.mono B1.out.size)⟩
end Go.Proofs.Ytanediaaidfcaaa
