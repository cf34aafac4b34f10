/- The document's Inner, by kinds: [3]. (genWirIn.py) -/
import Derived.Test.YtanediaaidfcaaaWirIn
namespace Go.Proofs.Ytanediaaidfcaaa
open Go.RowKit
set_option linter.unusedSimpArgs false
set_option linter.unusedVariables false

set_option maxRecDepth 100000 in
set_option maxHeartbeats 4000000 in
theorem inner_3 (P : PkM) (hP : smallP P) (hS : longP P) (a : Option Addr) (c : Nat) (w : World) (ha : Row w 1 a P.N.length c (P.N.map strV)) (hk : P.I 0 = 3) :
    Calls Try.prog 23 #[.agg (pkC P a P.N.length c).toArray] w fun e w' => ∃ ba bc, e = .returned (.tuple #[.slice ba ((fHead ++ fRest 3).foldl (stepW P) ⟨[], false⟩).b.length bc, .bool (!((fHead ++ fRest 3).foldl (stepW P) ⟨[], false⟩).no && eqPk P (setL P P0z (fHead ++ fRest 3)))]) ∧ OwnB w' w.heap.size ba bc ((fHead ++ fRest 3).foldl (stepW P) ⟨[], false⟩).b ∧ Below w.heap.size w w' := by
  have HO := hid (fun (W : World) (hW : Below w.heap.size w W) => others_3 P a c W (ha.mono hW) hk)
  obtain ⟨rb, hrb⟩ : ∃ rb, rb = eqPk P (setL P P0z (fHead ++ fRest 3)) := ⟨_, rfl⟩
  rw [← hrb] at HO ⊢
  clear hrb
  have e1 : (P.I 0 == 1) = false := by rw [hk]; rfl
  have e2 : (P.I 0 == 2) = false := by rw [hk]; rfl
  have e3 : (P.I 0 == 3) = true := by rw [hk]; rfl
  have e4 : (P.I 0 == 4) = false := by rw [hk]; rfl
  have e5 : (P.I 0 == 5) = false := by rw [hk]; rfl
  obtain ⟨m0, hm0⟩ : ∃ m0, m0 = (⟨[], false⟩ : WM) := ⟨_, rfl⟩
  have l0 : m0.b.length ≤ 0 := by rw [hm0]; simp
  obtain ⟨m1, hm1⟩ : ∃ m1, m1 = wnum m0 (P.I 0) 1 1 5 := ⟨_, rfl⟩
  have l1 : m1.b.length ≤ 8 := by rw [hm1]; have := wnum_len m0 (P.I 0) 1 1 5 (by decide); omega
  obtain ⟨m2, hm2⟩ : ∃ m2, m2 = wnum m1 (P.I 1) 1 1 8 := ⟨_, rfl⟩
  have l2 : m2.b.length ≤ 16 := by rw [hm2]; have := wnum_len m1 (P.I 1) 1 1 8 (by decide); omega
  obtain ⟨m3, hm3⟩ : ∃ m3, m3 = wnum m2 (P.I 2) 4 0 9223372036854775807 := ⟨_, rfl⟩
  have l3 : m3.b.length ≤ 24 := by rw [hm3]; have := wnum_len m2 (P.I 2) 4 0 9223372036854775807 (by decide); omega
  obtain ⟨m4, hm4⟩ : ∃ m4, m4 = wnum m3 (P.I 3) 8 0 9223372036854775807 := ⟨_, rfl⟩
  have l4 : m4.b.length ≤ 32 := by rw [hm4]; have := wnum_len m3 (P.I 3) 8 0 9223372036854775807 (by decide); omega
  obtain ⟨m5, hm5⟩ : ∃ m5, m5 = wnum m4 (P.I 4) 1 0 9223372036854775807 := ⟨_, rfl⟩
  have l5 : m5.b.length ≤ 40 := by rw [hm5]; have := wnum_len m4 (P.I 4) 1 0 9223372036854775807 (by decide); omega
  obtain ⟨m6, hm6⟩ : ∃ m6, m6 = wnum m5 (P.I 18) 1 0 9223372036854775807 := ⟨_, rfl⟩
  have l6 : m6.b.length ≤ 48 := by rw [hm6]; have := wnum_len m5 (P.I 18) 1 0 9223372036854775807 (by decide); omega
  obtain ⟨m7, hm7⟩ : ∃ m7, m7 = wtext m6 (P.S 11) 1 100 := ⟨_, rfl⟩
  have l7 : m7.b.length ≤ 556 := by rw [hm7]; have := wtext_len m6 (P.S 11) 1 100 (by decide) (hS 11 (by decide)); omega
  obtain ⟨m8, hm8⟩ : ∃ m8, m8 = wtext m7 (P.S 12) 1 100 := ⟨_, rfl⟩
  have l8 : m8.b.length ≤ 1064 := by rw [hm8]; have := wtext_len m7 (P.S 12) 1 100 (by decide) (hS 12 (by decide)); omega
  obtain ⟨m9, hm9⟩ : ∃ m9, m9 = wnum m8 (P.I 13) 1 0 9223372036854775807 := ⟨_, rfl⟩
  have l9 : m9.b.length ≤ 1072 := by rw [hm9]; have := wnum_len m8 (P.I 13) 1 0 9223372036854775807 (by decide); omega
  obtain ⟨m10, hm10⟩ : ∃ m10, m10 = wnum m9 (P.I 16) 4 0 9223372036854775807 := ⟨_, rfl⟩
  have l10 : m10.b.length ≤ 1080 := by rw [hm10]; have := wnum_len m9 (P.I 16) 4 0 9223372036854775807 (by decide); omega
  rw [show ((fHead ++ fRest 3).foldl (stepW P) ⟨[], false⟩) = m10 by rw [hm10, hm9, hm8, hm7, hm6, hm5, hm4, hm3, hm2, hm1, hm0]; rfl]
  have HM0 := hid hm0
  have HM1 := hid hm1
  have HM2 := hid hm2
  have HM3 := hid hm3
  have HM4 := hid hm4
  have HM5 := hid hm5
  have HM6 := hid hm6
  have HM7 := hid hm7
  have HM8 := hid hm8
  have HM9 := hid hm9
  have HM10 := hid hm10
  clear hk ha hm0 hm1 hm2 hm3 hm4 hm5 hm6 hm7 hm8 hm9 hm10
  go_enter Try.func23, Try.ntmps23
  go_step
  go_step
  go_step
  refine wpl_boxT rfl 35 _ rfl (pkC P a P.N.length c) rfl ?_
  intro w1 k1 b1 s1
  have KP1 := hid k1; have B1 := hid b1; have hgB : w.heap.size < w1.heap.size := by omega
  clear k1 b1 s1
  refine wpk_enter (N := 209) (l := [(1, .pointer (some ⟨w.heap.size, 0, none⟩))]) ⟨rfl, (by intro x hx; simp only [List.mem_cons, List.not_mem_nil, or_false] at hx; rcases hx with rfl <;> rfl), rfl⟩ fun a2 h1 => ?_
  refine wpk_val h1 (wanted_none rfl) rfl (by decide) (fr rfl) (.slice none 0 0) rfl fun a4 h3 => ?_
  refine wpk_val h3 (wanted_none rfl) rfl (by decide) (fr rfl) (.bool false) rfl fun a6 h5 => ?_
  go_step
  go_step
  go_step
  go_step
  go_step
  refine wpk_val h5 (wanted_none rfl) rfl (by decide) (fr rfl) (.agg #[.slice none 0 0, .bool false]) (by unfold execOp; simp only [List.map_toArray, List.map_nil]; exact run_v (buildW _)) fun a8 h7 => ?_
  refine wpk_box h7 rfl rfl (by decide) (fr rfl) 83 rfl [.slice none 0 0, .bool false] (h7.eval (k := 8) (v := .agg #[.slice none 0 0, .bool false]) (by simp)) fun a10 w2 h9 k2 b2 s2 => ?_
  have HW0 : Hid (WIn w2 w1.heap.size w1.heap.size m0) := hid (by rw [HM0.out]; exact ⟨none, 0, k2, Own.nil _ _ _ _⟩)
  have HB0 := hid b2
  clear k2 b2 s2
  refine wpk_val h9 (wanted_none rfl) rfl (by decide) (fr rfl) (.pointer (some ⟨w1.heap.size, 0, none⟩)) (by unfold execOp; simp only [h9.eval (k := 9) (v := .pointer (some ⟨w1.heap.size, 0, none⟩)) (by simp)]; rfl) fun a12 h11 => ?_
  have h13 := h11.subs (l' := [(4, .pointer (some ⟨w1.heap.size, 0, none⟩)), (3, .bool false), (2, .slice none 0 0), (1, .pointer (some ⟨w.heap.size, 0, none⟩))]) rfl
  clear h11
  go_step
  go_step
  go_step
  go_step
  go_step
  refine wpk_val h13 (wanted_none rfl) rfl (by decide) (fr rfl) (.pointer (some ⟨w1.heap.size, 0, none⟩)) (by unfold execOp; simp only [h13.eval (k := 4) (v := .pointer (some ⟨w1.heap.size, 0, none⟩)) (by simp)]; rfl) fun a15 h14 => ?_
  refine wpk_val h14 (wanted_none rfl) rfl (by decide) (fr rfl) (.pointer (some ⟨w.heap.size, 0, none⟩)) (by unfold execOp; simp only [h14.eval (k := 1) (v := .pointer (some ⟨w.heap.size, 0, none⟩)) (by simp)]; exact run_v (fa_35_0_0 (w.heap.size) _)) fun a17 h16 => ?_
  refine wpk_val h16 (wanted_none rfl) rfl (by decide) (fr rfl) (.int .i64 (P.I 0)) (by unfold execOp; simp only [h16.eval (k := 11) (v := .pointer (some ⟨w.heap.size, 0, none⟩)) (by simp)]; exact run_v (loadI ((Blk.below KP1.out HB0.out hgB).cell (i := 0) (by show 0 < 43; omega)))) fun a19 h18 => ?_
  refine wpk_call h18 (wanted_none rfl) rfl (by decide) (fr rfl) (fun args => call_40 args _) rfl #[.pointer (some ⟨w1.heap.size, 0, none⟩), .int .i64 (P.I 0), .int .i64 1, .int .i64 1, .int .i64 5] (by simp only [List.map_toArray, List.map_cons, List.map_nil, h18.eval (k := 10) (v := .pointer (some ⟨w1.heap.size, 0, none⟩)) (by simp), h18.eval (k := 12) (v := .int .i64 (P.I 0)) (by simp)]; rfl) (R := fun v w' => v = .tuple #[] ∧ WIn w' w1.heap.size w1.heap.size m1 ∧ Below w1.heap.size w1 w') (Calls.mono (wnum_any HW0.out (Nat.le_refl _) (by omega) (P.I 0) 1 5 1 (hP 0)) (fun e w' q => ⟨_, q.1, rfl, (by rw [HM1.out]; exact q.2.1), HB0.out.trans q.2.2⟩)) fun a21 v0 w3 r0 h20 => ?_
  obtain ⟨rfl, q1, q2⟩ := r0
  have HW1 := hid q1; have HB1 := hid q2
  clear q1 q2 HW0 HB0
  have h22 := h20.subs (l' := [(4, .pointer (some ⟨w1.heap.size, 0, none⟩)), (3, .bool false), (2, .slice none 0 0), (1, .pointer (some ⟨w.heap.size, 0, none⟩))]) rfl
  clear h20
  go_step
  go_step
  go_step
  go_step
  go_step
  refine wpk_val h22 (wanted_none rfl) rfl (by decide) (fr rfl) (.pointer (some ⟨w1.heap.size, 0, none⟩)) (by unfold execOp; simp only [h22.eval (k := 4) (v := .pointer (some ⟨w1.heap.size, 0, none⟩)) (by simp)]; rfl) fun a24 h23 => ?_
  refine wpk_val h23 (wanted_none rfl) rfl (by decide) (fr rfl) (.pointer (some ⟨w.heap.size, 1, none⟩)) (by unfold execOp; simp only [h23.eval (k := 1) (v := .pointer (some ⟨w.heap.size, 0, none⟩)) (by simp)]; exact run_v (fa_35_0_1 (w.heap.size) _)) fun a26 h25 => ?_
  refine wpk_val h25 (wanted_none rfl) rfl (by decide) (fr rfl) (.int .i64 (P.I 1)) (by unfold execOp; simp only [h25.eval (k := 15) (v := .pointer (some ⟨w.heap.size, 1, none⟩)) (by simp)]; exact run_v (loadI ((Blk.below KP1.out HB1.out hgB).cell (i := 1) (by show 1 < 43; omega)))) fun a28 h27 => ?_
  refine wpk_call h27 (wanted_none rfl) rfl (by decide) (fr rfl) (fun args => call_40 args _) rfl #[.pointer (some ⟨w1.heap.size, 0, none⟩), .int .i64 (P.I 1), .int .i64 1, .int .i64 1, .int .i64 8] (by simp only [List.map_toArray, List.map_cons, List.map_nil, h27.eval (k := 14) (v := .pointer (some ⟨w1.heap.size, 0, none⟩)) (by simp), h27.eval (k := 16) (v := .int .i64 (P.I 1)) (by simp)]; rfl) (R := fun v w' => v = .tuple #[] ∧ WIn w' w1.heap.size w1.heap.size m2 ∧ Below w1.heap.size w1 w') (Calls.mono (wnum_any HW1.out (Nat.le_refl _) (by omega) (P.I 1) 1 8 1 (hP 1)) (fun e w' q => ⟨_, q.1, rfl, (by rw [HM2.out]; exact q.2.1), HB1.out.trans q.2.2⟩)) fun a30 v1 w4 r1 h29 => ?_
  obtain ⟨rfl, q1, q2⟩ := r1
  have HW2 := hid q1; have HB2 := hid q2
  clear q1 q2 HW1 HB1
  have h31 := h29.subs (l' := [(4, .pointer (some ⟨w1.heap.size, 0, none⟩)), (3, .bool false), (2, .slice none 0 0), (1, .pointer (some ⟨w.heap.size, 0, none⟩))]) rfl
  clear h29
  go_step
  go_step
  go_step
  go_step
  go_step
  refine wpk_val h31 (wanted_none rfl) rfl (by decide) (fr rfl) (.pointer (some ⟨w1.heap.size, 0, none⟩)) (by unfold execOp; simp only [h31.eval (k := 4) (v := .pointer (some ⟨w1.heap.size, 0, none⟩)) (by simp)]; rfl) fun a33 h32 => ?_
  refine wpk_val h32 (wanted_none rfl) rfl (by decide) (fr rfl) (.pointer (some ⟨w.heap.size, 2, none⟩)) (by unfold execOp; simp only [h32.eval (k := 1) (v := .pointer (some ⟨w.heap.size, 0, none⟩)) (by simp)]; exact run_v (fa_35_0_2 (w.heap.size) _)) fun a35 h34 => ?_
  refine wpk_val h34 (wanted_none rfl) rfl (by decide) (fr rfl) (.int .i64 (P.I 2)) (by unfold execOp; simp only [h34.eval (k := 19) (v := .pointer (some ⟨w.heap.size, 2, none⟩)) (by simp)]; exact run_v (loadI ((Blk.below KP1.out HB2.out hgB).cell (i := 2) (by show 2 < 43; omega)))) fun a37 h36 => ?_
  refine wpk_call h36 (wanted_none rfl) rfl (by decide) (fr rfl) (fun args => call_40 args _) rfl #[.pointer (some ⟨w1.heap.size, 0, none⟩), .int .i64 (P.I 2), .int .i64 4, .int .i64 0, .int .i64 9223372036854775807] (by simp only [List.map_toArray, List.map_cons, List.map_nil, h36.eval (k := 18) (v := .pointer (some ⟨w1.heap.size, 0, none⟩)) (by simp), h36.eval (k := 20) (v := .int .i64 (P.I 2)) (by simp)]; rfl) (R := fun v w' => v = .tuple #[] ∧ WIn w' w1.heap.size w1.heap.size m3 ∧ Below w1.heap.size w1 w') (Calls.mono (wnum_any HW2.out (Nat.le_refl _) (by omega) (P.I 2) 0 9223372036854775807 4 (hP 2)) (fun e w' q => ⟨_, q.1, rfl, (by rw [HM3.out]; exact q.2.1), HB2.out.trans q.2.2⟩)) fun a39 v2 w5 r2 h38 => ?_
  obtain ⟨rfl, q1, q2⟩ := r2
  have HW3 := hid q1; have HB3 := hid q2
  clear q1 q2 HW2 HB2
  have h40 := h38.subs (l' := [(4, .pointer (some ⟨w1.heap.size, 0, none⟩)), (3, .bool false), (2, .slice none 0 0), (1, .pointer (some ⟨w.heap.size, 0, none⟩))]) rfl
  clear h38
  go_step
  go_step
  go_step
  go_step
  go_step
  refine wpk_val h40 (wanted_none rfl) rfl (by decide) (fr rfl) (.pointer (some ⟨w1.heap.size, 0, none⟩)) (by unfold execOp; simp only [h40.eval (k := 4) (v := .pointer (some ⟨w1.heap.size, 0, none⟩)) (by simp)]; rfl) fun a42 h41 => ?_
  refine wpk_val h41 (wanted_none rfl) rfl (by decide) (fr rfl) (.pointer (some ⟨w.heap.size, 3, none⟩)) (by unfold execOp; simp only [h41.eval (k := 1) (v := .pointer (some ⟨w.heap.size, 0, none⟩)) (by simp)]; exact run_v (fa_35_0_3 (w.heap.size) _)) fun a44 h43 => ?_
  refine wpk_val h43 (wanted_none rfl) rfl (by decide) (fr rfl) (.int .i64 (P.I 3)) (by unfold execOp; simp only [h43.eval (k := 23) (v := .pointer (some ⟨w.heap.size, 3, none⟩)) (by simp)]; exact run_v (loadI ((Blk.below KP1.out HB3.out hgB).cell (i := 3) (by show 3 < 43; omega)))) fun a46 h45 => ?_
  refine wpk_call h45 (wanted_none rfl) rfl (by decide) (fr rfl) (fun args => call_40 args _) rfl #[.pointer (some ⟨w1.heap.size, 0, none⟩), .int .i64 (P.I 3), .int .i64 8, .int .i64 0, .int .i64 9223372036854775807] (by simp only [List.map_toArray, List.map_cons, List.map_nil, h45.eval (k := 22) (v := .pointer (some ⟨w1.heap.size, 0, none⟩)) (by simp), h45.eval (k := 24) (v := .int .i64 (P.I 3)) (by simp)]; rfl) (R := fun v w' => v = .tuple #[] ∧ WIn w' w1.heap.size w1.heap.size m4 ∧ Below w1.heap.size w1 w') (Calls.mono (wnum_any HW3.out (Nat.le_refl _) (by omega) (P.I 3) 0 9223372036854775807 8 (hP 3)) (fun e w' q => ⟨_, q.1, rfl, (by rw [HM4.out]; exact q.2.1), HB3.out.trans q.2.2⟩)) fun a48 v3 w6 r3 h47 => ?_
  obtain ⟨rfl, q1, q2⟩ := r3
  have HW4 := hid q1; have HB4 := hid q2
  clear q1 q2 HW3 HB3
  have h49 := h47.subs (l' := [(4, .pointer (some ⟨w1.heap.size, 0, none⟩)), (3, .bool false), (2, .slice none 0 0), (1, .pointer (some ⟨w.heap.size, 0, none⟩))]) rfl
  clear h47
  go_step
  go_step
  go_step
  go_step
  go_step
  go_step
  refine wpk_val h49 (wanted_none rfl) rfl (by decide) (fr rfl) (.pointer (some ⟨w.heap.size, 0, none⟩)) (by unfold execOp; simp only [h49.eval (k := 1) (v := .pointer (some ⟨w.heap.size, 0, none⟩)) (by simp)]; exact run_v (fa_35_0_0 (w.heap.size) _)) fun a51 h50 => ?_
  refine wpk_val h50 (wanted_none rfl) rfl (by decide) (fr rfl) (.int .i64 (P.I 0)) (by unfold execOp; simp only [h50.eval (k := 26) (v := .pointer (some ⟨w.heap.size, 0, none⟩)) (by simp)]; exact run_v (loadI ((Blk.below KP1.out HB4.out hgB).cell (i := 0) (by show 0 < 43; omega)))) fun a53 h52 => ?_
  refine wpk_val h52 (wanted_none rfl) rfl (by decide) (fr rfl) (.bool false) (by unfold execOp; simp only [h52.eval (k := 27) (v := .int .i64 (P.I 0)) (by simp)]; exact run_v (eqIb _ _ _ _ _ e1)) fun a55 h54 => ?_
  refine wpk_val h54 (wanted_none rfl) rfl (by decide) (fr rfl) (.bool false) (by unfold execOp; simp only [h54.eval (k := 28) (v := .bool false) (by simp)]; rfl) fun a57 h56 => ?_
  refine wpk_val h56 (by rw [wanted_of (g := 3) (want := false) (b := false) rfl (h56.yields (prev := 29) rfl (by simp))]; rfl) rfl (by decide) (fr rfl) (.pointer (some ⟨w.heap.size, 0, none⟩)) (by unfold execOp; simp only [h56.eval (k := 1) (v := .pointer (some ⟨w.heap.size, 0, none⟩)) (by simp)]; exact run_v (fa_35_0_0 (w.heap.size) _)) fun a59 h58 => ?_
  refine wpk_val h58 (by rw [wanted_of (g := 3) (want := false) (b := false) rfl (h58.yields (prev := 29) rfl (by simp))]; rfl) rfl (by decide) (fr rfl) (.int .i64 (P.I 0)) (by unfold execOp; simp only [h58.eval (k := 30) (v := .pointer (some ⟨w.heap.size, 0, none⟩)) (by simp)]; exact run_v (loadI ((Blk.below KP1.out HB4.out hgB).cell (i := 0) (by show 0 < 43; omega)))) fun a61 h60 => ?_
  refine wpk_val h60 (by rw [wanted_of (g := 3) (want := false) (b := false) rfl (h60.yields (prev := 29) rfl (by simp))]; rfl) rfl (by decide) (fr rfl) (.bool false) (by unfold execOp; simp only [h60.eval (k := 31) (v := .int .i64 (P.I 0)) (by simp)]; exact run_v (eqIb _ _ _ _ _ e2)) fun a63 h62 => ?_
  refine wpk_val h62 (wanted_none rfl) rfl (by decide) (fr rfl) (.bool false) (run_pick rfl (h62.eval (k := 29) (v := .bool false) (by simp)) (by rw [if_neg (by simp)]; exact h62.eval (k := 32) (v := .bool false) (by simp))) fun a65 h64 => ?_
  have h66 := h64.subs (l' := [(33, .bool false), (4, .pointer (some ⟨w1.heap.size, 0, none⟩)), (3, .bool false), (2, .slice none 0 0), (1, .pointer (some ⟨w.heap.size, 0, none⟩))]) rfl
  clear h64
  go_step
  go_step
  go_step
  refine wp_cond (t := false) (h66.eval (k := 33) (v := .bool false) (by simp)) ?_
  simp only [Bool.false_eq_true, if_false]
  have h67 := h66.subs (l' := [(4, .pointer (some ⟨w1.heap.size, 0, none⟩)), (3, .bool false), (2, .slice none 0 0), (1, .pointer (some ⟨w.heap.size, 0, none⟩))]) rfl
  clear h66
  go_step
  go_step
  go_step
  go_step
  go_step
  go_step
  refine wpk_val h67 (wanted_none rfl) rfl (by decide) (fr rfl) (.pointer (some ⟨w.heap.size, 0, none⟩)) (by unfold execOp; simp only [h67.eval (k := 1) (v := .pointer (some ⟨w.heap.size, 0, none⟩)) (by simp)]; exact run_v (fa_35_0_0 (w.heap.size) _)) fun a69 h68 => ?_
  refine wpk_val h68 (wanted_none rfl) rfl (by decide) (fr rfl) (.int .i64 (P.I 0)) (by unfold execOp; simp only [h68.eval (k := 68) (v := .pointer (some ⟨w.heap.size, 0, none⟩)) (by simp)]; exact run_v (loadI ((Blk.below KP1.out HB4.out hgB).cell (i := 0) (by show 0 < 43; omega)))) fun a71 h70 => ?_
  refine wpk_val h70 (wanted_none rfl) rfl (by decide) (fr rfl) (.bool true) (by unfold execOp; simp only [h70.eval (k := 69) (v := .int .i64 (P.I 0)) (by simp)]; exact run_v (eqIb _ _ _ _ _ e3)) fun a73 h72 => ?_
  have h74 := h72.subs (l' := [(70, .bool true), (4, .pointer (some ⟨w1.heap.size, 0, none⟩)), (3, .bool false), (2, .slice none 0 0), (1, .pointer (some ⟨w.heap.size, 0, none⟩))]) rfl
  clear h72
  go_step
  go_step
  go_step
  refine wp_cond (t := true) (h74.eval (k := 70) (v := .bool true) (by simp)) ?_
  simp only [if_true]
  have h75 := h74.subs (l' := [(4, .pointer (some ⟨w1.heap.size, 0, none⟩)), (3, .bool false), (2, .slice none 0 0), (1, .pointer (some ⟨w.heap.size, 0, none⟩))]) rfl
  clear h74
  go_step
  go_step
  refine wpk_val h75 (wanted_none rfl) rfl (by decide) (fr rfl) (.pointer (some ⟨w1.heap.size, 0, none⟩)) (by unfold execOp; simp only [h75.eval (k := 4) (v := .pointer (some ⟨w1.heap.size, 0, none⟩)) (by simp)]; rfl) fun a77 h76 => ?_
  refine wpk_val h76 (wanted_none rfl) rfl (by decide) (fr rfl) (.pointer (some ⟨w.heap.size, 4, none⟩)) (by unfold execOp; simp only [h76.eval (k := 1) (v := .pointer (some ⟨w.heap.size, 0, none⟩)) (by simp)]; exact run_v (fa_35_0_4 (w.heap.size) _)) fun a79 h78 => ?_
  refine wpk_val h78 (wanted_none rfl) rfl (by decide) (fr rfl) (.int .i64 (P.I 4)) (by unfold execOp; simp only [h78.eval (k := 72) (v := .pointer (some ⟨w.heap.size, 4, none⟩)) (by simp)]; exact run_v (loadI ((Blk.below KP1.out HB4.out hgB).cell (i := 4) (by show 4 < 43; omega)))) fun a81 h80 => ?_
  refine wpk_call h80 (wanted_none rfl) rfl (by decide) (fr rfl) (fun args => call_40 args _) rfl #[.pointer (some ⟨w1.heap.size, 0, none⟩), .int .i64 (P.I 4), .int .i64 1, .int .i64 0, .int .i64 9223372036854775807] (by simp only [List.map_toArray, List.map_cons, List.map_nil, h80.eval (k := 71) (v := .pointer (some ⟨w1.heap.size, 0, none⟩)) (by simp), h80.eval (k := 73) (v := .int .i64 (P.I 4)) (by simp)]; rfl) (R := fun v w' => v = .tuple #[] ∧ WIn w' w1.heap.size w1.heap.size m5 ∧ Below w1.heap.size w1 w') (Calls.mono (wnum_any HW4.out (Nat.le_refl _) (by omega) (P.I 4) 0 9223372036854775807 1 (hP 4)) (fun e w' q => ⟨_, q.1, rfl, (by rw [HM5.out]; exact q.2.1), HB4.out.trans q.2.2⟩)) fun a83 v4 w7 r4 h82 => ?_
  obtain ⟨rfl, q1, q2⟩ := r4
  have HW5 := hid q1; have HB5 := hid q2
  clear q1 q2 HW4 HB4
  have h84 := h82.subs (l' := [(4, .pointer (some ⟨w1.heap.size, 0, none⟩)), (3, .bool false), (2, .slice none 0 0), (1, .pointer (some ⟨w.heap.size, 0, none⟩))]) rfl
  clear h82
  go_step
  go_step
  go_step
  go_step
  go_step
  refine wpk_val h84 (wanted_none rfl) rfl (by decide) (fr rfl) (.pointer (some ⟨w1.heap.size, 0, none⟩)) (by unfold execOp; simp only [h84.eval (k := 4) (v := .pointer (some ⟨w1.heap.size, 0, none⟩)) (by simp)]; rfl) fun a86 h85 => ?_
  refine wpk_val h85 (wanted_none rfl) rfl (by decide) (fr rfl) (.pointer (some ⟨w.heap.size, 18, none⟩)) (by unfold execOp; simp only [h85.eval (k := 1) (v := .pointer (some ⟨w.heap.size, 0, none⟩)) (by simp)]; exact run_v (fa_35_0_11 (w.heap.size) _)) fun a88 h87 => ?_
  refine wpk_val h87 (wanted_none rfl) rfl (by decide) (fr rfl) (.int .i64 (P.I 18)) (by unfold execOp; simp only [h87.eval (k := 76) (v := .pointer (some ⟨w.heap.size, 18, none⟩)) (by simp)]; exact run_v (loadI ((Blk.below KP1.out HB5.out hgB).cell (i := 18) (by show 18 < 43; omega)))) fun a90 h89 => ?_
  refine wpk_call h89 (wanted_none rfl) rfl (by decide) (fr rfl) (fun args => call_40 args _) rfl #[.pointer (some ⟨w1.heap.size, 0, none⟩), .int .i64 (P.I 18), .int .i64 1, .int .i64 0, .int .i64 9223372036854775807] (by simp only [List.map_toArray, List.map_cons, List.map_nil, h89.eval (k := 75) (v := .pointer (some ⟨w1.heap.size, 0, none⟩)) (by simp), h89.eval (k := 77) (v := .int .i64 (P.I 18)) (by simp)]; rfl) (R := fun v w' => v = .tuple #[] ∧ WIn w' w1.heap.size w1.heap.size m6 ∧ Below w1.heap.size w1 w') (Calls.mono (wnum_any HW5.out (Nat.le_refl _) (by omega) (P.I 18) 0 9223372036854775807 1 (hP 18)) (fun e w' q => ⟨_, q.1, rfl, (by rw [HM6.out]; exact q.2.1), HB5.out.trans q.2.2⟩)) fun a92 v5 w8 r5 h91 => ?_
  obtain ⟨rfl, q1, q2⟩ := r5
  have HW6 := hid q1; have HB6 := hid q2
  clear q1 q2 HW5 HB5
  have h93 := h91.subs (l' := [(4, .pointer (some ⟨w1.heap.size, 0, none⟩)), (3, .bool false), (2, .slice none 0 0), (1, .pointer (some ⟨w.heap.size, 0, none⟩))]) rfl
  clear h91
  go_step
  go_step
  go_step
  go_step
  go_step
  refine wpk_val h93 (wanted_none rfl) rfl (by decide) (fr rfl) (.pointer (some ⟨w1.heap.size, 0, none⟩)) (by unfold execOp; simp only [h93.eval (k := 4) (v := .pointer (some ⟨w1.heap.size, 0, none⟩)) (by simp)]; rfl) fun a95 h94 => ?_
  refine wpk_val h94 (wanted_none rfl) rfl (by decide) (fr rfl) (.pointer (some ⟨w.heap.size, 10, none⟩)) (by unfold execOp; simp only [h94.eval (k := 1) (v := .pointer (some ⟨w.heap.size, 0, none⟩)) (by simp)]; exact run_v (fa_35_0_10 (w.heap.size) _)) fun a97 h96 => ?_
  refine wpk_val h96 (wanted_none rfl) rfl (by decide) (fr rfl) (.pointer (some ⟨w.heap.size, 11, none⟩)) (by unfold execOp; simp only [h96.eval (k := 80) (v := .pointer (some ⟨w.heap.size, 10, none⟩)) (by simp)]; exact run_v (fa_23_10_1 (w.heap.size) _)) fun a99 h98 => ?_
  refine wpk_val h98 (wanted_none rfl) rfl (by decide) (fr rfl) (.string (bsW (P.S 11))) (by unfold execOp; simp only [h98.eval (k := 81) (v := .pointer (some ⟨w.heap.size, 11, none⟩)) (by simp)]; exact run_v (loadS ((Blk.below KP1.out HB6.out hgB).cell (i := 11) (by show 11 < 43; omega)))) fun a101 h100 => ?_
  refine wpk_call h100 (wanted_none rfl) rfl (by decide) (fr rfl) (fun args => call_41 args _) rfl #[.pointer (some ⟨w1.heap.size, 0, none⟩), .string (bsW (P.S 11)), .int .i64 1, .int .i64 100] (by simp only [List.map_toArray, List.map_cons, List.map_nil, h100.eval (k := 79) (v := .pointer (some ⟨w1.heap.size, 0, none⟩)) (by simp), h100.eval (k := 82) (v := .string (bsW (P.S 11))) (by simp)]; rfl) (R := fun v w' => v = .tuple #[] ∧ WIn w' w1.heap.size w1.heap.size m7 ∧ Below w1.heap.size w1 w') (Calls.mono (wtext_any HW6.out (Nat.le_refl _) (by omega) (P.S 11) (by have := hS 11 (by decide); omega) 1 100 (by decide)) (fun e w' q => ⟨_, q.1, rfl, (by rw [HM7.out]; exact q.2.1), HB6.out.trans q.2.2⟩)) fun a103 v6 w9 r6 h102 => ?_
  obtain ⟨rfl, q1, q2⟩ := r6
  have HW7 := hid q1; have HB7 := hid q2
  clear q1 q2 HW6 HB6
  have h104 := h102.subs (l' := [(4, .pointer (some ⟨w1.heap.size, 0, none⟩)), (3, .bool false), (2, .slice none 0 0), (1, .pointer (some ⟨w.heap.size, 0, none⟩))]) rfl
  clear h102
  go_step
  go_step
  go_step
  go_step
  go_step
  refine wpk_val h104 (wanted_none rfl) rfl (by decide) (fr rfl) (.pointer (some ⟨w1.heap.size, 0, none⟩)) (by unfold execOp; simp only [h104.eval (k := 4) (v := .pointer (some ⟨w1.heap.size, 0, none⟩)) (by simp)]; rfl) fun a106 h105 => ?_
  refine wpk_val h105 (wanted_none rfl) rfl (by decide) (fr rfl) (.pointer (some ⟨w.heap.size, 10, none⟩)) (by unfold execOp; simp only [h105.eval (k := 1) (v := .pointer (some ⟨w.heap.size, 0, none⟩)) (by simp)]; exact run_v (fa_35_0_10 (w.heap.size) _)) fun a108 h107 => ?_
  refine wpk_val h107 (wanted_none rfl) rfl (by decide) (fr rfl) (.pointer (some ⟨w.heap.size, 12, none⟩)) (by unfold execOp; simp only [h107.eval (k := 85) (v := .pointer (some ⟨w.heap.size, 10, none⟩)) (by simp)]; exact run_v (fa_23_10_2 (w.heap.size) _)) fun a110 h109 => ?_
  refine wpk_val h109 (wanted_none rfl) rfl (by decide) (fr rfl) (.string (bsW (P.S 12))) (by unfold execOp; simp only [h109.eval (k := 86) (v := .pointer (some ⟨w.heap.size, 12, none⟩)) (by simp)]; exact run_v (loadS ((Blk.below KP1.out HB7.out hgB).cell (i := 12) (by show 12 < 43; omega)))) fun a112 h111 => ?_
  refine wpk_call h111 (wanted_none rfl) rfl (by decide) (fr rfl) (fun args => call_41 args _) rfl #[.pointer (some ⟨w1.heap.size, 0, none⟩), .string (bsW (P.S 12)), .int .i64 1, .int .i64 100] (by simp only [List.map_toArray, List.map_cons, List.map_nil, h111.eval (k := 84) (v := .pointer (some ⟨w1.heap.size, 0, none⟩)) (by simp), h111.eval (k := 87) (v := .string (bsW (P.S 12))) (by simp)]; rfl) (R := fun v w' => v = .tuple #[] ∧ WIn w' w1.heap.size w1.heap.size m8 ∧ Below w1.heap.size w1 w') (Calls.mono (wtext_any HW7.out (Nat.le_refl _) (by omega) (P.S 12) (by have := hS 12 (by decide); omega) 1 100 (by decide)) (fun e w' q => ⟨_, q.1, rfl, (by rw [HM8.out]; exact q.2.1), HB7.out.trans q.2.2⟩)) fun a114 v7 w10 r7 h113 => ?_
  obtain ⟨rfl, q1, q2⟩ := r7
  have HW8 := hid q1; have HB8 := hid q2
  clear q1 q2 HW7 HB7
  have h115 := h113.subs (l' := [(4, .pointer (some ⟨w1.heap.size, 0, none⟩)), (3, .bool false), (2, .slice none 0 0), (1, .pointer (some ⟨w.heap.size, 0, none⟩))]) rfl
  clear h113
  go_step
  go_step
  go_step
  go_step
  go_step
  refine wpk_val h115 (wanted_none rfl) rfl (by decide) (fr rfl) (.pointer (some ⟨w1.heap.size, 0, none⟩)) (by unfold execOp; simp only [h115.eval (k := 4) (v := .pointer (some ⟨w1.heap.size, 0, none⟩)) (by simp)]; rfl) fun a117 h116 => ?_
  refine wpk_val h116 (wanted_none rfl) rfl (by decide) (fr rfl) (.pointer (some ⟨w.heap.size, 10, none⟩)) (by unfold execOp; simp only [h116.eval (k := 1) (v := .pointer (some ⟨w.heap.size, 0, none⟩)) (by simp)]; exact run_v (fa_35_0_10 (w.heap.size) _)) fun a119 h118 => ?_
  refine wpk_val h118 (wanted_none rfl) rfl (by decide) (fr rfl) (.pointer (some ⟨w.heap.size, 13, none⟩)) (by unfold execOp; simp only [h118.eval (k := 90) (v := .pointer (some ⟨w.heap.size, 10, none⟩)) (by simp)]; exact run_v (fa_23_10_3 (w.heap.size) _)) fun a121 h120 => ?_
  refine wpk_val h120 (wanted_none rfl) rfl (by decide) (fr rfl) (.int .i64 (P.I 13)) (by unfold execOp; simp only [h120.eval (k := 91) (v := .pointer (some ⟨w.heap.size, 13, none⟩)) (by simp)]; exact run_v (loadI ((Blk.below KP1.out HB8.out hgB).cell (i := 13) (by show 13 < 43; omega)))) fun a123 h122 => ?_
  refine wpk_call h122 (wanted_none rfl) rfl (by decide) (fr rfl) (fun args => call_40 args _) rfl #[.pointer (some ⟨w1.heap.size, 0, none⟩), .int .i64 (P.I 13), .int .i64 1, .int .i64 0, .int .i64 9223372036854775807] (by simp only [List.map_toArray, List.map_cons, List.map_nil, h122.eval (k := 89) (v := .pointer (some ⟨w1.heap.size, 0, none⟩)) (by simp), h122.eval (k := 92) (v := .int .i64 (P.I 13)) (by simp)]; rfl) (R := fun v w' => v = .tuple #[] ∧ WIn w' w1.heap.size w1.heap.size m9 ∧ Below w1.heap.size w1 w') (Calls.mono (wnum_any HW8.out (Nat.le_refl _) (by omega) (P.I 13) 0 9223372036854775807 1 (hP 13)) (fun e w' q => ⟨_, q.1, rfl, (by rw [HM9.out]; exact q.2.1), HB8.out.trans q.2.2⟩)) fun a125 v8 w11 r8 h124 => ?_
  obtain ⟨rfl, q1, q2⟩ := r8
  have HW9 := hid q1; have HB9 := hid q2
  clear q1 q2 HW8 HB8
  have h126 := h124.subs (l' := [(4, .pointer (some ⟨w1.heap.size, 0, none⟩)), (3, .bool false), (2, .slice none 0 0), (1, .pointer (some ⟨w.heap.size, 0, none⟩))]) rfl
  clear h124
  go_step
  go_step
  go_step
  go_step
  refine wpk_val h126 (wanted_none rfl) rfl (by decide) (fr rfl) (.pointer (some ⟨w1.heap.size, 0, none⟩)) (by unfold execOp; simp only [h126.eval (k := 4) (v := .pointer (some ⟨w1.heap.size, 0, none⟩)) (by simp)]; rfl) fun a128 h127 => ?_
  refine wpk_val h127 (wanted_none rfl) rfl (by decide) (fr rfl) (.pointer (some ⟨w.heap.size, 10, none⟩)) (by unfold execOp; simp only [h127.eval (k := 1) (v := .pointer (some ⟨w.heap.size, 0, none⟩)) (by simp)]; exact run_v (fa_35_0_10 (w.heap.size) _)) fun a130 h129 => ?_
  refine wpk_val h129 (wanted_none rfl) rfl (by decide) (fr rfl) (.pointer (some ⟨w.heap.size, 16, none⟩)) (by unfold execOp; simp only [h129.eval (k := 95) (v := .pointer (some ⟨w.heap.size, 10, none⟩)) (by simp)]; exact run_v (fa_23_10_6 (w.heap.size) _)) fun a132 h131 => ?_
  refine wpk_val h131 (wanted_none rfl) rfl (by decide) (fr rfl) (.int .i64 (P.I 16)) (by unfold execOp; simp only [h131.eval (k := 96) (v := .pointer (some ⟨w.heap.size, 16, none⟩)) (by simp)]; exact run_v (loadI ((Blk.below KP1.out HB9.out hgB).cell (i := 16) (by show 16 < 43; omega)))) fun a134 h133 => ?_
  refine wpk_call h133 (wanted_none rfl) rfl (by decide) (fr rfl) (fun args => call_40 args _) rfl #[.pointer (some ⟨w1.heap.size, 0, none⟩), .int .i64 (P.I 16), .int .i64 4, .int .i64 0, .int .i64 9223372036854775807] (by simp only [List.map_toArray, List.map_cons, List.map_nil, h133.eval (k := 94) (v := .pointer (some ⟨w1.heap.size, 0, none⟩)) (by simp), h133.eval (k := 97) (v := .int .i64 (P.I 16)) (by simp)]; rfl) (R := fun v w' => v = .tuple #[] ∧ WIn w' w1.heap.size w1.heap.size m10 ∧ Below w1.heap.size w1 w') (Calls.mono (wnum_any HW9.out (Nat.le_refl _) (by omega) (P.I 16) 0 9223372036854775807 4 (hP 16)) (fun e w' q => ⟨_, q.1, rfl, (by rw [HM10.out]; exact q.2.1), HB9.out.trans q.2.2⟩)) fun a136 v9 w12 r9 h135 => ?_
  obtain ⟨rfl, q1, q2⟩ := r9
  have HW10 := hid q1; have HB10 := hid q2
  clear q1 q2 HW9 HB9
  have h137 := h135.subs (l' := [(4, .pointer (some ⟨w1.heap.size, 0, none⟩)), (3, .bool false), (2, .slice none 0 0), (1, .pointer (some ⟨w.heap.size, 0, none⟩))]) rfl
  clear h135
  go_step
  go_step
  go_step
  go_step
  go_step
  go_step
  refine wpk_val h137 (wanted_none rfl) rfl (by decide) (fr rfl) (.pointer (some ⟨w.heap.size, 0, none⟩)) (by unfold execOp; simp only [h137.eval (k := 1) (v := .pointer (some ⟨w.heap.size, 0, none⟩)) (by simp)]; exact run_v (fa_35_0_0 (w.heap.size) _)) fun a139 h138 => ?_
  refine wpk_val h138 (wanted_none rfl) rfl (by decide) (fr rfl) (.int .i64 (P.I 0)) (by unfold execOp; simp only [h138.eval (k := 99) (v := .pointer (some ⟨w.heap.size, 0, none⟩)) (by simp)]; exact run_v (loadI ((Blk.below KP1.out HB10.out hgB).cell (i := 0) (by show 0 < 43; omega)))) fun a141 h140 => ?_
  refine wpk_val h140 (wanted_none rfl) rfl (by decide) (fr rfl) (.bool false) (by unfold execOp; simp only [h140.eval (k := 100) (v := .int .i64 (P.I 0)) (by simp)]; exact run_v (eqIb _ _ _ _ _ e4)) fun a143 h142 => ?_
  have h144 := h142.subs (l' := [(101, .bool false), (4, .pointer (some ⟨w1.heap.size, 0, none⟩)), (3, .bool false), (2, .slice none 0 0), (1, .pointer (some ⟨w.heap.size, 0, none⟩))]) rfl
  clear h142
  go_step
  go_step
  go_step
  refine wp_cond (t := false) (h144.eval (k := 101) (v := .bool false) (by simp)) ?_
  simp only [Bool.false_eq_true, if_false]
  have h145 := h144.subs (l' := [(4, .pointer (some ⟨w1.heap.size, 0, none⟩)), (3, .bool false), (2, .slice none 0 0), (1, .pointer (some ⟨w.heap.size, 0, none⟩))]) rfl
  clear h144
  go_step
  go_step
  go_step
  go_step
  go_step
  go_step
  refine wpk_val h145 (wanted_none rfl) rfl (by decide) (fr rfl) (.pointer (some ⟨w.heap.size, 0, none⟩)) (by unfold execOp; simp only [h145.eval (k := 1) (v := .pointer (some ⟨w.heap.size, 0, none⟩)) (by simp)]; exact run_v (fa_35_0_0 (w.heap.size) _)) fun a147 h146 => ?_
  refine wpk_val h146 (wanted_none rfl) rfl (by decide) (fr rfl) (.int .i64 (P.I 0)) (by unfold execOp; simp only [h146.eval (k := 188) (v := .pointer (some ⟨w.heap.size, 0, none⟩)) (by simp)]; exact run_v (loadI ((Blk.below KP1.out HB10.out hgB).cell (i := 0) (by show 0 < 43; omega)))) fun a149 h148 => ?_
  refine wpk_val h148 (wanted_none rfl) rfl (by decide) (fr rfl) (.bool false) (by unfold execOp; simp only [h148.eval (k := 189) (v := .int .i64 (P.I 0)) (by simp)]; exact run_v (eqIb _ _ _ _ _ e5)) fun a151 h150 => ?_
  have h152 := h150.subs (l' := [(190, .bool false), (4, .pointer (some ⟨w1.heap.size, 0, none⟩)), (3, .bool false), (2, .slice none 0 0), (1, .pointer (some ⟨w.heap.size, 0, none⟩))]) rfl
  clear h150
  go_step
  go_step
  go_step
  refine wp_cond (t := false) (h152.eval (k := 190) (v := .bool false) (by simp)) ?_
  simp only [Bool.false_eq_true, if_false]
  have h153 := h152.subs (l' := [(4, .pointer (some ⟨w1.heap.size, 0, none⟩)), (3, .bool false), (2, .slice none 0 0), (1, .pointer (some ⟨w.heap.size, 0, none⟩))]) rfl
  clear h152
  go_step
  go_step
  go_step
  go_step
  go_step
  refine wpk_val h153 (wanted_none rfl) rfl (by decide) (fr rfl) (.agg (pkC P a P.N.length c).toArray) (by unfold execOp; simp only [h153.eval (k := 1) (v := .pointer (some ⟨w.heap.size, 0, none⟩)) (by simp)]; exact run_v (run_loadAt_mid _ _ _ _ (pkC P a P.N.length c) _ (Blk.below KP1.out HB10.out hgB).range Try.underlying35 rfl (by rw [infoPk]; rfl))) fun a155 h154 => ?_
  refine wpk_call h154 (wanted_none rfl) rfl (by decide) (fr rfl) (fun args => call_42 args _) rfl #[.agg (pkC P a P.N.length c).toArray] (by simp only [List.map_toArray, List.map_cons, List.map_nil, h154.eval (k := 195) (v := .agg (pkC P a P.N.length c).toArray) (by simp)]) (R := fun v w' => v = .bool rb ∧ Below w12.heap.size w12 w') (Calls.mono (HO.out w12 ((B1.out.trans (HB10.out.mono B1.out.size)))) (fun e w' q => ⟨_, q.1, rfl, q.2⟩)) fun a157 v10 w13 r10 h156 => ?_
  obtain ⟨rfl, q2⟩ := r10
  obtain ⟨ba, bc, hbW, hoW⟩ := HW10.out
  have hbW := hid (hbW.mono q2); have hoW := hid (hoW.mono q2); have HB10z := hid (HB10.out.trans (q2.mono HB10.out.size))
  clear q2 HW10 HB10
  refine wpk_val h156 (wanted_none rfl) rfl (by decide) (fr rfl) (.bool rb) (by unfold execOp; simp only [h156.eval (k := 196) (v := .bool rb) (by simp)]; rfl) fun a159 h158 => ?_
  have h160 := h158.subs (l' := [(7, .bool rb), (4, .pointer (some ⟨w1.heap.size, 0, none⟩)), (3, .bool false), (2, .slice none 0 0), (1, .pointer (some ⟨w.heap.size, 0, none⟩))]) rfl
  clear h158
  go_step
  go_step
  go_step
  go_step
  cases hno : m10.no with
  | false =>
    refine wp_region_held_drew (S := fun w' => w' = w13.drew) (by kernel_rfl) rfl (fun hS161 => ?_)
    have B10x := hid HB10z.out.drew
    refine wpk_take hS161 h160 0 rfl rfl (by decide) (fr rfl) (by kernel_rfl) (by kernel_rfl) (by kernel_rfl) (fun _ _ _ _ h => h) (.pointer (some ⟨w1.heap.size, 0, none⟩)) (Or.inl ⟨Eq.refl true, fun w1 hSw => (by cases hSw; exact (by show (execOp _ (⟨_, .move (.tmp 4), _, _, _, _⟩ : Oper)).run _ _ = _; exact (by unfold execOp; simp only [h160.eval (k := 4) (v := .pointer (some ⟨w1.heap.size, 0, none⟩)) (by simp)]; rfl)))⟩) fun a163 h162 => ?_
    refine wpk_take hS161 h162 1 rfl rfl (by decide) (fr rfl) (by kernel_rfl) (by kernel_rfl) (by kernel_rfl) (fun _ _ _ _ h => h) (.pointer (some ⟨w1.heap.size, 0, none⟩)) (Or.inl ⟨Eq.refl true, fun w1 hSw => (by cases hSw; exact (by show (execOp _ (⟨_, .nilCheck (.tmp 197), _, _, _, _⟩ : Oper)).run _ _ = _; exact (by unfold execOp; simp only [h162.eval (k := 197) (v := .pointer (some ⟨w1.heap.size, 0, none⟩)) (by simp)]; exact rfl)))⟩) fun a165 h164 => ?_
    refine wpk_take hS161 h164 2 rfl rfl (by decide) (fr rfl) (by kernel_rfl) (by kernel_rfl) (by kernel_rfl) (fun _ _ _ _ h => h) (.pointer (some ⟨w1.heap.size, 0, none⟩)) (Or.inl ⟨Eq.refl true, fun w1 hSw => (by cases hSw; exact (by show (execOp _ (⟨_, .fieldAddr 83 (.tmp 198) 0, _, _, _, _⟩ : Oper)).run _ _ = _; exact (by unfold execOp; simp only [h164.eval (k := 198) (v := .pointer (some ⟨w1.heap.size, 0, none⟩)) (by simp)]; exact run_v (fa_83_0_0 (w1.heap.size) _))))⟩) fun a167 h166 => ?_
    refine wpk_take hS161 h166 3 rfl rfl (by decide) (fr rfl) (by kernel_rfl) (by kernel_rfl) (by kernel_rfl) (fun _ _ _ _ h => h) (.slice ba m10.b.length bc) (Or.inl ⟨Eq.refl true, fun w1 hSw => (by cases hSw; exact (by show (execOp _ (⟨_, .load 37 (.tmp 199), _, _, _, _⟩ : Oper)).run _ _ = _; exact (by unfold execOp; simp only [h166.eval (k := 199) (v := .pointer (some ⟨w1.heap.size, 0, none⟩)) (by simp)]; exact run_v (loadB ((Blk.drew hbW.out).cell (i := 0) (by simp))))))⟩) fun a169 h168 => ?_
    refine wpk_take hS161 h168 4 rfl rfl (by decide) (fr rfl) (by kernel_rfl) (by kernel_rfl) (by kernel_rfl) (fun _ _ _ _ h => h) (.pointer (some ⟨w1.heap.size, 0, none⟩)) (Or.inl ⟨Eq.refl true, fun w1 hSw => (by cases hSw; exact (by show (execOp _ (⟨_, .move (.tmp 4), _, _, _, _⟩ : Oper)).run _ _ = _; exact (by unfold execOp; simp only [h168.eval (k := 4) (v := .pointer (some ⟨w1.heap.size, 0, none⟩)) (by simp)]; rfl)))⟩) fun a171 h170 => ?_
    refine wpk_take hS161 h170 5 rfl rfl (by decide) (fr rfl) (by kernel_rfl) (by kernel_rfl) (by kernel_rfl) (fun _ _ _ _ h => h) (.pointer (some ⟨w1.heap.size, 0, none⟩)) (Or.inl ⟨Eq.refl true, fun w1 hSw => (by cases hSw; exact (by show (execOp _ (⟨_, .nilCheck (.tmp 201), _, _, _, _⟩ : Oper)).run _ _ = _; exact (by unfold execOp; simp only [h170.eval (k := 201) (v := .pointer (some ⟨w1.heap.size, 0, none⟩)) (by simp)]; exact rfl)))⟩) fun a173 h172 => ?_
    refine wpk_take hS161 h172 6 rfl rfl (by decide) (fr rfl) (by kernel_rfl) (by kernel_rfl) (by kernel_rfl) (fun _ _ _ _ h => h) (.pointer (some ⟨w1.heap.size, 1, none⟩)) (Or.inl ⟨Eq.refl true, fun w1 hSw => (by cases hSw; exact (by show (execOp _ (⟨_, .fieldAddr 83 (.tmp 202) 1, _, _, _, _⟩ : Oper)).run _ _ = _; exact (by unfold execOp; simp only [h172.eval (k := 202) (v := .pointer (some ⟨w1.heap.size, 0, none⟩)) (by simp)]; exact run_v (fa_83_0_1 (w1.heap.size) _))))⟩) fun a175 h174 => ?_
    refine wpk_take hS161 h174 7 rfl rfl (by decide) (fr rfl) (by kernel_rfl) (by kernel_rfl) (by kernel_rfl) (fun _ _ _ _ h => h) (.bool false) (Or.inl ⟨Eq.refl true, fun w1 hSw => (by cases hSw; exact (by show (execOp _ (⟨_, .load 4 (.tmp 203), _, _, _, _⟩ : Oper)).run _ _ = _; exact (by unfold execOp; simp only [h174.eval (k := 203) (v := .pointer (some ⟨w1.heap.size, 1, none⟩)) (by simp)]; exact run_v (loadBo (by rw [(Blk.drew hbW.out).cell (i := 1) (by simp)]; simp [hno])))))⟩) fun a177 h176 => ?_
    refine wpk_take hS161 h176 8 rfl rfl (by decide) (fr rfl) (by kernel_rfl) (by kernel_rfl) (by kernel_rfl) (fun _ _ _ _ h => h) (.bool true) (Or.inl ⟨Eq.refl true, fun w1 hSw => (by cases hSw; exact (by show (execOp _ (⟨_, .unOp .not 4 (.tmp 204), _, _, _, _⟩ : Oper)).run _ _ = _; exact (run_not rfl (h176.eval (k := 204) (v := .bool false) (by simp)))))⟩) fun a179 h178 => ?_
    refine wpk_take hS161 h178 9 rfl rfl (by decide) (fr rfl) (by kernel_rfl) (by kernel_rfl) (by kernel_rfl) (fun _ _ _ _ h => h) (.bool true) (Or.inl ⟨Eq.refl true, fun w1 hSw => (by cases hSw; exact (by show (execOp _ (⟨_, .move (.tmp 205), _, _, _, _⟩ : Oper)).run _ _ = _; exact (by unfold execOp; simp only [h178.eval (k := 205) (v := .bool true) (by simp)]; rfl)))⟩) fun a181 h180 => ?_
    refine wpk_take hS161 h180 10 rfl rfl (by decide) (fr rfl) (by kernel_rfl) (by kernel_rfl) (by kernel_rfl) (fun _ _ _ _ h => h) (.bool rb) (Or.inl ⟨(by rw [wanted_of (g := 9) (want := true) (b := true) rfl (h180.yields (prev := 206) rfl (by simp))]; rfl), fun w1 hSw => (by cases hSw; exact (by show (execOp _ (⟨_, .move (.tmp 7), _, _, _, _⟩ : Oper)).run _ _ = _; exact (by unfold execOp; simp only [h180.eval (k := 7) (v := .bool rb) (by simp)]; rfl)))⟩) fun a183 h182 => ?_
    refine wpk_take hS161 h182 11 rfl rfl (by decide) (fr rfl) (by kernel_rfl) (by kernel_rfl) (by kernel_rfl) (fun _ _ _ _ h => h) (.bool rb) (Or.inl ⟨Eq.refl true, fun w1 hSw => (by cases hSw; exact (by show (execOp _ (⟨_, .pick (.tmp 206) (.tmp 207) (.const (.bool false)), _, _, _, _⟩ : Oper)).run _ _ = _; exact (run_pick rfl (h182.eval (k := 206) (v := .bool true) (by simp)) (by rw [if_pos rfl]; exact h182.eval (k := 207) (v := .bool rb) (by simp)))))⟩) fun a185 h184 => ?_
    have h186 := h184.subs (l' := [(208, .bool rb), (207, .bool rb), (206, .bool true), (205, .bool true), (204, .bool false), (203, .pointer (some ⟨w1.heap.size, 1, none⟩)), (202, .pointer (some ⟨w1.heap.size, 0, none⟩)), (201, .pointer (some ⟨w1.heap.size, 0, none⟩)), (200, .slice ba m10.b.length bc), (199, .pointer (some ⟨w1.heap.size, 0, none⟩)), (198, .pointer (some ⟨w1.heap.size, 0, none⟩)), (197, .pointer (some ⟨w1.heap.size, 0, none⟩)), (7, .bool rb), (4, .pointer (some ⟨w1.heap.size, 0, none⟩)), (3, .bool false), (1, .pointer (some ⟨w.heap.size, 0, none⟩))]) rfl
    clear h184
    refine wpk_take hS161 h186 12 rfl rfl (by decide) (fr rfl) (by kernel_rfl) (by kernel_rfl) (by kernel_rfl) (fun _ _ _ _ h => h) (.slice ba m10.b.length bc) (Or.inl ⟨Eq.refl true, fun w1 hSw => (by cases hSw; exact (by show (execOp _ (⟨_, .assign (.tmp 200), _, _, _, _⟩ : Oper)).run _ _ = _; exact (by unfold execOp; simp only [h186.eval (k := 200) (v := .slice ba m10.b.length bc) (by simp)]; rfl)))⟩) fun a188 h187 => ?_
    have h189 := h187.subs (l' := [(2, .slice ba m10.b.length bc), (208, .bool rb), (207, .bool rb), (206, .bool true), (205, .bool true), (204, .bool false), (203, .pointer (some ⟨w1.heap.size, 1, none⟩)), (202, .pointer (some ⟨w1.heap.size, 0, none⟩)), (201, .pointer (some ⟨w1.heap.size, 0, none⟩)), (200, .slice ba m10.b.length bc), (199, .pointer (some ⟨w1.heap.size, 0, none⟩)), (198, .pointer (some ⟨w1.heap.size, 0, none⟩)), (197, .pointer (some ⟨w1.heap.size, 0, none⟩)), (7, .bool rb), (4, .pointer (some ⟨w1.heap.size, 0, none⟩)), (1, .pointer (some ⟨w.heap.size, 0, none⟩))]) rfl
    clear h187
    refine wpk_take hS161 h189 13 rfl rfl (by decide) (fr rfl) (by kernel_rfl) (by kernel_rfl) (by kernel_rfl) (fun _ _ _ _ h => h) (.bool rb) (Or.inl ⟨Eq.refl true, fun w1 hSw => (by cases hSw; exact (by show (execOp _ (⟨_, .assign (.tmp 208), _, _, _, _⟩ : Oper)).run _ _ = _; exact (by unfold execOp; simp only [h189.eval (k := 208) (v := .bool rb) (by simp)]; rfl)))⟩) fun a191 h190 => ?_
    refine wpAnyH_done (by kernel_rfl) ?_ _
    have h192 := h190.subs (l' := [(3, .bool rb), (2, .slice ba m10.b.length bc), (7, .bool rb), (4, .pointer (some ⟨w1.heap.size, 0, none⟩)), (1, .pointer (some ⟨w.heap.size, 0, none⟩))]) rfl
    clear h190
    go_step
    go_step
    go_step
    refine bodyPost_ret (results_tmp2 rfl (h192.known (2, .slice ba m10.b.length bc) (by simp)) (h192.known (3, .bool rb) (by simp))) h192.defs ?_
    exact ⟨ba, bc, by rw [hno]; rfl, hoW.out.drew.low B1.out.size, B1.out.trans (B10x.out.mono B1.out.size)⟩
  | true =>
    refine wp_region_held_drew (S := fun w' => w' = w13.drew) (by kernel_rfl) rfl (fun hS193 => ?_)
    have B10x := hid HB10z.out.drew
    refine wpk_take hS193 h160 0 rfl rfl (by decide) (fr rfl) (by kernel_rfl) (by kernel_rfl) (by kernel_rfl) (fun _ _ _ _ h => h) (.pointer (some ⟨w1.heap.size, 0, none⟩)) (Or.inl ⟨Eq.refl true, fun w1 hSw => (by cases hSw; exact (by show (execOp _ (⟨_, .move (.tmp 4), _, _, _, _⟩ : Oper)).run _ _ = _; exact (by unfold execOp; simp only [h160.eval (k := 4) (v := .pointer (some ⟨w1.heap.size, 0, none⟩)) (by simp)]; rfl)))⟩) fun a195 h194 => ?_
    refine wpk_take hS193 h194 1 rfl rfl (by decide) (fr rfl) (by kernel_rfl) (by kernel_rfl) (by kernel_rfl) (fun _ _ _ _ h => h) (.pointer (some ⟨w1.heap.size, 0, none⟩)) (Or.inl ⟨Eq.refl true, fun w1 hSw => (by cases hSw; exact (by show (execOp _ (⟨_, .nilCheck (.tmp 197), _, _, _, _⟩ : Oper)).run _ _ = _; exact (by unfold execOp; simp only [h194.eval (k := 197) (v := .pointer (some ⟨w1.heap.size, 0, none⟩)) (by simp)]; exact rfl)))⟩) fun a197 h196 => ?_
    refine wpk_take hS193 h196 2 rfl rfl (by decide) (fr rfl) (by kernel_rfl) (by kernel_rfl) (by kernel_rfl) (fun _ _ _ _ h => h) (.pointer (some ⟨w1.heap.size, 0, none⟩)) (Or.inl ⟨Eq.refl true, fun w1 hSw => (by cases hSw; exact (by show (execOp _ (⟨_, .fieldAddr 83 (.tmp 198) 0, _, _, _, _⟩ : Oper)).run _ _ = _; exact (by unfold execOp; simp only [h196.eval (k := 198) (v := .pointer (some ⟨w1.heap.size, 0, none⟩)) (by simp)]; exact run_v (fa_83_0_0 (w1.heap.size) _))))⟩) fun a199 h198 => ?_
    refine wpk_take hS193 h198 3 rfl rfl (by decide) (fr rfl) (by kernel_rfl) (by kernel_rfl) (by kernel_rfl) (fun _ _ _ _ h => h) (.slice ba m10.b.length bc) (Or.inl ⟨Eq.refl true, fun w1 hSw => (by cases hSw; exact (by show (execOp _ (⟨_, .load 37 (.tmp 199), _, _, _, _⟩ : Oper)).run _ _ = _; exact (by unfold execOp; simp only [h198.eval (k := 199) (v := .pointer (some ⟨w1.heap.size, 0, none⟩)) (by simp)]; exact run_v (loadB ((Blk.drew hbW.out).cell (i := 0) (by simp))))))⟩) fun a201 h200 => ?_
    refine wpk_take hS193 h200 4 rfl rfl (by decide) (fr rfl) (by kernel_rfl) (by kernel_rfl) (by kernel_rfl) (fun _ _ _ _ h => h) (.pointer (some ⟨w1.heap.size, 0, none⟩)) (Or.inl ⟨Eq.refl true, fun w1 hSw => (by cases hSw; exact (by show (execOp _ (⟨_, .move (.tmp 4), _, _, _, _⟩ : Oper)).run _ _ = _; exact (by unfold execOp; simp only [h200.eval (k := 4) (v := .pointer (some ⟨w1.heap.size, 0, none⟩)) (by simp)]; rfl)))⟩) fun a203 h202 => ?_
    refine wpk_take hS193 h202 5 rfl rfl (by decide) (fr rfl) (by kernel_rfl) (by kernel_rfl) (by kernel_rfl) (fun _ _ _ _ h => h) (.pointer (some ⟨w1.heap.size, 0, none⟩)) (Or.inl ⟨Eq.refl true, fun w1 hSw => (by cases hSw; exact (by show (execOp _ (⟨_, .nilCheck (.tmp 201), _, _, _, _⟩ : Oper)).run _ _ = _; exact (by unfold execOp; simp only [h202.eval (k := 201) (v := .pointer (some ⟨w1.heap.size, 0, none⟩)) (by simp)]; exact rfl)))⟩) fun a205 h204 => ?_
    refine wpk_take hS193 h204 6 rfl rfl (by decide) (fr rfl) (by kernel_rfl) (by kernel_rfl) (by kernel_rfl) (fun _ _ _ _ h => h) (.pointer (some ⟨w1.heap.size, 1, none⟩)) (Or.inl ⟨Eq.refl true, fun w1 hSw => (by cases hSw; exact (by show (execOp _ (⟨_, .fieldAddr 83 (.tmp 202) 1, _, _, _, _⟩ : Oper)).run _ _ = _; exact (by unfold execOp; simp only [h204.eval (k := 202) (v := .pointer (some ⟨w1.heap.size, 0, none⟩)) (by simp)]; exact run_v (fa_83_0_1 (w1.heap.size) _))))⟩) fun a207 h206 => ?_
    refine wpk_take hS193 h206 7 rfl rfl (by decide) (fr rfl) (by kernel_rfl) (by kernel_rfl) (by kernel_rfl) (fun _ _ _ _ h => h) (.bool true) (Or.inl ⟨Eq.refl true, fun w1 hSw => (by cases hSw; exact (by show (execOp _ (⟨_, .load 4 (.tmp 203), _, _, _, _⟩ : Oper)).run _ _ = _; exact (by unfold execOp; simp only [h206.eval (k := 203) (v := .pointer (some ⟨w1.heap.size, 1, none⟩)) (by simp)]; exact run_v (loadBo (by rw [(Blk.drew hbW.out).cell (i := 1) (by simp)]; simp [hno])))))⟩) fun a209 h208 => ?_
    refine wpk_take hS193 h208 8 rfl rfl (by decide) (fr rfl) (by kernel_rfl) (by kernel_rfl) (by kernel_rfl) (fun _ _ _ _ h => h) (.bool false) (Or.inl ⟨Eq.refl true, fun w1 hSw => (by cases hSw; exact (by show (execOp _ (⟨_, .unOp .not 4 (.tmp 204), _, _, _, _⟩ : Oper)).run _ _ = _; exact (run_not rfl (h208.eval (k := 204) (v := .bool true) (by simp)))))⟩) fun a211 h210 => ?_
    refine wpk_take hS193 h210 9 rfl rfl (by decide) (fr rfl) (by kernel_rfl) (by kernel_rfl) (by kernel_rfl) (fun _ _ _ _ h => h) (.bool false) (Or.inl ⟨Eq.refl true, fun w1 hSw => (by cases hSw; exact (by show (execOp _ (⟨_, .move (.tmp 205), _, _, _, _⟩ : Oper)).run _ _ = _; exact (by unfold execOp; simp only [h210.eval (k := 205) (v := .bool false) (by simp)]; rfl)))⟩) fun a213 h212 => ?_
    refine wpk_take hS193 h212 10 rfl rfl (by decide) (fr rfl) (by kernel_rfl) (by kernel_rfl) (by kernel_rfl) (fun _ _ _ _ h => h) undef (Or.inr ⟨(by rw [wanted_of (g := 9) (want := true) (b := false) rfl (h212.yields (prev := 206) rfl (by simp))]; rfl), rfl⟩) fun a215 h214 => ?_
    refine wpk_take hS193 h214 11 rfl rfl (by decide) (fr rfl) (by kernel_rfl) (by kernel_rfl) (by kernel_rfl) (fun _ _ _ _ h => h) (.bool false) (Or.inl ⟨Eq.refl true, fun w1 hSw => (by cases hSw; exact (by show (execOp _ (⟨_, .pick (.tmp 206) (.tmp 207) (.const (.bool false)), _, _, _, _⟩ : Oper)).run _ _ = _; exact (run_pick rfl (h214.eval (k := 206) (v := .bool false) (by simp)) rfl)))⟩) fun a217 h216 => ?_
    have h218 := h216.subs (l' := [(208, .bool false), (207, undef), (206, .bool false), (205, .bool false), (204, .bool true), (203, .pointer (some ⟨w1.heap.size, 1, none⟩)), (202, .pointer (some ⟨w1.heap.size, 0, none⟩)), (201, .pointer (some ⟨w1.heap.size, 0, none⟩)), (200, .slice ba m10.b.length bc), (199, .pointer (some ⟨w1.heap.size, 0, none⟩)), (198, .pointer (some ⟨w1.heap.size, 0, none⟩)), (197, .pointer (some ⟨w1.heap.size, 0, none⟩)), (7, .bool rb), (4, .pointer (some ⟨w1.heap.size, 0, none⟩)), (3, .bool false), (1, .pointer (some ⟨w.heap.size, 0, none⟩))]) rfl
    clear h216
    refine wpk_take hS193 h218 12 rfl rfl (by decide) (fr rfl) (by kernel_rfl) (by kernel_rfl) (by kernel_rfl) (fun _ _ _ _ h => h) (.slice ba m10.b.length bc) (Or.inl ⟨Eq.refl true, fun w1 hSw => (by cases hSw; exact (by show (execOp _ (⟨_, .assign (.tmp 200), _, _, _, _⟩ : Oper)).run _ _ = _; exact (by unfold execOp; simp only [h218.eval (k := 200) (v := .slice ba m10.b.length bc) (by simp)]; rfl)))⟩) fun a220 h219 => ?_
    have h221 := h219.subs (l' := [(2, .slice ba m10.b.length bc), (208, .bool false), (207, undef), (206, .bool false), (205, .bool false), (204, .bool true), (203, .pointer (some ⟨w1.heap.size, 1, none⟩)), (202, .pointer (some ⟨w1.heap.size, 0, none⟩)), (201, .pointer (some ⟨w1.heap.size, 0, none⟩)), (200, .slice ba m10.b.length bc), (199, .pointer (some ⟨w1.heap.size, 0, none⟩)), (198, .pointer (some ⟨w1.heap.size, 0, none⟩)), (197, .pointer (some ⟨w1.heap.size, 0, none⟩)), (7, .bool rb), (4, .pointer (some ⟨w1.heap.size, 0, none⟩)), (1, .pointer (some ⟨w.heap.size, 0, none⟩))]) rfl
    clear h219
    refine wpk_take hS193 h221 13 rfl rfl (by decide) (fr rfl) (by kernel_rfl) (by kernel_rfl) (by kernel_rfl) (fun _ _ _ _ h => h) (.bool false) (Or.inl ⟨Eq.refl true, fun w1 hSw => (by cases hSw; exact (by show (execOp _ (⟨_, .assign (.tmp 208), _, _, _, _⟩ : Oper)).run _ _ = _; exact (by unfold execOp; simp only [h221.eval (k := 208) (v := .bool false) (by simp)]; rfl)))⟩) fun a223 h222 => ?_
    refine wpAnyH_done (by kernel_rfl) ?_ _
    have h224 := h222.subs (l' := [(3, .bool false), (2, .slice ba m10.b.length bc), (7, .bool rb), (4, .pointer (some ⟨w1.heap.size, 0, none⟩)), (1, .pointer (some ⟨w.heap.size, 0, none⟩))]) rfl
    clear h222
    go_step
    go_step
    go_step
    refine bodyPost_ret (results_tmp2 rfl (h224.known (2, .slice ba m10.b.length bc) (by simp)) (h224.known (3, .bool false) (by simp))) h224.defs ?_
    exact ⟨ba, bc, by rw [hno]; rfl, hoW.out.drew.low B1.out.size, B1.out.trans (B10x.out.mono B1.out.size)⟩
end Go.Proofs.Ytanediaaidfcaaa
