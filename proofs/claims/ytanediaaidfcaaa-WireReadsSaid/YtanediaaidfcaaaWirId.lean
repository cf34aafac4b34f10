/- The document's Inner, by kinds: [4]. (genWirIn.py) -/
import Derived.Test.YtanediaaidfcaaaWirIn
namespace Go.Proofs.Ytanediaaidfcaaa
open Go.RowKit
set_option linter.unusedSimpArgs false
set_option linter.unusedVariables false

set_option maxRecDepth 100000 in
set_option maxHeartbeats 4000000 in
theorem inner_4 (P : PkM) (hP : smallP P) (hS : longP P) (hN : ∀ s ∈ P.N, s.length ≤ 500) (hn9 : P.N.length ≤ 300) (a : Option Addr) (c : Nat) (w : World) (ha : Row w 1 a P.N.length c (P.N.map strV)) (hk : P.I 0 = 4) :
    Calls Try.prog 23 #[.agg (pkC P a P.N.length c).toArray] w fun e w' => ∃ ba bc, e = .returned (.tuple #[.slice ba ((fHead ++ fRest 4).foldl (stepW P) ⟨[], false⟩).b.length bc, .bool (!((fHead ++ fRest 4).foldl (stepW P) ⟨[], false⟩).no && eqPk P (setL P P0z (fHead ++ fRest 4)))]) ∧ OwnB w' w.heap.size ba bc ((fHead ++ fRest 4).foldl (stepW P) ⟨[], false⟩).b ∧ Below w.heap.size w w' := by
  have HO := hid (fun (W : World) (hW : Below w.heap.size w W) => others_4 P a c W (ha.mono hW) hk)
  obtain ⟨rb, hrb⟩ : ∃ rb, rb = eqPk P (setL P P0z (fHead ++ fRest 4)) := ⟨_, rfl⟩
  rw [← hrb] at HO ⊢
  clear hrb
  have e1 : (P.I 0 == 1) = false := by rw [hk]; rfl
  have e2 : (P.I 0 == 2) = false := by rw [hk]; rfl
  have e3 : (P.I 0 == 3) = false := by rw [hk]; rfl
  have e4 : (P.I 0 == 4) = true := by rw [hk]; rfl
  have e5 : (P.I 0 == 5) = false := by rw [hk]; rfl
  obtain ⟨m0, hm0⟩ : ∃ m0, m0 = (⟨[], false⟩ : WM) := ⟨_, rfl⟩
  have l0 : m0.b.length ≤ 0 := by rw [hm0]; simp
  obtain ⟨m1, hm1⟩ : ∃ m1, m1 = wnum m0 (P.I 0) 1 1 5 := ⟨_, rfl⟩
  have l1 : m1.b.length ≤ 8 := by rw [hm1]; have := wnum_len m0 (P.I 0) 1 1 5 (by decide); omega
  obtain ⟨m2, hm2⟩ : ∃ m2, m2 = wnum m1 (P.I 1) 1 1 8 := ⟨_, rfl⟩
  have l2 : m2.b.length ≤ 16 := by rw [hm2]; have := wnum_len m1 (P.I 1) 1 1 8 (by decide); omega
  obtain ⟨m3, hm3⟩ : ∃ m3, m3 = wnum m2 (P.I 2) 4 0 9223372036854775807 := ⟨_, rfl⟩
  have l3 : m3.b.length ≤ 24 := by rw [hm3]; have := wnum_len m2 (P.I 2) 4 0 9223372036854775807 (by decide); omega
  obtain ⟨m4, hm4⟩ : ∃ m4, m4 = wnum m3 (P.I 3) 8 0 9223372036854775807 := ⟨_, rfl⟩
  have l4 : m4.b.length ≤ 32 := by rw [hm4]; have := wnum_len m3 (P.I 3) 8 0 9223372036854775807 (by decide); omega
  obtain ⟨m5, hm5⟩ : ∃ m5, m5 = wnum m4 (P.I 4) 1 0 9223372036854775807 := ⟨_, rfl⟩
  have l5 : m5.b.length ≤ 40 := by rw [hm5]; have := wnum_len m4 (P.I 4) 1 0 9223372036854775807 (by decide); omega
  obtain ⟨m6, hm6⟩ : ∃ m6, m6 = wnum m5 (P.I 19) 1 0 9223372036854775807 := ⟨_, rfl⟩
  have l6 : m6.b.length ≤ 48 := by rw [hm6]; have := wnum_len m5 (P.I 19) 1 0 9223372036854775807 (by decide); omega
  obtain ⟨m7, hm7⟩ : ∃ m7, m7 = wnum m6 (P.I 18) 1 0 9223372036854775807 := ⟨_, rfl⟩
  have l7 : m7.b.length ≤ 56 := by rw [hm7]; have := wnum_len m6 (P.I 18) 1 0 9223372036854775807 (by decide); omega
  obtain ⟨m8, hm8⟩ : ∃ m8, m8 = wnum m7 (P.I 27) 8 0 9223372036854775807 := ⟨_, rfl⟩
  have l8 : m8.b.length ≤ 64 := by rw [hm8]; have := wnum_len m7 (P.I 27) 8 0 9223372036854775807 (by decide); omega
  obtain ⟨m9, hm9⟩ : ∃ m9, m9 = wnum m8 (P.I 5) 4 0 9223372036854775807 := ⟨_, rfl⟩
  have l9 : m9.b.length ≤ 72 := by rw [hm9]; have := wnum_len m8 (P.I 5) 4 0 9223372036854775807 (by decide); omega
  obtain ⟨m10, hm10⟩ : ∃ m10, m10 = wnum m9 (P.I 24) 1 0 9223372036854775807 := ⟨_, rfl⟩
  have l10 : m10.b.length ≤ 80 := by rw [hm10]; have := wnum_len m9 (P.I 24) 1 0 9223372036854775807 (by decide); omega
  obtain ⟨m11, hm11⟩ : ∃ m11, m11 = wnum m10 (P.I 25) 1 0 9223372036854775807 := ⟨_, rfl⟩
  have l11 : m11.b.length ≤ 88 := by rw [hm11]; have := wnum_len m10 (P.I 25) 1 0 9223372036854775807 (by decide); omega
  obtain ⟨m12, hm12⟩ : ∃ m12, m12 = wnum m11 (P.I 26) 2 0 9223372036854775807 := ⟨_, rfl⟩
  have l12 : m12.b.length ≤ 96 := by rw [hm12]; have := wnum_len m11 (P.I 26) 2 0 9223372036854775807 (by decide); omega
  obtain ⟨m13, hm13⟩ : ∃ m13, m13 = wnum m12 (P.I 28) 1 0 9223372036854775807 := ⟨_, rfl⟩
  have l13 : m13.b.length ≤ 104 := by rw [hm13]; have := wnum_len m12 (P.I 28) 1 0 9223372036854775807 (by decide); omega
  obtain ⟨m14, hm14⟩ : ∃ m14, m14 = wnum m13 (P.I 29) 1 0 9223372036854775807 := ⟨_, rfl⟩
  have l14 : m14.b.length ≤ 112 := by rw [hm14]; have := wnum_len m13 (P.I 29) 1 0 9223372036854775807 (by decide); omega
  obtain ⟨m15, hm15⟩ : ∃ m15, m15 = wnum m14 (P.I 30) 2 0 9223372036854775807 := ⟨_, rfl⟩
  have l15 : m15.b.length ≤ 120 := by rw [hm15]; have := wnum_len m14 (P.I 30) 2 0 9223372036854775807 (by decide); omega
  obtain ⟨m16, hm16⟩ : ∃ m16, m16 = wnum m15 (P.I 31) 1 0 9223372036854775807 := ⟨_, rfl⟩
  have l16 : m16.b.length ≤ 128 := by rw [hm16]; have := wnum_len m15 (P.I 31) 1 0 9223372036854775807 (by decide); omega
  obtain ⟨m17, hm17⟩ : ∃ m17, m17 = wnum m16 (P.I 32) 1 0 9223372036854775807 := ⟨_, rfl⟩
  have l17 : m17.b.length ≤ 136 := by rw [hm17]; have := wnum_len m16 (P.I 32) 1 0 9223372036854775807 (by decide); omega
  obtain ⟨m18, hm18⟩ : ∃ m18, m18 = wnum m17 (P.I 33) 1 0 9223372036854775807 := ⟨_, rfl⟩
  have l18 : m18.b.length ≤ 144 := by rw [hm18]; have := wnum_len m17 (P.I 33) 1 0 9223372036854775807 (by decide); omega
  obtain ⟨m19, hm19⟩ : ∃ m19, m19 = wnum m18 (P.I 34) 1 0 9223372036854775807 := ⟨_, rfl⟩
  have l19 : m19.b.length ≤ 152 := by rw [hm19]; have := wnum_len m18 (P.I 34) 1 0 9223372036854775807 (by decide); omega
  obtain ⟨mN, hmN⟩ : ∃ mN, mN = wnum m19 (P.N.length : Int) 1 0 16 := ⟨_, rfl⟩
  have lN : mN.b.length ≤ 160 := by rw [hmN]; have := wnum_len m19 (P.N.length : Int) 1 0 16 (by decide); omega
  obtain ⟨m20, hm20⟩ : ∃ m20, m20 = stepW P m19 .names := ⟨_, rfl⟩
  have HMN := hid hmN
  clear hmN
  rw [show ((fHead ++ fRest 4).foldl (stepW P) ⟨[], false⟩) = m20 by rw [hm20, hm19, hm18, hm17, hm16, hm15, hm14, hm13, hm12, hm11, hm10, hm9, hm8, hm7, hm6, hm5, hm4, hm3, hm2, hm1, hm0]; rfl]
  have HA := hid ha
  have HM0 := hid hm0
  have HM1 := hid hm1
  have HM2 := hid hm2
  have HM3 := hid hm3
  have HM4 := hid hm4
  have HM5 := hid hm5
  have HM6 := hid hm6
  have HM7 := hid hm7
  have HM8 := hid hm8
  have HM9 := hid hm9
  have HM10 := hid hm10
  have HM11 := hid hm11
  have HM12 := hid hm12
  have HM13 := hid hm13
  have HM14 := hid hm14
  have HM15 := hid hm15
  have HM16 := hid hm16
  have HM17 := hid hm17
  have HM18 := hid hm18
  have HM19 := hid hm19
  have HM20 := hid hm20
  clear hk ha hm0 hm1 hm2 hm3 hm4 hm5 hm6 hm7 hm8 hm9 hm10 hm11 hm12 hm13 hm14 hm15 hm16 hm17 hm18 hm19 hm20
  go_enter Try.func23, Try.ntmps23
  go_step
  go_step
  go_step
  refine wpl_boxT rfl 35 _ rfl (pkC P a P.N.length c) rfl ?_
  intro w1 k1 b1 s1
  have KP1 := hid k1; have B1 := hid b1; have hgB : w.heap.size < w1.heap.size := by omega
  clear k1 b1 s1
  refine wpk_enter (N := 209) (l := [(1, .pointer (some ⟨w.heap.size, 0, none⟩))]) ⟨rfl, (by intro x hx; simp only [List.mem_cons, List.not_mem_nil, or_false] at hx; rcases hx with rfl <;> rfl), rfl⟩ fun a2 h1 => ?_
  refine wpk_val h1 (wanted_none rfl) rfl (by decide) (fr rfl) (.slice none 0 0) rfl fun a4 h3 => ?_
  refine wpk_val h3 (wanted_none rfl) rfl (by decide) (fr rfl) (.bool false) rfl fun a6 h5 => ?_
  go_step
  go_step
  go_step
  go_step
  go_step
  refine wpk_val h5 (wanted_none rfl) rfl (by decide) (fr rfl) (.agg #[.slice none 0 0, .bool false]) (by unfold execOp; simp only [List.map_toArray, List.map_nil]; exact run_v (buildW _)) fun a8 h7 => ?_
  refine wpk_box h7 rfl rfl (by decide) (fr rfl) 83 rfl [.slice none 0 0, .bool false] (h7.eval (k := 8) (v := .agg #[.slice none 0 0, .bool false]) (by simp)) fun a10 w2 h9 k2 b2 s2 => ?_
  have HW0 : Hid (WIn w2 w1.heap.size w1.heap.size m0) := hid (by rw [HM0.out]; exact ⟨none, 0, k2, Own.nil _ _ _ _⟩)
  have HB0 := hid b2
  clear k2 b2 s2
  refine wpk_val h9 (wanted_none rfl) rfl (by decide) (fr rfl) (.pointer (some ⟨w1.heap.size, 0, none⟩)) (by unfold execOp; simp only [h9.eval (k := 9) (v := .pointer (some ⟨w1.heap.size, 0, none⟩)) (by simp)]; rfl) fun a12 h11 => ?_
  have h13 := h11.subs (l' := [(4, .pointer (some ⟨w1.heap.size, 0, none⟩)), (3, .bool false), (2, .slice none 0 0), (1, .pointer (some ⟨w.heap.size, 0, none⟩))]) rfl
  clear h11
  go_step
  go_step
  go_step
  go_step
  go_step
  refine wpk_val h13 (wanted_none rfl) rfl (by decide) (fr rfl) (.pointer (some ⟨w1.heap.size, 0, none⟩)) (by unfold execOp; simp only [h13.eval (k := 4) (v := .pointer (some ⟨w1.heap.size, 0, none⟩)) (by simp)]; rfl) fun a15 h14 => ?_
  refine wpk_val h14 (wanted_none rfl) rfl (by decide) (fr rfl) (.pointer (some ⟨w.heap.size, 0, none⟩)) (by unfold execOp; simp only [h14.eval (k := 1) (v := .pointer (some ⟨w.heap.size, 0, none⟩)) (by simp)]; exact run_v (fa_35_0_0 (w.heap.size) _)) fun a17 h16 => ?_
  refine wpk_val h16 (wanted_none rfl) rfl (by decide) (fr rfl) (.int .i64 (P.I 0)) (by unfold execOp; simp only [h16.eval (k := 11) (v := .pointer (some ⟨w.heap.size, 0, none⟩)) (by simp)]; exact run_v (loadI ((Blk.below KP1.out HB0.out hgB).cell (i := 0) (by show 0 < 43; omega)))) fun a19 h18 => ?_
  refine wpk_call h18 (wanted_none rfl) rfl (by decide) (fr rfl) (fun args => call_40 args _) rfl #[.pointer (some ⟨w1.heap.size, 0, none⟩), .int .i64 (P.I 0), .int .i64 1, .int .i64 1, .int .i64 5] (by simp only [List.map_toArray, List.map_cons, List.map_nil, h18.eval (k := 10) (v := .pointer (some ⟨w1.heap.size, 0, none⟩)) (by simp), h18.eval (k := 12) (v := .int .i64 (P.I 0)) (by simp)]; rfl) (R := fun v w' => v = .tuple #[] ∧ WIn w' w1.heap.size w1.heap.size m1 ∧ Below w1.heap.size w1 w') (Calls.mono (wnum_any HW0.out (Nat.le_refl _) (by omega) (P.I 0) 1 5 1 (hP 0)) (fun e w' q => ⟨_, q.1, rfl, (by rw [HM1.out]; exact q.2.1), HB0.out.trans q.2.2⟩)) fun a21 v0 w3 r0 h20 => ?_
  obtain ⟨rfl, q1, q2⟩ := r0
  have HW1 := hid q1; have HB1 := hid q2
  clear q1 q2 HW0 HB0
  have h22 := h20.subs (l' := [(4, .pointer (some ⟨w1.heap.size, 0, none⟩)), (3, .bool false), (2, .slice none 0 0), (1, .pointer (some ⟨w.heap.size, 0, none⟩))]) rfl
  clear h20
  go_step
  go_step
  go_step
  go_step
  go_step
  refine wpk_val h22 (wanted_none rfl) rfl (by decide) (fr rfl) (.pointer (some ⟨w1.heap.size, 0, none⟩)) (by unfold execOp; simp only [h22.eval (k := 4) (v := .pointer (some ⟨w1.heap.size, 0, none⟩)) (by simp)]; rfl) fun a24 h23 => ?_
  refine wpk_val h23 (wanted_none rfl) rfl (by decide) (fr rfl) (.pointer (some ⟨w.heap.size, 1, none⟩)) (by unfold execOp; simp only [h23.eval (k := 1) (v := .pointer (some ⟨w.heap.size, 0, none⟩)) (by simp)]; exact run_v (fa_35_0_1 (w.heap.size) _)) fun a26 h25 => ?_
  refine wpk_val h25 (wanted_none rfl) rfl (by decide) (fr rfl) (.int .i64 (P.I 1)) (by unfold execOp; simp only [h25.eval (k := 15) (v := .pointer (some ⟨w.heap.size, 1, none⟩)) (by simp)]; exact run_v (loadI ((Blk.below KP1.out HB1.out hgB).cell (i := 1) (by show 1 < 43; omega)))) fun a28 h27 => ?_
  refine wpk_call h27 (wanted_none rfl) rfl (by decide) (fr rfl) (fun args => call_40 args _) rfl #[.pointer (some ⟨w1.heap.size, 0, none⟩), .int .i64 (P.I 1), .int .i64 1, .int .i64 1, .int .i64 8] (by simp only [List.map_toArray, List.map_cons, List.map_nil, h27.eval (k := 14) (v := .pointer (some ⟨w1.heap.size, 0, none⟩)) (by simp), h27.eval (k := 16) (v := .int .i64 (P.I 1)) (by simp)]; rfl) (R := fun v w' => v = .tuple #[] ∧ WIn w' w1.heap.size w1.heap.size m2 ∧ Below w1.heap.size w1 w') (Calls.mono (wnum_any HW1.out (Nat.le_refl _) (by omega) (P.I 1) 1 8 1 (hP 1)) (fun e w' q => ⟨_, q.1, rfl, (by rw [HM2.out]; exact q.2.1), HB1.out.trans q.2.2⟩)) fun a30 v1 w4 r1 h29 => ?_
  obtain ⟨rfl, q1, q2⟩ := r1
  have HW2 := hid q1; have HB2 := hid q2
  clear q1 q2 HW1 HB1
  have h31 := h29.subs (l' := [(4, .pointer (some ⟨w1.heap.size, 0, none⟩)), (3, .bool false), (2, .slice none 0 0), (1, .pointer (some ⟨w.heap.size, 0, none⟩))]) rfl
  clear h29
  go_step
  go_step
  go_step
  go_step
  go_step
  refine wpk_val h31 (wanted_none rfl) rfl (by decide) (fr rfl) (.pointer (some ⟨w1.heap.size, 0, none⟩)) (by unfold execOp; simp only [h31.eval (k := 4) (v := .pointer (some ⟨w1.heap.size, 0, none⟩)) (by simp)]; rfl) fun a33 h32 => ?_
  refine wpk_val h32 (wanted_none rfl) rfl (by decide) (fr rfl) (.pointer (some ⟨w.heap.size, 2, none⟩)) (by unfold execOp; simp only [h32.eval (k := 1) (v := .pointer (some ⟨w.heap.size, 0, none⟩)) (by simp)]; exact run_v (fa_35_0_2 (w.heap.size) _)) fun a35 h34 => ?_
  refine wpk_val h34 (wanted_none rfl) rfl (by decide) (fr rfl) (.int .i64 (P.I 2)) (by unfold execOp; simp only [h34.eval (k := 19) (v := .pointer (some ⟨w.heap.size, 2, none⟩)) (by simp)]; exact run_v (loadI ((Blk.below KP1.out HB2.out hgB).cell (i := 2) (by show 2 < 43; omega)))) fun a37 h36 => ?_
  refine wpk_call h36 (wanted_none rfl) rfl (by decide) (fr rfl) (fun args => call_40 args _) rfl #[.pointer (some ⟨w1.heap.size, 0, none⟩), .int .i64 (P.I 2), .int .i64 4, .int .i64 0, .int .i64 9223372036854775807] (by simp only [List.map_toArray, List.map_cons, List.map_nil, h36.eval (k := 18) (v := .pointer (some ⟨w1.heap.size, 0, none⟩)) (by simp), h36.eval (k := 20) (v := .int .i64 (P.I 2)) (by simp)]; rfl) (R := fun v w' => v = .tuple #[] ∧ WIn w' w1.heap.size w1.heap.size m3 ∧ Below w1.heap.size w1 w') (Calls.mono (wnum_any HW2.out (Nat.le_refl _) (by omega) (P.I 2) 0 9223372036854775807 4 (hP 2)) (fun e w' q => ⟨_, q.1, rfl, (by rw [HM3.out]; exact q.2.1), HB2.out.trans q.2.2⟩)) fun a39 v2 w5 r2 h38 => ?_
  obtain ⟨rfl, q1, q2⟩ := r2
  have HW3 := hid q1; have HB3 := hid q2
  clear q1 q2 HW2 HB2
  have h40 := h38.subs (l' := [(4, .pointer (some ⟨w1.heap.size, 0, none⟩)), (3, .bool false), (2, .slice none 0 0), (1, .pointer (some ⟨w.heap.size, 0, none⟩))]) rfl
  clear h38
  go_step
  go_step
  go_step
  go_step
  go_step
  refine wpk_val h40 (wanted_none rfl) rfl (by decide) (fr rfl) (.pointer (some ⟨w1.heap.size, 0, none⟩)) (by unfold execOp; simp only [h40.eval (k := 4) (v := .pointer (some ⟨w1.heap.size, 0, none⟩)) (by simp)]; rfl) fun a42 h41 => ?_
  refine wpk_val h41 (wanted_none rfl) rfl (by decide) (fr rfl) (.pointer (some ⟨w.heap.size, 3, none⟩)) (by unfold execOp; simp only [h41.eval (k := 1) (v := .pointer (some ⟨w.heap.size, 0, none⟩)) (by simp)]; exact run_v (fa_35_0_3 (w.heap.size) _)) fun a44 h43 => ?_
  refine wpk_val h43 (wanted_none rfl) rfl (by decide) (fr rfl) (.int .i64 (P.I 3)) (by unfold execOp; simp only [h43.eval (k := 23) (v := .pointer (some ⟨w.heap.size, 3, none⟩)) (by simp)]; exact run_v (loadI ((Blk.below KP1.out HB3.out hgB).cell (i := 3) (by show 3 < 43; omega)))) fun a46 h45 => ?_
  refine wpk_call h45 (wanted_none rfl) rfl (by decide) (fr rfl) (fun args => call_40 args _) rfl #[.pointer (some ⟨w1.heap.size, 0, none⟩), .int .i64 (P.I 3), .int .i64 8, .int .i64 0, .int .i64 9223372036854775807] (by simp only [List.map_toArray, List.map_cons, List.map_nil, h45.eval (k := 22) (v := .pointer (some ⟨w1.heap.size, 0, none⟩)) (by simp), h45.eval (k := 24) (v := .int .i64 (P.I 3)) (by simp)]; rfl) (R := fun v w' => v = .tuple #[] ∧ WIn w' w1.heap.size w1.heap.size m4 ∧ Below w1.heap.size w1 w') (Calls.mono (wnum_any HW3.out (Nat.le_refl _) (by omega) (P.I 3) 0 9223372036854775807 8 (hP 3)) (fun e w' q => ⟨_, q.1, rfl, (by rw [HM4.out]; exact q.2.1), HB3.out.trans q.2.2⟩)) fun a48 v3 w6 r3 h47 => ?_
  obtain ⟨rfl, q1, q2⟩ := r3
  have HW4 := hid q1; have HB4 := hid q2
  clear q1 q2 HW3 HB3
  have h49 := h47.subs (l' := [(4, .pointer (some ⟨w1.heap.size, 0, none⟩)), (3, .bool false), (2, .slice none 0 0), (1, .pointer (some ⟨w.heap.size, 0, none⟩))]) rfl
  clear h47
  go_step
  go_step
  go_step
  go_step
  go_step
  go_step
  refine wpk_val h49 (wanted_none rfl) rfl (by decide) (fr rfl) (.pointer (some ⟨w.heap.size, 0, none⟩)) (by unfold execOp; simp only [h49.eval (k := 1) (v := .pointer (some ⟨w.heap.size, 0, none⟩)) (by simp)]; exact run_v (fa_35_0_0 (w.heap.size) _)) fun a51 h50 => ?_
  refine wpk_val h50 (wanted_none rfl) rfl (by decide) (fr rfl) (.int .i64 (P.I 0)) (by unfold execOp; simp only [h50.eval (k := 26) (v := .pointer (some ⟨w.heap.size, 0, none⟩)) (by simp)]; exact run_v (loadI ((Blk.below KP1.out HB4.out hgB).cell (i := 0) (by show 0 < 43; omega)))) fun a53 h52 => ?_
  refine wpk_val h52 (wanted_none rfl) rfl (by decide) (fr rfl) (.bool false) (by unfold execOp; simp only [h52.eval (k := 27) (v := .int .i64 (P.I 0)) (by simp)]; exact run_v (eqIb _ _ _ _ _ e1)) fun a55 h54 => ?_
  refine wpk_val h54 (wanted_none rfl) rfl (by decide) (fr rfl) (.bool false) (by unfold execOp; simp only [h54.eval (k := 28) (v := .bool false) (by simp)]; rfl) fun a57 h56 => ?_
  refine wpk_val h56 (by rw [wanted_of (g := 3) (want := false) (b := false) rfl (h56.yields (prev := 29) rfl (by simp))]; rfl) rfl (by decide) (fr rfl) (.pointer (some ⟨w.heap.size, 0, none⟩)) (by unfold execOp; simp only [h56.eval (k := 1) (v := .pointer (some ⟨w.heap.size, 0, none⟩)) (by simp)]; exact run_v (fa_35_0_0 (w.heap.size) _)) fun a59 h58 => ?_
  refine wpk_val h58 (by rw [wanted_of (g := 3) (want := false) (b := false) rfl (h58.yields (prev := 29) rfl (by simp))]; rfl) rfl (by decide) (fr rfl) (.int .i64 (P.I 0)) (by unfold execOp; simp only [h58.eval (k := 30) (v := .pointer (some ⟨w.heap.size, 0, none⟩)) (by simp)]; exact run_v (loadI ((Blk.below KP1.out HB4.out hgB).cell (i := 0) (by show 0 < 43; omega)))) fun a61 h60 => ?_
  refine wpk_val h60 (by rw [wanted_of (g := 3) (want := false) (b := false) rfl (h60.yields (prev := 29) rfl (by simp))]; rfl) rfl (by decide) (fr rfl) (.bool false) (by unfold execOp; simp only [h60.eval (k := 31) (v := .int .i64 (P.I 0)) (by simp)]; exact run_v (eqIb _ _ _ _ _ e2)) fun a63 h62 => ?_
  refine wpk_val h62 (wanted_none rfl) rfl (by decide) (fr rfl) (.bool false) (run_pick rfl (h62.eval (k := 29) (v := .bool false) (by simp)) (by rw [if_neg (by simp)]; exact h62.eval (k := 32) (v := .bool false) (by simp))) fun a65 h64 => ?_
  have h66 := h64.subs (l' := [(33, .bool false), (4, .pointer (some ⟨w1.heap.size, 0, none⟩)), (3, .bool false), (2, .slice none 0 0), (1, .pointer (some ⟨w.heap.size, 0, none⟩))]) rfl
  clear h64
  go_step
  go_step
  go_step
  refine wp_cond (t := false) (h66.eval (k := 33) (v := .bool false) (by simp)) ?_
  simp only [Bool.false_eq_true, if_false]
  have h67 := h66.subs (l' := [(4, .pointer (some ⟨w1.heap.size, 0, none⟩)), (3, .bool false), (2, .slice none 0 0), (1, .pointer (some ⟨w.heap.size, 0, none⟩))]) rfl
  clear h66
  go_step
  go_step
  go_step
  go_step
  go_step
  go_step
  refine wpk_val h67 (wanted_none rfl) rfl (by decide) (fr rfl) (.pointer (some ⟨w.heap.size, 0, none⟩)) (by unfold execOp; simp only [h67.eval (k := 1) (v := .pointer (some ⟨w.heap.size, 0, none⟩)) (by simp)]; exact run_v (fa_35_0_0 (w.heap.size) _)) fun a69 h68 => ?_
  refine wpk_val h68 (wanted_none rfl) rfl (by decide) (fr rfl) (.int .i64 (P.I 0)) (by unfold execOp; simp only [h68.eval (k := 68) (v := .pointer (some ⟨w.heap.size, 0, none⟩)) (by simp)]; exact run_v (loadI ((Blk.below KP1.out HB4.out hgB).cell (i := 0) (by show 0 < 43; omega)))) fun a71 h70 => ?_
  refine wpk_val h70 (wanted_none rfl) rfl (by decide) (fr rfl) (.bool false) (by unfold execOp; simp only [h70.eval (k := 69) (v := .int .i64 (P.I 0)) (by simp)]; exact run_v (eqIb _ _ _ _ _ e3)) fun a73 h72 => ?_
  have h74 := h72.subs (l' := [(70, .bool false), (4, .pointer (some ⟨w1.heap.size, 0, none⟩)), (3, .bool false), (2, .slice none 0 0), (1, .pointer (some ⟨w.heap.size, 0, none⟩))]) rfl
  clear h72
  go_step
  go_step
  go_step
  refine wp_cond (t := false) (h74.eval (k := 70) (v := .bool false) (by simp)) ?_
  simp only [Bool.false_eq_true, if_false]
  have h75 := h74.subs (l' := [(4, .pointer (some ⟨w1.heap.size, 0, none⟩)), (3, .bool false), (2, .slice none 0 0), (1, .pointer (some ⟨w.heap.size, 0, none⟩))]) rfl
  clear h74
  go_step
  go_step
  go_step
  go_step
  go_step
  go_step
  refine wpk_val h75 (wanted_none rfl) rfl (by decide) (fr rfl) (.pointer (some ⟨w.heap.size, 0, none⟩)) (by unfold execOp; simp only [h75.eval (k := 1) (v := .pointer (some ⟨w.heap.size, 0, none⟩)) (by simp)]; exact run_v (fa_35_0_0 (w.heap.size) _)) fun a77 h76 => ?_
  refine wpk_val h76 (wanted_none rfl) rfl (by decide) (fr rfl) (.int .i64 (P.I 0)) (by unfold execOp; simp only [h76.eval (k := 99) (v := .pointer (some ⟨w.heap.size, 0, none⟩)) (by simp)]; exact run_v (loadI ((Blk.below KP1.out HB4.out hgB).cell (i := 0) (by show 0 < 43; omega)))) fun a79 h78 => ?_
  refine wpk_val h78 (wanted_none rfl) rfl (by decide) (fr rfl) (.bool true) (by unfold execOp; simp only [h78.eval (k := 100) (v := .int .i64 (P.I 0)) (by simp)]; exact run_v (eqIb _ _ _ _ _ e4)) fun a81 h80 => ?_
  have h82 := h80.subs (l' := [(101, .bool true), (4, .pointer (some ⟨w1.heap.size, 0, none⟩)), (3, .bool false), (2, .slice none 0 0), (1, .pointer (some ⟨w.heap.size, 0, none⟩))]) rfl
  clear h80
  go_step
  go_step
  go_step
  refine wp_cond (t := true) (h82.eval (k := 101) (v := .bool true) (by simp)) ?_
  simp only [if_true]
  have h83 := h82.subs (l' := [(4, .pointer (some ⟨w1.heap.size, 0, none⟩)), (3, .bool false), (2, .slice none 0 0), (1, .pointer (some ⟨w.heap.size, 0, none⟩))]) rfl
  clear h82
  go_step
  go_step
  refine wpk_val h83 (wanted_none rfl) rfl (by decide) (fr rfl) (.pointer (some ⟨w1.heap.size, 0, none⟩)) (by unfold execOp; simp only [h83.eval (k := 4) (v := .pointer (some ⟨w1.heap.size, 0, none⟩)) (by simp)]; rfl) fun a85 h84 => ?_
  refine wpk_val h84 (wanted_none rfl) rfl (by decide) (fr rfl) (.pointer (some ⟨w.heap.size, 4, none⟩)) (by unfold execOp; simp only [h84.eval (k := 1) (v := .pointer (some ⟨w.heap.size, 0, none⟩)) (by simp)]; exact run_v (fa_35_0_4 (w.heap.size) _)) fun a87 h86 => ?_
  refine wpk_val h86 (wanted_none rfl) rfl (by decide) (fr rfl) (.int .i64 (P.I 4)) (by unfold execOp; simp only [h86.eval (k := 103) (v := .pointer (some ⟨w.heap.size, 4, none⟩)) (by simp)]; exact run_v (loadI ((Blk.below KP1.out HB4.out hgB).cell (i := 4) (by show 4 < 43; omega)))) fun a89 h88 => ?_
  refine wpk_call h88 (wanted_none rfl) rfl (by decide) (fr rfl) (fun args => call_40 args _) rfl #[.pointer (some ⟨w1.heap.size, 0, none⟩), .int .i64 (P.I 4), .int .i64 1, .int .i64 0, .int .i64 9223372036854775807] (by simp only [List.map_toArray, List.map_cons, List.map_nil, h88.eval (k := 102) (v := .pointer (some ⟨w1.heap.size, 0, none⟩)) (by simp), h88.eval (k := 104) (v := .int .i64 (P.I 4)) (by simp)]; rfl) (R := fun v w' => v = .tuple #[] ∧ WIn w' w1.heap.size w1.heap.size m5 ∧ Below w1.heap.size w1 w') (Calls.mono (wnum_any HW4.out (Nat.le_refl _) (by omega) (P.I 4) 0 9223372036854775807 1 (hP 4)) (fun e w' q => ⟨_, q.1, rfl, (by rw [HM5.out]; exact q.2.1), HB4.out.trans q.2.2⟩)) fun a91 v4 w7 r4 h90 => ?_
  obtain ⟨rfl, q1, q2⟩ := r4
  have HW5 := hid q1; have HB5 := hid q2
  clear q1 q2 HW4 HB4
  have h92 := h90.subs (l' := [(4, .pointer (some ⟨w1.heap.size, 0, none⟩)), (3, .bool false), (2, .slice none 0 0), (1, .pointer (some ⟨w.heap.size, 0, none⟩))]) rfl
  clear h90
  go_step
  go_step
  go_step
  go_step
  go_step
  refine wpk_val h92 (wanted_none rfl) rfl (by decide) (fr rfl) (.pointer (some ⟨w1.heap.size, 0, none⟩)) (by unfold execOp; simp only [h92.eval (k := 4) (v := .pointer (some ⟨w1.heap.size, 0, none⟩)) (by simp)]; rfl) fun a94 h93 => ?_
  refine wpk_val h93 (wanted_none rfl) rfl (by decide) (fr rfl) (.pointer (some ⟨w.heap.size, 19, none⟩)) (by unfold execOp; simp only [h93.eval (k := 1) (v := .pointer (some ⟨w.heap.size, 0, none⟩)) (by simp)]; exact run_v (fa_35_0_12 (w.heap.size) _)) fun a96 h95 => ?_
  refine wpk_val h95 (wanted_none rfl) rfl (by decide) (fr rfl) (.int .i64 (P.I 19)) (by unfold execOp; simp only [h95.eval (k := 107) (v := .pointer (some ⟨w.heap.size, 19, none⟩)) (by simp)]; exact run_v (loadE ((Blk.below KP1.out HB5.out hgB).cell (i := 19) (by show 19 < 43; omega)))) fun a98 h97 => ?_
  refine wpk_call h97 (wanted_none rfl) rfl (by decide) (fr rfl) (fun args => call_40 args _) rfl #[.pointer (some ⟨w1.heap.size, 0, none⟩), .int .i64 (P.I 19), .int .i64 1, .int .i64 0, .int .i64 9223372036854775807] (by simp only [List.map_toArray, List.map_cons, List.map_nil, h97.eval (k := 106) (v := .pointer (some ⟨w1.heap.size, 0, none⟩)) (by simp), h97.eval (k := 108) (v := .int .i64 (P.I 19)) (by simp)]; rfl) (R := fun v w' => v = .tuple #[] ∧ WIn w' w1.heap.size w1.heap.size m6 ∧ Below w1.heap.size w1 w') (Calls.mono (wnum_any HW5.out (Nat.le_refl _) (by omega) (P.I 19) 0 9223372036854775807 1 (hP 19)) (fun e w' q => ⟨_, q.1, rfl, (by rw [HM6.out]; exact q.2.1), HB5.out.trans q.2.2⟩)) fun a100 v5 w8 r5 h99 => ?_
  obtain ⟨rfl, q1, q2⟩ := r5
  have HW6 := hid q1; have HB6 := hid q2
  clear q1 q2 HW5 HB5
  have h101 := h99.subs (l' := [(4, .pointer (some ⟨w1.heap.size, 0, none⟩)), (3, .bool false), (2, .slice none 0 0), (1, .pointer (some ⟨w.heap.size, 0, none⟩))]) rfl
  clear h99
  go_step
  go_step
  go_step
  go_step
  go_step
  refine wpk_val h101 (wanted_none rfl) rfl (by decide) (fr rfl) (.pointer (some ⟨w1.heap.size, 0, none⟩)) (by unfold execOp; simp only [h101.eval (k := 4) (v := .pointer (some ⟨w1.heap.size, 0, none⟩)) (by simp)]; rfl) fun a103 h102 => ?_
  refine wpk_val h102 (wanted_none rfl) rfl (by decide) (fr rfl) (.pointer (some ⟨w.heap.size, 18, none⟩)) (by unfold execOp; simp only [h102.eval (k := 1) (v := .pointer (some ⟨w.heap.size, 0, none⟩)) (by simp)]; exact run_v (fa_35_0_11 (w.heap.size) _)) fun a105 h104 => ?_
  refine wpk_val h104 (wanted_none rfl) rfl (by decide) (fr rfl) (.int .i64 (P.I 18)) (by unfold execOp; simp only [h104.eval (k := 111) (v := .pointer (some ⟨w.heap.size, 18, none⟩)) (by simp)]; exact run_v (loadI ((Blk.below KP1.out HB6.out hgB).cell (i := 18) (by show 18 < 43; omega)))) fun a107 h106 => ?_
  refine wpk_call h106 (wanted_none rfl) rfl (by decide) (fr rfl) (fun args => call_40 args _) rfl #[.pointer (some ⟨w1.heap.size, 0, none⟩), .int .i64 (P.I 18), .int .i64 1, .int .i64 0, .int .i64 9223372036854775807] (by simp only [List.map_toArray, List.map_cons, List.map_nil, h106.eval (k := 110) (v := .pointer (some ⟨w1.heap.size, 0, none⟩)) (by simp), h106.eval (k := 112) (v := .int .i64 (P.I 18)) (by simp)]; rfl) (R := fun v w' => v = .tuple #[] ∧ WIn w' w1.heap.size w1.heap.size m7 ∧ Below w1.heap.size w1 w') (Calls.mono (wnum_any HW6.out (Nat.le_refl _) (by omega) (P.I 18) 0 9223372036854775807 1 (hP 18)) (fun e w' q => ⟨_, q.1, rfl, (by rw [HM7.out]; exact q.2.1), HB6.out.trans q.2.2⟩)) fun a109 v6 w9 r6 h108 => ?_
  obtain ⟨rfl, q1, q2⟩ := r6
  have HW7 := hid q1; have HB7 := hid q2
  clear q1 q2 HW6 HB6
  have h110 := h108.subs (l' := [(4, .pointer (some ⟨w1.heap.size, 0, none⟩)), (3, .bool false), (2, .slice none 0 0), (1, .pointer (some ⟨w.heap.size, 0, none⟩))]) rfl
  clear h108
  go_step
  go_step
  go_step
  go_step
  go_step
  refine wpk_val h110 (wanted_none rfl) rfl (by decide) (fr rfl) (.pointer (some ⟨w1.heap.size, 0, none⟩)) (by unfold execOp; simp only [h110.eval (k := 4) (v := .pointer (some ⟨w1.heap.size, 0, none⟩)) (by simp)]; rfl) fun a112 h111 => ?_
  refine wpk_val h111 (wanted_none rfl) rfl (by decide) (fr rfl) (.pointer (some ⟨w.heap.size, 27, none⟩)) (by unfold execOp; simp only [h111.eval (k := 1) (v := .pointer (some ⟨w.heap.size, 0, none⟩)) (by simp)]; exact run_v (fa_35_0_14 (w.heap.size) _)) fun a114 h113 => ?_
  refine wpk_val h113 (wanted_none rfl) rfl (by decide) (fr rfl) (.int .i64 (P.I 27)) (by unfold execOp; simp only [h113.eval (k := 115) (v := .pointer (some ⟨w.heap.size, 27, none⟩)) (by simp)]; exact run_v (loadI ((Blk.below KP1.out HB7.out hgB).cell (i := 27) (by show 27 < 43; omega)))) fun a116 h115 => ?_
  refine wpk_call h115 (wanted_none rfl) rfl (by decide) (fr rfl) (fun args => call_40 args _) rfl #[.pointer (some ⟨w1.heap.size, 0, none⟩), .int .i64 (P.I 27), .int .i64 8, .int .i64 0, .int .i64 9223372036854775807] (by simp only [List.map_toArray, List.map_cons, List.map_nil, h115.eval (k := 114) (v := .pointer (some ⟨w1.heap.size, 0, none⟩)) (by simp), h115.eval (k := 116) (v := .int .i64 (P.I 27)) (by simp)]; rfl) (R := fun v w' => v = .tuple #[] ∧ WIn w' w1.heap.size w1.heap.size m8 ∧ Below w1.heap.size w1 w') (Calls.mono (wnum_any HW7.out (Nat.le_refl _) (by omega) (P.I 27) 0 9223372036854775807 8 (hP 27)) (fun e w' q => ⟨_, q.1, rfl, (by rw [HM8.out]; exact q.2.1), HB7.out.trans q.2.2⟩)) fun a118 v7 w10 r7 h117 => ?_
  obtain ⟨rfl, q1, q2⟩ := r7
  have HW8 := hid q1; have HB8 := hid q2
  clear q1 q2 HW7 HB7
  have h119 := h117.subs (l' := [(4, .pointer (some ⟨w1.heap.size, 0, none⟩)), (3, .bool false), (2, .slice none 0 0), (1, .pointer (some ⟨w.heap.size, 0, none⟩))]) rfl
  clear h117
  go_step
  go_step
  go_step
  go_step
  go_step
  refine wpk_val h119 (wanted_none rfl) rfl (by decide) (fr rfl) (.pointer (some ⟨w1.heap.size, 0, none⟩)) (by unfold execOp; simp only [h119.eval (k := 4) (v := .pointer (some ⟨w1.heap.size, 0, none⟩)) (by simp)]; rfl) fun a121 h120 => ?_
  refine wpk_val h120 (wanted_none rfl) rfl (by decide) (fr rfl) (.pointer (some ⟨w.heap.size, 5, none⟩)) (by unfold execOp; simp only [h120.eval (k := 1) (v := .pointer (some ⟨w.heap.size, 0, none⟩)) (by simp)]; exact run_v (fa_35_0_5 (w.heap.size) _)) fun a123 h122 => ?_
  refine wpk_val h122 (wanted_none rfl) rfl (by decide) (fr rfl) (.int .i64 (P.I 5)) (by unfold execOp; simp only [h122.eval (k := 119) (v := .pointer (some ⟨w.heap.size, 5, none⟩)) (by simp)]; exact run_v (loadI ((Blk.below KP1.out HB8.out hgB).cell (i := 5) (by show 5 < 43; omega)))) fun a125 h124 => ?_
  refine wpk_call h124 (wanted_none rfl) rfl (by decide) (fr rfl) (fun args => call_40 args _) rfl #[.pointer (some ⟨w1.heap.size, 0, none⟩), .int .i64 (P.I 5), .int .i64 4, .int .i64 0, .int .i64 9223372036854775807] (by simp only [List.map_toArray, List.map_cons, List.map_nil, h124.eval (k := 118) (v := .pointer (some ⟨w1.heap.size, 0, none⟩)) (by simp), h124.eval (k := 120) (v := .int .i64 (P.I 5)) (by simp)]; rfl) (R := fun v w' => v = .tuple #[] ∧ WIn w' w1.heap.size w1.heap.size m9 ∧ Below w1.heap.size w1 w') (Calls.mono (wnum_any HW8.out (Nat.le_refl _) (by omega) (P.I 5) 0 9223372036854775807 4 (hP 5)) (fun e w' q => ⟨_, q.1, rfl, (by rw [HM9.out]; exact q.2.1), HB8.out.trans q.2.2⟩)) fun a127 v8 w11 r8 h126 => ?_
  obtain ⟨rfl, q1, q2⟩ := r8
  have HW9 := hid q1; have HB9 := hid q2
  clear q1 q2 HW8 HB8
  have h128 := h126.subs (l' := [(4, .pointer (some ⟨w1.heap.size, 0, none⟩)), (3, .bool false), (2, .slice none 0 0), (1, .pointer (some ⟨w.heap.size, 0, none⟩))]) rfl
  clear h126
  go_step
  go_step
  go_step
  go_step
  go_step
  refine wpk_val h128 (wanted_none rfl) rfl (by decide) (fr rfl) (.pointer (some ⟨w1.heap.size, 0, none⟩)) (by unfold execOp; simp only [h128.eval (k := 4) (v := .pointer (some ⟨w1.heap.size, 0, none⟩)) (by simp)]; rfl) fun a130 h129 => ?_
  refine wpk_val h129 (wanted_none rfl) rfl (by decide) (fr rfl) (.pointer (some ⟨w.heap.size, 20, none⟩)) (by unfold execOp; simp only [h129.eval (k := 1) (v := .pointer (some ⟨w.heap.size, 0, none⟩)) (by simp)]; exact run_v (fa_35_0_13 (w.heap.size) _)) fun a132 h131 => ?_
  refine wpk_val h131 (wanted_none rfl) rfl (by decide) (fr rfl) (.pointer (some ⟨w.heap.size, 24, none⟩)) (by unfold execOp; simp only [h131.eval (k := 123) (v := .pointer (some ⟨w.heap.size, 20, none⟩)) (by simp)]; exact run_v (fa_29_20_4 (w.heap.size) _)) fun a134 h133 => ?_
  refine wpk_val h133 (wanted_none rfl) rfl (by decide) (fr rfl) (.pointer (some ⟨w.heap.size, 24, none⟩)) (by unfold execOp; simp only [h133.eval (k := 124) (v := .pointer (some ⟨w.heap.size, 24, none⟩)) (by simp)]; exact run_v (fa_27_24_0 (w.heap.size) _)) fun a136 h135 => ?_
  refine wpk_val h135 (wanted_none rfl) rfl (by decide) (fr rfl) (.int .i64 (P.I 24)) (by unfold execOp; simp only [h135.eval (k := 125) (v := .pointer (some ⟨w.heap.size, 24, none⟩)) (by simp)]; exact run_v (loadI ((Blk.below KP1.out HB9.out hgB).cell (i := 24) (by show 24 < 43; omega)))) fun a138 h137 => ?_
  refine wpk_call h137 (wanted_none rfl) rfl (by decide) (fr rfl) (fun args => call_40 args _) rfl #[.pointer (some ⟨w1.heap.size, 0, none⟩), .int .i64 (P.I 24), .int .i64 1, .int .i64 0, .int .i64 9223372036854775807] (by simp only [List.map_toArray, List.map_cons, List.map_nil, h137.eval (k := 122) (v := .pointer (some ⟨w1.heap.size, 0, none⟩)) (by simp), h137.eval (k := 126) (v := .int .i64 (P.I 24)) (by simp)]; rfl) (R := fun v w' => v = .tuple #[] ∧ WIn w' w1.heap.size w1.heap.size m10 ∧ Below w1.heap.size w1 w') (Calls.mono (wnum_any HW9.out (Nat.le_refl _) (by omega) (P.I 24) 0 9223372036854775807 1 (hP 24)) (fun e w' q => ⟨_, q.1, rfl, (by rw [HM10.out]; exact q.2.1), HB9.out.trans q.2.2⟩)) fun a140 v9 w12 r9 h139 => ?_
  obtain ⟨rfl, q1, q2⟩ := r9
  have HW10 := hid q1; have HB10 := hid q2
  clear q1 q2 HW9 HB9
  have h141 := h139.subs (l' := [(4, .pointer (some ⟨w1.heap.size, 0, none⟩)), (3, .bool false), (2, .slice none 0 0), (1, .pointer (some ⟨w.heap.size, 0, none⟩))]) rfl
  clear h139
  go_step
  go_step
  go_step
  go_step
  go_step
  refine wpk_val h141 (wanted_none rfl) rfl (by decide) (fr rfl) (.pointer (some ⟨w1.heap.size, 0, none⟩)) (by unfold execOp; simp only [h141.eval (k := 4) (v := .pointer (some ⟨w1.heap.size, 0, none⟩)) (by simp)]; rfl) fun a143 h142 => ?_
  refine wpk_val h142 (wanted_none rfl) rfl (by decide) (fr rfl) (.pointer (some ⟨w.heap.size, 20, none⟩)) (by unfold execOp; simp only [h142.eval (k := 1) (v := .pointer (some ⟨w.heap.size, 0, none⟩)) (by simp)]; exact run_v (fa_35_0_13 (w.heap.size) _)) fun a145 h144 => ?_
  refine wpk_val h144 (wanted_none rfl) rfl (by decide) (fr rfl) (.pointer (some ⟨w.heap.size, 24, none⟩)) (by unfold execOp; simp only [h144.eval (k := 129) (v := .pointer (some ⟨w.heap.size, 20, none⟩)) (by simp)]; exact run_v (fa_29_20_4 (w.heap.size) _)) fun a147 h146 => ?_
  refine wpk_val h146 (wanted_none rfl) rfl (by decide) (fr rfl) (.pointer (some ⟨w.heap.size, 25, none⟩)) (by unfold execOp; simp only [h146.eval (k := 130) (v := .pointer (some ⟨w.heap.size, 24, none⟩)) (by simp)]; exact run_v (fa_27_24_1 (w.heap.size) _)) fun a149 h148 => ?_
  refine wpk_val h148 (wanted_none rfl) rfl (by decide) (fr rfl) (.int .i64 (P.I 25)) (by unfold execOp; simp only [h148.eval (k := 131) (v := .pointer (some ⟨w.heap.size, 25, none⟩)) (by simp)]; exact run_v (loadI ((Blk.below KP1.out HB10.out hgB).cell (i := 25) (by show 25 < 43; omega)))) fun a151 h150 => ?_
  refine wpk_call h150 (wanted_none rfl) rfl (by decide) (fr rfl) (fun args => call_40 args _) rfl #[.pointer (some ⟨w1.heap.size, 0, none⟩), .int .i64 (P.I 25), .int .i64 1, .int .i64 0, .int .i64 9223372036854775807] (by simp only [List.map_toArray, List.map_cons, List.map_nil, h150.eval (k := 128) (v := .pointer (some ⟨w1.heap.size, 0, none⟩)) (by simp), h150.eval (k := 132) (v := .int .i64 (P.I 25)) (by simp)]; rfl) (R := fun v w' => v = .tuple #[] ∧ WIn w' w1.heap.size w1.heap.size m11 ∧ Below w1.heap.size w1 w') (Calls.mono (wnum_any HW10.out (Nat.le_refl _) (by omega) (P.I 25) 0 9223372036854775807 1 (hP 25)) (fun e w' q => ⟨_, q.1, rfl, (by rw [HM11.out]; exact q.2.1), HB10.out.trans q.2.2⟩)) fun a153 v10 w13 r10 h152 => ?_
  obtain ⟨rfl, q1, q2⟩ := r10
  have HW11 := hid q1; have HB11 := hid q2
  clear q1 q2 HW10 HB10
  have h154 := h152.subs (l' := [(4, .pointer (some ⟨w1.heap.size, 0, none⟩)), (3, .bool false), (2, .slice none 0 0), (1, .pointer (some ⟨w.heap.size, 0, none⟩))]) rfl
  clear h152
  go_step
  go_step
  go_step
  go_step
  go_step
  refine wpk_val h154 (wanted_none rfl) rfl (by decide) (fr rfl) (.pointer (some ⟨w1.heap.size, 0, none⟩)) (by unfold execOp; simp only [h154.eval (k := 4) (v := .pointer (some ⟨w1.heap.size, 0, none⟩)) (by simp)]; rfl) fun a156 h155 => ?_
  refine wpk_val h155 (wanted_none rfl) rfl (by decide) (fr rfl) (.pointer (some ⟨w.heap.size, 20, none⟩)) (by unfold execOp; simp only [h155.eval (k := 1) (v := .pointer (some ⟨w.heap.size, 0, none⟩)) (by simp)]; exact run_v (fa_35_0_13 (w.heap.size) _)) fun a158 h157 => ?_
  refine wpk_val h157 (wanted_none rfl) rfl (by decide) (fr rfl) (.pointer (some ⟨w.heap.size, 24, none⟩)) (by unfold execOp; simp only [h157.eval (k := 135) (v := .pointer (some ⟨w.heap.size, 20, none⟩)) (by simp)]; exact run_v (fa_29_20_4 (w.heap.size) _)) fun a160 h159 => ?_
  refine wpk_val h159 (wanted_none rfl) rfl (by decide) (fr rfl) (.pointer (some ⟨w.heap.size, 26, none⟩)) (by unfold execOp; simp only [h159.eval (k := 136) (v := .pointer (some ⟨w.heap.size, 24, none⟩)) (by simp)]; exact run_v (fa_27_24_2 (w.heap.size) _)) fun a162 h161 => ?_
  refine wpk_val h161 (wanted_none rfl) rfl (by decide) (fr rfl) (.int .i64 (P.I 26)) (by unfold execOp; simp only [h161.eval (k := 137) (v := .pointer (some ⟨w.heap.size, 26, none⟩)) (by simp)]; exact run_v (loadI ((Blk.below KP1.out HB11.out hgB).cell (i := 26) (by show 26 < 43; omega)))) fun a164 h163 => ?_
  refine wpk_call h163 (wanted_none rfl) rfl (by decide) (fr rfl) (fun args => call_40 args _) rfl #[.pointer (some ⟨w1.heap.size, 0, none⟩), .int .i64 (P.I 26), .int .i64 2, .int .i64 0, .int .i64 9223372036854775807] (by simp only [List.map_toArray, List.map_cons, List.map_nil, h163.eval (k := 134) (v := .pointer (some ⟨w1.heap.size, 0, none⟩)) (by simp), h163.eval (k := 138) (v := .int .i64 (P.I 26)) (by simp)]; rfl) (R := fun v w' => v = .tuple #[] ∧ WIn w' w1.heap.size w1.heap.size m12 ∧ Below w1.heap.size w1 w') (Calls.mono (wnum_any HW11.out (Nat.le_refl _) (by omega) (P.I 26) 0 9223372036854775807 2 (hP 26)) (fun e w' q => ⟨_, q.1, rfl, (by rw [HM12.out]; exact q.2.1), HB11.out.trans q.2.2⟩)) fun a166 v11 w14 r11 h165 => ?_
  obtain ⟨rfl, q1, q2⟩ := r11
  have HW12 := hid q1; have HB12 := hid q2
  clear q1 q2 HW11 HB11
  have h167 := h165.subs (l' := [(4, .pointer (some ⟨w1.heap.size, 0, none⟩)), (3, .bool false), (2, .slice none 0 0), (1, .pointer (some ⟨w.heap.size, 0, none⟩))]) rfl
  clear h165
  go_step
  go_step
  go_step
  go_step
  go_step
  refine wpk_val h167 (wanted_none rfl) rfl (by decide) (fr rfl) (.pointer (some ⟨w1.heap.size, 0, none⟩)) (by unfold execOp; simp only [h167.eval (k := 4) (v := .pointer (some ⟨w1.heap.size, 0, none⟩)) (by simp)]; rfl) fun a169 h168 => ?_
  refine wpk_val h168 (wanted_none rfl) rfl (by decide) (fr rfl) (.pointer (some ⟨w.heap.size, 28, none⟩)) (by unfold execOp; simp only [h168.eval (k := 1) (v := .pointer (some ⟨w.heap.size, 0, none⟩)) (by simp)]; exact run_v (fa_35_0_15 (w.heap.size) _)) fun a171 h170 => ?_
  refine wpk_val h170 (wanted_none rfl) rfl (by decide) (fr rfl) (.pointer (some ⟨w.heap.size, 28, none⟩)) (by unfold execOp; simp only [h170.eval (k := 141) (v := .pointer (some ⟨w.heap.size, 28, none⟩)) (by simp)]; exact run_v (fa_33_28_0 (w.heap.size) _)) fun a173 h172 => ?_
  refine wpk_val h172 (wanted_none rfl) rfl (by decide) (fr rfl) (.int .i64 (P.I 28)) (by unfold execOp; simp only [h172.eval (k := 142) (v := .pointer (some ⟨w.heap.size, 28, none⟩)) (by simp)]; exact run_v (loadI ((Blk.below KP1.out HB12.out hgB).cell (i := 28) (by show 28 < 43; omega)))) fun a175 h174 => ?_
  refine wpk_call h174 (wanted_none rfl) rfl (by decide) (fr rfl) (fun args => call_40 args _) rfl #[.pointer (some ⟨w1.heap.size, 0, none⟩), .int .i64 (P.I 28), .int .i64 1, .int .i64 0, .int .i64 9223372036854775807] (by simp only [List.map_toArray, List.map_cons, List.map_nil, h174.eval (k := 140) (v := .pointer (some ⟨w1.heap.size, 0, none⟩)) (by simp), h174.eval (k := 143) (v := .int .i64 (P.I 28)) (by simp)]; rfl) (R := fun v w' => v = .tuple #[] ∧ WIn w' w1.heap.size w1.heap.size m13 ∧ Below w1.heap.size w1 w') (Calls.mono (wnum_any HW12.out (Nat.le_refl _) (by omega) (P.I 28) 0 9223372036854775807 1 (hP 28)) (fun e w' q => ⟨_, q.1, rfl, (by rw [HM13.out]; exact q.2.1), HB12.out.trans q.2.2⟩)) fun a177 v12 w15 r12 h176 => ?_
  obtain ⟨rfl, q1, q2⟩ := r12
  have HW13 := hid q1; have HB13 := hid q2
  clear q1 q2 HW12 HB12
  have h178 := h176.subs (l' := [(4, .pointer (some ⟨w1.heap.size, 0, none⟩)), (3, .bool false), (2, .slice none 0 0), (1, .pointer (some ⟨w.heap.size, 0, none⟩))]) rfl
  clear h176
  go_step
  go_step
  go_step
  go_step
  go_step
  refine wpk_val h178 (wanted_none rfl) rfl (by decide) (fr rfl) (.pointer (some ⟨w1.heap.size, 0, none⟩)) (by unfold execOp; simp only [h178.eval (k := 4) (v := .pointer (some ⟨w1.heap.size, 0, none⟩)) (by simp)]; rfl) fun a180 h179 => ?_
  refine wpk_val h179 (wanted_none rfl) rfl (by decide) (fr rfl) (.pointer (some ⟨w.heap.size, 28, none⟩)) (by unfold execOp; simp only [h179.eval (k := 1) (v := .pointer (some ⟨w.heap.size, 0, none⟩)) (by simp)]; exact run_v (fa_35_0_15 (w.heap.size) _)) fun a182 h181 => ?_
  refine wpk_val h181 (wanted_none rfl) rfl (by decide) (fr rfl) (.pointer (some ⟨w.heap.size, 29, none⟩)) (by unfold execOp; simp only [h181.eval (k := 146) (v := .pointer (some ⟨w.heap.size, 28, none⟩)) (by simp)]; exact run_v (fa_33_28_1 (w.heap.size) _)) fun a184 h183 => ?_
  refine wpk_val h183 (wanted_none rfl) rfl (by decide) (fr rfl) (.int .i64 (P.I 29)) (by unfold execOp; simp only [h183.eval (k := 147) (v := .pointer (some ⟨w.heap.size, 29, none⟩)) (by simp)]; exact run_v (loadI ((Blk.below KP1.out HB13.out hgB).cell (i := 29) (by show 29 < 43; omega)))) fun a186 h185 => ?_
  refine wpk_call h185 (wanted_none rfl) rfl (by decide) (fr rfl) (fun args => call_40 args _) rfl #[.pointer (some ⟨w1.heap.size, 0, none⟩), .int .i64 (P.I 29), .int .i64 1, .int .i64 0, .int .i64 9223372036854775807] (by simp only [List.map_toArray, List.map_cons, List.map_nil, h185.eval (k := 145) (v := .pointer (some ⟨w1.heap.size, 0, none⟩)) (by simp), h185.eval (k := 148) (v := .int .i64 (P.I 29)) (by simp)]; rfl) (R := fun v w' => v = .tuple #[] ∧ WIn w' w1.heap.size w1.heap.size m14 ∧ Below w1.heap.size w1 w') (Calls.mono (wnum_any HW13.out (Nat.le_refl _) (by omega) (P.I 29) 0 9223372036854775807 1 (hP 29)) (fun e w' q => ⟨_, q.1, rfl, (by rw [HM14.out]; exact q.2.1), HB13.out.trans q.2.2⟩)) fun a188 v13 w16 r13 h187 => ?_
  obtain ⟨rfl, q1, q2⟩ := r13
  have HW14 := hid q1; have HB14 := hid q2
  clear q1 q2 HW13 HB13
  have h189 := h187.subs (l' := [(4, .pointer (some ⟨w1.heap.size, 0, none⟩)), (3, .bool false), (2, .slice none 0 0), (1, .pointer (some ⟨w.heap.size, 0, none⟩))]) rfl
  clear h187
  go_step
  go_step
  go_step
  go_step
  go_step
  refine wpk_val h189 (wanted_none rfl) rfl (by decide) (fr rfl) (.pointer (some ⟨w1.heap.size, 0, none⟩)) (by unfold execOp; simp only [h189.eval (k := 4) (v := .pointer (some ⟨w1.heap.size, 0, none⟩)) (by simp)]; rfl) fun a191 h190 => ?_
  refine wpk_val h190 (wanted_none rfl) rfl (by decide) (fr rfl) (.pointer (some ⟨w.heap.size, 28, none⟩)) (by unfold execOp; simp only [h190.eval (k := 1) (v := .pointer (some ⟨w.heap.size, 0, none⟩)) (by simp)]; exact run_v (fa_35_0_15 (w.heap.size) _)) fun a193 h192 => ?_
  refine wpk_val h192 (wanted_none rfl) rfl (by decide) (fr rfl) (.pointer (some ⟨w.heap.size, 30, none⟩)) (by unfold execOp; simp only [h192.eval (k := 151) (v := .pointer (some ⟨w.heap.size, 28, none⟩)) (by simp)]; exact run_v (fa_33_28_2 (w.heap.size) _)) fun a195 h194 => ?_
  refine wpk_val h194 (wanted_none rfl) rfl (by decide) (fr rfl) (.int .i64 (P.I 30)) (by unfold execOp; simp only [h194.eval (k := 152) (v := .pointer (some ⟨w.heap.size, 30, none⟩)) (by simp)]; exact run_v (loadI ((Blk.below KP1.out HB14.out hgB).cell (i := 30) (by show 30 < 43; omega)))) fun a197 h196 => ?_
  refine wpk_call h196 (wanted_none rfl) rfl (by decide) (fr rfl) (fun args => call_40 args _) rfl #[.pointer (some ⟨w1.heap.size, 0, none⟩), .int .i64 (P.I 30), .int .i64 2, .int .i64 0, .int .i64 9223372036854775807] (by simp only [List.map_toArray, List.map_cons, List.map_nil, h196.eval (k := 150) (v := .pointer (some ⟨w1.heap.size, 0, none⟩)) (by simp), h196.eval (k := 153) (v := .int .i64 (P.I 30)) (by simp)]; rfl) (R := fun v w' => v = .tuple #[] ∧ WIn w' w1.heap.size w1.heap.size m15 ∧ Below w1.heap.size w1 w') (Calls.mono (wnum_any HW14.out (Nat.le_refl _) (by omega) (P.I 30) 0 9223372036854775807 2 (hP 30)) (fun e w' q => ⟨_, q.1, rfl, (by rw [HM15.out]; exact q.2.1), HB14.out.trans q.2.2⟩)) fun a199 v14 w17 r14 h198 => ?_
  obtain ⟨rfl, q1, q2⟩ := r14
  have HW15 := hid q1; have HB15 := hid q2
  clear q1 q2 HW14 HB14
  have h200 := h198.subs (l' := [(4, .pointer (some ⟨w1.heap.size, 0, none⟩)), (3, .bool false), (2, .slice none 0 0), (1, .pointer (some ⟨w.heap.size, 0, none⟩))]) rfl
  clear h198
  go_step
  go_step
  go_step
  go_step
  go_step
  go_step
  refine wpk_val h200 (wanted_none rfl) rfl (by decide) (fr rfl) (.int .i64 0) rfl fun a202 h201 => ?_
  go_step
  go_step
  go_step
  go_step
  refine wp_loop (I := fun a' w' => ∃ (j : Nat) (m : WM), j ≤ 4 ∧ Kn 209 [(5, .int .i64 (j : Int)), (4, .pointer (some ⟨w1.heap.size, 0, none⟩)), (3, .bool false), (2, .slice none 0 0), (1, .pointer (some ⟨w.heap.size, 0, none⟩))] a' ∧ m = ([31, 32, 33, 34].take j).foldl (fun m o => wnum m (P.I o) 1 0 9223372036854775807) m15 ∧ m.b.length ≤ m15.b.length + 8 * j ∧ WIn w' w1.heap.size w1.heap.size m ∧ Below w1.heap.size w1 w') (μ := fun a' _ => 4 - (intOf (a'.eval (.tmp 5))).toNat) ⟨0, m15, by omega, h201, rfl, by omega, HW15.out, HB15.out⟩ ?_
  clear HW15 HB15 h201
  rintro aL wL ⟨j, mj, hj, hK, hmj, hlj, hWj, hBj⟩
  have HWj := hid hWj; have HBj := hid hBj; have HMj := hid hmj
  clear hWj hBj hmj
  by_cases hlt : j < 4
  · have hd0 : decide ((j : Int) < 4) = true := decide_eq_true (by omega)
    go_step
    go_step
    go_step
    go_step
    refine wpk_val hK (wanted_none rfl) rfl (by decide) (fr rfl) (.int .i64 (j : Int)) (by unfold execOp; simp only [hK.eval (k := 5) (v := .int .i64 (j : Int)) (by simp)]; rfl) fun a204 h203 => ?_
    refine wpk_val h203 (wanted_none rfl) rfl (by decide) (fr rfl) (.bool true) (by unfold execOp; simp only [h203.eval (k := 155) (v := .int .i64 (j : Int)) (by simp)]; exact run_v (ltIb _ _ _ _ _ hd0)) fun a206 h205 => ?_
    have h207 := h205.subs (l' := [(156, .bool true), (5, .int .i64 (j : Int)), (4, .pointer (some ⟨w1.heap.size, 0, none⟩)), (3, .bool false), (2, .slice none 0 0), (1, .pointer (some ⟨w.heap.size, 0, none⟩))]) rfl
    clear h205
    go_step
    go_step
    go_step
    refine wp_cond (t := true) (h207.eval (k := 156) (v := .bool true) (by simp)) ?_
    simp only [if_true]
    have h208 := h207.subs (l' := [(5, .int .i64 (j : Int)), (4, .pointer (some ⟨w1.heap.size, 0, none⟩)), (3, .bool false), (2, .slice none 0 0), (1, .pointer (some ⟨w.heap.size, 0, none⟩))]) rfl
    clear h207
    go_step
    go_step
    go_step
    go_step
    go_step
    go_step
    refine wpk_val h208 (wanted_none rfl) rfl (by decide) (fr rfl) (.pointer (some ⟨w1.heap.size, 0, none⟩)) (by unfold execOp; simp only [h208.eval (k := 4) (v := .pointer (some ⟨w1.heap.size, 0, none⟩)) (by simp)]; rfl) fun a210 h209 => ?_
    refine wpk_val h209 (wanted_none rfl) rfl (by decide) (fr rfl) (.int .i64 (j : Int)) (by unfold execOp; simp only [h209.eval (k := 5) (v := .int .i64 (j : Int)) (by simp)]; rfl) fun a212 h211 => ?_
    refine wpk_val h211 (wanted_none rfl) rfl (by decide) (fr rfl) (.pointer (some ⟨w.heap.size, 28, none⟩)) (by unfold execOp; simp only [h211.eval (k := 1) (v := .pointer (some ⟨w.heap.size, 0, none⟩)) (by simp)]; exact run_v (fa_35_0_15 (w.heap.size) _)) fun a214 h213 => ?_
    refine wpk_val h213 (wanted_none rfl) rfl (by decide) (fr rfl) (.pointer (some ⟨w.heap.size, 31, none⟩)) (by unfold execOp; simp only [h213.eval (k := 161) (v := .pointer (some ⟨w.heap.size, 28, none⟩)) (by simp)]; exact run_v (fa_33_28_3 (w.heap.size) _)) fun a216 h215 => ?_
    refine wpk_val h215 (wanted_none rfl) rfl (by decide) (fr rfl) (.pointer (some ⟨w.heap.size, 31 + j, none⟩)) (by unfold execOp; simp only [h215.eval (k := 162) (v := .pointer (some ⟨w.heap.size, 31, none⟩)) (by simp), h215.eval (k := 160) (v := .int .i64 (j : Int)) (by simp)]; exact run_v (ixA4 (w.heap.size) j hlt _)) fun a218 h217 => ?_
    refine wpk_val h217 (wanted_none rfl) rfl (by decide) (fr rfl) (.int .i64 (P.I (31 + j))) (by unfold execOp; simp only [h217.eval (k := 163) (v := .pointer (some ⟨w.heap.size, 31 + j, none⟩)) (by simp)]; exact run_v (loadI (ixcell (Blk.below KP1.out HBj.out hgB) j hlt))) fun a220 h219 => ?_
    refine wpk_call h219 (wanted_none rfl) rfl (by decide) (fr rfl) (fun args => call_40 args _) rfl #[.pointer (some ⟨w1.heap.size, 0, none⟩), .int .i64 (P.I (31 + j)), .int .i64 1, .int .i64 0, .int .i64 9223372036854775807] (by simp only [List.map_toArray, List.map_cons, List.map_nil, h219.eval (k := 159) (v := .pointer (some ⟨w1.heap.size, 0, none⟩)) (by simp), h219.eval (k := 164) (v := .int .i64 (P.I (31 + j))) (by simp)]; rfl) (R := fun v w' => v = .tuple #[] ∧ WIn w' w1.heap.size w1.heap.size (wnum mj (P.I (31 + j)) 1 0 9223372036854775807) ∧ Below w1.heap.size w1 w') (Calls.mono (wnum_any HWj.out (Nat.le_refl _) (by omega) (P.I (31 + j)) 0 9223372036854775807 1 (hP (31 + j))) (fun e w' q => ⟨_, q.1, rfl, q.2.1, HBj.out.trans q.2.2⟩)) fun a222 vk wk rk h221 => ?_
    obtain ⟨rfl, q1, q2⟩ := rk
    have HWk := hid q1; have HBk := hid q2
    clear q1 q2
    have h223 := h221.subs (l' := [(5, .int .i64 (j : Int)), (4, .pointer (some ⟨w1.heap.size, 0, none⟩)), (3, .bool false), (2, .slice none 0 0), (1, .pointer (some ⟨w.heap.size, 0, none⟩))]) rfl
    clear h221
    go_step
    go_step
    go_step
    go_step
    refine wpk_val h223 (wanted_none rfl) rfl (by decide) (fr rfl) (.int .i64 (j : Int)) (by unfold execOp; simp only [h223.eval (k := 5) (v := .int .i64 (j : Int)) (by simp)]; rfl) fun a225 h224 => ?_
    refine wpk_val h224 (wanted_none rfl) rfl (by decide) (fr rfl) (.int .i64 ((j + 1 : Nat) : Int)) (by unfold execOp; simp only [h224.eval (k := 157) (v := .int .i64 (j : Int)) (by simp)]; exact run_v (addI1 _ _ j (by omega) _)) fun a227 h226 => ?_
    have h228 := h226.subs (l' := [(158, .int .i64 ((j + 1 : Nat) : Int)), (157, .int .i64 (j : Int)), (4, .pointer (some ⟨w1.heap.size, 0, none⟩)), (3, .bool false), (2, .slice none 0 0), (1, .pointer (some ⟨w.heap.size, 0, none⟩))]) rfl
    clear h226
    refine wpk_val h228 (wanted_none rfl) rfl (by decide) (fr rfl) (.int .i64 ((j + 1 : Nat) : Int)) (by unfold execOp; simp only [h228.eval (k := 158) (v := .int .i64 ((j + 1 : Nat) : Int)) (by simp)]; rfl) fun a230 h229 => ?_
    have h231 := h229.subs (l' := [(5, .int .i64 ((j + 1 : Nat) : Int)), (4, .pointer (some ⟨w1.heap.size, 0, none⟩)), (3, .bool false), (2, .slice none 0 0), (1, .pointer (some ⟨w.heap.size, 0, none⟩))]) rfl
    clear h229
    go_step
    go_step
    refine ⟨⟨j + 1, wnum mj (P.I (31 + j)) 1 0 9223372036854775807, by omega, h231, ?_, ?_, HWk.out, HBk.out⟩, ?_⟩
    · rw [HMj.out]; rcases (by omega : j = 0 ∨ j = 1 ∨ j = 2 ∨ j = 3) with e | e | e | e <;> subst e <;> rfl
    · have := wnum_len mj (P.I (31 + j)) 1 0 9223372036854775807 (by decide); omega
    · rw [h231.eval (k := 5) (v := .int .i64 ((j + 1 : Nat) : Int)) (by simp), hK.eval (k := 5) (v := .int .i64 (j : Int)) (by simp)]; simp [intOf]; omega
  · have hd0 : decide ((j : Int) < 4) = false := decide_eq_false (by omega)
    obtain rfl : j = 4 := by omega
    have HW19 : Hid (WIn wL w1.heap.size w1.heap.size m19) := hid (by rw [show m19 = mj by rw [HMj.out, HM19.out, HM18.out, HM17.out, HM16.out]; rfl]; exact HWj.out)
    have HB19 := HBj
    go_step
    go_step
    go_step
    go_step
    refine wpk_val hK (wanted_none rfl) rfl (by decide) (fr rfl) (.int .i64 ((4 : Nat) : Int)) (by unfold execOp; simp only [hK.eval (k := 5) (v := .int .i64 ((4 : Nat) : Int)) (by simp)]; rfl) fun a233 h232 => ?_
    refine wpk_val h232 (wanted_none rfl) rfl (by decide) (fr rfl) (.bool false) (by unfold execOp; simp only [h232.eval (k := 155) (v := .int .i64 ((4 : Nat) : Int)) (by simp)]; exact run_v (ltIb _ _ _ _ _ hd0)) fun a235 h234 => ?_
    have h236 := h234.subs (l' := [(156, .bool false), (5, .int .i64 ((4 : Nat) : Int)), (4, .pointer (some ⟨w1.heap.size, 0, none⟩)), (3, .bool false), (2, .slice none 0 0), (1, .pointer (some ⟨w.heap.size, 0, none⟩))]) rfl
    clear h234
    go_step
    go_step
    go_step
    refine wp_cond (t := false) (h236.eval (k := 156) (v := .bool false) (by simp)) ?_
    simp only [Bool.false_eq_true, if_false]
    have h237 := h236.subs (l' := [(5, .int .i64 ((4 : Nat) : Int)), (4, .pointer (some ⟨w1.heap.size, 0, none⟩)), (3, .bool false), (2, .slice none 0 0), (1, .pointer (some ⟨w.heap.size, 0, none⟩))]) rfl
    clear h236
    go_step
    go_step
    go_step
    go_step
    go_step
    go_step
    go_step
    refine wpk_val h237 (wanted_none rfl) rfl (by decide) (fr rfl) (.pointer (some ⟨w1.heap.size, 0, none⟩)) (by unfold execOp; simp only [h237.eval (k := 4) (v := .pointer (some ⟨w1.heap.size, 0, none⟩)) (by simp)]; rfl) fun a239 h238 => ?_
    refine wpk_val h238 (wanted_none rfl) rfl (by decide) (fr rfl) (.pointer (some ⟨w.heap.size, 20, none⟩)) (by unfold execOp; simp only [h238.eval (k := 1) (v := .pointer (some ⟨w.heap.size, 0, none⟩)) (by simp)]; exact run_v (fa_35_0_13 (w.heap.size) _)) fun a241 h240 => ?_
    refine wpk_val h240 (wanted_none rfl) rfl (by decide) (fr rfl) (.pointer (some ⟨w.heap.size, 23, none⟩)) (by unfold execOp; simp only [h240.eval (k := 167) (v := .pointer (some ⟨w.heap.size, 20, none⟩)) (by simp)]; exact run_v (fa_29_20_3 (w.heap.size) _)) fun a243 h242 => ?_
    refine wpk_val h242 (wanted_none rfl) rfl (by decide) (fr rfl) (.slice a P.N.length c) (by unfold execOp; simp only [h242.eval (k := 168) (v := .pointer (some ⟨w.heap.size, 23, none⟩)) (by simp)]; exact run_v (loadN ((Blk.below KP1.out HB19.out hgB).cell (i := 23) (by show 23 < 43; omega)))) fun a245 h244 => ?_
    refine wpk_val h244 (wanted_none rfl) rfl (by decide) (fr rfl) (.int .i64 (P.N.length : Int)) (run_lenS rfl (h244.eval (k := 169) (v := .slice a P.N.length c) (by simp)) _) fun a247 h246 => ?_
    refine wpk_call h246 (wanted_none rfl) rfl (by decide) (fr rfl) (fun args => call_40 args _) rfl #[.pointer (some ⟨w1.heap.size, 0, none⟩), .int .i64 (P.N.length : Int), .int .i64 1, .int .i64 0, .int .i64 16] (by simp only [List.map_toArray, List.map_cons, List.map_nil, h246.eval (k := 166) (v := .pointer (some ⟨w1.heap.size, 0, none⟩)) (by simp), h246.eval (k := 170) (v := .int .i64 (P.N.length : Int)) (by simp)]; rfl) (R := fun v w' => v = .tuple #[] ∧ WIn w' w1.heap.size w1.heap.size mN ∧ Below w1.heap.size w1 w') (Calls.mono (wnum_any HW19.out (Nat.le_refl _) (by omega) (P.N.length : Int) 0 16 1 (by omega)) (fun e w' q => ⟨_, q.1, rfl, (by rw [HMN.out]; exact q.2.1), HB19.out.trans q.2.2⟩)) fun a249 vN wN rN h248 => ?_
    obtain ⟨rfl, q1, q2⟩ := rN
    have HWN := hid q1; have HBN := hid q2
    clear q1 q2
    have h250 := h248.subs (l' := [(5, .int .i64 ((4 : Nat) : Int)), (4, .pointer (some ⟨w1.heap.size, 0, none⟩)), (3, .bool false), (2, .slice none 0 0), (1, .pointer (some ⟨w.heap.size, 0, none⟩))]) rfl
    clear h248
    go_step
    go_step
    go_step
    go_step
    go_step
    refine wpk_val h250 (wanted_none rfl) rfl (by decide) (fr rfl) (.int .i64 0) rfl fun a252 h251 => ?_
    go_step
    go_step
    go_step
    go_step
    refine wp_loop (I := fun a' w' => ∃ (j : Nat) (m : WM), j ≤ P.N.length ∧ Kn 209 [(6, .int .i64 (j : Int)), (5, .int .i64 ((4 : Nat) : Int)), (4, .pointer (some ⟨w1.heap.size, 0, none⟩)), (3, .bool false), (2, .slice none 0 0), (1, .pointer (some ⟨w.heap.size, 0, none⟩))] a' ∧ m = (P.N.take j).foldl (fun m s => wtext m s 1 12) mN ∧ m.b.length ≤ mN.b.length + 508 * j ∧ WIn w' w1.heap.size w1.heap.size m ∧ Below w1.heap.size w1 w') (μ := fun a' _ => P.N.length - (intOf (a'.eval (.tmp 6))).toNat) ⟨0, mN, by omega, h251, rfl, by omega, HWN.out, HBN.out⟩ ?_
    clear HWN HBN h251
    rintro aM wM ⟨j, mj, hj, hK, hmj, hlj, hWj, hBj⟩
    have HWj := hid hWj; have HBj := hid hBj; have HMj := hid hmj
    clear hWj hBj hmj
    by_cases hlt : j < P.N.length
    · have hd0 : decide ((j : Int) < (P.N.length : Int)) = true := decide_eq_true (by omega)
      have hrow := HA.out.mono (B1.out.trans (HBj.out.mono B1.out.size))
      obtain ⟨nb, noff, ha0, _, hcell⟩ := rowN_cells hrow (by omega)
      have hcell := hcell j hlt
      have hs2 := hN P.N[j] (List.getElem_mem hlt)
      go_step
      go_step
      go_step
      go_step
      refine wpk_val hK (wanted_none rfl) rfl (by decide) (fr rfl) (.int .i64 (j : Int)) (by unfold execOp; simp only [hK.eval (k := 6) (v := .int .i64 (j : Int)) (by simp)]; rfl) fun a254 h253 => ?_
      refine wpk_val h253 (wanted_none rfl) rfl (by decide) (fr rfl) (.pointer (some ⟨w.heap.size, 20, none⟩)) (by unfold execOp; simp only [h253.eval (k := 1) (v := .pointer (some ⟨w.heap.size, 0, none⟩)) (by simp)]; exact run_v (fa_35_0_13 (w.heap.size) _)) fun a256 h255 => ?_
      refine wpk_val h255 (wanted_none rfl) rfl (by decide) (fr rfl) (.pointer (some ⟨w.heap.size, 23, none⟩)) (by unfold execOp; simp only [h255.eval (k := 173) (v := .pointer (some ⟨w.heap.size, 20, none⟩)) (by simp)]; exact run_v (fa_29_20_3 (w.heap.size) _)) fun a258 h257 => ?_
      refine wpk_val h257 (wanted_none rfl) rfl (by decide) (fr rfl) (.slice a P.N.length c) (by unfold execOp; simp only [h257.eval (k := 174) (v := .pointer (some ⟨w.heap.size, 23, none⟩)) (by simp)]; exact run_v (loadN ((Blk.below KP1.out HBj.out hgB).cell (i := 23) (by show 23 < 43; omega)))) fun a260 h259 => ?_
      refine wpk_val h259 (wanted_none rfl) rfl (by decide) (fr rfl) (.int .i64 (P.N.length : Int)) (run_lenS rfl (h259.eval (k := 175) (v := .slice a P.N.length c) (by simp)) _) fun a262 h261 => ?_
      refine wpk_val h261 (wanted_none rfl) rfl (by decide) (fr rfl) (.bool true) (by unfold execOp; simp only [h261.eval (k := 172) (v := .int .i64 (j : Int)) (by simp), h261.eval (k := 176) (v := .int .i64 (P.N.length : Int)) (by simp)]; exact run_v (ltIb _ _ _ _ _ hd0)) fun a264 h263 => ?_
      have h265 := h263.subs (l' := [(177, .bool true), (6, .int .i64 (j : Int)), (5, .int .i64 ((4 : Nat) : Int)), (4, .pointer (some ⟨w1.heap.size, 0, none⟩)), (3, .bool false), (2, .slice none 0 0), (1, .pointer (some ⟨w.heap.size, 0, none⟩))]) rfl
      clear h263
      go_step
      go_step
      go_step
      refine wp_cond (t := true) (h265.eval (k := 177) (v := .bool true) (by simp)) ?_
      simp only [if_true]
      have h266 := h265.subs (l' := [(6, .int .i64 (j : Int)), (5, .int .i64 ((4 : Nat) : Int)), (4, .pointer (some ⟨w1.heap.size, 0, none⟩)), (3, .bool false), (2, .slice none 0 0), (1, .pointer (some ⟨w.heap.size, 0, none⟩))]) rfl
      clear h265
      go_step
      go_step
      go_step
      go_step
      go_step
      go_step
      refine wpk_val h266 (wanted_none rfl) rfl (by decide) (fr rfl) (.pointer (some ⟨w1.heap.size, 0, none⟩)) (by unfold execOp; simp only [h266.eval (k := 4) (v := .pointer (some ⟨w1.heap.size, 0, none⟩)) (by simp)]; rfl) fun a268 h267 => ?_
      refine wpk_val h267 (wanted_none rfl) rfl (by decide) (fr rfl) (.pointer (some ⟨w.heap.size, 20, none⟩)) (by unfold execOp; simp only [h267.eval (k := 1) (v := .pointer (some ⟨w.heap.size, 0, none⟩)) (by simp)]; exact run_v (fa_35_0_13 (w.heap.size) _)) fun a270 h269 => ?_
      refine wpk_val h269 (wanted_none rfl) rfl (by decide) (fr rfl) (.pointer (some ⟨w.heap.size, 23, none⟩)) (by unfold execOp; simp only [h269.eval (k := 181) (v := .pointer (some ⟨w.heap.size, 20, none⟩)) (by simp)]; exact run_v (fa_29_20_3 (w.heap.size) _)) fun a272 h271 => ?_
      refine wpk_val h271 (wanted_none rfl) rfl (by decide) (fr rfl) (.slice a P.N.length c) (by unfold execOp; simp only [h271.eval (k := 182) (v := .pointer (some ⟨w.heap.size, 23, none⟩)) (by simp)]; exact run_v (loadN ((Blk.below KP1.out HBj.out hgB).cell (i := 23) (by show 23 < 43; omega)))) fun a274 h273 => ?_
      refine wpk_val h273 (wanted_none rfl) rfl (by decide) (fr rfl) (.int .i64 (j : Int)) (by unfold execOp; simp only [h273.eval (k := 6) (v := .int .i64 (j : Int)) (by simp)]; rfl) fun a276 h275 => ?_
      refine wpk_val h275 (wanted_none rfl) rfl (by decide) (fr rfl) (.pointer (some ⟨nb, noff + j, none⟩)) (by unfold execOp; simp only [h275.eval (k := 183) (v := .slice a P.N.length c) (by simp), h275.eval (k := 184) (v := .int .i64 (j : Int)) (by simp)]; exact run_v (by rw [ha0]; exact ixSl nb noff P.N.length c j hlt _)) fun a278 h277 => ?_
      refine wpk_val h277 (wanted_none rfl) rfl (by decide) (fr rfl) (.string (bsW P.N[j])) (by unfold execOp; simp only [h277.eval (k := 185) (v := .pointer (some ⟨nb, noff + j, none⟩)) (by simp)]; exact run_v (loadS hcell)) fun a280 h279 => ?_
      refine wpk_call h279 (wanted_none rfl) rfl (by decide) (fr rfl) (fun args => call_41 args _) rfl #[.pointer (some ⟨w1.heap.size, 0, none⟩), .string (bsW P.N[j]), .int .i64 1, .int .i64 12] (by simp only [List.map_toArray, List.map_cons, List.map_nil, h279.eval (k := 180) (v := .pointer (some ⟨w1.heap.size, 0, none⟩)) (by simp), h279.eval (k := 186) (v := .string (bsW P.N[j])) (by simp)]; rfl) (R := fun v w' => v = .tuple #[] ∧ WIn w' w1.heap.size w1.heap.size (wtext mj P.N[j] 1 12) ∧ Below w1.heap.size w1 w') (Calls.mono (wtext_any HWj.out (Nat.le_refl _) (by omega) P.N[j] (by omega) 1 12 (by decide)) (fun e w' q => ⟨_, q.1, rfl, q.2.1, HBj.out.trans q.2.2⟩)) fun a282 vk wk rk h281 => ?_
      obtain ⟨rfl, q1, q2⟩ := rk
      have HWk := hid q1; have HBk := hid q2
      clear q1 q2
      have h283 := h281.subs (l' := [(6, .int .i64 (j : Int)), (5, .int .i64 ((4 : Nat) : Int)), (4, .pointer (some ⟨w1.heap.size, 0, none⟩)), (3, .bool false), (2, .slice none 0 0), (1, .pointer (some ⟨w.heap.size, 0, none⟩))]) rfl
      clear h281
      go_step
      go_step
      go_step
      go_step
      refine wpk_val h283 (wanted_none rfl) rfl (by decide) (fr rfl) (.int .i64 (j : Int)) (by unfold execOp; simp only [h283.eval (k := 6) (v := .int .i64 (j : Int)) (by simp)]; rfl) fun a285 h284 => ?_
      refine wpk_val h284 (wanted_none rfl) rfl (by decide) (fr rfl) (.int .i64 ((j + 1 : Nat) : Int)) (by unfold execOp; simp only [h284.eval (k := 178) (v := .int .i64 (j : Int)) (by simp)]; exact run_v (addI1 _ _ j (by omega) _)) fun a287 h286 => ?_
      have h288 := h286.subs (l' := [(179, .int .i64 ((j + 1 : Nat) : Int)), (178, .int .i64 (j : Int)), (5, .int .i64 ((4 : Nat) : Int)), (4, .pointer (some ⟨w1.heap.size, 0, none⟩)), (3, .bool false), (2, .slice none 0 0), (1, .pointer (some ⟨w.heap.size, 0, none⟩))]) rfl
      clear h286
      refine wpk_val h288 (wanted_none rfl) rfl (by decide) (fr rfl) (.int .i64 ((j + 1 : Nat) : Int)) (by unfold execOp; simp only [h288.eval (k := 179) (v := .int .i64 ((j + 1 : Nat) : Int)) (by simp)]; rfl) fun a290 h289 => ?_
      have h291 := h289.subs (l' := [(6, .int .i64 ((j + 1 : Nat) : Int)), (5, .int .i64 ((4 : Nat) : Int)), (4, .pointer (some ⟨w1.heap.size, 0, none⟩)), (3, .bool false), (2, .slice none 0 0), (1, .pointer (some ⟨w.heap.size, 0, none⟩))]) rfl
      clear h289
      go_step
      go_step
      refine ⟨⟨j + 1, wtext mj P.N[j] 1 12, by omega, h291, ?_, ?_, HWk.out, HBk.out⟩, ?_⟩
      · rw [HMj.out, List.take_add_one, List.foldl_append]; simp [hlt]
      · have := wtext_len mj P.N[j] 1 12 (by decide) hs2; omega
      · rw [h291.eval (k := 6) (v := .int .i64 ((j + 1 : Nat) : Int)) (by simp), hK.eval (k := 6) (v := .int .i64 (j : Int)) (by simp)]; simp [intOf]; omega
    · have hd0 : decide ((j : Int) < (P.N.length : Int)) = false := decide_eq_false (by omega)
      have hje : j = P.N.length := by omega
      have HW20 : Hid (WIn wM w1.heap.size w1.heap.size m20) := hid (by rw [show m20 = mj by rw [HMj.out, HM20.out, hje, List.take_length, HMN.out]; rfl]; exact HWj.out)
      have HB20 := HBj
      go_step
      go_step
      go_step
      go_step
      refine wpk_val hK (wanted_none rfl) rfl (by decide) (fr rfl) (.int .i64 (j : Int)) (by unfold execOp; simp only [hK.eval (k := 6) (v := .int .i64 (j : Int)) (by simp)]; rfl) fun a293 h292 => ?_
      refine wpk_val h292 (wanted_none rfl) rfl (by decide) (fr rfl) (.pointer (some ⟨w.heap.size, 20, none⟩)) (by unfold execOp; simp only [h292.eval (k := 1) (v := .pointer (some ⟨w.heap.size, 0, none⟩)) (by simp)]; exact run_v (fa_35_0_13 (w.heap.size) _)) fun a295 h294 => ?_
      refine wpk_val h294 (wanted_none rfl) rfl (by decide) (fr rfl) (.pointer (some ⟨w.heap.size, 23, none⟩)) (by unfold execOp; simp only [h294.eval (k := 173) (v := .pointer (some ⟨w.heap.size, 20, none⟩)) (by simp)]; exact run_v (fa_29_20_3 (w.heap.size) _)) fun a297 h296 => ?_
      refine wpk_val h296 (wanted_none rfl) rfl (by decide) (fr rfl) (.slice a P.N.length c) (by unfold execOp; simp only [h296.eval (k := 174) (v := .pointer (some ⟨w.heap.size, 23, none⟩)) (by simp)]; exact run_v (loadN ((Blk.below KP1.out HB20.out hgB).cell (i := 23) (by show 23 < 43; omega)))) fun a299 h298 => ?_
      refine wpk_val h298 (wanted_none rfl) rfl (by decide) (fr rfl) (.int .i64 (P.N.length : Int)) (run_lenS rfl (h298.eval (k := 175) (v := .slice a P.N.length c) (by simp)) _) fun a301 h300 => ?_
      refine wpk_val h300 (wanted_none rfl) rfl (by decide) (fr rfl) (.bool false) (by unfold execOp; simp only [h300.eval (k := 172) (v := .int .i64 (j : Int)) (by simp), h300.eval (k := 176) (v := .int .i64 (P.N.length : Int)) (by simp)]; exact run_v (ltIb _ _ _ _ _ hd0)) fun a303 h302 => ?_
      have h304 := h302.subs (l' := [(177, .bool false), (6, .int .i64 (j : Int)), (5, .int .i64 ((4 : Nat) : Int)), (4, .pointer (some ⟨w1.heap.size, 0, none⟩)), (3, .bool false), (2, .slice none 0 0), (1, .pointer (some ⟨w.heap.size, 0, none⟩))]) rfl
      clear h302
      go_step
      go_step
      go_step
      refine wp_cond (t := false) (h304.eval (k := 177) (v := .bool false) (by simp)) ?_
      simp only [Bool.false_eq_true, if_false]
      have h305 := h304.subs (l' := [(6, .int .i64 (j : Int)), (5, .int .i64 ((4 : Nat) : Int)), (4, .pointer (some ⟨w1.heap.size, 0, none⟩)), (3, .bool false), (2, .slice none 0 0), (1, .pointer (some ⟨w.heap.size, 0, none⟩))]) rfl
      clear h304
      go_step
      go_step
      go_step
      go_step
      go_step
      go_step
      go_step
      go_step
      refine wpk_val h305 (wanted_none rfl) rfl (by decide) (fr rfl) (.pointer (some ⟨w.heap.size, 0, none⟩)) (by unfold execOp; simp only [h305.eval (k := 1) (v := .pointer (some ⟨w.heap.size, 0, none⟩)) (by simp)]; exact run_v (fa_35_0_0 (w.heap.size) _)) fun a307 h306 => ?_
      refine wpk_val h306 (wanted_none rfl) rfl (by decide) (fr rfl) (.int .i64 (P.I 0)) (by unfold execOp; simp only [h306.eval (k := 188) (v := .pointer (some ⟨w.heap.size, 0, none⟩)) (by simp)]; exact run_v (loadI ((Blk.below KP1.out HB20.out hgB).cell (i := 0) (by show 0 < 43; omega)))) fun a309 h308 => ?_
      refine wpk_val h308 (wanted_none rfl) rfl (by decide) (fr rfl) (.bool false) (by unfold execOp; simp only [h308.eval (k := 189) (v := .int .i64 (P.I 0)) (by simp)]; exact run_v (eqIb _ _ _ _ _ e5)) fun a311 h310 => ?_
      have h312 := h310.subs (l' := [(190, .bool false), (6, .int .i64 (j : Int)), (5, .int .i64 ((4 : Nat) : Int)), (4, .pointer (some ⟨w1.heap.size, 0, none⟩)), (3, .bool false), (2, .slice none 0 0), (1, .pointer (some ⟨w.heap.size, 0, none⟩))]) rfl
      clear h310
      go_step
      go_step
      go_step
      refine wp_cond (t := false) (h312.eval (k := 190) (v := .bool false) (by simp)) ?_
      simp only [Bool.false_eq_true, if_false]
      have h313 := h312.subs (l' := [(6, .int .i64 (j : Int)), (5, .int .i64 ((4 : Nat) : Int)), (4, .pointer (some ⟨w1.heap.size, 0, none⟩)), (3, .bool false), (2, .slice none 0 0), (1, .pointer (some ⟨w.heap.size, 0, none⟩))]) rfl
      clear h312
      go_step
      go_step
      go_step
      go_step
      go_step
      refine wpk_val h313 (wanted_none rfl) rfl (by decide) (fr rfl) (.agg (pkC P a P.N.length c).toArray) (by unfold execOp; simp only [h313.eval (k := 1) (v := .pointer (some ⟨w.heap.size, 0, none⟩)) (by simp)]; exact run_v (run_loadAt_mid _ _ _ _ (pkC P a P.N.length c) _ (Blk.below KP1.out HB20.out hgB).range Try.underlying35 rfl (by rw [infoPk]; rfl))) fun a315 h314 => ?_
      refine wpk_call h314 (wanted_none rfl) rfl (by decide) (fr rfl) (fun args => call_42 args _) rfl #[.agg (pkC P a P.N.length c).toArray] (by simp only [List.map_toArray, List.map_cons, List.map_nil, h314.eval (k := 195) (v := .agg (pkC P a P.N.length c).toArray) (by simp)]) (R := fun v w' => v = .bool rb ∧ Below wM.heap.size wM w') (Calls.mono (HO.out wM ((B1.out.trans (HB20.out.mono B1.out.size)))) (fun e w' q => ⟨_, q.1, rfl, q.2⟩)) fun a317 v20 w23 r20 h316 => ?_
      obtain ⟨rfl, q2⟩ := r20
      obtain ⟨ba, bc, hbW, hoW⟩ := HW20.out
      have hbW := hid (hbW.mono q2); have hoW := hid (hoW.mono q2); have HB20z := hid (HB20.out.trans (q2.mono HB20.out.size))
      clear q2 HW20 HB20
      refine wpk_val h316 (wanted_none rfl) rfl (by decide) (fr rfl) (.bool rb) (by unfold execOp; simp only [h316.eval (k := 196) (v := .bool rb) (by simp)]; rfl) fun a319 h318 => ?_
      have h320 := h318.subs (l' := [(7, .bool rb), (6, .int .i64 (j : Int)), (5, .int .i64 ((4 : Nat) : Int)), (4, .pointer (some ⟨w1.heap.size, 0, none⟩)), (3, .bool false), (2, .slice none 0 0), (1, .pointer (some ⟨w.heap.size, 0, none⟩))]) rfl
      clear h318
      go_step
      go_step
      go_step
      go_step
      cases hno : m20.no with
      | false =>
        refine wp_region_held_drew (S := fun w' => w' = w23.drew) (by kernel_rfl) rfl (fun hS321 => ?_)
        have B20x := hid HB20z.out.drew
        refine wpk_take hS321 h320 0 rfl rfl (by decide) (fr rfl) (by kernel_rfl) (by kernel_rfl) (by kernel_rfl) (fun _ _ _ _ h => h) (.pointer (some ⟨w1.heap.size, 0, none⟩)) (Or.inl ⟨Eq.refl true, fun w1 hSw => (by cases hSw; exact (by show (execOp _ (⟨_, .move (.tmp 4), _, _, _, _⟩ : Oper)).run _ _ = _; exact (by unfold execOp; simp only [h320.eval (k := 4) (v := .pointer (some ⟨w1.heap.size, 0, none⟩)) (by simp)]; rfl)))⟩) fun a323 h322 => ?_
        refine wpk_take hS321 h322 1 rfl rfl (by decide) (fr rfl) (by kernel_rfl) (by kernel_rfl) (by kernel_rfl) (fun _ _ _ _ h => h) (.pointer (some ⟨w1.heap.size, 0, none⟩)) (Or.inl ⟨Eq.refl true, fun w1 hSw => (by cases hSw; exact (by show (execOp _ (⟨_, .nilCheck (.tmp 197), _, _, _, _⟩ : Oper)).run _ _ = _; exact (by unfold execOp; simp only [h322.eval (k := 197) (v := .pointer (some ⟨w1.heap.size, 0, none⟩)) (by simp)]; exact rfl)))⟩) fun a325 h324 => ?_
        refine wpk_take hS321 h324 2 rfl rfl (by decide) (fr rfl) (by kernel_rfl) (by kernel_rfl) (by kernel_rfl) (fun _ _ _ _ h => h) (.pointer (some ⟨w1.heap.size, 0, none⟩)) (Or.inl ⟨Eq.refl true, fun w1 hSw => (by cases hSw; exact (by show (execOp _ (⟨_, .fieldAddr 83 (.tmp 198) 0, _, _, _, _⟩ : Oper)).run _ _ = _; exact (by unfold execOp; simp only [h324.eval (k := 198) (v := .pointer (some ⟨w1.heap.size, 0, none⟩)) (by simp)]; exact run_v (fa_83_0_0 (w1.heap.size) _))))⟩) fun a327 h326 => ?_
        refine wpk_take hS321 h326 3 rfl rfl (by decide) (fr rfl) (by kernel_rfl) (by kernel_rfl) (by kernel_rfl) (fun _ _ _ _ h => h) (.slice ba m20.b.length bc) (Or.inl ⟨Eq.refl true, fun w1 hSw => (by cases hSw; exact (by show (execOp _ (⟨_, .load 37 (.tmp 199), _, _, _, _⟩ : Oper)).run _ _ = _; exact (by unfold execOp; simp only [h326.eval (k := 199) (v := .pointer (some ⟨w1.heap.size, 0, none⟩)) (by simp)]; exact run_v (loadB ((Blk.drew hbW.out).cell (i := 0) (by simp))))))⟩) fun a329 h328 => ?_
        refine wpk_take hS321 h328 4 rfl rfl (by decide) (fr rfl) (by kernel_rfl) (by kernel_rfl) (by kernel_rfl) (fun _ _ _ _ h => h) (.pointer (some ⟨w1.heap.size, 0, none⟩)) (Or.inl ⟨Eq.refl true, fun w1 hSw => (by cases hSw; exact (by show (execOp _ (⟨_, .move (.tmp 4), _, _, _, _⟩ : Oper)).run _ _ = _; exact (by unfold execOp; simp only [h328.eval (k := 4) (v := .pointer (some ⟨w1.heap.size, 0, none⟩)) (by simp)]; rfl)))⟩) fun a331 h330 => ?_
        refine wpk_take hS321 h330 5 rfl rfl (by decide) (fr rfl) (by kernel_rfl) (by kernel_rfl) (by kernel_rfl) (fun _ _ _ _ h => h) (.pointer (some ⟨w1.heap.size, 0, none⟩)) (Or.inl ⟨Eq.refl true, fun w1 hSw => (by cases hSw; exact (by show (execOp _ (⟨_, .nilCheck (.tmp 201), _, _, _, _⟩ : Oper)).run _ _ = _; exact (by unfold execOp; simp only [h330.eval (k := 201) (v := .pointer (some ⟨w1.heap.size, 0, none⟩)) (by simp)]; exact rfl)))⟩) fun a333 h332 => ?_
        refine wpk_take hS321 h332 6 rfl rfl (by decide) (fr rfl) (by kernel_rfl) (by kernel_rfl) (by kernel_rfl) (fun _ _ _ _ h => h) (.pointer (some ⟨w1.heap.size, 1, none⟩)) (Or.inl ⟨Eq.refl true, fun w1 hSw => (by cases hSw; exact (by show (execOp _ (⟨_, .fieldAddr 83 (.tmp 202) 1, _, _, _, _⟩ : Oper)).run _ _ = _; exact (by unfold execOp; simp only [h332.eval (k := 202) (v := .pointer (some ⟨w1.heap.size, 0, none⟩)) (by simp)]; exact run_v (fa_83_0_1 (w1.heap.size) _))))⟩) fun a335 h334 => ?_
        refine wpk_take hS321 h334 7 rfl rfl (by decide) (fr rfl) (by kernel_rfl) (by kernel_rfl) (by kernel_rfl) (fun _ _ _ _ h => h) (.bool false) (Or.inl ⟨Eq.refl true, fun w1 hSw => (by cases hSw; exact (by show (execOp _ (⟨_, .load 4 (.tmp 203), _, _, _, _⟩ : Oper)).run _ _ = _; exact (by unfold execOp; simp only [h334.eval (k := 203) (v := .pointer (some ⟨w1.heap.size, 1, none⟩)) (by simp)]; exact run_v (loadBo (by rw [(Blk.drew hbW.out).cell (i := 1) (by simp)]; simp [hno])))))⟩) fun a337 h336 => ?_
        refine wpk_take hS321 h336 8 rfl rfl (by decide) (fr rfl) (by kernel_rfl) (by kernel_rfl) (by kernel_rfl) (fun _ _ _ _ h => h) (.bool true) (Or.inl ⟨Eq.refl true, fun w1 hSw => (by cases hSw; exact (by show (execOp _ (⟨_, .unOp .not 4 (.tmp 204), _, _, _, _⟩ : Oper)).run _ _ = _; exact (run_not rfl (h336.eval (k := 204) (v := .bool false) (by simp)))))⟩) fun a339 h338 => ?_
        refine wpk_take hS321 h338 9 rfl rfl (by decide) (fr rfl) (by kernel_rfl) (by kernel_rfl) (by kernel_rfl) (fun _ _ _ _ h => h) (.bool true) (Or.inl ⟨Eq.refl true, fun w1 hSw => (by cases hSw; exact (by show (execOp _ (⟨_, .move (.tmp 205), _, _, _, _⟩ : Oper)).run _ _ = _; exact (by unfold execOp; simp only [h338.eval (k := 205) (v := .bool true) (by simp)]; rfl)))⟩) fun a341 h340 => ?_
        refine wpk_take hS321 h340 10 rfl rfl (by decide) (fr rfl) (by kernel_rfl) (by kernel_rfl) (by kernel_rfl) (fun _ _ _ _ h => h) (.bool rb) (Or.inl ⟨(by rw [wanted_of (g := 9) (want := true) (b := true) rfl (h340.yields (prev := 206) rfl (by simp))]; rfl), fun w1 hSw => (by cases hSw; exact (by show (execOp _ (⟨_, .move (.tmp 7), _, _, _, _⟩ : Oper)).run _ _ = _; exact (by unfold execOp; simp only [h340.eval (k := 7) (v := .bool rb) (by simp)]; rfl)))⟩) fun a343 h342 => ?_
        refine wpk_take hS321 h342 11 rfl rfl (by decide) (fr rfl) (by kernel_rfl) (by kernel_rfl) (by kernel_rfl) (fun _ _ _ _ h => h) (.bool rb) (Or.inl ⟨Eq.refl true, fun w1 hSw => (by cases hSw; exact (by show (execOp _ (⟨_, .pick (.tmp 206) (.tmp 207) (.const (.bool false)), _, _, _, _⟩ : Oper)).run _ _ = _; exact (run_pick rfl (h342.eval (k := 206) (v := .bool true) (by simp)) (by rw [if_pos rfl]; exact h342.eval (k := 207) (v := .bool rb) (by simp)))))⟩) fun a345 h344 => ?_
        have h346 := h344.subs (l' := [(208, .bool rb), (207, .bool rb), (206, .bool true), (205, .bool true), (204, .bool false), (203, .pointer (some ⟨w1.heap.size, 1, none⟩)), (202, .pointer (some ⟨w1.heap.size, 0, none⟩)), (201, .pointer (some ⟨w1.heap.size, 0, none⟩)), (200, .slice ba m20.b.length bc), (199, .pointer (some ⟨w1.heap.size, 0, none⟩)), (198, .pointer (some ⟨w1.heap.size, 0, none⟩)), (197, .pointer (some ⟨w1.heap.size, 0, none⟩)), (7, .bool rb), (6, .int .i64 (j : Int)), (5, .int .i64 ((4 : Nat) : Int)), (4, .pointer (some ⟨w1.heap.size, 0, none⟩)), (3, .bool false), (1, .pointer (some ⟨w.heap.size, 0, none⟩))]) rfl
        clear h344
        refine wpk_take hS321 h346 12 rfl rfl (by decide) (fr rfl) (by kernel_rfl) (by kernel_rfl) (by kernel_rfl) (fun _ _ _ _ h => h) (.slice ba m20.b.length bc) (Or.inl ⟨Eq.refl true, fun w1 hSw => (by cases hSw; exact (by show (execOp _ (⟨_, .assign (.tmp 200), _, _, _, _⟩ : Oper)).run _ _ = _; exact (by unfold execOp; simp only [h346.eval (k := 200) (v := .slice ba m20.b.length bc) (by simp)]; rfl)))⟩) fun a348 h347 => ?_
        have h349 := h347.subs (l' := [(2, .slice ba m20.b.length bc), (208, .bool rb), (207, .bool rb), (206, .bool true), (205, .bool true), (204, .bool false), (203, .pointer (some ⟨w1.heap.size, 1, none⟩)), (202, .pointer (some ⟨w1.heap.size, 0, none⟩)), (201, .pointer (some ⟨w1.heap.size, 0, none⟩)), (200, .slice ba m20.b.length bc), (199, .pointer (some ⟨w1.heap.size, 0, none⟩)), (198, .pointer (some ⟨w1.heap.size, 0, none⟩)), (197, .pointer (some ⟨w1.heap.size, 0, none⟩)), (7, .bool rb), (6, .int .i64 (j : Int)), (5, .int .i64 ((4 : Nat) : Int)), (4, .pointer (some ⟨w1.heap.size, 0, none⟩)), (1, .pointer (some ⟨w.heap.size, 0, none⟩))]) rfl
        clear h347
        refine wpk_take hS321 h349 13 rfl rfl (by decide) (fr rfl) (by kernel_rfl) (by kernel_rfl) (by kernel_rfl) (fun _ _ _ _ h => h) (.bool rb) (Or.inl ⟨Eq.refl true, fun w1 hSw => (by cases hSw; exact (by show (execOp _ (⟨_, .assign (.tmp 208), _, _, _, _⟩ : Oper)).run _ _ = _; exact (by unfold execOp; simp only [h349.eval (k := 208) (v := .bool rb) (by simp)]; rfl)))⟩) fun a351 h350 => ?_
        refine wpAnyH_done (by kernel_rfl) ?_ _
        have h352 := h350.subs (l' := [(3, .bool rb), (2, .slice ba m20.b.length bc), (7, .bool rb), (6, .int .i64 (j : Int)), (5, .int .i64 ((4 : Nat) : Int)), (4, .pointer (some ⟨w1.heap.size, 0, none⟩)), (1, .pointer (some ⟨w.heap.size, 0, none⟩))]) rfl
        clear h350
        go_step
        go_step
        go_step
        refine bodyPost_ret (results_tmp2 rfl (h352.known (2, .slice ba m20.b.length bc) (by simp)) (h352.known (3, .bool rb) (by simp))) h352.defs ?_
        exact ⟨ba, bc, by rw [hno]; rfl, hoW.out.drew.low B1.out.size, B1.out.trans (B20x.out.mono B1.out.size)⟩
      | true =>
        refine wp_region_held_drew (S := fun w' => w' = w23.drew) (by kernel_rfl) rfl (fun hS353 => ?_)
        have B20x := hid HB20z.out.drew
        refine wpk_take hS353 h320 0 rfl rfl (by decide) (fr rfl) (by kernel_rfl) (by kernel_rfl) (by kernel_rfl) (fun _ _ _ _ h => h) (.pointer (some ⟨w1.heap.size, 0, none⟩)) (Or.inl ⟨Eq.refl true, fun w1 hSw => (by cases hSw; exact (by show (execOp _ (⟨_, .move (.tmp 4), _, _, _, _⟩ : Oper)).run _ _ = _; exact (by unfold execOp; simp only [h320.eval (k := 4) (v := .pointer (some ⟨w1.heap.size, 0, none⟩)) (by simp)]; rfl)))⟩) fun a355 h354 => ?_
        refine wpk_take hS353 h354 1 rfl rfl (by decide) (fr rfl) (by kernel_rfl) (by kernel_rfl) (by kernel_rfl) (fun _ _ _ _ h => h) (.pointer (some ⟨w1.heap.size, 0, none⟩)) (Or.inl ⟨Eq.refl true, fun w1 hSw => (by cases hSw; exact (by show (execOp _ (⟨_, .nilCheck (.tmp 197), _, _, _, _⟩ : Oper)).run _ _ = _; exact (by unfold execOp; simp only [h354.eval (k := 197) (v := .pointer (some ⟨w1.heap.size, 0, none⟩)) (by simp)]; exact rfl)))⟩) fun a357 h356 => ?_
        refine wpk_take hS353 h356 2 rfl rfl (by decide) (fr rfl) (by kernel_rfl) (by kernel_rfl) (by kernel_rfl) (fun _ _ _ _ h => h) (.pointer (some ⟨w1.heap.size, 0, none⟩)) (Or.inl ⟨Eq.refl true, fun w1 hSw => (by cases hSw; exact (by show (execOp _ (⟨_, .fieldAddr 83 (.tmp 198) 0, _, _, _, _⟩ : Oper)).run _ _ = _; exact (by unfold execOp; simp only [h356.eval (k := 198) (v := .pointer (some ⟨w1.heap.size, 0, none⟩)) (by simp)]; exact run_v (fa_83_0_0 (w1.heap.size) _))))⟩) fun a359 h358 => ?_
        refine wpk_take hS353 h358 3 rfl rfl (by decide) (fr rfl) (by kernel_rfl) (by kernel_rfl) (by kernel_rfl) (fun _ _ _ _ h => h) (.slice ba m20.b.length bc) (Or.inl ⟨Eq.refl true, fun w1 hSw => (by cases hSw; exact (by show (execOp _ (⟨_, .load 37 (.tmp 199), _, _, _, _⟩ : Oper)).run _ _ = _; exact (by unfold execOp; simp only [h358.eval (k := 199) (v := .pointer (some ⟨w1.heap.size, 0, none⟩)) (by simp)]; exact run_v (loadB ((Blk.drew hbW.out).cell (i := 0) (by simp))))))⟩) fun a361 h360 => ?_
        refine wpk_take hS353 h360 4 rfl rfl (by decide) (fr rfl) (by kernel_rfl) (by kernel_rfl) (by kernel_rfl) (fun _ _ _ _ h => h) (.pointer (some ⟨w1.heap.size, 0, none⟩)) (Or.inl ⟨Eq.refl true, fun w1 hSw => (by cases hSw; exact (by show (execOp _ (⟨_, .move (.tmp 4), _, _, _, _⟩ : Oper)).run _ _ = _; exact (by unfold execOp; simp only [h360.eval (k := 4) (v := .pointer (some ⟨w1.heap.size, 0, none⟩)) (by simp)]; rfl)))⟩) fun a363 h362 => ?_
        refine wpk_take hS353 h362 5 rfl rfl (by decide) (fr rfl) (by kernel_rfl) (by kernel_rfl) (by kernel_rfl) (fun _ _ _ _ h => h) (.pointer (some ⟨w1.heap.size, 0, none⟩)) (Or.inl ⟨Eq.refl true, fun w1 hSw => (by cases hSw; exact (by show (execOp _ (⟨_, .nilCheck (.tmp 201), _, _, _, _⟩ : Oper)).run _ _ = _; exact (by unfold execOp; simp only [h362.eval (k := 201) (v := .pointer (some ⟨w1.heap.size, 0, none⟩)) (by simp)]; exact rfl)))⟩) fun a365 h364 => ?_
        refine wpk_take hS353 h364 6 rfl rfl (by decide) (fr rfl) (by kernel_rfl) (by kernel_rfl) (by kernel_rfl) (fun _ _ _ _ h => h) (.pointer (some ⟨w1.heap.size, 1, none⟩)) (Or.inl ⟨Eq.refl true, fun w1 hSw => (by cases hSw; exact (by show (execOp _ (⟨_, .fieldAddr 83 (.tmp 202) 1, _, _, _, _⟩ : Oper)).run _ _ = _; exact (by unfold execOp; simp only [h364.eval (k := 202) (v := .pointer (some ⟨w1.heap.size, 0, none⟩)) (by simp)]; exact run_v (fa_83_0_1 (w1.heap.size) _))))⟩) fun a367 h366 => ?_
        refine wpk_take hS353 h366 7 rfl rfl (by decide) (fr rfl) (by kernel_rfl) (by kernel_rfl) (by kernel_rfl) (fun _ _ _ _ h => h) (.bool true) (Or.inl ⟨Eq.refl true, fun w1 hSw => (by cases hSw; exact (by show (execOp _ (⟨_, .load 4 (.tmp 203), _, _, _, _⟩ : Oper)).run _ _ = _; exact (by unfold execOp; simp only [h366.eval (k := 203) (v := .pointer (some ⟨w1.heap.size, 1, none⟩)) (by simp)]; exact run_v (loadBo (by rw [(Blk.drew hbW.out).cell (i := 1) (by simp)]; simp [hno])))))⟩) fun a369 h368 => ?_
        refine wpk_take hS353 h368 8 rfl rfl (by decide) (fr rfl) (by kernel_rfl) (by kernel_rfl) (by kernel_rfl) (fun _ _ _ _ h => h) (.bool false) (Or.inl ⟨Eq.refl true, fun w1 hSw => (by cases hSw; exact (by show (execOp _ (⟨_, .unOp .not 4 (.tmp 204), _, _, _, _⟩ : Oper)).run _ _ = _; exact (run_not rfl (h368.eval (k := 204) (v := .bool true) (by simp)))))⟩) fun a371 h370 => ?_
        refine wpk_take hS353 h370 9 rfl rfl (by decide) (fr rfl) (by kernel_rfl) (by kernel_rfl) (by kernel_rfl) (fun _ _ _ _ h => h) (.bool false) (Or.inl ⟨Eq.refl true, fun w1 hSw => (by cases hSw; exact (by show (execOp _ (⟨_, .move (.tmp 205), _, _, _, _⟩ : Oper)).run _ _ = _; exact (by unfold execOp; simp only [h370.eval (k := 205) (v := .bool false) (by simp)]; rfl)))⟩) fun a373 h372 => ?_
        refine wpk_take hS353 h372 10 rfl rfl (by decide) (fr rfl) (by kernel_rfl) (by kernel_rfl) (by kernel_rfl) (fun _ _ _ _ h => h) undef (Or.inr ⟨(by rw [wanted_of (g := 9) (want := true) (b := false) rfl (h372.yields (prev := 206) rfl (by simp))]; rfl), rfl⟩) fun a375 h374 => ?_
        refine wpk_take hS353 h374 11 rfl rfl (by decide) (fr rfl) (by kernel_rfl) (by kernel_rfl) (by kernel_rfl) (fun _ _ _ _ h => h) (.bool false) (Or.inl ⟨Eq.refl true, fun w1 hSw => (by cases hSw; exact (by show (execOp _ (⟨_, .pick (.tmp 206) (.tmp 207) (.const (.bool false)), _, _, _, _⟩ : Oper)).run _ _ = _; exact (run_pick rfl (h374.eval (k := 206) (v := .bool false) (by simp)) rfl)))⟩) fun a377 h376 => ?_
        have h378 := h376.subs (l' := [(208, .bool false), (207, undef), (206, .bool false), (205, .bool false), (204, .bool true), (203, .pointer (some ⟨w1.heap.size, 1, none⟩)), (202, .pointer (some ⟨w1.heap.size, 0, none⟩)), (201, .pointer (some ⟨w1.heap.size, 0, none⟩)), (200, .slice ba m20.b.length bc), (199, .pointer (some ⟨w1.heap.size, 0, none⟩)), (198, .pointer (some ⟨w1.heap.size, 0, none⟩)), (197, .pointer (some ⟨w1.heap.size, 0, none⟩)), (7, .bool rb), (6, .int .i64 (j : Int)), (5, .int .i64 ((4 : Nat) : Int)), (4, .pointer (some ⟨w1.heap.size, 0, none⟩)), (3, .bool false), (1, .pointer (some ⟨w.heap.size, 0, none⟩))]) rfl
        clear h376
        refine wpk_take hS353 h378 12 rfl rfl (by decide) (fr rfl) (by kernel_rfl) (by kernel_rfl) (by kernel_rfl) (fun _ _ _ _ h => h) (.slice ba m20.b.length bc) (Or.inl ⟨Eq.refl true, fun w1 hSw => (by cases hSw; exact (by show (execOp _ (⟨_, .assign (.tmp 200), _, _, _, _⟩ : Oper)).run _ _ = _; exact (by unfold execOp; simp only [h378.eval (k := 200) (v := .slice ba m20.b.length bc) (by simp)]; rfl)))⟩) fun a380 h379 => ?_
        have h381 := h379.subs (l' := [(2, .slice ba m20.b.length bc), (208, .bool false), (207, undef), (206, .bool false), (205, .bool false), (204, .bool true), (203, .pointer (some ⟨w1.heap.size, 1, none⟩)), (202, .pointer (some ⟨w1.heap.size, 0, none⟩)), (201, .pointer (some ⟨w1.heap.size, 0, none⟩)), (200, .slice ba m20.b.length bc), (199, .pointer (some ⟨w1.heap.size, 0, none⟩)), (198, .pointer (some ⟨w1.heap.size, 0, none⟩)), (197, .pointer (some ⟨w1.heap.size, 0, none⟩)), (7, .bool rb), (6, .int .i64 (j : Int)), (5, .int .i64 ((4 : Nat) : Int)), (4, .pointer (some ⟨w1.heap.size, 0, none⟩)), (1, .pointer (some ⟨w.heap.size, 0, none⟩))]) rfl
        clear h379
        refine wpk_take hS353 h381 13 rfl rfl (by decide) (fr rfl) (by kernel_rfl) (by kernel_rfl) (by kernel_rfl) (fun _ _ _ _ h => h) (.bool false) (Or.inl ⟨Eq.refl true, fun w1 hSw => (by cases hSw; exact (by show (execOp _ (⟨_, .assign (.tmp 208), _, _, _, _⟩ : Oper)).run _ _ = _; exact (by unfold execOp; simp only [h381.eval (k := 208) (v := .bool false) (by simp)]; rfl)))⟩) fun a383 h382 => ?_
        refine wpAnyH_done (by kernel_rfl) ?_ _
        have h384 := h382.subs (l' := [(3, .bool false), (2, .slice ba m20.b.length bc), (7, .bool rb), (6, .int .i64 (j : Int)), (5, .int .i64 ((4 : Nat) : Int)), (4, .pointer (some ⟨w1.heap.size, 0, none⟩)), (1, .pointer (some ⟨w.heap.size, 0, none⟩))]) rfl
        clear h382
        go_step
        go_step
        go_step
        refine bodyPost_ret (results_tmp2 rfl (h384.known (2, .slice ba m20.b.length bc) (by simp)) (h384.known (3, .bool false) (by simp))) h384.defs ?_
        exact ⟨ba, bc, by rw [hno]; rfl, hoW.out.drew.low B1.out.size, B1.out.trans (B20x.out.mono B1.out.size)⟩
end Go.Proofs.Ytanediaaidfcaaa
