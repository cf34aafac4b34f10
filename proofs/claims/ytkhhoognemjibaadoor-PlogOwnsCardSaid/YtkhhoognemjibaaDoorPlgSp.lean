/- Patches compared. (genPlgSp.py) -/
import Derived.Test.YtkhhoognemjibaaDoorPlgEr
import Derived.Test.YtkhhoognemjibaaDoorPlgMd
namespace Go.Proofs.YtkhhoognemjibaaDoor
open Go.RowKit
set_option linter.unusedSimpArgs false
set_option linter.unusedVariables false
set_option maxRecDepth 100000

theorem eqPtN (x y : Operand) (p : PtM) (w : World) : (do eqGuard .neq 46 x y (ptV p) (ptV p); binOp .neq 46 (ptV p) (ptV p) : Sem Value).run Tryd.prog w = .ok (.bool false) w := by
  have u1 := Tryd.underlying46
  have a1 := Tryd.isAgg46
  have u2 := Tryd.underlying3
  have u3 := Tryd.underlying9
  have z1 := Tryd.sizeOf46
  have z2 := Tryd.sizeOf3
  have z3 := Tryd.sizeOf9
  unfold ptV ptC strB
  generalize bsB p.d = s
  generalize p.at_ = n
  go_simp
theorem rowPt_rg {w : World} {a : Option Addr} {c : Nat} {L : List PtM} (r : RowPt w a c L) {j : Nat} (hj : j < L.length) {pb poff : Nat} (ha : a = some ⟨pb, poff, none⟩) : w.rangeAt pb (poff + j * 2) (ptC L[j]) := by
  obtain ⟨b, off, e, h⟩ := rowPt_at r (by omega)
  rw [ha] at e
  cases e
  exact h j hj
set_option maxHeartbeats 4000000 in
theorem samePts_eq {w : World} {a b : Option Addr} {c d : Nat} {L : List PtM} (hA : RowPt w a c L) (hBR : RowPt w b d L) (hl : L.length ≤ 1000000) :
    Calls Tryd.prog 16 #[.slice a L.length c, .slice b L.length d] w fun e w' => e = .returned (.bool true) ∧ Below w.heap.size w w' := by
  have HA := hid hA; have HBR := hid hBR
  clear hA hBR
  go_enter Tryd.func16, Tryd.ntmps16
  go_step
  go_step
  go_step
  refine wpk_enter (N := 26) (l := [(0, .slice a L.length c), (1, .slice b L.length d)]) ⟨rfl, (by intro x hx; simp only [List.mem_cons, List.not_mem_nil, or_false] at hx; rcases hx with rfl | rfl <;> rfl), rfl⟩ fun a2 h1 => ?_
  refine wv h1 rfl rfl rfl rfl (.bool false) rfl fun a4 h3 => ?_
  go_step
  go_step
  go_step
  go_step
  have hne : ((L.length : Int) != (L.length : Int)) = false := by simp
  go_step
  go_step
  refine wmv h3 rfl rfl rfl rfl (k := 0) (.slice a L.length c) (by simp) (fun _ => rfl) fun a6 h5 => ?_
  refine wv h5 rfl rfl rfl rfl (.int .i64 (L.length : Int)) (run_lenP rfl (h5.eval (k := 6) (v := .slice a L.length c) (by simp)) _) fun a8 h7 => ?_
  refine wmv h7 rfl rfl rfl rfl (k := 1) (.slice b L.length d) (by simp) (fun _ => rfl) fun a10 h9 => ?_
  refine wv h9 rfl rfl rfl rfl (.int .i64 (L.length : Int)) (run_lenP rfl (h9.eval (k := 8) (v := .slice b L.length d) (by simp)) _) fun a12 h11 => ?_
  refine wv h11 rfl rfl rfl rfl (.bool false) (by unfold execOp; simp only [h11.eval (k := 7) (v := .int .i64 (L.length : Int)) (by simp), h11.eval (k := 9) (v := .int .i64 (L.length : Int)) (by simp)]; exact run_v (neqIP _ _ _ _ _ hne)) fun a14 h13 => ?_
  have h15 := h13.subs (l' := [(10, .bool false), (4, .bool false), (0, .slice a L.length c), (1, .slice b L.length d)]) rfl
  clear h13
  go_step
  go_step
  go_step
  refine wp_cond (t := false) (h15.eval (k := 10) (v := .bool false) (by simp)) ?_
  simp only [Bool.false_eq_true, if_false]
  have h16 := h15.subs (l' := [(4, .bool false), (0, .slice a L.length c), (1, .slice b L.length d)]) rfl
  clear h15
  go_step
  go_step
  go_step
  go_step
  go_step
  go_step
  refine wv h16 rfl rfl rfl rfl (.int .i64 0) rfl fun a18 h17 => ?_
  go_step
  go_step
  go_step
  go_step
  have h19 := h17.subs (l' := [(5, .int .i64 0), (0, .slice a L.length c), (1, .slice b L.length d)]) rfl
  clear h17
  refine wp_loop (I := fun a' w' => ∃ j : Nat, j ≤ L.length ∧ Kn 26 [(5, .int .i64 (j : Int)), (0, .slice a L.length c), (1, .slice b L.length d)] a' ∧ Below w.heap.size w w') (μ := fun a' _ => L.length - (intOf (a'.eval (.tmp 5))).toNat) ⟨0, by omega, h19, Below.refl _ _⟩ ?_
  clear h19
  rintro aL aw ⟨j, hj, hK, hb⟩
  have HB := hid hb; clear hb
  by_cases hlt : j < L.length
  · have hd0 : decide ((j : Int) < (L.length : Int)) = true := decide_eq_true (by omega)
    obtain ⟨pa, oa, ha0, _⟩ := rowPt_at HA.out (by omega)
    obtain ⟨pb, ob, hb0, _⟩ := rowPt_at HBR.out (by omega)
    obtain ⟨p, hp⟩ : ∃ p, p = L[j] := ⟨_, rfl⟩
    have HPJ := hid hp; clear hp
    go_step
    go_step
    go_step
    go_step
    refine wmv hK rfl rfl rfl rfl (k := 5) (.int .i64 (j : Int)) (by simp) (fun _ => rfl) fun a21 h20 => ?_
    refine wmv h20 rfl rfl rfl rfl (k := 0) (.slice a L.length c) (by simp) (fun _ => rfl) fun a23 h22 => ?_
    refine wv h22 rfl rfl rfl rfl (.int .i64 (L.length : Int)) (run_lenP rfl (h22.eval (k := 12) (v := .slice a L.length c) (by simp)) _) fun a25 h24 => ?_
    refine wv h24 rfl rfl rfl rfl (.bool true) (by unfold execOp; simp only [h24.eval (k := 11) (v := .int .i64 (j : Int)) (by simp), h24.eval (k := 13) (v := .int .i64 (L.length : Int)) (by simp)]; exact run_v (ltIP _ _ _ _ _ hd0)) fun a27 h26 => ?_
    have h28 := h26.subs (l' := [(14, .bool true), (5, .int .i64 (j : Int)), (0, .slice a L.length c), (1, .slice b L.length d)]) rfl
    clear h26
    go_step
    go_step
    go_step
    refine wp_cond (t := true) (h28.eval (k := 14) (v := .bool true) (by simp)) ?_
    simp only [if_true]
    have h29 := h28.subs (l' := [(5, .int .i64 (j : Int)), (0, .slice a L.length c), (1, .slice b L.length d)]) rfl
    clear h28
    go_step
    go_step
    go_step
    go_step
    go_step
    go_step
    refine wp_region_held_drew (S := fun w' => w' = aw.drew) (by kernel_rfl) rfl (fun hS30 => ?_)
    have hra := (rowPt_rg (HA.out.mono (HB.out.drew)) hlt ha0); have hrb := (rowPt_rg (HBR.out.mono (HB.out.drew)) hlt hb0)
    rw [← HPJ.out] at hra hrb
    refine wpk_take hS30 h29 0 rfl rfl (by decide) (fr rfl) (by kernel_rfl) (by kernel_rfl) (by kernel_rfl) (fun _ _ _ _ h => h) (.slice a L.length c) (Or.inl ⟨Eq.refl true, fun w1 hSw => (by cases hSw; exact (by show (execOp _ (⟨_, .move (.tmp 0), _, _, _, _⟩ : Oper)).run _ _ = _; exact (by unfold execOp; simp only [h29.eval (k := 0) (v := .slice a L.length c) (by simp)]; rfl)))⟩) fun a32 h31 => ?_
    refine wpk_take hS30 h31 1 rfl rfl (by decide) (fr rfl) (by kernel_rfl) (by kernel_rfl) (by kernel_rfl) (fun _ _ _ _ h => h) (.int .i64 (j : Int)) (Or.inl ⟨Eq.refl true, fun w1 hSw => (by cases hSw; exact (by show (execOp _ (⟨_, .move (.tmp 5), _, _, _, _⟩ : Oper)).run _ _ = _; exact (by unfold execOp; simp only [h31.eval (k := 5) (v := .int .i64 (j : Int)) (by simp)]; rfl)))⟩) fun a34 h33 => ?_
    refine wpk_take hS30 h33 2 rfl rfl (by decide) (fr rfl) (by kernel_rfl) (by kernel_rfl) (by kernel_rfl) (fun _ _ _ _ h => h) (.pointer (some ⟨pa, oa + j * 2, none⟩)) (Or.inl ⟨Eq.refl true, fun w1 hSw => (by cases hSw; exact (by show (execOp _ (⟨_, .indexAddr 22 (.tmp 17) (.tmp 18), _, _, _, _⟩ : Oper)).run _ _ = _; exact (by unfold execOp; simp only [h33.eval (k := 17) (v := .slice a L.length c) (by simp), h33.eval (k := 18) (v := .int .i64 (j : Int)) (by simp)]; exact run_v (by rw [ha0]; exact ixP _ _ _ _ j hlt _))))⟩) fun a36 h35 => ?_
    refine wpk_take hS30 h35 3 rfl rfl (by decide) (fr rfl) (by kernel_rfl) (by kernel_rfl) (by kernel_rfl) (fun _ _ _ _ h => h) (ptV p) (Or.inl ⟨Eq.refl true, fun w1 hSw => (by cases hSw; exact (by show (execOp _ (⟨_, .load 46 (.tmp 19), _, _, _, _⟩ : Oper)).run _ _ = _; exact (by unfold execOp; simp only [h35.eval (k := 19) (v := .pointer (some ⟨pa, oa + j * 2, none⟩)) (by simp)]; exact run_v (run_loadAt_mid _ _ _ _ (ptC p) _ hra Tryd.underlying46 rfl (by rw [infoPt]; rfl)))))⟩) fun a38 h37 => ?_
    refine wpk_take hS30 h37 4 rfl rfl (by decide) (fr rfl) (by kernel_rfl) (by kernel_rfl) (by kernel_rfl) (fun _ _ _ _ h => h) (.slice b L.length d) (Or.inl ⟨Eq.refl true, fun w1 hSw => (by cases hSw; exact (by show (execOp _ (⟨_, .move (.tmp 1), _, _, _, _⟩ : Oper)).run _ _ = _; exact (by unfold execOp; simp only [h37.eval (k := 1) (v := .slice b L.length d) (by simp)]; rfl)))⟩) fun a40 h39 => ?_
    refine wpk_take hS30 h39 5 rfl rfl (by decide) (fr rfl) (by kernel_rfl) (by kernel_rfl) (by kernel_rfl) (fun _ _ _ _ h => h) (.int .i64 (j : Int)) (Or.inl ⟨Eq.refl true, fun w1 hSw => (by cases hSw; exact (by show (execOp _ (⟨_, .move (.tmp 5), _, _, _, _⟩ : Oper)).run _ _ = _; exact (by unfold execOp; simp only [h39.eval (k := 5) (v := .int .i64 (j : Int)) (by simp)]; rfl)))⟩) fun a42 h41 => ?_
    refine wpk_take hS30 h41 6 rfl rfl (by decide) (fr rfl) (by kernel_rfl) (by kernel_rfl) (by kernel_rfl) (fun _ _ _ _ h => h) (.pointer (some ⟨pb, ob + j * 2, none⟩)) (Or.inl ⟨Eq.refl true, fun w1 hSw => (by cases hSw; exact (by show (execOp _ (⟨_, .indexAddr 22 (.tmp 21) (.tmp 22), _, _, _, _⟩ : Oper)).run _ _ = _; exact (by unfold execOp; simp only [h41.eval (k := 21) (v := .slice b L.length d) (by simp), h41.eval (k := 22) (v := .int .i64 (j : Int)) (by simp)]; exact run_v (by rw [hb0]; exact ixP _ _ _ _ j hlt _))))⟩) fun a44 h43 => ?_
    refine wpk_take hS30 h43 7 rfl rfl (by decide) (fr rfl) (by kernel_rfl) (by kernel_rfl) (by kernel_rfl) (fun _ _ _ _ h => h) (ptV p) (Or.inl ⟨Eq.refl true, fun w1 hSw => (by cases hSw; exact (by show (execOp _ (⟨_, .load 46 (.tmp 23), _, _, _, _⟩ : Oper)).run _ _ = _; exact (by unfold execOp; simp only [h43.eval (k := 23) (v := .pointer (some ⟨pb, ob + j * 2, none⟩)) (by simp)]; exact run_v (run_loadAt_mid _ _ _ _ (ptC p) _ hrb Tryd.underlying46 rfl (by rw [infoPt]; rfl)))))⟩) fun a46 h45 => ?_
    refine wpk_take hS30 h45 8 rfl rfl (by decide) (fr rfl) (by kernel_rfl) (by kernel_rfl) (by kernel_rfl) (fun _ _ _ _ h => h) (.bool false) (Or.inl ⟨Eq.refl true, fun w1 hSw => (by cases hSw; exact (by show (execOp _ (⟨_, .binOp .neq 46 (.tmp 20) (.tmp 24) 46, _, _, _, _⟩ : Oper)).run _ _ = _; exact (by unfold execOp; simp only [h45.eval (k := 20) (v := ptV p) (by simp), h45.eval (k := 24) (v := ptV p) (by simp)]; exact run_v (eqPtN _ _ _ _))))⟩) fun a48 h47 => ?_
    refine wpAnyH_done (by kernel_rfl) ?_ _
    have h49 := h47.subs (l' := [(25, .bool false), (5, .int .i64 (j : Int)), (0, .slice a L.length c), (1, .slice b L.length d)]) rfl
    clear h47
    go_step
    go_step
    refine wp_cond (t := false) (h49.eval (k := 25) (v := .bool false) (by simp)) ?_
    simp only [Bool.false_eq_true, if_false]
    have h50 := h49.subs (l' := [(5, .int .i64 (j : Int)), (0, .slice a L.length c), (1, .slice b L.length d)]) rfl
    clear h49
    go_step
    go_step
    go_step
    go_step
    refine wmv h50 rfl rfl rfl rfl (k := 5) (.int .i64 (j : Int)) (by simp) (fun _ => rfl) fun a52 h51 => ?_
    refine wv h51 rfl rfl rfl rfl (.int .i64 ((j + 1 : Nat) : Int)) (by unfold execOp; simp only [h51.eval (k := 15) (v := .int .i64 (j : Int)) (by simp)]; exact run_v (addIP _ _ j (by omega) _)) fun a54 h53 => ?_
    have h55 := h53.subs (l' := [(16, .int .i64 ((j + 1 : Nat) : Int)), (15, .int .i64 (j : Int)), (0, .slice a L.length c), (1, .slice b L.length d)]) rfl
    clear h53
    refine wmv h55 rfl rfl rfl rfl (k := 16) (.int .i64 ((j + 1 : Nat) : Int)) (by simp) (fun _ => rfl) fun a57 h56 => ?_
    have h58 := h56.subs (l' := [(5, .int .i64 ((j + 1 : Nat) : Int)), (0, .slice a L.length c), (1, .slice b L.length d)]) rfl
    clear h56
    go_step
    go_step
    refine ⟨⟨j + 1, by omega, h58.subs rfl, HB.out.drew⟩, ?_⟩
    rw [h58.eval (k := 5) (v := .int .i64 ((j + 1 : Nat) : Int)) (by simp), hK.eval (k := 5) (v := .int .i64 (j : Int)) (by simp)]; simp [intOf]; omega
  · have hd0 : decide ((j : Int) < (L.length : Int)) = false := decide_eq_false (by omega)
    go_step
    go_step
    go_step
    go_step
    refine wmv hK rfl rfl rfl rfl (k := 5) (.int .i64 (j : Int)) (by simp) (fun _ => rfl) fun a60 h59 => ?_
    refine wmv h59 rfl rfl rfl rfl (k := 0) (.slice a L.length c) (by simp) (fun _ => rfl) fun a62 h61 => ?_
    refine wv h61 rfl rfl rfl rfl (.int .i64 (L.length : Int)) (run_lenP rfl (h61.eval (k := 12) (v := .slice a L.length c) (by simp)) _) fun a64 h63 => ?_
    refine wv h63 rfl rfl rfl rfl (.bool false) (by unfold execOp; simp only [h63.eval (k := 11) (v := .int .i64 (j : Int)) (by simp), h63.eval (k := 13) (v := .int .i64 (L.length : Int)) (by simp)]; exact run_v (ltIP _ _ _ _ _ hd0)) fun a66 h65 => ?_
    have h67 := h65.subs (l' := [(14, .bool false), (5, .int .i64 (j : Int)), (0, .slice a L.length c), (1, .slice b L.length d)]) rfl
    clear h65
    go_step
    go_step
    go_step
    refine wp_cond (t := false) (h67.eval (k := 14) (v := .bool false) (by simp)) ?_
    simp only [Bool.false_eq_true, if_false]
    have h68 := h67.subs (l' := [(5, .int .i64 (j : Int)), (0, .slice a L.length c), (1, .slice b L.length d)]) rfl
    clear h67
    go_step
    go_step
    go_step
    go_step
    go_step
    go_step
    go_step
    refine wv h68 rfl rfl rfl rfl (.bool true) rfl fun a70 h69 => ?_
    go_step
    go_step
    go_step
    go_step
    exact bodyPost_ret (results_tmp1 rfl (h69.known (4, .bool true) (by simp))) h69.defs ⟨rfl, HB.out⟩
set_option maxHeartbeats 4000000 in
theorem samePts_ne {w : World} {a b : Option Addr} {c d n m : Nat} (h : n ≠ m) :
    Calls Tryd.prog 16 #[.slice a n c, .slice b m d] w fun e w' => e = .returned (.bool false) ∧ w = w' := by
  go_enter Tryd.func16, Tryd.ntmps16
  go_step
  go_step
  go_step
  refine wpk_enter (N := 26) (l := [(0, .slice a n c), (1, .slice b m d)]) ⟨rfl, (by intro x hx; simp only [List.mem_cons, List.not_mem_nil, or_false] at hx; rcases hx with rfl | rfl <;> rfl), rfl⟩ fun a2 h1 => ?_
  refine wv h1 rfl rfl rfl rfl (.bool false) rfl fun a4 h3 => ?_
  go_step
  go_step
  go_step
  go_step
  have hne : ((n : Int) != (m : Int)) = true := by simp only [bne_iff_ne, ne_eq]; omega
  go_step
  go_step
  refine wmv h3 rfl rfl rfl rfl (k := 0) (.slice a n c) (by simp) (fun _ => rfl) fun a6 h5 => ?_
  refine wv h5 rfl rfl rfl rfl (.int .i64 (n : Int)) (run_lenP rfl (h5.eval (k := 6) (v := .slice a n c) (by simp)) _) fun a8 h7 => ?_
  refine wmv h7 rfl rfl rfl rfl (k := 1) (.slice b m d) (by simp) (fun _ => rfl) fun a10 h9 => ?_
  refine wv h9 rfl rfl rfl rfl (.int .i64 (m : Int)) (run_lenP rfl (h9.eval (k := 8) (v := .slice b m d) (by simp)) _) fun a12 h11 => ?_
  refine wv h11 rfl rfl rfl rfl (.bool true) (by unfold execOp; simp only [h11.eval (k := 7) (v := .int .i64 (n : Int)) (by simp), h11.eval (k := 9) (v := .int .i64 (m : Int)) (by simp)]; exact run_v (neqIP _ _ _ _ _ hne)) fun a14 h13 => ?_
  have h15 := h13.subs (l' := [(10, .bool true), (4, .bool false), (0, .slice a n c), (1, .slice b m d)]) rfl
  clear h13
  go_step
  go_step
  go_step
  refine wp_cond (t := true) (h15.eval (k := 10) (v := .bool true) (by simp)) ?_
  simp only [if_true]
  have h16 := h15.subs (l' := [(4, .bool false), (0, .slice a n c), (1, .slice b m d)]) rfl
  clear h15
  go_step
  go_step
  have h17 := h16.subs (l' := [(0, .slice a n c), (1, .slice b m d)]) rfl
  clear h16
  refine wv h17 rfl rfl rfl rfl (.bool false) rfl fun a19 h18 => ?_
  go_step
  go_step
  go_step
  go_step
  simp only [Exit.then, Exit.inBlock]
  exact bodyPost_ret (results_tmp1 rfl (h18.known (4, .bool false) (by simp))) h18.defs ⟨rfl, rfl⟩
end Go.Proofs.YtkhhoognemjibaaDoor
