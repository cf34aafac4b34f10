/- Patches compared. (genPlgSp.py) -/
import Derived.Test.YtkhhoognemjibaaDoorPlgEr
import Derived.Test.YtkhhoognemjibaaDoorPlgMd
namespace Go.Proofs.YtkhhoognemjibaaDoor
open Go.RowKit
set_option linter.unusedSimpArgs false
set_option linter.unusedVariables false
set_option maxRecDepth 100000

theorem eqPtN (x y : Operand) (p : PtM) (w : World) : (do eqGuard .neq 46 x y (ptV p) (ptV p); binOp .neq 46 (ptV p) (ptV p) : Sem Value).run Tryd.prog w = .ok (.bool false) w := by
  have u1 := Tryd.underlying46
  have a1 := Tryd.isAgg46
  have u2 := Tryd.underlying3
  have u3 := Tryd.underlying9
  have z1 := Tryd.sizeOf46
  have z2 := Tryd.sizeOf3
  have z3 := Tryd.sizeOf9
  unfold ptV ptC strB
  generalize bsB p.d = s
  generalize p.at_ = n
  go_simp
theorem rowPt_rg {w : World} {a : Option Addr} {c : Nat} {L : List PtM} (r : RowPt w a c L) {j : Nat} (hj : j < L.length) {pb poff : Nat} (ha : a = some ⟨pb, poff, none⟩) : w.rangeAt pb (poff + j * 2) (ptC L[j]) := by
  obtain ⟨b, off, e, h⟩ := rowPt_at r (by omega)
  rw [ha] at e
  cases e
  exact h j hj
set_option maxHeartbeats 4000000 in
theorem samePts_eq {w : World} {a b : Option Addr} {c d : Nat} {L : List PtM} (hA : RowPt w a c L) (hBR : RowPt w b d L) (hl : L.length ≤ 1000000) :
    Calls Tryd.prog 16 #[.slice a L.length c, .slice b L.length d] w fun e w' => e = .returned (.bool true) ∧ Below w.heap.size w w' := by
  have HA := hid hA; have HBR := hid hBR
  clear hA hBR
  go_enter Tryd.func16, Tryd.ntmps16
  iterate 3 go_step
  refine wpk_enter (N := 26) (l := [(0, .slice a L.length c), (1, .slice b L.length d)]) ⟨rfl, (by intro x hx; simp only [List.mem_cons, List.not_mem_nil, or_false] at hx; rcases hx with rfl | rfl <;> rfl), rfl⟩ fun a2 h1 => ?_
  refine wv h1 rfl rfl rfl rfl (.bool false) rfl fun a4 h3 => ?_
  iterate 4 go_step
  have hne : ((L.length : Int) != (L.length : Int)) = false := by simp
  iterate 2 go_step
  refine wmk h3 rfl rfl rfl rfl 0 rfl (fun _ => rfl) fun a6 h5 => ?_
  refine wv h5 rfl rfl rfl rfl (.int .i64 (L.length : Int)) (run_lenP rfl (h5.ev 6 rfl) _) fun a8 h7 => ?_
  refine wmk h7 rfl rfl rfl rfl 1 rfl (fun _ => rfl) fun a10 h9 => ?_
  refine wv h9 rfl rfl rfl rfl (.int .i64 (L.length : Int)) (run_lenP rfl (h9.ev 8 rfl) _) fun a12 h11 => ?_
  refine wv h11 rfl rfl rfl rfl (.bool false) (by unfold execOp; simp only [h11.ev 7 rfl, h11.ev 9 rfl]; exact run_v (neqIP _ _ _ _ _ hne)) fun a14 h13 => ?_
  have h15 := h13.subs (l' := [(10, _), (4, _), (0, _), (1, _)]) rfl
  clear h13
  iterate 3 go_step
  refine wp_cond (t := false) (h15.ev 10 rfl) ?_
  simp only [Bool.false_eq_true, if_false]
  have h16 := h15.subs (l' := [(4, _), (0, _), (1, _)]) rfl
  clear h15
  iterate 6 go_step
  refine wv h16 rfl rfl rfl rfl (.int .i64 0) rfl fun a18 h17 => ?_
  iterate 4 go_step
  have h19 := h17.subs (l' := [(5, _), (0, _), (1, _)]) rfl
  clear h17
  refine wp_loop (I := fun a' w' => ∃ j : Nat, j ≤ L.length ∧ Kn 26 [(5, .int .i64 (j : Int)), (0, .slice a L.length c), (1, .slice b L.length d)] a' ∧ Below w.heap.size w w') (μ := fun a' _ => L.length - (intOf (a'.eval (.tmp 5))).toNat) ⟨0, by omega, h19, Below.refl _ _⟩ ?_
  clear h19
  rintro aL aw ⟨j, hj, hK, hb⟩
  have HB := hid hb; clear hb
  by_cases hlt : j < L.length
  · have hd0 : decide ((j : Int) < (L.length : Int)) = true := decide_eq_true (by omega)
    obtain ⟨pa, oa, ha0, _⟩ := rowPt_at HA.out (by omega)
    obtain ⟨pb, ob, hb0, _⟩ := rowPt_at HBR.out (by omega)
    obtain ⟨p, hp⟩ : ∃ p, p = L[j] := ⟨_, rfl⟩
    have HPJ := hid hp; clear hp
    iterate 4 go_step
    refine wmk hK rfl rfl rfl rfl 5 rfl (fun _ => rfl) fun a21 h20 => ?_
    refine wmk h20 rfl rfl rfl rfl 0 rfl (fun _ => rfl) fun a23 h22 => ?_
    refine wv h22 rfl rfl rfl rfl (.int .i64 (L.length : Int)) (run_lenP rfl (h22.ev 12 rfl) _) fun a25 h24 => ?_
    refine wv h24 rfl rfl rfl rfl (.bool true) (by unfold execOp; simp only [h24.ev 11 rfl, h24.ev 13 rfl]; exact run_v (ltIP _ _ _ _ _ hd0)) fun a27 h26 => ?_
    have h28 := h26.subs (l' := [(14, _), (5, _), (0, _), (1, _)]) rfl
    clear h26
    iterate 3 go_step
    refine wp_cond (t := true) (h28.ev 14 rfl) ?_
    simp only [if_true]
    have h29 := h28.subs (l' := [(5, _), (0, _), (1, _)]) rfl
    clear h28
    iterate 6 go_step
    refine wp_region_held_drew (S := fun w' => w' = aw.drew) (by kernel_rfl) rfl (fun hS30 => ?_)
    have hra := (rowPt_rg (HA.out.mono (HB.out.drew)) hlt ha0); have hrb := (rowPt_rg (HBR.out.mono (HB.out.drew)) hlt hb0)
    rw [← HPJ.out] at hra hrb
    refine wpk_take hS30 h29 0 rfl rfl (by decide) (fr rfl) (by kernel_rfl) (by kernel_rfl) (by kernel_rfl) (fun _ _ _ _ h => h) (.slice a L.length c) (Or.inl ⟨Eq.refl true, fun w1 hSw => (by cases hSw; exact (by show (execOp _ (⟨_, .move (.tmp 0), _, _, _, _⟩ : Oper)).run _ _ = _; exact (by unfold execOp; simp only [h29.ev 0 rfl]; rfl)))⟩) fun a32 h31 => ?_
    refine wpk_take hS30 h31 1 rfl rfl (by decide) (fr rfl) (by kernel_rfl) (by kernel_rfl) (by kernel_rfl) (fun _ _ _ _ h => h) (.int .i64 (j : Int)) (Or.inl ⟨Eq.refl true, fun w1 hSw => (by cases hSw; exact (by show (execOp _ (⟨_, .move (.tmp 5), _, _, _, _⟩ : Oper)).run _ _ = _; exact (by unfold execOp; simp only [h31.ev 5 rfl]; rfl)))⟩) fun a34 h33 => ?_
    refine wpk_take hS30 h33 2 rfl rfl (by decide) (fr rfl) (by kernel_rfl) (by kernel_rfl) (by kernel_rfl) (fun _ _ _ _ h => h) (.pointer (some ⟨pa, oa + j * 2, none⟩)) (Or.inl ⟨Eq.refl true, fun w1 hSw => (by cases hSw; exact (by show (execOp _ (⟨_, .indexAddr 22 (.tmp 17) (.tmp 18), _, _, _, _⟩ : Oper)).run _ _ = _; exact (by unfold execOp; simp only [h33.ev 17 rfl, h33.ev 18 rfl]; exact run_v (by rw [ha0]; exact ixP _ _ _ _ j hlt _))))⟩) fun a36 h35 => ?_
    refine wpk_take hS30 h35 3 rfl rfl (by decide) (fr rfl) (by kernel_rfl) (by kernel_rfl) (by kernel_rfl) (fun _ _ _ _ h => h) (ptV p) (Or.inl ⟨Eq.refl true, fun w1 hSw => (by cases hSw; exact (by show (execOp _ (⟨_, .load 46 (.tmp 19), _, _, _, _⟩ : Oper)).run _ _ = _; exact (by unfold execOp; simp only [h35.ev 19 rfl]; exact run_v (run_loadAt_mid _ _ _ _ (ptC p) _ hra Tryd.underlying46 rfl (by rw [infoPt]; rfl)))))⟩) fun a38 h37 => ?_
    refine wpk_take hS30 h37 4 rfl rfl (by decide) (fr rfl) (by kernel_rfl) (by kernel_rfl) (by kernel_rfl) (fun _ _ _ _ h => h) (.slice b L.length d) (Or.inl ⟨Eq.refl true, fun w1 hSw => (by cases hSw; exact (by show (execOp _ (⟨_, .move (.tmp 1), _, _, _, _⟩ : Oper)).run _ _ = _; exact (by unfold execOp; simp only [h37.ev 1 rfl]; rfl)))⟩) fun a40 h39 => ?_
    refine wpk_take hS30 h39 5 rfl rfl (by decide) (fr rfl) (by kernel_rfl) (by kernel_rfl) (by kernel_rfl) (fun _ _ _ _ h => h) (.int .i64 (j : Int)) (Or.inl ⟨Eq.refl true, fun w1 hSw => (by cases hSw; exact (by show (execOp _ (⟨_, .move (.tmp 5), _, _, _, _⟩ : Oper)).run _ _ = _; exact (by unfold execOp; simp only [h39.ev 5 rfl]; rfl)))⟩) fun a42 h41 => ?_
    refine wpk_take hS30 h41 6 rfl rfl (by decide) (fr rfl) (by kernel_rfl) (by kernel_rfl) (by kernel_rfl) (fun _ _ _ _ h => h) (.pointer (some ⟨pb, ob + j * 2, none⟩)) (Or.inl ⟨Eq.refl true, fun w1 hSw => (by cases hSw; exact (by show (execOp _ (⟨_, .indexAddr 22 (.tmp 21) (.tmp 22), _, _, _, _⟩ : Oper)).run _ _ = _; exact (by unfold execOp; simp only [h41.ev 21 rfl, h41.ev 22 rfl]; exact run_v (by rw [hb0]; exact ixP _ _ _ _ j hlt _))))⟩) fun a44 h43 => ?_
    refine wpk_take hS30 h43 7 rfl rfl (by decide) (fr rfl) (by kernel_rfl) (by kernel_rfl) (by kernel_rfl) (fun _ _ _ _ h => h) (ptV p) (Or.inl ⟨Eq.refl true, fun w1 hSw => (by cases hSw; exact (by show (execOp _ (⟨_, .load 46 (.tmp 23), _, _, _, _⟩ : Oper)).run _ _ = _; exact (by unfold execOp; simp only [h43.ev 23 rfl]; exact run_v (run_loadAt_mid _ _ _ _ (ptC p) _ hrb Tryd.underlying46 rfl (by rw [infoPt]; rfl)))))⟩) fun a46 h45 => ?_
    refine wpk_take hS30 h45 8 rfl rfl (by decide) (fr rfl) (by kernel_rfl) (by kernel_rfl) (by kernel_rfl) (fun _ _ _ _ h => h) (.bool false) (Or.inl ⟨Eq.refl true, fun w1 hSw => (by cases hSw; exact (by show (execOp _ (⟨_, .binOp .neq 46 (.tmp 20) (.tmp 24) 46, _, _, _, _⟩ : Oper)).run _ _ = _; exact (by unfold execOp; simp only [h45.ev 20 rfl, h45.ev 24 rfl]; exact run_v (eqPtN _ _ _ _))))⟩) fun a48 h47 => ?_
    refine wpAnyH_done (by kernel_rfl) ?_ _
    have h49 := h47.subs (l' := [(25, _), (5, _), (0, _), (1, _)]) rfl
    clear h47
    iterate 2 go_step
    refine wp_cond (t := false) (h49.ev 25 rfl) ?_
    simp only [Bool.false_eq_true, if_false]
    have h50 := h49.subs (l' := [(5, _), (0, _), (1, _)]) rfl
    clear h49
    iterate 4 go_step
    refine wmk h50 rfl rfl rfl rfl 5 rfl (fun _ => rfl) fun a52 h51 => ?_
    refine wv h51 rfl rfl rfl rfl (.int .i64 ((j + 1 : Nat) : Int)) (by unfold execOp; simp only [h51.ev 15 rfl]; exact run_v (addIP _ _ j (by omega) _)) fun a54 h53 => ?_
    have h55 := h53.subs (l' := [(16, _), (15, _), (0, _), (1, _)]) rfl
    clear h53
    refine wmk h55 rfl rfl rfl rfl 16 rfl (fun _ => rfl) fun a57 h56 => ?_
    have h58 := h56.subs (l' := [(5, _), (0, _), (1, _)]) rfl
    clear h56
    iterate 2 go_step
    refine ⟨⟨j + 1, by omega, h58.subs rfl, HB.out.drew⟩, ?_⟩
    rw [h58.ev 5 rfl, hK.ev 5 rfl]; simp [intOf]; omega
  · have hd0 : decide ((j : Int) < (L.length : Int)) = false := decide_eq_false (by omega)
    iterate 4 go_step
    refine wmk hK rfl rfl rfl rfl 5 rfl (fun _ => rfl) fun a60 h59 => ?_
    refine wmk h59 rfl rfl rfl rfl 0 rfl (fun _ => rfl) fun a62 h61 => ?_
    refine wv h61 rfl rfl rfl rfl (.int .i64 (L.length : Int)) (run_lenP rfl (h61.ev 12 rfl) _) fun a64 h63 => ?_
    refine wv h63 rfl rfl rfl rfl (.bool false) (by unfold execOp; simp only [h63.ev 11 rfl, h63.ev 13 rfl]; exact run_v (ltIP _ _ _ _ _ hd0)) fun a66 h65 => ?_
    have h67 := h65.subs (l' := [(14, _), (5, _), (0, _), (1, _)]) rfl
    clear h65
    iterate 3 go_step
    refine wp_cond (t := false) (h67.ev 14 rfl) ?_
    simp only [Bool.false_eq_true, if_false]
    have h68 := h67.subs (l' := [(5, _), (0, _), (1, _)]) rfl
    clear h67
    iterate 7 go_step
    refine wv h68 rfl rfl rfl rfl (.bool true) rfl fun a70 h69 => ?_
    iterate 4 go_step
    exact bodyPost_ret (results_tmp1 rfl (h69.known (4, .bool true) (by simp))) h69.defs ⟨rfl, HB.out⟩
set_option maxHeartbeats 4000000 in
theorem samePts_ne {w : World} {a b : Option Addr} {c d n m : Nat} (h : n ≠ m) :
    Calls Tryd.prog 16 #[.slice a n c, .slice b m d] w fun e w' => e = .returned (.bool false) ∧ w = w' := by
  go_enter Tryd.func16, Tryd.ntmps16
  iterate 3 go_step
  refine wpk_enter (N := 26) (l := [(0, .slice a n c), (1, .slice b m d)]) ⟨rfl, (by intro x hx; simp only [List.mem_cons, List.not_mem_nil, or_false] at hx; rcases hx with rfl | rfl <;> rfl), rfl⟩ fun a2 h1 => ?_
  refine wv h1 rfl rfl rfl rfl (.bool false) rfl fun a4 h3 => ?_
  iterate 4 go_step
  have hne : ((n : Int) != (m : Int)) = true := by simp only [bne_iff_ne, ne_eq]; omega
  iterate 2 go_step
  refine wmk h3 rfl rfl rfl rfl 0 rfl (fun _ => rfl) fun a6 h5 => ?_
  refine wv h5 rfl rfl rfl rfl (.int .i64 (n : Int)) (run_lenP rfl (h5.ev 6 rfl) _) fun a8 h7 => ?_
  refine wmk h7 rfl rfl rfl rfl 1 rfl (fun _ => rfl) fun a10 h9 => ?_
  refine wv h9 rfl rfl rfl rfl (.int .i64 (m : Int)) (run_lenP rfl (h9.ev 8 rfl) _) fun a12 h11 => ?_
  refine wv h11 rfl rfl rfl rfl (.bool true) (by unfold execOp; simp only [h11.ev 7 rfl, h11.ev 9 rfl]; exact run_v (neqIP _ _ _ _ _ hne)) fun a14 h13 => ?_
  have h15 := h13.subs (l' := [(10, _), (4, _), (0, _), (1, _)]) rfl
  clear h13
  iterate 3 go_step
  refine wp_cond (t := true) (h15.ev 10 rfl) ?_
  simp only [if_true]
  have h16 := h15.subs (l' := [(4, _), (0, _), (1, _)]) rfl
  clear h15
  iterate 2 go_step
  have h17 := h16.subs (l' := [(0, _), (1, _)]) rfl
  clear h16
  refine wv h17 rfl rfl rfl rfl (.bool false) rfl fun a19 h18 => ?_
  iterate 4 go_step
  simp only [Exit.then, Exit.inBlock]
  exact bodyPost_ret (results_tmp1 rfl (h18.known (4, .bool false) (by simp))) h18.defs ⟨rfl, rfl⟩
end Go.Proofs.YtkhhoognemjibaaDoor
