/- PlogPlays. (genPlgPy.py) -/
import Derived.Test.YtkhhoognemjibaaGreatDoorPlgPx
namespace Go.Proofs.YtkhhoognemjibaaGreatDoor
open Go.RowKit
set_option linter.unusedSimpArgs false
set_option linter.unusedVariables false
set_option maxRecDepth 100000

set_option maxHeartbeats 8000000 in
theorem PlogPlays_walk (w : World) (a : Option Addr) (c : Nat) (xs : List DeedT) (hxs : DeedsIn w a c xs) :
    Calls Tryz.prog 3 #[.slice a xs.length c] w fun e w' => e = .returned (.bool true) ∧ Below w.heap.size w w' := by
  have HXS := hid hxs
  clear hxs
  go_enter Tryz.func3, Tryz.ntmps3
  iterate 3 go_step
  refine wpk_enter (N := 35) (l := [(0, .slice a xs.length c)]) ⟨rfl, (by intro x hx; simp only [List.mem_cons, List.not_mem_nil, or_false] at hx; rcases hx with rfl <;> rfl), rfl⟩ fun a2 h1 => ?_
  refine wv h1 rfl rfl rfl rfl (.bool false) rfl fun a4 h3 => ?_
  iterate 5 go_step
  refine wpk_call h3 (wanted_none rfl) rfl (by decide) (fr rfl) (fun args => callP_20 args _) rfl #[] (by simp) (R := fun v' w' => ∃ K : PK, v' = .pointer (some ⟨K.pp, 0, none⟩) ∧ PairP w' w.heap.size K mem0 ∧ Below w.heap.size w w') ((beginPair_any w).mono fun e w' q => by obtain ⟨K, q1, q2, q3⟩ := q; exact ⟨_, q1, K, rfl, q2, q3⟩) fun a6 v0 w0 r0 h5 => ?_
  obtain ⟨K, rfl, hp0, hb0⟩ := r0; have HP0 := hid hp0; have HB0 := hid hb0; clear hp0 hb0
  refine wmk h5 rfl rfl rfl rfl 7 rfl (fun _ => rfl) fun a8 h7 => ?_
  have h9 := h7.subs (l' := [(3, _), (2, _), (0, _)]) rfl
  clear h7
  iterate 6 go_step
  refine wmk h9 rfl rfl rfl rfl 3 rfl (fun _ => rfl) fun a11 h10 => ?_
  refine wv h10 rfl rfl rfl rfl (.bool false) (by unfold execOp; simp only [h10.ev 8 rfl]; exact run_v (eqPnP _ _ _ _)) fun a13 h12 => ?_
  have h14 := h12.subs (l' := [(9, _), (3, _), (2, _), (0, _)]) rfl
  clear h12
  iterate 3 go_step
  refine wp_cond (t := false) (h14.ev 9 rfl) ?_
  simp only [Bool.false_eq_true, if_false]
  have h15 := h14.subs (l' := [(3, _), (2, _), (0, _)]) rfl
  clear h14
  iterate 6 go_step
  refine wv h15 rfl rfl rfl rfl (.int .i64 0) rfl fun a17 h16 => ?_
  iterate 4 go_step
  have h18 := h16.subs (l' := [(4, _), (3, _), (0, _)]) rfl
  clear h16
  refine wp_loop (I := fun a' w' => ∃ (i : Nat) (M : MemM), i ≤ xs.length ∧ i ≤ 15 ∧ M.V.length = 1024 ∧ Kn 35 [(4, .int .i64 (i : Int)), (3, .pointer (some ⟨K.pp, 0, none⟩)), (0, .slice a xs.length c)] a' ∧ PairP w' w.heap.size K M ∧ Below w.heap.size w w') (μ := fun a' _ => xs.length - (intOf (a'.eval (.tmp 4))).toNat) ⟨0, mem0, by omega, by omega, mem0_len, h18, HP0.out, HB0.out⟩ ?_
  clear HP0 HB0 h18
  rintro aL aw ⟨i, M, hi, hi4, hlenM, hK, hpa, hba⟩
  have HPa := hid hpa; have HBa := hid hba; clear hpa hba
  by_cases hlt : i < xs.length ∧ i < 15
  case pos =>
    obtain ⟨hltL, hltN⟩ := hlt
    have hd0 : decide ((i : Int) < (xs.length : Int)) = true := decide_eq_true (by omega)
    have hd1 : decide ((i : Int) < 15) = true := decide_eq_true (by omega)
    obtain ⟨pb, po, ha0, hpb, hrg⟩ := deedsIn_at HXS.out hltL
    obtain ⟨x, hx⟩ : ∃ y, y = xs[i] := ⟨_, rfl⟩
    have hxin := HXS.out.i xs[i] (List.getElem_mem hltL)
    rw [← hx] at hrg hxin
    have HX := hid hxin; clear hxin hx
    iterate 4 go_step
    refine wmk hK rfl rfl rfl rfl 4 rfl (fun _ => rfl) fun a20 h19 => ?_
    refine wmk h19 rfl rfl rfl rfl 0 rfl (fun _ => rfl) fun a22 h21 => ?_
    refine wv h21 rfl rfl rfl rfl (.int .i64 (xs.length : Int)) (run_lenDP rfl (h21.ev 11 rfl) _) fun a24 h23 => ?_
    refine wv h23 rfl rfl rfl rfl (.bool true) (by unfold execOp; simp only [h23.ev 10 rfl, h23.ev 12 rfl]; exact run_v (ltIP _ _ _ _ _ hd0)) fun a26 h25 => ?_
    refine wmk h25 rfl rfl rfl rfl 13 rfl (fun _ => rfl) fun a28 h27 => ?_
    refine wpk_val h27 (by rw [wanted_of (g := 4) (want := true) (b := true) rfl (h27.yields (prev := 14) rfl (by simp))]; rfl) rfl (by decide) (fr rfl) (.int .i64 (i : Int)) (by unfold execOp; simp only [h27.ev 4 rfl]; rfl) fun a30 h29 => ?_
    refine wpk_val h29 (by rw [wanted_of (g := 4) (want := true) (b := true) rfl (h29.yields (prev := 14) rfl (by simp))]; rfl) rfl (by decide) (fr rfl) (.bool true) (by unfold execOp; simp only [h29.ev 15 rfl]; exact run_v (ltIP _ _ _ _ _ hd1)) fun a32 h31 => ?_
    refine wv h31 rfl rfl rfl rfl (.bool true) (run_pick rfl (h31.ev 14 rfl) (by rw [if_pos rfl]; exact h31.ev 16 rfl)) fun a34 h33 => ?_
    have h35 := h33.subs (l' := [(17, _), (4, _), (3, _), (0, _)]) rfl
    clear h33
    iterate 3 go_step
    refine wp_cond (t := true) (h35.ev 17 rfl) ?_
    simp only [if_true]
    have h36 := h35.subs (l' := [(4, _), (3, _), (0, _)]) rfl
    clear h35
    iterate 7 go_step
    refine wmk h36 rfl rfl rfl rfl 3 rfl (fun _ => rfl) fun a38 h37 => ?_
    refine wmk h37 rfl rfl rfl rfl 0 rfl (fun _ => rfl) fun a40 h39 => ?_
    refine wmk h39 rfl rfl rfl rfl 4 rfl (fun _ => rfl) fun a42 h41 => ?_
    refine wv h41 rfl rfl rfl rfl (.pointer (some ⟨pb, po + i * 5, none⟩)) (by unfold execOp; simp only [h41.ev 21 rfl, h41.ev 22 rfl]; exact run_v (by rw [ha0]; exact ixDP pb po _ c i hltL _)) fun a44 h43 => ?_
    refine wv h43 rfl rfl rfl rfl (.agg (deedC x).toArray) (by unfold execOp; simp only [h43.ev 23 rfl]; exact run_v (run_loadAt_mid _ _ _ _ (deedC x) _ (below_range HBa.out hpb hrg) Tryz.underlying30 rfl (by rw [infoDeed]; rfl))) fun a46 h45 => ?_
    refine wpk_call h45 (wanted_none rfl) rfl (by decide) (fr rfl) (fun args => callP_1007 args _) rfl #[.pointer (some ⟨K.pp, 0, none⟩), .agg (deedC x).toArray] (by simp only [List.map_toArray, List.map_cons, List.map_nil, h45.ev 20 rfl, h45.ev 24 rfl]) (R := fun v' w' => ∃ M1 : MemM, v' = .bool true ∧ PairP w' w.heap.size K M1 ∧ M1.V.length = M.V.length ∧ Below w.heap.size w w') ((does_any HPa.out HBa.out hlenM x HX.out).mono fun e w' q => by obtain ⟨M1, q1, q2, q3, q4, _⟩ := q; exact ⟨_, q1, M1, rfl, q2, q3, q4⟩) fun a48 v1 w1 r1 h47 => ?_
    obtain ⟨M1, rfl, hp1, hl1, hb1⟩ := r1; have hlen1 : M1.V.length = 1024 := hl1.trans hlenM; have HP1 := hid hp1; have HB1 := hid hb1; clear hp1 hb1 hl1
    refine wmk h47 rfl rfl rfl rfl 25 rfl (fun _ => rfl) fun a50 h49 => ?_
    have h51 := h49.subs (l' := [(5, _), (4, _), (3, _), (0, _)]) rfl
    clear h49
    iterate 5 go_step
    refine wmk h51 rfl rfl rfl rfl 3 rfl (fun _ => rfl) fun a53 h52 => ?_
    refine wpk_call h52 (wanted_none rfl) rfl (by decide) (fr rfl) (fun args => callP_30 args _) rfl #[.pointer (some ⟨K.pp, 0, none⟩)] (by simp only [List.map_toArray, List.map_cons, List.map_nil, h52.ev 26 rfl]) (R := fun v' w' => v' = .bool true ∧ Below w1.heap.size w1 w') ((like_any HP1.out hlen1).mono fun e w' q => ⟨_, q.1, rfl, q.2⟩) fun a55 v2 w2 r2 h54 => ?_
    obtain ⟨rfl, b2⟩ := r2; have HP2 := hid (HP1.out.mono b2); have HB2 := hid (kept_trans HB1.out b2); clear b2
    refine wmk h54 rfl rfl rfl rfl 27 rfl (fun _ => rfl) fun a57 h56 => ?_
    have h58 := h56.subs (l' := [(6, _), (5, _), (4, _), (3, _), (0, _)]) rfl
    clear h56
    iterate 5 go_step
    refine wmk h58 rfl rfl rfl rfl 5 rfl (fun _ => rfl) fun a60 h59 => ?_
    refine wv h59 rfl rfl rfl rfl (.bool false) (run_not rfl (h59.ev 28 rfl)) fun a62 h61 => ?_
    refine wmk h61 rfl rfl rfl rfl 29 rfl (fun _ => rfl) fun a64 h63 => ?_
    refine wpk_val h63 (by rw [wanted_of (g := 2) (want := false) (b := false) rfl (h63.yields (prev := 30) rfl (by simp))]; rfl) rfl (by decide) (fr rfl) (.bool true) (by unfold execOp; simp only [h63.ev 6 rfl]; rfl) fun a66 h65 => ?_
    refine wpk_val h65 (by rw [wanted_of (g := 2) (want := false) (b := false) rfl (h65.yields (prev := 30) rfl (by simp))]; rfl) rfl (by decide) (fr rfl) (.bool false) (run_not rfl (h65.ev 31 rfl)) fun a68 h67 => ?_
    refine wv h67 rfl rfl rfl rfl (.bool false) (run_pick rfl (h67.ev 30 rfl) (by rw [if_neg (by simp)]; exact h67.ev 32 rfl)) fun a70 h69 => ?_
    have h71 := h69.subs (l' := [(33, _), (6, _), (5, _), (4, _), (3, _), (0, _)]) rfl
    clear h69
    iterate 3 go_step
    refine wp_cond (t := false) (h71.ev 33 rfl) ?_
    simp only [Bool.false_eq_true, if_false]
    have h72 := h71.subs (l' := [(6, _), (5, _), (4, _), (3, _), (0, _)]) rfl
    clear h71
    iterate 4 go_step
    refine wmk h72 rfl rfl rfl rfl 4 rfl (fun _ => rfl) fun a74 h73 => ?_
    refine wv h73 rfl rfl rfl rfl (.int .i64 ((i + 1 : Nat) : Int)) (by unfold execOp; simp only [h73.ev 18 rfl]; exact run_v (addIP _ _ i (by omega) _)) fun a76 h75 => ?_
    have h77 := h75.subs (l' := [(19, _), (18, _), (6, _), (5, _), (3, _), (0, _)]) rfl
    clear h75
    refine wmk h77 rfl rfl rfl rfl 19 rfl (fun _ => rfl) fun a79 h78 => ?_
    have h80 := h78.subs (l' := [(4, _), (6, _), (5, _), (3, _), (0, _)]) rfl
    clear h78
    iterate 2 go_step
    refine ⟨⟨i + 1, M1, by omega, by omega, hlen1, h80.subs rfl, HP2.out, HB2.out⟩, ?_⟩
    rw [h80.ev 4 rfl, hK.ev 4 rfl]; simp [intOf]; omega
  by_cases hltL : i < xs.length
  case pos =>
    have hd0 : decide ((i : Int) < (xs.length : Int)) = true := decide_eq_true (by omega)
    have hd1 : decide ((i : Int) < 15) = false := decide_eq_false (by omega)
    iterate 4 go_step
    refine wmk hK rfl rfl rfl rfl 4 rfl (fun _ => rfl) fun a82 h81 => ?_
    refine wmk h81 rfl rfl rfl rfl 0 rfl (fun _ => rfl) fun a84 h83 => ?_
    refine wv h83 rfl rfl rfl rfl (.int .i64 (xs.length : Int)) (run_lenDP rfl (h83.ev 11 rfl) _) fun a86 h85 => ?_
    refine wv h85 rfl rfl rfl rfl (.bool true) (by unfold execOp; simp only [h85.ev 10 rfl, h85.ev 12 rfl]; exact run_v (ltIP _ _ _ _ _ hd0)) fun a88 h87 => ?_
    refine wmk h87 rfl rfl rfl rfl 13 rfl (fun _ => rfl) fun a90 h89 => ?_
    refine wpk_val h89 (by rw [wanted_of (g := 4) (want := true) (b := true) rfl (h89.yields (prev := 14) rfl (by simp))]; rfl) rfl (by decide) (fr rfl) (.int .i64 (i : Int)) (by unfold execOp; simp only [h89.ev 4 rfl]; rfl) fun a92 h91 => ?_
    refine wpk_val h91 (by rw [wanted_of (g := 4) (want := true) (b := true) rfl (h91.yields (prev := 14) rfl (by simp))]; rfl) rfl (by decide) (fr rfl) (.bool false) (by unfold execOp; simp only [h91.ev 15 rfl]; exact run_v (ltIP _ _ _ _ _ hd1)) fun a94 h93 => ?_
    refine wv h93 rfl rfl rfl rfl (.bool false) (run_pick rfl (h93.ev 14 rfl) (by rw [if_pos rfl]; exact h93.ev 16 rfl)) fun a96 h95 => ?_
    have h97 := h95.subs (l' := [(17, _), (4, _), (3, _), (0, _)]) rfl
    clear h95
    iterate 3 go_step
    refine wp_cond (t := false) (h97.ev 17 rfl) ?_
    simp only [Bool.false_eq_true, if_false]
    have h98 := h97.subs (l' := [(4, _), (3, _), (0, _)]) rfl
    clear h97
    iterate 7 go_step
    refine wpk_call h98 (wanted_none rfl) rfl (by decide) (fr rfl) (fun args => callP_13 args _) rfl #[] (by simp) (R := fun v' w' => v' = .bool true ∧ Below aw.heap.size aw w') ((lives08_any _).mono fun e w' q => ⟨_, q.1, rfl, q.2⟩) fun a100 vx wx rx h99 => ?_
    obtain ⟨rfl, bx⟩ := rx; have HBx := hid (kept_trans HBa.out bx); clear bx
    refine wmk h99 rfl rfl rfl rfl 34 rfl (fun _ => rfl) fun a102 h101 => ?_
    have h103 := h101.subs (l' := [(2, _), (4, _), (3, _), (0, _)]) rfl
    clear h101
    iterate 4 go_step
    exact bodyPost_ret (results_tmp1 rfl (h103.known (2, .bool true) (by simp))) h103.defs ⟨rfl, HBx.out⟩
  have hd0 : decide ((i : Int) < (xs.length : Int)) = false := decide_eq_false (by omega)
  iterate 4 go_step
  refine wmk hK rfl rfl rfl rfl 4 rfl (fun _ => rfl) fun a105 h104 => ?_
  refine wmk h104 rfl rfl rfl rfl 0 rfl (fun _ => rfl) fun a107 h106 => ?_
  refine wv h106 rfl rfl rfl rfl (.int .i64 (xs.length : Int)) (run_lenDP rfl (h106.ev 11 rfl) _) fun a109 h108 => ?_
  refine wv h108 rfl rfl rfl rfl (.bool false) (by unfold execOp; simp only [h108.ev 10 rfl, h108.ev 12 rfl]; exact run_v (ltIP _ _ _ _ _ hd0)) fun a111 h110 => ?_
  refine wmk h110 rfl rfl rfl rfl 13 rfl (fun _ => rfl) fun a113 h112 => ?_
  refine wpk_skip h112 (by rw [wanted_of (g := 4) (want := true) (b := false) rfl (h112.yields (prev := 14) rfl (by simp))]; rfl) rfl (by decide) (fr rfl) fun a115 h114 => ?_
  refine wpk_skip h114 (by rw [wanted_of (g := 4) (want := true) (b := false) rfl (h114.yields (prev := 14) rfl (by simp))]; rfl) rfl (by decide) (fr rfl) fun a117 h116 => ?_
  refine wv h116 rfl rfl rfl rfl (.bool false) (run_pick rfl (h116.ev 14 rfl) rfl) fun a119 h118 => ?_
  have h120 := h118.subs (l' := [(17, _), (4, _), (3, _), (0, _)]) rfl
  clear h118
  iterate 3 go_step
  refine wp_cond (t := false) (h120.ev 17 rfl) ?_
  simp only [Bool.false_eq_true, if_false]
  have h121 := h120.subs (l' := [(4, _), (3, _), (0, _)]) rfl
  clear h120
  iterate 7 go_step
  refine wpk_call h121 (wanted_none rfl) rfl (by decide) (fr rfl) (fun args => callP_13 args _) rfl #[] (by simp) (R := fun v' w' => v' = .bool true ∧ Below aw.heap.size aw w') ((lives08_any _).mono fun e w' q => ⟨_, q.1, rfl, q.2⟩) fun a123 vx wx rx h122 => ?_
  obtain ⟨rfl, bx⟩ := rx; have HBx := hid (kept_trans HBa.out bx); clear bx
  refine wmk h122 rfl rfl rfl rfl 34 rfl (fun _ => rfl) fun a125 h124 => ?_
  have h126 := h124.subs (l' := [(2, _), (4, _), (3, _), (0, _)]) rfl
  clear h124
  iterate 4 go_step
  exact bodyPost_ret (results_tmp1 rfl (h126.known (2, .bool true) (by simp))) h126.defs ⟨rfl, HBx.out⟩
end Go.Proofs.YtkhhoognemjibaaGreatDoor
