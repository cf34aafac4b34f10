/- TxnPlays. (genTxnY.py) -/
import Derived.Test.YtcackliabemecaaGreatDoorTxnX
namespace Go.Proofs.YtcackliabemecaaGreatDoor
open Go.RowKit
set_option linter.unusedSimpArgs false
set_option linter.unusedVariables false
set_option maxRecDepth 100000
section
variable {w w' : World} {B : Nat} {K Q : TK} {ta ra : Option Addr} {tc rc : Nat} {M N : MemM} {P R : List PtM}
end
theorem callZ_6 (args : Array Value) (w : World) : (callFunc 6 args).run Tryz.prog w = .ok (.enter 6 args) w := by
  have h := Tryz.func6
  go_simp
theorem callZ_7 (args : Array Value) (w : World) : (callFunc 7 args).run Tryz.prog w = .ok (.enter 7 args) w := by
  have h := Tryz.func7
  go_simp
theorem callZ_8 (args : Array Value) (w : World) : (callFunc 8 args).run Tryz.prog w = .ok (.enter 8 args) w := by
  have h := Tryz.func8
  go_simp
theorem callZ_9 (args : Array Value) (w : World) : (callFunc 9 args).run Tryz.prog w = .ok (.enter 9 args) w := by
  have h := Tryz.func9
  go_simp

set_option maxHeartbeats 16000000 in
theorem TxnPlays_walk (w : World) (a : Option Addr) (c : Nat) (xs : List DeedT) (hxs : DeedsIn w a c xs) :
    Calls Tryz.prog 3 #[.slice a xs.length c] w fun e w' => e = .returned (.bool true) ∧ Below w.heap.size w w' := by
  have HXS := hid hxs
  clear hxs
  go_enter Tryz.func3, Tryz.ntmps3
  iterate 3 go_step
  refine wpk_enter (N := 35) (l := [(0, .slice a xs.length c)]) ⟨rfl, (by intro x hx; simp only [List.mem_cons, List.not_mem_nil, or_false] at hx; rcases hx with rfl <;> rfl), rfl⟩ fun a2 h1 => ?_
  refine wv h1 rfl rfl rfl rfl (.bool false) rfl fun a4 h3 => ?_
  iterate 5 go_step
  refine wpk_call h3 (wanted_none rfl) rfl (by decide) (fr rfl) (fun args => callZ_6 args _) rfl #[] (by simp) (R := fun v' w' => ∃ K : TK, v' = .pointer (some ⟨K.pp, 0, none⟩) ∧ SideT w' w'.heap.size K none 0 none 0 mem0 [] mem0 [] ∧ K.ord w.heap.size w'.heap.size ∧ Below w.heap.size w w') ((beginS w).mono fun e w' q => by obtain ⟨K, q1, q2⟩ := q; exact ⟨_, q1, K, rfl, q2⟩) fun a6 vb0 wb0 rb0 h5 => ?_
  obtain ⟨K, rfl, hs0, ho0, hb0⟩ := rb0; have HS0 := hid hs0; have HB0 := hid hb0; obtain ⟨B, hB⟩ : ∃ B, B = wb0.heap.size := ⟨_, rfl⟩; rw [← hB] at HS0 ho0; have hA := ho0; clear hs0 hb0 ho0 hB
  refine wmk h5 rfl rfl rfl rfl 7 rfl (fun _ => rfl) fun a8 h7 => ?_
  have h9 := h7.subs (l' := [(3, _), (2, _), (0, _)]) rfl
  clear h7
  iterate 6 go_step
  refine wmk h9 rfl rfl rfl rfl 3 rfl (fun _ => rfl) fun a11 h10 => ?_
  refine wv h10 rfl rfl rfl rfl (.bool false) (by unfold execOp; simp only [h10.ev 8 rfl]; exact run_v (eqPnT _ _ _ _)) fun a13 h12 => ?_
  have h14 := h12.subs (l' := [(9, _), (3, _), (2, _), (0, _)]) rfl
  clear h12
  iterate 3 go_step
  refine wp_cond (t := false) (h14.ev 9 rfl) ?_
  simp only [Bool.false_eq_true, if_false]
  have h15 := h14.subs (l' := [(3, _), (2, _), (0, _)]) rfl
  clear h14
  iterate 6 go_step
  refine wv h15 rfl rfl rfl rfl (.int .i64 0) rfl fun a17 h16 => ?_
  iterate 4 go_step
  have h18 := h16.subs (l' := [(4, _), (3, _), (0, _)]) rfl
  clear h16
  refine wp_loop (I := fun a' w' => ∃ (i : Nat) (M : MemM) (P : List PtM) (ta : Option Addr) (tc : Nat) (ra : Option Addr) (rc : Nat), i ≤ xs.length ∧ i ≤ 15 ∧ Kn 35 [(4, .int .i64 (i : Int)), (3, .pointer (some ⟨K.pp, 0, none⟩)), (0, .slice a xs.length c)] a' ∧ M.V.length = 1024 ∧ TxOk M P ∧ SideT w' B K ta tc ra rc M P M P ∧ Below w.heap.size w w') (μ := fun a' _ => xs.length - (intOf (a'.eval (.tmp 4))).toNat) ⟨0, mem0, [], none, 0, none, 0, by omega, by omega, h18, mem0_len, TxOk.nil _, HS0.out, HB0.out⟩ ?_
  clear HS0 HB0 h18
  rintro aL aw ⟨i, M, P, ta, tc, ra, rc, hi, hiN, hK, hlen, htx, hs, hb⟩; have HSa := hid hs; have HBa := hid hb; clear hs hb
  by_cases hltL : i < xs.length
  case neg =>
    iterate 4 go_step
    refine wmk hK rfl rfl rfl rfl 4 rfl (fun _ => rfl) fun a20 h19 => ?_
    refine wmk h19 rfl rfl rfl rfl 0 rfl (fun _ => rfl) fun a22 h21 => ?_
    refine wv h21 rfl rfl rfl rfl (.int .i64 (xs.length : Int)) (run_lenDP rfl (h21.ev 11 rfl) _) fun a24 h23 => ?_
    refine wv h23 rfl rfl rfl rfl (.bool false) (by unfold execOp; simp only [h23.ev 10 rfl, h23.ev 12 rfl]; exact run_v (ltIP _ _ _ _ _ (decide_eq_false (by omega)))) fun a26 h25 => ?_
    refine wmk h25 rfl rfl rfl rfl 13 rfl (fun _ => rfl) fun a28 h27 => ?_
    refine wpk_skip h27 (by rw [wanted_of (g := 4) (want := true) (b := false) rfl (h27.yields (prev := 14) rfl (by simp))]; rfl) rfl (by decide) (fr rfl) fun a30 h29 => ?_
    refine wpk_skip h29 (by rw [wanted_of (g := 4) (want := true) (b := false) rfl (h29.yields (prev := 14) rfl (by simp))]; rfl) rfl (by decide) (fr rfl) fun a32 h31 => ?_
    refine wv h31 rfl rfl rfl rfl (.bool false) (run_pick rfl (h31.ev 14 rfl) rfl) fun a34 h33 => ?_
    have h35 := h33.subs (l' := [(17, _), (4, _), (3, _), (0, _)]) rfl
    clear h33
    iterate 3 go_step
    refine wp_cond (t := false) (h35.ev 17 rfl) ?_
    simp only [Bool.false_eq_true, if_false]
    have h36 := h35.subs (l' := [(4, _), (3, _), (0, _)]) rfl
    clear h35
    iterate 7 go_step
    refine wpk_call h36 (wanted_none rfl) rfl (by decide) (fr rfl) (fun args => callZ_9 args _) rfl #[] (by simp) (R := fun v' w' => v' = .bool true ∧ Below aw.heap.size aw w') ((lives09_any _).mono fun e w' q => ⟨_, q.1, rfl, q.2⟩) fun a38 vz9 wz9 rz9 h37 => ?_
    obtain ⟨rfl, bz9⟩ := rz9; have HBz9 := hid (kept_trans HBa.out bz9); clear bz9
    refine wmk h37 rfl rfl rfl rfl 34 rfl (fun _ => rfl) fun a40 h39 => ?_
    have h41 := h39.subs (l' := [(2, _), (4, _), (3, _), (0, _)]) rfl
    clear h39
    iterate 4 go_step
    exact bodyPost_ret (results_tmp1 rfl (h41.known (2, .bool true) (by simp))) h41.defs ⟨rfl, HBz9.out⟩
  by_cases hltN : i < 15
  case neg =>
    iterate 4 go_step
    refine wmk hK rfl rfl rfl rfl 4 rfl (fun _ => rfl) fun a43 h42 => ?_
    refine wmk h42 rfl rfl rfl rfl 0 rfl (fun _ => rfl) fun a45 h44 => ?_
    refine wv h44 rfl rfl rfl rfl (.int .i64 (xs.length : Int)) (run_lenDP rfl (h44.ev 11 rfl) _) fun a47 h46 => ?_
    refine wv h46 rfl rfl rfl rfl (.bool true) (by unfold execOp; simp only [h46.ev 10 rfl, h46.ev 12 rfl]; exact run_v (ltIP _ _ _ _ _ (decide_eq_true (by omega)))) fun a49 h48 => ?_
    refine wmk h48 rfl rfl rfl rfl 13 rfl (fun _ => rfl) fun a51 h50 => ?_
    refine wpk_val h50 (by rw [wanted_of (g := 4) (want := true) (b := true) rfl (h50.yields (prev := 14) rfl (by simp))]; rfl) rfl (by decide) (fr rfl) (.int .i64 (i : Int)) (by unfold execOp; simp only [h50.ev 4 rfl]; rfl) fun a53 h52 => ?_
    refine wpk_val h52 (by rw [wanted_of (g := 4) (want := true) (b := true) rfl (h52.yields (prev := 14) rfl (by simp))]; rfl) rfl (by decide) (fr rfl) (.bool false) (by unfold execOp; simp only [h52.ev 15 rfl]; exact run_v (ltIP _ _ _ _ _ (decide_eq_false (by omega)))) fun a55 h54 => ?_
    refine wv h54 rfl rfl rfl rfl (.bool false) (run_pick rfl (h54.ev 14 rfl) (by rw [if_pos rfl]; exact h54.ev 16 rfl)) fun a57 h56 => ?_
    have h58 := h56.subs (l' := [(17, _), (4, _), (3, _), (0, _)]) rfl
    clear h56
    iterate 3 go_step
    refine wp_cond (t := false) (h58.ev 17 rfl) ?_
    simp only [Bool.false_eq_true, if_false]
    have h59 := h58.subs (l' := [(4, _), (3, _), (0, _)]) rfl
    clear h58
    iterate 7 go_step
    refine wpk_call h59 (wanted_none rfl) rfl (by decide) (fr rfl) (fun args => callZ_9 args _) rfl #[] (by simp) (R := fun v' w' => v' = .bool true ∧ Below aw.heap.size aw w') ((lives09_any _).mono fun e w' q => ⟨_, q.1, rfl, q.2⟩) fun a61 vz9 wz9 rz9 h60 => ?_
    obtain ⟨rfl, bz9⟩ := rz9; have HBz9 := hid (kept_trans HBa.out bz9); clear bz9
    refine wmk h60 rfl rfl rfl rfl 34 rfl (fun _ => rfl) fun a63 h62 => ?_
    have h64 := h62.subs (l' := [(2, _), (4, _), (3, _), (0, _)]) rfl
    clear h62
    iterate 4 go_step
    exact bodyPost_ret (results_tmp1 rfl (h64.known (2, .bool true) (by simp))) h64.defs ⟨rfl, HBz9.out⟩
  obtain ⟨pb, po, ha0, hpb, hrg⟩ := deedsIn_at HXS.out hltL
  obtain ⟨x, hx⟩ : ∃ y, y = xs[i] := ⟨_, rfl⟩
  have hxin := HXS.out.i xs[i] (List.getElem_mem hltL)
  rw [← hx] at hrg hxin
  have HX := hid hxin; have HRG := hid hrg; clear hxin hx hrg
  have hrgW := hid (below_range HBa.out hpb HRG.out)
  iterate 4 go_step
  refine wmk hK rfl rfl rfl rfl 4 rfl (fun _ => rfl) fun a66 h65 => ?_
  refine wmk h65 rfl rfl rfl rfl 0 rfl (fun _ => rfl) fun a68 h67 => ?_
  refine wv h67 rfl rfl rfl rfl (.int .i64 (xs.length : Int)) (run_lenDP rfl (h67.ev 11 rfl) _) fun a70 h69 => ?_
  refine wv h69 rfl rfl rfl rfl (.bool true) (by unfold execOp; simp only [h69.ev 10 rfl, h69.ev 12 rfl]; exact run_v (ltIP _ _ _ _ _ (decide_eq_true (by omega)))) fun a72 h71 => ?_
  refine wmk h71 rfl rfl rfl rfl 13 rfl (fun _ => rfl) fun a74 h73 => ?_
  refine wpk_val h73 (by rw [wanted_of (g := 4) (want := true) (b := true) rfl (h73.yields (prev := 14) rfl (by simp))]; rfl) rfl (by decide) (fr rfl) (.int .i64 (i : Int)) (by unfold execOp; simp only [h73.ev 4 rfl]; rfl) fun a76 h75 => ?_
  refine wpk_val h75 (by rw [wanted_of (g := 4) (want := true) (b := true) rfl (h75.yields (prev := 14) rfl (by simp))]; rfl) rfl (by decide) (fr rfl) (.bool true) (by unfold execOp; simp only [h75.ev 15 rfl]; exact run_v (ltIP _ _ _ _ _ (decide_eq_true (by omega)))) fun a78 h77 => ?_
  refine wv h77 rfl rfl rfl rfl (.bool true) (run_pick rfl (h77.ev 14 rfl) (by rw [if_pos rfl]; exact h77.ev 16 rfl)) fun a80 h79 => ?_
  have h81 := h79.subs (l' := [(17, _), (4, _), (3, _), (0, _)]) rfl
  clear h79
  iterate 3 go_step
  refine wp_cond (t := true) (h81.ev 17 rfl) ?_
  simp only [if_true]
  have h82 := h81.subs (l' := [(4, _), (3, _), (0, _)]) rfl
  clear h81
  iterate 7 go_step
  refine wmk h82 rfl rfl rfl rfl 3 rfl (fun _ => rfl) fun a84 h83 => ?_
  refine wmk h83 rfl rfl rfl rfl 0 rfl (fun _ => rfl) fun a86 h85 => ?_
  refine wmk h85 rfl rfl rfl rfl 4 rfl (fun _ => rfl) fun a88 h87 => ?_
  refine wv h87 rfl rfl rfl rfl (.pointer (some ⟨pb, po + i * 5, none⟩)) (by unfold execOp; simp only [h87.ev 21 rfl, h87.ev 22 rfl]; exact run_v (by rw [ha0]; exact ixDP pb po _ c i hltL _)) fun a90 h89 => ?_
  refine wv h89 rfl rfl rfl rfl (.agg (deedC x).toArray) (by unfold execOp; simp only [h89.ev 23 rfl]; exact run_v (run_loadAt_mid _ _ _ _ (deedC x) _ (fun i u hu => hrgW.out i u hu) Tryz.underlying29 rfl (by rw [infoDeed]; rfl))) fun a92 h91 => ?_
  refine wpk_call h91 (wanted_none rfl) rfl (by decide) (fr rfl) (fun args => callZ_7 args _) rfl #[.pointer (some ⟨K.pp, 0, none⟩), .agg (deedC x).toArray] (by simp only [List.map_toArray, List.map_cons, List.map_nil, h91.ev 20 rfl, h91.ev 24 rfl]) (R := fun v' w' => v' = .bool true ∧ ∃ ta2 tc2 ra2 rc2, SideT w' B K ta2 tc2 ra2 rc2 (doM x M P) (doP x M P) (doM x M P) (doP x M P) ∧ Turns (XT K ta ra) aw w' ∧ Below w.heap.size w w' ∧ (x.kind = 4 → ta2 = ta ∧ tc2 = tc ∧ ra2 = ra ∧ rc2 = rc)) ((does9_any HSa.out HBa.out hA hlen htx x HX.out).mono fun e w' q => ⟨_, q.1, rfl, q.2⟩) fun a94 v1 w1 r1 h93 => ?_
  obtain ⟨rfl, ta2, tc2, ra2, rc2, s1, t1, b1, y1⟩ := r1; have HS1 := hid s1; have TT1 := hid t1; have HB1 := hid b1; have hlen2 : (doM x M P).V.length = 1024 := (doM_len HSa.out.t.l.m.1).trans hlen; have htx2 := doP_ok (x := x) HSa.out.t.l.m.1 htx; clear s1 t1 b1
  refine wmk h93 rfl rfl rfl rfl 25 rfl (fun _ => rfl) fun a96 h95 => ?_
  have h97 := h95.subs (l' := [(5, _), (4, _), (3, _), (0, _)]) rfl
  clear h95
  iterate 5 go_step
  refine wmk h97 rfl rfl rfl rfl 3 rfl (fun _ => rfl) fun a99 h98 => ?_
  refine wpk_call h98 (wanted_none rfl) rfl (by decide) (fr rfl) (fun args => callZ_8 args _) rfl #[.pointer (some ⟨K.pp, 0, none⟩)] (by simp only [List.map_toArray, List.map_cons, List.map_nil, h98.ev 26 rfl]) (R := fun v' w' => v' = .bool true ∧ Below w1.heap.size w1 w') ((like9_any HS1.out hlen2 htx2).mono fun e w' q => ⟨_, q.1, rfl, q.2⟩) fun a101 v2 w2 r2 h100 => ?_
  obtain ⟨rfl, b2⟩ := r2; have HS2 := hid (HS1.out.mono b2); have HB2 := hid (kept_trans HB1.out b2); clear b2
  refine wmk h100 rfl rfl rfl rfl 27 rfl (fun _ => rfl) fun a103 h102 => ?_
  have h104 := h102.subs (l' := [(6, _), (5, _), (4, _), (3, _), (0, _)]) rfl
  clear h102
  iterate 5 go_step
  refine wmk h104 rfl rfl rfl rfl 5 rfl (fun _ => rfl) fun a106 h105 => ?_
  refine wv h105 rfl rfl rfl rfl (.bool false) (run_not rfl (h105.ev 28 rfl)) fun a108 h107 => ?_
  refine wmk h107 rfl rfl rfl rfl 29 rfl (fun _ => rfl) fun a110 h109 => ?_
  refine wpk_val h109 (by rw [wanted_of (g := 2) (want := false) (b := false) rfl (h109.yields (prev := 30) rfl (by simp))]; rfl) rfl (by decide) (fr rfl) (.bool true) (by unfold execOp; simp only [h109.ev 6 rfl]; rfl) fun a112 h111 => ?_
  refine wpk_val h111 (by rw [wanted_of (g := 2) (want := false) (b := false) rfl (h111.yields (prev := 30) rfl (by simp))]; rfl) rfl (by decide) (fr rfl) (.bool false) (run_not rfl (h111.ev 31 rfl)) fun a114 h113 => ?_
  refine wv h113 rfl rfl rfl rfl (.bool false) (run_pick rfl (h113.ev 30 rfl) (by rw [if_neg (by simp)]; exact h113.ev 32 rfl)) fun a116 h115 => ?_
  have h117 := h115.subs (l' := [(33, _), (6, _), (5, _), (4, _), (3, _), (0, _)]) rfl
  clear h115
  iterate 3 go_step
  refine wp_cond (t := false) (h117.ev 33 rfl) ?_
  simp only [Bool.false_eq_true, if_false]
  have h118 := h117.subs (l' := [(6, _), (5, _), (4, _), (3, _), (0, _)]) rfl
  clear h117
  iterate 4 go_step
  refine wmk h118 rfl rfl rfl rfl 4 rfl (fun _ => rfl) fun a120 h119 => ?_
  refine wv h119 rfl rfl rfl rfl (.int .i64 ((i + 1 : Nat) : Int)) (by unfold execOp; simp only [h119.ev 18 rfl]; exact run_v (addNP _ _ _ _ _ (by omega) (by omega) (by omega) _)) fun a122 h121 => ?_
  have h123 := h121.subs (l' := [(19, _), (18, _), (6, _), (5, _), (3, _), (0, _)]) rfl
  clear h121
  refine wmk h123 rfl rfl rfl rfl 19 rfl (fun _ => rfl) fun a125 h124 => ?_
  have h126 := h124.subs (l' := [(4, _), (6, _), (5, _), (3, _), (0, _)]) rfl
  clear h124
  iterate 2 go_step
  refine ⟨⟨i + 1, doM x M P, doP x M P, ta2, tc2, ra2, rc2, by omega, by omega, h126.subs rfl, hlen2, htx2, HS2.out, HB2.out⟩, ?_⟩
  rw [h126.ev 4 rfl, hK.ev 4 rfl]; simp [intOf]; omega
end Go.Proofs.YtcackliabemecaaGreatDoor
