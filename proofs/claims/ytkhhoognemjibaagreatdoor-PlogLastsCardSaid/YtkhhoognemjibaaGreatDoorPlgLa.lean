/- PlogLasts. (genPlgPy.py) -/
import Derived.Test.YtkhhoognemjibaaGreatDoorPlgPx
namespace Go.Proofs.YtkhhoognemjibaaGreatDoor
open Go.RowKit
set_option linter.unusedSimpArgs false
set_option linter.unusedVariables false
set_option maxRecDepth 100000

set_option maxHeartbeats 16000000 in
theorem PlogLasts_walk (w : World) (a : Option Addr) (c : Nat) (xs : List DeedT) (hxs : DeedsIn w a c xs) (pa : Option Addr) (pc : Nat) (X : List PtM) (hX : RowPt w pa pc X) (kX : inPts X) (ia : Option Addr) (ic : Nat) (I : List Int) (hI : RowI w ia ic I) (hIok : intsOk I) :
    Calls Tryz.prog 4 #[.slice a xs.length c, .slice pa X.length pc, .slice ia I.length ic] w fun e w' => e = .returned (.bool true) ∧ Below w.heap.size w w' := by
  have HXS := hid hxs; have HPX := hid hX; have HIS := hid hI
  obtain ⟨C, hC⟩ : ∃ C, cutP 6 40 X = C := ⟨_, rfl⟩
  have okC : okPts C := by rw [← hC]; exact cutP_ok kX.1
  have lenC : C.length ≤ 6 := by rw [← hC]; exact cutP_len _ _ _
  have hL9x : X.length ≤ 9223372036854775807 := Nat.le_trans kX.2.2 (by unfold maxLen; omega)
  clear hxs hX hI
  go_enter Tryz.func4, Tryz.ntmps4
  iterate 3 go_step
  refine wpk_enter (N := 106) (l := [(0, .slice a xs.length c), (1, .slice pa X.length pc), (2, .slice ia I.length ic)]) ⟨rfl, (by intro x hx; simp only [List.mem_cons, List.not_mem_nil, or_false] at hx; rcases hx with rfl | rfl | rfl <;> rfl), rfl⟩ fun a2 h1 => ?_
  refine wv h1 rfl rfl rfl rfl (.bool false) rfl fun a4 h3 => ?_
  iterate 5 go_step
  refine wpk_call h3 (wanted_none rfl) rfl (by decide) (fr rfl) (fun args => callP_20 args _) rfl #[] (by simp) (R := fun v' w' => ∃ K : PK, v' = .pointer (some ⟨K.pp, 0, none⟩) ∧ PairP w' w.heap.size K mem0 ∧ Below w.heap.size w w') ((beginPair_any w).mono fun e w' q => by obtain ⟨K, q1, q2, q3⟩ := q; exact ⟨_, q1, K, rfl, q2, q3⟩) fun a6 v0 w0 r0 h5 => ?_
  obtain ⟨K, rfl, hp0, hb0⟩ := r0; have HP0 := hid hp0; have HB0 := hid hb0; clear hp0 hb0
  refine wmk h5 rfl rfl rfl rfl 14 rfl (fun _ => rfl) fun a8 h7 => ?_
  have h9 := h7.subs (l' := [(7, _), (6, _), (0, _), (1, _), (2, _)]) rfl
  clear h7
  iterate 6 go_step
  refine wmk h9 rfl rfl rfl rfl 7 rfl (fun _ => rfl) fun a11 h10 => ?_
  refine wv h10 rfl rfl rfl rfl (.bool false) (by unfold execOp; simp only [h10.ev 15 rfl]; exact run_v (eqPnP _ _ _ _)) fun a13 h12 => ?_
  have h14 := h12.subs (l' := [(16, _), (7, _), (6, _), (0, _), (1, _), (2, _)]) rfl
  clear h12
  iterate 3 go_step
  refine wp_cond (t := false) (h14.ev 16 rfl) ?_
  simp only [Bool.false_eq_true, if_false]
  have h15 := h14.subs (l' := [(7, _), (6, _), (0, _), (1, _), (2, _)]) rfl
  clear h14
  iterate 6 go_step
  refine wv h15 rfl rfl rfl rfl (.int .i64 0) rfl fun a17 h16 => ?_
  iterate 4 go_step
  have h18 := h16.subs (l' := [(8, _), (7, _), (0, _), (1, _), (2, _)]) rfl
  clear h16
  refine wp_loop (I := fun a' w' => ∃ (i : Nat) (M : MemM), i ≤ xs.length ∧ i ≤ 10 ∧ M.V.length = 1024 ∧ Kn 106 [(8, .int .i64 (i : Int)), (7, .pointer (some ⟨K.pp, 0, none⟩)), (0, .slice a xs.length c), (1, .slice pa X.length pc), (2, .slice ia I.length ic)] a' ∧ PairP w' w.heap.size K M ∧ Below w.heap.size w w') (μ := fun a' _ => xs.length - (intOf (a'.eval (.tmp 8))).toNat) ⟨0, mem0, by omega, by omega, mem0_len, h18, HP0.out, HB0.out⟩ ?_
  clear HP0 HB0 h18
  rintro aL aw ⟨i, M, hi, hi4, hlenM, hK, hpa, hba⟩
  have HPa := hid hpa; have HBa := hid hba; clear hpa hba
  by_cases hlt : i < xs.length ∧ i < 10
  case pos =>
    obtain ⟨hltL, hltN⟩ := hlt
    have hd0 : decide ((i : Int) < (xs.length : Int)) = true := decide_eq_true (by omega)
    have hd1 : decide ((i : Int) < 10) = true := decide_eq_true (by omega)
    obtain ⟨pb, po, ha0, hpb, hrg⟩ := deedsIn_at HXS.out hltL
    obtain ⟨x, hx⟩ : ∃ y, y = xs[i] := ⟨_, rfl⟩
    have hxin := HXS.out.i xs[i] (List.getElem_mem hltL)
    rw [← hx] at hrg hxin
    have HX := hid hxin; clear hxin hx
    iterate 4 go_step
    refine wmk hK rfl rfl rfl rfl 8 rfl (fun _ => rfl) fun a20 h19 => ?_
    refine wmk h19 rfl rfl rfl rfl 0 rfl (fun _ => rfl) fun a22 h21 => ?_
    refine wv h21 rfl rfl rfl rfl (.int .i64 (xs.length : Int)) (run_lenDP rfl (h21.ev 18 rfl) _) fun a24 h23 => ?_
    refine wv h23 rfl rfl rfl rfl (.bool true) (by unfold execOp; simp only [h23.ev 17 rfl, h23.ev 19 rfl]; exact run_v (ltIP _ _ _ _ _ hd0)) fun a26 h25 => ?_
    refine wmk h25 rfl rfl rfl rfl 20 rfl (fun _ => rfl) fun a28 h27 => ?_
    refine wpk_val h27 (by rw [wanted_of (g := 4) (want := true) (b := true) rfl (h27.yields (prev := 21) rfl (by simp))]; rfl) rfl (by decide) (fr rfl) (.int .i64 (i : Int)) (by unfold execOp; simp only [h27.ev 8 rfl]; rfl) fun a30 h29 => ?_
    refine wpk_val h29 (by rw [wanted_of (g := 4) (want := true) (b := true) rfl (h29.yields (prev := 21) rfl (by simp))]; rfl) rfl (by decide) (fr rfl) (.bool true) (by unfold execOp; simp only [h29.ev 22 rfl]; exact run_v (ltIP _ _ _ _ _ hd1)) fun a32 h31 => ?_
    refine wv h31 rfl rfl rfl rfl (.bool true) (run_pick rfl (h31.ev 21 rfl) (by rw [if_pos rfl]; exact h31.ev 23 rfl)) fun a34 h33 => ?_
    have h35 := h33.subs (l' := [(24, _), (8, _), (7, _), (0, _), (1, _), (2, _)]) rfl
    clear h33
    iterate 3 go_step
    refine wp_cond (t := true) (h35.ev 24 rfl) ?_
    simp only [if_true]
    have h36 := h35.subs (l' := [(8, _), (7, _), (0, _), (1, _), (2, _)]) rfl
    clear h35
    iterate 6 go_step
    refine wmk h36 rfl rfl rfl rfl 7 rfl (fun _ => rfl) fun a38 h37 => ?_
    refine wmk h37 rfl rfl rfl rfl 0 rfl (fun _ => rfl) fun a40 h39 => ?_
    refine wmk h39 rfl rfl rfl rfl 8 rfl (fun _ => rfl) fun a42 h41 => ?_
    refine wv h41 rfl rfl rfl rfl (.pointer (some ⟨pb, po + i * 5, none⟩)) (by unfold execOp; simp only [h41.ev 28 rfl, h41.ev 29 rfl]; exact run_v (by rw [ha0]; exact ixDP pb po _ c i hltL _)) fun a44 h43 => ?_
    refine wv h43 rfl rfl rfl rfl (.agg (deedC x).toArray) (by unfold execOp; simp only [h43.ev 30 rfl]; exact run_v (run_loadAt_mid _ _ _ _ (deedC x) _ (below_range HBa.out hpb hrg) Tryz.underlying30 rfl (by rw [infoDeed]; rfl))) fun a46 h45 => ?_
    refine wpk_call h45 (wanted_none rfl) rfl (by decide) (fr rfl) (fun args => callP_1007 args _) rfl #[.pointer (some ⟨K.pp, 0, none⟩), .agg (deedC x).toArray] (by simp only [List.map_toArray, List.map_cons, List.map_nil, h45.ev 27 rfl, h45.ev 31 rfl]) (R := fun v' w' => ∃ M1 : MemM, v' = .bool true ∧ PairP w' w.heap.size K M1 ∧ M1.V.length = M.V.length ∧ Below w.heap.size w w') ((does_any HPa.out HBa.out hlenM x HX.out).mono fun e w' q => by obtain ⟨M1, q1, q2, q3, q4, _⟩ := q; exact ⟨_, q1, M1, rfl, q2, q3, q4⟩) fun a48 v1 w1 r1 h47 => ?_
    obtain ⟨M1, rfl, hp1, hl1, hb1⟩ := r1; have hlen1 : M1.V.length = 1024 := hl1.trans hlenM; have HP1 := hid hp1; have HB1 := hid hb1; clear hp1 hb1 hl1
    have h49 := h47.subs (l' := [(8, _), (7, _), (0, _), (1, _), (2, _)]) rfl
    clear h47
    iterate 4 go_step
    refine wmk h49 rfl rfl rfl rfl 8 rfl (fun _ => rfl) fun a51 h50 => ?_
    refine wv h50 rfl rfl rfl rfl (.int .i64 ((i + 1 : Nat) : Int)) (by unfold execOp; simp only [h50.ev 25 rfl]; exact run_v (addIP _ _ i (by omega) _)) fun a53 h52 => ?_
    have h54 := h52.subs (l' := [(26, _), (25, _), (7, _), (0, _), (1, _), (2, _)]) rfl
    clear h52
    refine wmk h54 rfl rfl rfl rfl 26 rfl (fun _ => rfl) fun a56 h55 => ?_
    have h57 := h55.subs (l' := [(8, _), (7, _), (0, _), (1, _), (2, _)]) rfl
    clear h55
    iterate 2 go_step
    refine ⟨⟨i + 1, M1, by omega, by omega, hlen1, h57.subs rfl, HP1.out, HB1.out⟩, ?_⟩
    rw [h57.ev 8 rfl, hK.ev 8 rfl]; simp [intOf]; omega
  by_cases hltL : i < xs.length
  case pos =>
    have hd0 : decide ((i : Int) < (xs.length : Int)) = true := decide_eq_true (by omega)
    have hd1 : decide ((i : Int) < 10) = false := decide_eq_false (by omega)
    iterate 4 go_step
    refine wmk hK rfl rfl rfl rfl 8 rfl (fun _ => rfl) fun a59 h58 => ?_
    refine wmk h58 rfl rfl rfl rfl 0 rfl (fun _ => rfl) fun a61 h60 => ?_
    refine wv h60 rfl rfl rfl rfl (.int .i64 (xs.length : Int)) (run_lenDP rfl (h60.ev 18 rfl) _) fun a63 h62 => ?_
    refine wv h62 rfl rfl rfl rfl (.bool true) (by unfold execOp; simp only [h62.ev 17 rfl, h62.ev 19 rfl]; exact run_v (ltIP _ _ _ _ _ hd0)) fun a65 h64 => ?_
    refine wmk h64 rfl rfl rfl rfl 20 rfl (fun _ => rfl) fun a67 h66 => ?_
    refine wpk_val h66 (by rw [wanted_of (g := 4) (want := true) (b := true) rfl (h66.yields (prev := 21) rfl (by simp))]; rfl) rfl (by decide) (fr rfl) (.int .i64 (i : Int)) (by unfold execOp; simp only [h66.ev 8 rfl]; rfl) fun a69 h68 => ?_
    refine wpk_val h68 (by rw [wanted_of (g := 4) (want := true) (b := true) rfl (h68.yields (prev := 21) rfl (by simp))]; rfl) rfl (by decide) (fr rfl) (.bool false) (by unfold execOp; simp only [h68.ev 22 rfl]; exact run_v (ltIP _ _ _ _ _ hd1)) fun a71 h70 => ?_
    refine wv h70 rfl rfl rfl rfl (.bool false) (run_pick rfl (h70.ev 21 rfl) (by rw [if_pos rfl]; exact h70.ev 23 rfl)) fun a73 h72 => ?_
    have h74 := h72.subs (l' := [(24, _), (8, _), (7, _), (0, _), (1, _), (2, _)]) rfl
    clear h72
    iterate 3 go_step
    refine wp_cond (t := false) (h74.ev 24 rfl) ?_
    simp only [Bool.false_eq_true, if_false]
    have h75 := h74.subs (l' := [(8, _), (7, _), (0, _), (1, _), (2, _)]) rfl
    clear h74
    iterate 4 go_step
    have HSa := hid (Sides.of HPa.out)
    iterate 3 go_step
    refine wmk h75 rfl rfl rfl rfl 7 rfl (fun _ => rfl) fun a77 h76 => ?_
    refine wv h76 rfl rfl rfl rfl (.pointer (some ⟨K.pp, 0, none⟩)) (by unfold execOp; simp only [h76.ev 33 rfl]; exact rfl) fun a79 h78 => ?_
    refine wv h78 rfl rfl rfl rfl (.pointer (some ⟨K.pp, 0, none⟩)) (by unfold execOp; simp only [h78.ev 34 rfl]; exact run_v (fa_50_0_0 (K.pp) _)) fun a81 h80 => ?_
    refine wv h80 rfl rfl rfl rfl (.pointer (some ⟨K.g, 0, none⟩)) (by unfold execOp; simp only [h80.ev 35 rfl]; exact run_v (loadMP (HSa.out.b.cell (i := 0) (by show 0 < 4; omega)))) fun a83 h82 => ?_
    refine wpk_call h82 (wanted_none rfl) rfl (by decide) (fr rfl) (fun args => callP_76 args _) rfl #[.pointer (some ⟨K.g, 0, none⟩), .int .i64 0, .int .i64 1024] (by simp only [List.map_toArray, List.map_cons, List.map_nil, h82.ev 36 rfl]; rfl) (R := fun v' w' => LogP w' K.lg K.g K.v K.d K.p 512 512 (flushU M 0 1024) ∧ Turns (XM K.v K.d K.p) aw w') ((flush_u HSa.out.l.m 0 1024 (by unfold i64B; omega) (by unfold i64B; omega)).mono fun e w' q => ⟨_, q.1, HSa.out.l.next q.2.1 q.2.2 (by intro k hk; exact .inr (.inr hk)), q.2.2.mono (by intro k hk; exact .inr (.inr hk))⟩) fun a85 v5 w5 r5 h84 => ?_
    have HS5 := hid (HSa.out.left r5.1 r5.2); have HB5 := hid (sides_belowL HSa.out HBa.out r5.2); clear r5
    have h86 := h84.subs (l' := [(8, _), (7, _), (0, _), (1, _), (2, _)]) rfl
    clear h84
    iterate 5 go_step
    refine wmk h86 rfl rfl rfl rfl 7 rfl (fun _ => rfl) fun a88 h87 => ?_
    refine wv h87 rfl rfl rfl rfl (.pointer (some ⟨K.pp, 0, none⟩)) (by unfold execOp; simp only [h87.ev 38 rfl]; exact rfl) fun a90 h89 => ?_
    refine wv h89 rfl rfl rfl rfl (.pointer (some ⟨K.pp, 0, none⟩)) (by unfold execOp; simp only [h89.ev 39 rfl]; exact run_v (fa_50_0_0 (K.pp) _)) fun a92 h91 => ?_
    refine wv h91 rfl rfl rfl rfl (.pointer (some ⟨K.g, 0, none⟩)) (by unfold execOp; simp only [h91.ev 40 rfl]; exact run_v (loadMP (HS5.out.b.cell (i := 0) (by show 0 < 4; omega)))) fun a94 h93 => ?_
    refine wpk_call h93 (wanted_none rfl) rfl (by decide) (fr rfl) (fun args => callP_75 args _) rfl #[.pointer (some ⟨K.g, 0, none⟩)] (by simp only [List.map_toArray, List.map_cons, List.map_nil, h93.ev 41 rfl]) (R := fun v' w' => LogP w' K.lg K.g K.v K.d K.p 512 512 (fenceM (flushU M 0 1024)) ∧ Turns (XM K.v K.d K.p) w5 w') ((fence_any HS5.out.l.m).mono fun e w' q => by obtain ⟨⟨y, q1⟩, q2, q3⟩ := q; exact ⟨y, q1, HS5.out.l.next q2 q3 (by intro k hk; exact .inr hk), q3.mono (by intro k hk; exact .inr hk)⟩) fun a96 v6 w6 r6 h95 => ?_
    have HS6 := hid (HS5.out.left r6.1 r6.2); have HB6 := hid (sides_belowL HS5.out HB5.out r6.2); clear r6
    obtain ⟨N, hN⟩ : ∃ N, N = fenceM (flushU M 0 1024) := ⟨_, rfl⟩
    have hND : N.D = N.V := by rw [hN]; exact fence_all HSa.out.l.m.1 hlenM
    have hNl : N.V.length = 1024 := by rw [hN, fenceM_V, flushU_len]; exact hlenM
    rw [← hN] at HS6; clear hN
    have h97 := h95.subs (l' := [(8, _), (7, _), (0, _), (1, _), (2, _)]) rfl
    clear h95
    iterate 5 go_step
    refine wmk h97 rfl rfl rfl rfl 1 rfl (fun _ => rfl) fun a99 h98 => ?_
    refine wpk_call h98 (wanted_none rfl) rfl (by decide) (fr rfl) (fun args => callP_21 args _) rfl #[.slice pa X.length pc] (by simp only [List.map_toArray, List.map_cons, List.map_nil, h98.ev 43 rfl]) (R := fun v' w' => ∃ la lc, v' = .slice la (cutP 6 40 X).length lc ∧ OwnPt w' w6.heap.size la lc (cutP 6 40 X) ∧ Below w6.heap.size w6 w') ((little_any (HPX.out.below HB6.out) hL9x).mono fun e w' q => by obtain ⟨x, y, q1, q2⟩ := q; exact ⟨_, q1, x, y, rfl, q2⟩) fun a101 v7 w7 r7 h100 => ?_
    obtain ⟨la, lc, rfl, o7, b7⟩ := r7; rw [hC] at o7 h100; have HS7 := hid (HS6.out.mono b7); have HB7 := hid (kept_trans HB6.out b7); have hlt7 := sides_lt HS6.out; have R7 := hid o7; clear b7 o7
    have h102 := h100.subs (l' := [(44, _), (43, _), (8, _), (7, _), (0, _), (2, _)]) rfl
    clear h100
    refine wmk h102 rfl rfl rfl rfl 44 rfl (fun _ => rfl) fun a104 h103 => ?_
    have h105 := h103.subs (l' := [(1, _), (8, _), (7, _), (0, _), (2, _)]) rfl
    clear h103
    iterate 5 go_step
    refine wmk h105 rfl rfl rfl rfl 7 rfl (fun _ => rfl) fun a107 h106 => ?_
    refine wv h106 rfl rfl rfl rfl (.pointer (some ⟨K.pp, 0, none⟩)) (by unfold execOp; simp only [h106.ev 45 rfl]; exact rfl) fun a109 h108 => ?_
    refine wv h108 rfl rfl rfl rfl (.pointer (some ⟨K.pp, 1, none⟩)) (by unfold execOp; simp only [h108.ev 46 rfl]; exact run_v (fa_50_0_1 (K.pp) _)) fun a111 h110 => ?_
    refine wv h110 rfl rfl rfl rfl (.pointer (some ⟨K.lg, 0, none⟩)) (by unfold execOp; simp only [h110.ev 47 rfl]; exact run_v (loadLP (HS7.out.b.cell (i := 1) (by show 1 < 4; omega)))) fun a113 h112 => ?_
    refine wpk_call h112 (wanted_none rfl) rfl (by decide) (fr rfl) (fun args => callP_29 args _) rfl #[.pointer (some ⟨K.lg, 0, none⟩)] (by simp only [List.map_toArray, List.map_cons, List.map_nil, h112.ev 48 rfl]) (R := fun v' w' => ∃ ra rc rs, v' = .slice ra rs.length rc ∧ rs.map (·.2.2) = (logR N.V 512 512).1 ∧ RecsP w' w7.heap.size ra rc rs ∧ Below w7.heap.size w7 w') ((records_any HS7.out.l (logOk_of hNl)).mono fun e w' q => by obtain ⟨x, y, z, q1, q2⟩ := q; exact ⟨_, q1, x, y, z, rfl, q2⟩) fun a115 v8 w8 r8 h114 => ?_
    obtain ⟨ra1, rc1, rs1, rfl, hm1, hr1, b8⟩ := r8; have HS8 := hid (HS7.out.mono b8); have HB8 := hid (kept_trans HB7.out b8); have R8 := hid (Own.mono R7.out b8); have HR1 := hid hr1; have HM1 := hid hm1; have hlt8 : ∀ k, K.all k → k < w7.heap.size := sides_lt HS7.out; have hn1 : rs1.length ≤ 1000 := by have z := congrArg List.length hm1; rw [List.length_map] at z; have z2 := logR_n N.V 512 512; omega
    clear b8 hr1 hm1
    refine wmk h114 rfl rfl rfl rfl 49 rfl (fun _ => rfl) fun a117 h116 => ?_
    have h118 := h116.subs (l' := [(9, _), (1, _), (8, _), (7, _), (0, _), (2, _)]) rfl
    clear h116
    iterate 5 go_step
    refine wmk h118 rfl rfl rfl rfl 7 rfl (fun _ => rfl) fun a120 h119 => ?_
    refine wv h119 rfl rfl rfl rfl (.pointer (some ⟨K.pp, 0, none⟩)) (by unfold execOp; simp only [h119.ev 50 rfl]; exact rfl) fun a122 h121 => ?_
    refine wv h121 rfl rfl rfl rfl (.pointer (some ⟨K.pp, 1, none⟩)) (by unfold execOp; simp only [h121.ev 51 rfl]; exact run_v (fa_50_0_1 (K.pp) _)) fun a124 h123 => ?_
    refine wv h123 rfl rfl rfl rfl (.pointer (some ⟨K.lg, 0, none⟩)) (by unfold execOp; simp only [h123.ev 52 rfl]; exact run_v (loadLP (HS8.out.b.cell (i := 1) (by show 1 < 4; omega)))) fun a126 h125 => ?_
    refine wmk h125 rfl rfl rfl rfl 1 rfl (fun _ => rfl) fun a128 h127 => ?_
    refine wpk_call h127 (wanted_none rfl) rfl (by decide) (fr rfl) (fun args => callP_22 args _) rfl #[.pointer (some ⟨K.lg, 0, none⟩), .slice la C.length lc] (by simp only [List.map_toArray, List.map_cons, List.map_nil, h127.ev 53 rfl, h127.ev 54 rfl]) (R := fun v' w' => v' = .int .i64 (appE N 512 512 C) ∧ LogP w' K.lg K.g K.v K.d K.p 512 512 (appM N 512 512 C) ∧ Turns (XM K.v K.d K.p) w8 w') (append_any HS8.out.l (logOk_of hNl) R8.out.row okC (by omega)) fun a130 v9 w9 r9 h129 => ?_
    obtain ⟨rfl, l9, t9⟩ := r9; have HS9 := hid (HS8.out.left l9 t9); have HB9 := hid (sides_belowL HS8.out HB8.out t9); have R9 := hid (t9.own R8.out (by intro k hk; exact hlt7 k (.inl hk))); have HR1 := hid (HR1.out.turns t9 (by intro k hk; exact hlt8 k (.inl hk))); clear l9 t9
    refine wmk h129 rfl rfl rfl rfl 55 rfl (fun _ => rfl) fun a132 h131 => ?_
    have h133 := h131.subs (l' := [(10, _), (9, _), (1, _), (8, _), (7, _), (0, _), (2, _)]) rfl
    clear h131
    iterate 4 go_step
    by_cases hp2 : 200 < I.length
    case pos =>
      have hbig : decide ((200 : Int) < (I.length : Int)) = true := decide_eq_true (by omega)
      have hI2 : (I.take 200).length = 200 := by rw [List.length_take]; omega
      have hcr := crash_any HS9.out.l.m (I.take 200) ia ic ((rowI_take HIS.out 200).below HB9.out) (fun y hy => hIok y (List.mem_of_mem_take hy)) (fun hn k hk => by obtain ⟨off, e⟩ := hk; have z := rowLt (rowI_take HIS.out 200) hn e; have f := HS9.out.f; unfold PK.from at f; omega)
      rw [hI2] at hcr
      iterate 2 go_step
      refine wmk h133 rfl rfl rfl rfl 2 rfl (fun _ => rfl) fun a135 h134 => ?_
      refine wv h134 rfl rfl rfl rfl (.int .i64 (I.length : Int)) (run_lenIS rfl (h134.ev 56 rfl) _) fun a137 h136 => ?_
      refine wv h136 rfl rfl rfl rfl (.bool true) (by unfold execOp; simp only [h136.ev 57 rfl]; exact run_v (gtIP _ _ _ _ _ hbig)) fun a139 h138 => ?_
      have h140 := h138.subs (l' := [(58, _), (10, _), (9, _), (1, _), (8, _), (7, _), (0, _), (2, _)]) rfl
      clear h138
      iterate 3 go_step
      refine wp_cond (t := true) (h140.ev 58 rfl) ?_
      simp only [if_true]
      have h141 := h140.subs (l' := [(10, _), (9, _), (1, _), (8, _), (7, _), (0, _), (2, _)]) rfl
      clear h140
      go_step
      refine wmk h141 rfl rfl rfl rfl 2 rfl (fun _ => rfl) fun a143 h142 => ?_
      refine wv h142 rfl rfl rfl rfl (.slice ia 200 ic) (by unfold execOp; simp only [Option.map_some, Option.map_none, h142.ev 59 rfl]; exact run_v (sliceHI HIS.out 200 (by omega) _)) fun a145 h144 => ?_
      have h146 := h144.subs (l' := [(60, _), (59, _), (10, _), (9, _), (1, _), (8, _), (7, _), (0, _)]) rfl
      clear h144
      refine wmk h146 rfl rfl rfl rfl 60 rfl (fun _ => rfl) fun a148 h147 => ?_
      have h149 := h147.subs (l' := [(2, _), (10, _), (9, _), (1, _), (8, _), (7, _), (0, _)]) rfl
      clear h147
      iterate 5 go_step
      refine wmk h149 rfl rfl rfl rfl 7 rfl (fun _ => rfl) fun a151 h150 => ?_
      refine wv h150 rfl rfl rfl rfl (.pointer (some ⟨K.pp, 0, none⟩)) (by unfold execOp; simp only [h150.ev 61 rfl]; exact rfl) fun a153 h152 => ?_
      refine wv h152 rfl rfl rfl rfl (.pointer (some ⟨K.pp, 0, none⟩)) (by unfold execOp; simp only [h152.ev 62 rfl]; exact run_v (fa_50_0_0 (K.pp) _)) fun a155 h154 => ?_
      refine wv h154 rfl rfl rfl rfl (.pointer (some ⟨K.g, 0, none⟩)) (by unfold execOp; simp only [h154.ev 63 rfl]; exact run_v (loadMP (HS9.out.b.cell (i := 0) (by show 0 < 4; omega)))) fun a157 h156 => ?_
      refine wmk h156 rfl rfl rfl rfl 2 rfl (fun _ => rfl) fun a159 h158 => ?_
      refine wpk_call h158 (wanted_none rfl) rfl (by decide) (fr rfl) (fun args => callP_24 args _) rfl #[.pointer (some ⟨K.g, 0, none⟩), .slice ia 200 ic] (by simp only [List.map_toArray, List.map_cons, List.map_nil, h158.ev 64 rfl, h158.ev 65 rfl]) (R := fun v' w' => LogP w' K.lg K.g K.v K.d K.p 512 512 (crashM (appM N 512 512 C) (I.take 200)) ∧ Turns (XM K.v K.d K.p) w9 w') ((hcr).mono fun e w' q => by obtain ⟨⟨y, q1⟩, q2, q3⟩ := q; exact ⟨y, q1, HS9.out.l.next q2 q3 (by intro k hk; exact hk), q3⟩) fun a161 v10 w10 r10 h160 => ?_
      have HS10 := hid (HS9.out.left r10.1 r10.2); have HB10 := hid (sides_belowL HS9.out HB9.out r10.2); have R10 := hid (r10.2.own R9.out (by intro k hk; exact hlt7 k (.inl hk))); have HR1 := hid (HR1.out.turns r10.2 (by intro k hk; exact hlt8 k (.inl hk))); clear r10
      have hV : (crashM (appM N 512 512 C) (I.take 200)).V = (appM N 512 512 C).V := (crash_same (appM_ok HS8.out.l.m.1 _ _ _) (appM_D HS8.out.l.m.1 hND _ _ _) _).1
      have h162 := h160.subs (l' := [(2, _), (10, _), (9, _), (1, _), (8, _), (7, _), (0, _)]) rfl
      clear h160
      iterate 5 go_step
      refine wmk h162 rfl rfl rfl rfl 7 rfl (fun _ => rfl) fun a164 h163 => ?_
      refine wv h163 rfl rfl rfl rfl (.pointer (some ⟨K.pp, 0, none⟩)) (by unfold execOp; simp only [h163.ev 67 rfl]; exact rfl) fun a166 h165 => ?_
      refine wv h165 rfl rfl rfl rfl (.pointer (some ⟨K.pp, 1, none⟩)) (by unfold execOp; simp only [h165.ev 68 rfl]; exact run_v (fa_50_0_1 (K.pp) _)) fun a168 h167 => ?_
      refine wv h167 rfl rfl rfl rfl (.pointer (some ⟨K.lg, 0, none⟩)) (by unfold execOp; simp only [h167.ev 69 rfl]; exact run_v (loadLP (HS10.out.b.cell (i := 1) (by show 1 < 4; omega)))) fun a170 h169 => ?_
      refine wpk_call h169 (wanted_none rfl) rfl (by decide) (fr rfl) (fun args => callP_29 args _) rfl #[.pointer (some ⟨K.lg, 0, none⟩)] (by simp only [List.map_toArray, List.map_cons, List.map_nil, h169.ev 70 rfl]) (R := fun v' w' => ∃ ra rc rs, v' = .slice ra rs.length rc ∧ rs.map (·.2.2) = (logR (crashM (appM N 512 512 C) (I.take 200)).V 512 512).1 ∧ RecsP w' w10.heap.size ra rc rs ∧ Below w10.heap.size w10 w') ((records_any HS10.out.l (logOk_of (by rw [hV, appM_len]; exact hNl))).mono fun e w' q => by obtain ⟨x, y, z, q1, q2⟩ := q; exact ⟨_, q1, x, y, z, rfl, q2⟩) fun a172 v11 w11 r11 h171 => ?_
      obtain ⟨ra3, rc3, rs3, rfl, hm3, hr3, b11⟩ := r11; rw [hV, logR_app (logOk_of hNl)] at hm3; have HB11 := hid (kept_trans HB10.out b11); have R11 := hid (Own.mono R10.out b11); have HR1 := hid (HR1.out.mono b11); have HR3 := hid hr3; have HM3 := hid hm3; clear b11 hr3 hm3
      refine wmk h171 rfl rfl rfl rfl 71 rfl (fun _ => rfl) fun a174 h173 => ?_
      have h175 := h173.subs (l' := [(11, _), (2, _), (10, _), (9, _), (1, _), (8, _), (7, _), (0, _)]) rfl
      clear h173
      iterate 4 go_step
      by_cases he : appE N 512 512 C = 0
      case neg =>
        have hbad : (appE N 512 512 C != 0) = true := by simp [bne, he]
        have hsame : (if appE N 512 512 C = 0 then ((logR N.V 512 512).1 ++ [C], (logR N.V 512 512).2 + (encL C).length) else logR N.V 512 512).1 = (logR N.V 512 512).1 := by rw [if_neg he]
        have hln : rs3.length = rs1.length := by have z := congrArg List.length (HM3.out.trans (hsame.trans HM1.out.symm)); simpa using z
        iterate 2 go_step
        refine wmk h175 rfl rfl rfl rfl 10 rfl (fun _ => rfl) fun a177 h176 => ?_
        refine wv h176 rfl rfl rfl rfl (.bool true) (by unfold execOp; simp only [h176.ev 72 rfl]; exact run_v (neEP _ _ _ _ _ hbad)) fun a179 h178 => ?_
        have h180 := h178.subs (l' := [(73, _), (11, _), (2, _), (10, _), (9, _), (1, _), (8, _), (7, _), (0, _)]) rfl
        clear h178
        iterate 3 go_step
        refine wp_cond (t := true) (h180.ev 73 rfl) ?_
        simp only [if_true]
        have h181 := h180.subs (l' := [(11, _), (2, _), (10, _), (9, _), (1, _), (8, _), (7, _), (0, _)]) rfl
        clear h180
        iterate 2 go_step
        refine wmk h181 rfl rfl rfl rfl 11 rfl (fun _ => rfl) fun a183 h182 => ?_
        refine wmk h182 rfl rfl rfl rfl 9 rfl (fun _ => rfl) fun a185 h184 => ?_
        rw [hln] at h184
        refine wpk_call h184 (wanted_none rfl) rfl (by decide) (fr rfl) (fun args => callP_58 args _) rfl #[.slice ra3 rs1.length rc3, .slice ra1 rs1.length rc1] (by simp only [List.map_toArray, List.map_cons, List.map_nil, h184.ev 74 rfl, h184.ev 75 rfl]) (R := fun v' w' => v' = .bool true ∧ Below w11.heap.size w11 w') ((sameRecs_eqn rs1.length HR3.out HR1.out (HM3.out.trans (hsame.trans HM1.out.symm)) hln rfl (by omega) (fun L hL => by rw [HM1.out] at hL; exact Nat.le_trans (logR_ok hL).2.2 (by omega))).mono fun e w' q => ⟨_, q.1, rfl, q.2⟩) fun a187 v21 w21 r21 h186 => ?_
        obtain ⟨rfl, b21⟩ := r21; have HB21 := hid (kept_trans HB11.out b21); have R11 := hid (Own.mono R11.out b21); have HR3 := hid (HR3.out.mono b21); clear b21
        refine wmk h186 rfl rfl rfl rfl 76 rfl (fun _ => rfl) fun a189 h188 => ?_
        refine wpk_call h188 (by rw [wanted_of (g := 3) (want := true) (b := true) rfl (h188.yields (prev := 77) rfl (by simp))]; rfl) rfl (by decide) (fr rfl) (fun args => callP_13 args _) rfl #[] (by simp) (R := fun v' w' => v' = .bool true ∧ Below w21.heap.size w21 w') ((lives08_any _).mono fun e w' q => ⟨_, q.1, rfl, q.2⟩) fun a191 vx wx rx h190 => ?_
        obtain ⟨rfl, bx⟩ := rx; have HBx := hid (kept_trans HB21.out bx); clear bx
        refine wv h190 rfl rfl rfl rfl (.bool true) (run_pick rfl (h190.ev 77 rfl) (by rw [if_pos rfl]; exact h190.ev 78 rfl)) fun a193 h192 => ?_
        refine wmk h192 rfl rfl rfl rfl 79 rfl (fun _ => rfl) fun a195 h194 => ?_
        have h196 := h194.subs (l' := [(6, _), (11, _), (2, _), (10, _), (9, _), (1, _), (8, _), (7, _), (0, _)]) rfl
        clear h194
        iterate 4 go_step
        simp only [Exit.then, Exit.inBlock]
        exact bodyPost_ret (results_tmp1 rfl (h196.known (6, .bool true) (by simp))) h196.defs ⟨rfl, HBx.out⟩
      have hbad : (appE N 512 512 C != 0) = false := by rw [he]; rfl
      have hnow : (if appE N 512 512 C = 0 then ((logR N.V 512 512).1 ++ [C], (logR N.V 512 512).2 + (encL C).length) else logR N.V 512 512).1 = (logR N.V 512 512).1 ++ [C] := by rw [if_pos he]
      have hln : rs3.length = rs1.length + 1 := by have z := congrArg List.length (HM3.out.trans (hnow.trans (by rw [← HM1.out]))); simpa using z
      have hnn : ((rs3.length : Int) != ((rs1.length + 1 : Nat) : Int)) = false := by rw [hln]; simp
      iterate 2 go_step
      refine wmk h175 rfl rfl rfl rfl 10 rfl (fun _ => rfl) fun a198 h197 => ?_
      refine wv h197 rfl rfl rfl rfl (.bool false) (by unfold execOp; simp only [h197.ev 72 rfl]; exact run_v (neEP _ _ _ _ _ hbad)) fun a200 h199 => ?_
      have h201 := h199.subs (l' := [(73, _), (11, _), (2, _), (10, _), (9, _), (1, _), (8, _), (7, _), (0, _)]) rfl
      clear h199
      iterate 3 go_step
      refine wp_cond (t := false) (h201.ev 73 rfl) ?_
      simp only [Bool.false_eq_true, if_false]
      have h202 := h201.subs (l' := [(11, _), (2, _), (10, _), (9, _), (1, _), (8, _), (7, _), (0, _)]) rfl
      clear h201
      iterate 6 go_step
      refine wmk h202 rfl rfl rfl rfl 11 rfl (fun _ => rfl) fun a204 h203 => ?_
      refine wv h203 rfl rfl rfl rfl (.int .i64 (rs3.length : Int)) (run_lenRP rfl (h203.ev 80 rfl) _) fun a206 h205 => ?_
      refine wmk h205 rfl rfl rfl rfl 9 rfl (fun _ => rfl) fun a208 h207 => ?_
      refine wv h207 rfl rfl rfl rfl (.int .i64 (rs1.length : Int)) (run_lenRP rfl (h207.ev 82 rfl) _) fun a210 h209 => ?_
      refine wv h209 rfl rfl rfl rfl (.int .i64 ((rs1.length + 1 : Nat) : Int)) (by unfold execOp; simp only [h209.ev 83 rfl]; exact run_v (addIP _ _ rs1.length (by omega) _)) fun a212 h211 => ?_
      refine wv h211 rfl rfl rfl rfl (.bool false) (by unfold execOp; simp only [h211.ev 81 rfl, h211.ev 84 rfl]; exact run_v (neqIP _ _ _ _ _ hnn)) fun a214 h213 => ?_
      have h215 := h213.subs (l' := [(85, _), (11, _), (2, _), (10, _), (9, _), (1, _), (8, _), (7, _), (0, _)]) rfl
      clear h213
      iterate 3 go_step
      refine wp_cond (t := false) (h215.ev 85 rfl) ?_
      simp only [Bool.false_eq_true, if_false]
      have h216 := h215.subs (l' := [(11, _), (2, _), (10, _), (9, _), (1, _), (8, _), (7, _), (0, _)]) rfl
      clear h215
      iterate 5 go_step
      refine wmk h216 rfl rfl rfl rfl 11 rfl (fun _ => rfl) fun a218 h217 => ?_
      refine wmk h217 rfl rfl rfl rfl 9 rfl (fun _ => rfl) fun a220 h219 => ?_
      refine wv h219 rfl rfl rfl rfl (.int .i64 (rs1.length : Int)) (run_lenRP rfl (h219.ev 87 rfl) _) fun a222 h221 => ?_
      refine wv h221 rfl rfl rfl rfl (.slice ra3 rs1.length rc3) (by unfold execOp; simp only [Option.map_some, Option.map_none, h221.ev 86 rfl, h221.ev 88 rfl]; exact run_v (sliceHR HR3.out rs1.length (by omega) _)) fun a224 h223 => ?_
      refine wmk h223 rfl rfl rfl rfl 9 rfl (fun _ => rfl) fun a226 h225 => ?_
      refine wpk_call h225 (wanted_none rfl) rfl (by decide) (fr rfl) (fun args => callP_58 args _) rfl #[.slice ra3 rs1.length rc3, .slice ra1 rs1.length rc1] (by simp only [List.map_toArray, List.map_cons, List.map_nil, h225.ev 89 rfl, h225.ev 90 rfl]) (R := fun v' w' => v' = .bool true ∧ Below w11.heap.size w11 w') ((sameRecs_eqn rs1.length (HR3.out.take rs1.length) HR1.out (by rw [List.map_take, HM3.out, hnow, ← HM1.out, ← List.length_map (f := fun r : Option Addr × Nat × List PtM => r.2.2), List.take_left]) (by rw [List.length_take]; omega) rfl (by omega) (fun L hL => by rw [HM1.out] at hL; exact Nat.le_trans (logR_ok hL).2.2 (by omega))).mono fun e w' q => ⟨_, q.1, rfl, q.2⟩) fun a228 v21 w21 r21 h227 => ?_
      obtain ⟨rfl, b21⟩ := r21; have HB21 := hid (kept_trans HB11.out b21); have R11 := hid (Own.mono R11.out b21); have HR3 := hid (HR3.out.mono b21); clear b21
      refine wmk h227 rfl rfl rfl rfl 91 rfl (fun _ => rfl) fun a230 h229 => ?_
      have h231 := h229.subs (l' := [(12, _), (11, _), (2, _), (10, _), (9, _), (1, _), (8, _), (7, _), (0, _)]) rfl
      clear h229
      iterate 5 go_step
      refine wmk h231 rfl rfl rfl rfl 11 rfl (fun _ => rfl) fun a233 h232 => ?_
      refine wmk h232 rfl rfl rfl rfl 9 rfl (fun _ => rfl) fun a235 h234 => ?_
      refine wv h234 rfl rfl rfl rfl (.int .i64 (rs1.length : Int)) (run_lenRP rfl (h234.ev 93 rfl) _) fun a237 h236 => ?_
      obtain ⟨qb, qo, ad, cc, L9, hq0, hqc, hqr, hql⟩ := recs_at HR3.out (j := rs1.length) (by omega)
      have hL9 : C = L9 := by rw [HM3.out, hnow, ← HM1.out, List.getElem?_append_right (by rw [List.length_map]; exact Nat.le_refl _), List.length_map, Nat.sub_self] at hql; injection hql with e
      subst hL9
      refine wv h236 rfl rfl rfl rfl (.pointer (some ⟨qb, qo + rs1.length, none⟩)) (by unfold execOp; simp only [h236.ev 92 rfl, h236.ev 94 rfl]; exact run_v (by rw [hq0]; exact ixRP qb qo _ rc3 rs1.length (by omega) _)) fun a239 h238 => ?_
      refine wv h238 rfl rfl rfl rfl (.slice ad C.length cc) (by unfold execOp; simp only [h238.ev 95 rfl]; exact run_v (loadRP hqc)) fun a241 h240 => ?_
      refine wmk h240 rfl rfl rfl rfl 1 rfl (fun _ => rfl) fun a243 h242 => ?_
      refine wpk_call h242 (wanted_none rfl) rfl (by decide) (fr rfl) (fun args => callP_16 args _) rfl #[.slice ad C.length cc, .slice la C.length lc] (by simp only [List.map_toArray, List.map_cons, List.map_nil, h242.ev 96 rfl, h242.ev 97 rfl]) (R := fun v' w' => v' = .bool true ∧ Below w21.heap.size w21 w') ((samePts_eq hqr R11.out.row (by omega)).mono fun e w' q => ⟨_, q.1, rfl, q.2⟩) fun a245 v30 w30 r30 h244 => ?_
      obtain ⟨rfl, b30⟩ := r30; have HB30 := hid (kept_trans HB21.out b30); clear b30
      refine wmk h244 rfl rfl rfl rfl 98 rfl (fun _ => rfl) fun a247 h246 => ?_
      have h248 := h246.subs (l' := [(13, _), (12, _), (11, _), (2, _), (10, _), (9, _), (1, _), (8, _), (7, _), (0, _)]) rfl
      clear h246
      iterate 5 go_step
      refine wmk h248 rfl rfl rfl rfl 12 rfl (fun _ => rfl) fun a250 h249 => ?_
      refine wmk h249 rfl rfl rfl rfl 99 rfl (fun _ => rfl) fun a252 h251 => ?_
      refine wpk_val h251 (by rw [wanted_of (g := 1) (want := true) (b := true) rfl (h251.yields (prev := 100) rfl (by simp))]; rfl) rfl (by decide) (fr rfl) (.bool true) (by unfold execOp; simp only [h251.ev 13 rfl]; rfl) fun a254 h253 => ?_
      refine wv h253 rfl rfl rfl rfl (.bool true) (run_pick rfl (h253.ev 100 rfl) (by rw [if_pos rfl]; exact h253.ev 101 rfl)) fun a256 h255 => ?_
      refine wmk h255 rfl rfl rfl rfl 102 rfl (fun _ => rfl) fun a258 h257 => ?_
      refine wpk_call h257 (by rw [wanted_of (g := 4) (want := true) (b := true) rfl (h257.yields (prev := 103) rfl (by simp))]; rfl) rfl (by decide) (fr rfl) (fun args => callP_13 args _) rfl #[] (by simp) (R := fun v' w' => v' = .bool true ∧ Below w30.heap.size w30 w') ((lives08_any _).mono fun e w' q => ⟨_, q.1, rfl, q.2⟩) fun a260 vx wx rx h259 => ?_
      obtain ⟨rfl, bx⟩ := rx; have HBx := hid (kept_trans HB30.out bx); clear bx
      refine wv h259 rfl rfl rfl rfl (.bool true) (run_pick rfl (h259.ev 103 rfl) (by rw [if_pos rfl]; exact h259.ev 104 rfl)) fun a262 h261 => ?_
      refine wmk h261 rfl rfl rfl rfl 105 rfl (fun _ => rfl) fun a264 h263 => ?_
      have h265 := h263.subs (l' := [(6, _), (13, _), (12, _), (11, _), (2, _), (10, _), (9, _), (1, _), (8, _), (7, _), (0, _)]) rfl
      clear h263
      iterate 4 go_step
      exact bodyPost_ret (results_tmp1 rfl (h265.known (6, .bool true) (by simp))) h265.defs ⟨rfl, HBx.out⟩
    have hbig : decide ((200 : Int) < (I.length : Int)) = false := decide_eq_false (by omega)
    have hcr := crash_any HS9.out.l.m I ia ic (HIS.out.below HB9.out) hIok (fun hn k hk => by obtain ⟨off, e⟩ := hk; have z := rowLt HIS.out hn e; have f := HS9.out.f; unfold PK.from at f; omega)
    iterate 2 go_step
    refine wmk h133 rfl rfl rfl rfl 2 rfl (fun _ => rfl) fun a267 h266 => ?_
    refine wv h266 rfl rfl rfl rfl (.int .i64 (I.length : Int)) (run_lenIS rfl (h266.ev 56 rfl) _) fun a269 h268 => ?_
    refine wv h268 rfl rfl rfl rfl (.bool false) (by unfold execOp; simp only [h268.ev 57 rfl]; exact run_v (gtIP _ _ _ _ _ hbig)) fun a271 h270 => ?_
    have h272 := h270.subs (l' := [(58, _), (10, _), (9, _), (1, _), (8, _), (7, _), (0, _), (2, _)]) rfl
    clear h270
    iterate 3 go_step
    refine wp_cond (t := false) (h272.ev 58 rfl) ?_
    simp only [Bool.false_eq_true, if_false]
    have h273 := h272.subs (l' := [(10, _), (9, _), (1, _), (8, _), (7, _), (0, _), (2, _)]) rfl
    clear h272
    iterate 5 go_step
    refine wmk h273 rfl rfl rfl rfl 7 rfl (fun _ => rfl) fun a275 h274 => ?_
    refine wv h274 rfl rfl rfl rfl (.pointer (some ⟨K.pp, 0, none⟩)) (by unfold execOp; simp only [h274.ev 61 rfl]; exact rfl) fun a277 h276 => ?_
    refine wv h276 rfl rfl rfl rfl (.pointer (some ⟨K.pp, 0, none⟩)) (by unfold execOp; simp only [h276.ev 62 rfl]; exact run_v (fa_50_0_0 (K.pp) _)) fun a279 h278 => ?_
    refine wv h278 rfl rfl rfl rfl (.pointer (some ⟨K.g, 0, none⟩)) (by unfold execOp; simp only [h278.ev 63 rfl]; exact run_v (loadMP (HS9.out.b.cell (i := 0) (by show 0 < 4; omega)))) fun a281 h280 => ?_
    refine wmk h280 rfl rfl rfl rfl 2 rfl (fun _ => rfl) fun a283 h282 => ?_
    refine wpk_call h282 (wanted_none rfl) rfl (by decide) (fr rfl) (fun args => callP_24 args _) rfl #[.pointer (some ⟨K.g, 0, none⟩), .slice ia I.length ic] (by simp only [List.map_toArray, List.map_cons, List.map_nil, h282.ev 64 rfl, h282.ev 65 rfl]) (R := fun v' w' => LogP w' K.lg K.g K.v K.d K.p 512 512 (crashM (appM N 512 512 C) I) ∧ Turns (XM K.v K.d K.p) w9 w') ((hcr).mono fun e w' q => by obtain ⟨⟨y, q1⟩, q2, q3⟩ := q; exact ⟨y, q1, HS9.out.l.next q2 q3 (by intro k hk; exact hk), q3⟩) fun a285 v10 w10 r10 h284 => ?_
    have HS10 := hid (HS9.out.left r10.1 r10.2); have HB10 := hid (sides_belowL HS9.out HB9.out r10.2); have R10 := hid (r10.2.own R9.out (by intro k hk; exact hlt7 k (.inl hk))); have HR1 := hid (HR1.out.turns r10.2 (by intro k hk; exact hlt8 k (.inl hk))); clear r10
    have hV : (crashM (appM N 512 512 C) I).V = (appM N 512 512 C).V := (crash_same (appM_ok HS8.out.l.m.1 _ _ _) (appM_D HS8.out.l.m.1 hND _ _ _) _).1
    have h286 := h284.subs (l' := [(10, _), (9, _), (1, _), (8, _), (7, _), (0, _), (2, _)]) rfl
    clear h284
    iterate 5 go_step
    refine wmk h286 rfl rfl rfl rfl 7 rfl (fun _ => rfl) fun a288 h287 => ?_
    refine wv h287 rfl rfl rfl rfl (.pointer (some ⟨K.pp, 0, none⟩)) (by unfold execOp; simp only [h287.ev 67 rfl]; exact rfl) fun a290 h289 => ?_
    refine wv h289 rfl rfl rfl rfl (.pointer (some ⟨K.pp, 1, none⟩)) (by unfold execOp; simp only [h289.ev 68 rfl]; exact run_v (fa_50_0_1 (K.pp) _)) fun a292 h291 => ?_
    refine wv h291 rfl rfl rfl rfl (.pointer (some ⟨K.lg, 0, none⟩)) (by unfold execOp; simp only [h291.ev 69 rfl]; exact run_v (loadLP (HS10.out.b.cell (i := 1) (by show 1 < 4; omega)))) fun a294 h293 => ?_
    refine wpk_call h293 (wanted_none rfl) rfl (by decide) (fr rfl) (fun args => callP_29 args _) rfl #[.pointer (some ⟨K.lg, 0, none⟩)] (by simp only [List.map_toArray, List.map_cons, List.map_nil, h293.ev 70 rfl]) (R := fun v' w' => ∃ ra rc rs, v' = .slice ra rs.length rc ∧ rs.map (·.2.2) = (logR (crashM (appM N 512 512 C) I).V 512 512).1 ∧ RecsP w' w10.heap.size ra rc rs ∧ Below w10.heap.size w10 w') ((records_any HS10.out.l (logOk_of (by rw [hV, appM_len]; exact hNl))).mono fun e w' q => by obtain ⟨x, y, z, q1, q2⟩ := q; exact ⟨_, q1, x, y, z, rfl, q2⟩) fun a296 v11 w11 r11 h295 => ?_
    obtain ⟨ra3, rc3, rs3, rfl, hm3, hr3, b11⟩ := r11; rw [hV, logR_app (logOk_of hNl)] at hm3; have HB11 := hid (kept_trans HB10.out b11); have R11 := hid (Own.mono R10.out b11); have HR1 := hid (HR1.out.mono b11); have HR3 := hid hr3; have HM3 := hid hm3; clear b11 hr3 hm3
    refine wmk h295 rfl rfl rfl rfl 71 rfl (fun _ => rfl) fun a298 h297 => ?_
    have h299 := h297.subs (l' := [(11, _), (10, _), (9, _), (1, _), (8, _), (7, _), (0, _), (2, _)]) rfl
    clear h297
    iterate 4 go_step
    by_cases he : appE N 512 512 C = 0
    case neg =>
      have hbad : (appE N 512 512 C != 0) = true := by simp [bne, he]
      have hsame : (if appE N 512 512 C = 0 then ((logR N.V 512 512).1 ++ [C], (logR N.V 512 512).2 + (encL C).length) else logR N.V 512 512).1 = (logR N.V 512 512).1 := by rw [if_neg he]
      have hln : rs3.length = rs1.length := by have z := congrArg List.length (HM3.out.trans (hsame.trans HM1.out.symm)); simpa using z
      iterate 2 go_step
      refine wmk h299 rfl rfl rfl rfl 10 rfl (fun _ => rfl) fun a301 h300 => ?_
      refine wv h300 rfl rfl rfl rfl (.bool true) (by unfold execOp; simp only [h300.ev 72 rfl]; exact run_v (neEP _ _ _ _ _ hbad)) fun a303 h302 => ?_
      have h304 := h302.subs (l' := [(73, _), (11, _), (10, _), (9, _), (1, _), (8, _), (7, _), (0, _), (2, _)]) rfl
      clear h302
      iterate 3 go_step
      refine wp_cond (t := true) (h304.ev 73 rfl) ?_
      simp only [if_true]
      have h305 := h304.subs (l' := [(11, _), (10, _), (9, _), (1, _), (8, _), (7, _), (0, _), (2, _)]) rfl
      clear h304
      iterate 2 go_step
      refine wmk h305 rfl rfl rfl rfl 11 rfl (fun _ => rfl) fun a307 h306 => ?_
      refine wmk h306 rfl rfl rfl rfl 9 rfl (fun _ => rfl) fun a309 h308 => ?_
      rw [hln] at h308
      refine wpk_call h308 (wanted_none rfl) rfl (by decide) (fr rfl) (fun args => callP_58 args _) rfl #[.slice ra3 rs1.length rc3, .slice ra1 rs1.length rc1] (by simp only [List.map_toArray, List.map_cons, List.map_nil, h308.ev 74 rfl, h308.ev 75 rfl]) (R := fun v' w' => v' = .bool true ∧ Below w11.heap.size w11 w') ((sameRecs_eqn rs1.length HR3.out HR1.out (HM3.out.trans (hsame.trans HM1.out.symm)) hln rfl (by omega) (fun L hL => by rw [HM1.out] at hL; exact Nat.le_trans (logR_ok hL).2.2 (by omega))).mono fun e w' q => ⟨_, q.1, rfl, q.2⟩) fun a311 v22 w22 r22 h310 => ?_
      obtain ⟨rfl, b22⟩ := r22; have HB22 := hid (kept_trans HB11.out b22); have R11 := hid (Own.mono R11.out b22); have HR3 := hid (HR3.out.mono b22); clear b22
      refine wmk h310 rfl rfl rfl rfl 76 rfl (fun _ => rfl) fun a313 h312 => ?_
      refine wpk_call h312 (by rw [wanted_of (g := 3) (want := true) (b := true) rfl (h312.yields (prev := 77) rfl (by simp))]; rfl) rfl (by decide) (fr rfl) (fun args => callP_13 args _) rfl #[] (by simp) (R := fun v' w' => v' = .bool true ∧ Below w22.heap.size w22 w') ((lives08_any _).mono fun e w' q => ⟨_, q.1, rfl, q.2⟩) fun a315 vx wx rx h314 => ?_
      obtain ⟨rfl, bx⟩ := rx; have HBx := hid (kept_trans HB22.out bx); clear bx
      refine wv h314 rfl rfl rfl rfl (.bool true) (run_pick rfl (h314.ev 77 rfl) (by rw [if_pos rfl]; exact h314.ev 78 rfl)) fun a317 h316 => ?_
      refine wmk h316 rfl rfl rfl rfl 79 rfl (fun _ => rfl) fun a319 h318 => ?_
      have h320 := h318.subs (l' := [(6, _), (11, _), (10, _), (9, _), (1, _), (8, _), (7, _), (0, _), (2, _)]) rfl
      clear h318
      iterate 4 go_step
      simp only [Exit.then, Exit.inBlock]
      exact bodyPost_ret (results_tmp1 rfl (h320.known (6, .bool true) (by simp))) h320.defs ⟨rfl, HBx.out⟩
    have hbad : (appE N 512 512 C != 0) = false := by rw [he]; rfl
    have hnow : (if appE N 512 512 C = 0 then ((logR N.V 512 512).1 ++ [C], (logR N.V 512 512).2 + (encL C).length) else logR N.V 512 512).1 = (logR N.V 512 512).1 ++ [C] := by rw [if_pos he]
    have hln : rs3.length = rs1.length + 1 := by have z := congrArg List.length (HM3.out.trans (hnow.trans (by rw [← HM1.out]))); simpa using z
    have hnn : ((rs3.length : Int) != ((rs1.length + 1 : Nat) : Int)) = false := by rw [hln]; simp
    iterate 2 go_step
    refine wmk h299 rfl rfl rfl rfl 10 rfl (fun _ => rfl) fun a322 h321 => ?_
    refine wv h321 rfl rfl rfl rfl (.bool false) (by unfold execOp; simp only [h321.ev 72 rfl]; exact run_v (neEP _ _ _ _ _ hbad)) fun a324 h323 => ?_
    have h325 := h323.subs (l' := [(73, _), (11, _), (10, _), (9, _), (1, _), (8, _), (7, _), (0, _), (2, _)]) rfl
    clear h323
    iterate 3 go_step
    refine wp_cond (t := false) (h325.ev 73 rfl) ?_
    simp only [Bool.false_eq_true, if_false]
    have h326 := h325.subs (l' := [(11, _), (10, _), (9, _), (1, _), (8, _), (7, _), (0, _), (2, _)]) rfl
    clear h325
    iterate 6 go_step
    refine wmk h326 rfl rfl rfl rfl 11 rfl (fun _ => rfl) fun a328 h327 => ?_
    refine wv h327 rfl rfl rfl rfl (.int .i64 (rs3.length : Int)) (run_lenRP rfl (h327.ev 80 rfl) _) fun a330 h329 => ?_
    refine wmk h329 rfl rfl rfl rfl 9 rfl (fun _ => rfl) fun a332 h331 => ?_
    refine wv h331 rfl rfl rfl rfl (.int .i64 (rs1.length : Int)) (run_lenRP rfl (h331.ev 82 rfl) _) fun a334 h333 => ?_
    refine wv h333 rfl rfl rfl rfl (.int .i64 ((rs1.length + 1 : Nat) : Int)) (by unfold execOp; simp only [h333.ev 83 rfl]; exact run_v (addIP _ _ rs1.length (by omega) _)) fun a336 h335 => ?_
    refine wv h335 rfl rfl rfl rfl (.bool false) (by unfold execOp; simp only [h335.ev 81 rfl, h335.ev 84 rfl]; exact run_v (neqIP _ _ _ _ _ hnn)) fun a338 h337 => ?_
    have h339 := h337.subs (l' := [(85, _), (11, _), (10, _), (9, _), (1, _), (8, _), (7, _), (0, _), (2, _)]) rfl
    clear h337
    iterate 3 go_step
    refine wp_cond (t := false) (h339.ev 85 rfl) ?_
    simp only [Bool.false_eq_true, if_false]
    have h340 := h339.subs (l' := [(11, _), (10, _), (9, _), (1, _), (8, _), (7, _), (0, _), (2, _)]) rfl
    clear h339
    iterate 5 go_step
    refine wmk h340 rfl rfl rfl rfl 11 rfl (fun _ => rfl) fun a342 h341 => ?_
    refine wmk h341 rfl rfl rfl rfl 9 rfl (fun _ => rfl) fun a344 h343 => ?_
    refine wv h343 rfl rfl rfl rfl (.int .i64 (rs1.length : Int)) (run_lenRP rfl (h343.ev 87 rfl) _) fun a346 h345 => ?_
    refine wv h345 rfl rfl rfl rfl (.slice ra3 rs1.length rc3) (by unfold execOp; simp only [Option.map_some, Option.map_none, h345.ev 86 rfl, h345.ev 88 rfl]; exact run_v (sliceHR HR3.out rs1.length (by omega) _)) fun a348 h347 => ?_
    refine wmk h347 rfl rfl rfl rfl 9 rfl (fun _ => rfl) fun a350 h349 => ?_
    refine wpk_call h349 (wanted_none rfl) rfl (by decide) (fr rfl) (fun args => callP_58 args _) rfl #[.slice ra3 rs1.length rc3, .slice ra1 rs1.length rc1] (by simp only [List.map_toArray, List.map_cons, List.map_nil, h349.ev 89 rfl, h349.ev 90 rfl]) (R := fun v' w' => v' = .bool true ∧ Below w11.heap.size w11 w') ((sameRecs_eqn rs1.length (HR3.out.take rs1.length) HR1.out (by rw [List.map_take, HM3.out, hnow, ← HM1.out, ← List.length_map (f := fun r : Option Addr × Nat × List PtM => r.2.2), List.take_left]) (by rw [List.length_take]; omega) rfl (by omega) (fun L hL => by rw [HM1.out] at hL; exact Nat.le_trans (logR_ok hL).2.2 (by omega))).mono fun e w' q => ⟨_, q.1, rfl, q.2⟩) fun a352 v22 w22 r22 h351 => ?_
    obtain ⟨rfl, b22⟩ := r22; have HB22 := hid (kept_trans HB11.out b22); have R11 := hid (Own.mono R11.out b22); have HR3 := hid (HR3.out.mono b22); clear b22
    refine wmk h351 rfl rfl rfl rfl 91 rfl (fun _ => rfl) fun a354 h353 => ?_
    have h355 := h353.subs (l' := [(12, _), (11, _), (10, _), (9, _), (1, _), (8, _), (7, _), (0, _), (2, _)]) rfl
    clear h353
    iterate 5 go_step
    refine wmk h355 rfl rfl rfl rfl 11 rfl (fun _ => rfl) fun a357 h356 => ?_
    refine wmk h356 rfl rfl rfl rfl 9 rfl (fun _ => rfl) fun a359 h358 => ?_
    refine wv h358 rfl rfl rfl rfl (.int .i64 (rs1.length : Int)) (run_lenRP rfl (h358.ev 93 rfl) _) fun a361 h360 => ?_
    obtain ⟨qb, qo, ad, cc, L9, hq0, hqc, hqr, hql⟩ := recs_at HR3.out (j := rs1.length) (by omega)
    have hL9 : C = L9 := by rw [HM3.out, hnow, ← HM1.out, List.getElem?_append_right (by rw [List.length_map]; exact Nat.le_refl _), List.length_map, Nat.sub_self] at hql; injection hql with e
    subst hL9
    refine wv h360 rfl rfl rfl rfl (.pointer (some ⟨qb, qo + rs1.length, none⟩)) (by unfold execOp; simp only [h360.ev 92 rfl, h360.ev 94 rfl]; exact run_v (by rw [hq0]; exact ixRP qb qo _ rc3 rs1.length (by omega) _)) fun a363 h362 => ?_
    refine wv h362 rfl rfl rfl rfl (.slice ad C.length cc) (by unfold execOp; simp only [h362.ev 95 rfl]; exact run_v (loadRP hqc)) fun a365 h364 => ?_
    refine wmk h364 rfl rfl rfl rfl 1 rfl (fun _ => rfl) fun a367 h366 => ?_
    refine wpk_call h366 (wanted_none rfl) rfl (by decide) (fr rfl) (fun args => callP_16 args _) rfl #[.slice ad C.length cc, .slice la C.length lc] (by simp only [List.map_toArray, List.map_cons, List.map_nil, h366.ev 96 rfl, h366.ev 97 rfl]) (R := fun v' w' => v' = .bool true ∧ Below w22.heap.size w22 w') ((samePts_eq hqr R11.out.row (by omega)).mono fun e w' q => ⟨_, q.1, rfl, q.2⟩) fun a369 v30 w30 r30 h368 => ?_
    obtain ⟨rfl, b30⟩ := r30; have HB30 := hid (kept_trans HB22.out b30); clear b30
    refine wmk h368 rfl rfl rfl rfl 98 rfl (fun _ => rfl) fun a371 h370 => ?_
    have h372 := h370.subs (l' := [(13, _), (12, _), (11, _), (10, _), (9, _), (1, _), (8, _), (7, _), (0, _), (2, _)]) rfl
    clear h370
    iterate 5 go_step
    refine wmk h372 rfl rfl rfl rfl 12 rfl (fun _ => rfl) fun a374 h373 => ?_
    refine wmk h373 rfl rfl rfl rfl 99 rfl (fun _ => rfl) fun a376 h375 => ?_
    refine wpk_val h375 (by rw [wanted_of (g := 1) (want := true) (b := true) rfl (h375.yields (prev := 100) rfl (by simp))]; rfl) rfl (by decide) (fr rfl) (.bool true) (by unfold execOp; simp only [h375.ev 13 rfl]; rfl) fun a378 h377 => ?_
    refine wv h377 rfl rfl rfl rfl (.bool true) (run_pick rfl (h377.ev 100 rfl) (by rw [if_pos rfl]; exact h377.ev 101 rfl)) fun a380 h379 => ?_
    refine wmk h379 rfl rfl rfl rfl 102 rfl (fun _ => rfl) fun a382 h381 => ?_
    refine wpk_call h381 (by rw [wanted_of (g := 4) (want := true) (b := true) rfl (h381.yields (prev := 103) rfl (by simp))]; rfl) rfl (by decide) (fr rfl) (fun args => callP_13 args _) rfl #[] (by simp) (R := fun v' w' => v' = .bool true ∧ Below w30.heap.size w30 w') ((lives08_any _).mono fun e w' q => ⟨_, q.1, rfl, q.2⟩) fun a384 vx wx rx h383 => ?_
    obtain ⟨rfl, bx⟩ := rx; have HBx := hid (kept_trans HB30.out bx); clear bx
    refine wv h383 rfl rfl rfl rfl (.bool true) (run_pick rfl (h383.ev 103 rfl) (by rw [if_pos rfl]; exact h383.ev 104 rfl)) fun a386 h385 => ?_
    refine wmk h385 rfl rfl rfl rfl 105 rfl (fun _ => rfl) fun a388 h387 => ?_
    have h389 := h387.subs (l' := [(6, _), (13, _), (12, _), (11, _), (10, _), (9, _), (1, _), (8, _), (7, _), (0, _), (2, _)]) rfl
    clear h387
    iterate 4 go_step
    exact bodyPost_ret (results_tmp1 rfl (h389.known (6, .bool true) (by simp))) h389.defs ⟨rfl, HBx.out⟩
  have hd0 : decide ((i : Int) < (xs.length : Int)) = false := decide_eq_false (by omega)
  iterate 4 go_step
  refine wmk hK rfl rfl rfl rfl 8 rfl (fun _ => rfl) fun a391 h390 => ?_
  refine wmk h390 rfl rfl rfl rfl 0 rfl (fun _ => rfl) fun a393 h392 => ?_
  refine wv h392 rfl rfl rfl rfl (.int .i64 (xs.length : Int)) (run_lenDP rfl (h392.ev 18 rfl) _) fun a395 h394 => ?_
  refine wv h394 rfl rfl rfl rfl (.bool false) (by unfold execOp; simp only [h394.ev 17 rfl, h394.ev 19 rfl]; exact run_v (ltIP _ _ _ _ _ hd0)) fun a397 h396 => ?_
  refine wmk h396 rfl rfl rfl rfl 20 rfl (fun _ => rfl) fun a399 h398 => ?_
  refine wpk_skip h398 (by rw [wanted_of (g := 4) (want := true) (b := false) rfl (h398.yields (prev := 21) rfl (by simp))]; rfl) rfl (by decide) (fr rfl) fun a401 h400 => ?_
  refine wpk_skip h400 (by rw [wanted_of (g := 4) (want := true) (b := false) rfl (h400.yields (prev := 21) rfl (by simp))]; rfl) rfl (by decide) (fr rfl) fun a403 h402 => ?_
  refine wv h402 rfl rfl rfl rfl (.bool false) (run_pick rfl (h402.ev 21 rfl) rfl) fun a405 h404 => ?_
  have h406 := h404.subs (l' := [(24, _), (8, _), (7, _), (0, _), (1, _), (2, _)]) rfl
  clear h404
  iterate 3 go_step
  refine wp_cond (t := false) (h406.ev 24 rfl) ?_
  simp only [Bool.false_eq_true, if_false]
  have h407 := h406.subs (l' := [(8, _), (7, _), (0, _), (1, _), (2, _)]) rfl
  clear h406
  iterate 4 go_step
  have HSa := hid (Sides.of HPa.out)
  iterate 3 go_step
  refine wmk h407 rfl rfl rfl rfl 7 rfl (fun _ => rfl) fun a409 h408 => ?_
  refine wv h408 rfl rfl rfl rfl (.pointer (some ⟨K.pp, 0, none⟩)) (by unfold execOp; simp only [h408.ev 33 rfl]; exact rfl) fun a411 h410 => ?_
  refine wv h410 rfl rfl rfl rfl (.pointer (some ⟨K.pp, 0, none⟩)) (by unfold execOp; simp only [h410.ev 34 rfl]; exact run_v (fa_50_0_0 (K.pp) _)) fun a413 h412 => ?_
  refine wv h412 rfl rfl rfl rfl (.pointer (some ⟨K.g, 0, none⟩)) (by unfold execOp; simp only [h412.ev 35 rfl]; exact run_v (loadMP (HSa.out.b.cell (i := 0) (by show 0 < 4; omega)))) fun a415 h414 => ?_
  refine wpk_call h414 (wanted_none rfl) rfl (by decide) (fr rfl) (fun args => callP_76 args _) rfl #[.pointer (some ⟨K.g, 0, none⟩), .int .i64 0, .int .i64 1024] (by simp only [List.map_toArray, List.map_cons, List.map_nil, h414.ev 36 rfl]; rfl) (R := fun v' w' => LogP w' K.lg K.g K.v K.d K.p 512 512 (flushU M 0 1024) ∧ Turns (XM K.v K.d K.p) aw w') ((flush_u HSa.out.l.m 0 1024 (by unfold i64B; omega) (by unfold i64B; omega)).mono fun e w' q => ⟨_, q.1, HSa.out.l.next q.2.1 q.2.2 (by intro k hk; exact .inr (.inr hk)), q.2.2.mono (by intro k hk; exact .inr (.inr hk))⟩) fun a417 v5 w5 r5 h416 => ?_
  have HS5 := hid (HSa.out.left r5.1 r5.2); have HB5 := hid (sides_belowL HSa.out HBa.out r5.2); clear r5
  have h418 := h416.subs (l' := [(8, _), (7, _), (0, _), (1, _), (2, _)]) rfl
  clear h416
  iterate 5 go_step
  refine wmk h418 rfl rfl rfl rfl 7 rfl (fun _ => rfl) fun a420 h419 => ?_
  refine wv h419 rfl rfl rfl rfl (.pointer (some ⟨K.pp, 0, none⟩)) (by unfold execOp; simp only [h419.ev 38 rfl]; exact rfl) fun a422 h421 => ?_
  refine wv h421 rfl rfl rfl rfl (.pointer (some ⟨K.pp, 0, none⟩)) (by unfold execOp; simp only [h421.ev 39 rfl]; exact run_v (fa_50_0_0 (K.pp) _)) fun a424 h423 => ?_
  refine wv h423 rfl rfl rfl rfl (.pointer (some ⟨K.g, 0, none⟩)) (by unfold execOp; simp only [h423.ev 40 rfl]; exact run_v (loadMP (HS5.out.b.cell (i := 0) (by show 0 < 4; omega)))) fun a426 h425 => ?_
  refine wpk_call h425 (wanted_none rfl) rfl (by decide) (fr rfl) (fun args => callP_75 args _) rfl #[.pointer (some ⟨K.g, 0, none⟩)] (by simp only [List.map_toArray, List.map_cons, List.map_nil, h425.ev 41 rfl]) (R := fun v' w' => LogP w' K.lg K.g K.v K.d K.p 512 512 (fenceM (flushU M 0 1024)) ∧ Turns (XM K.v K.d K.p) w5 w') ((fence_any HS5.out.l.m).mono fun e w' q => by obtain ⟨⟨y, q1⟩, q2, q3⟩ := q; exact ⟨y, q1, HS5.out.l.next q2 q3 (by intro k hk; exact .inr hk), q3.mono (by intro k hk; exact .inr hk)⟩) fun a428 v6 w6 r6 h427 => ?_
  have HS6 := hid (HS5.out.left r6.1 r6.2); have HB6 := hid (sides_belowL HS5.out HB5.out r6.2); clear r6
  obtain ⟨N, hN⟩ : ∃ N, N = fenceM (flushU M 0 1024) := ⟨_, rfl⟩
  have hND : N.D = N.V := by rw [hN]; exact fence_all HSa.out.l.m.1 hlenM
  have hNl : N.V.length = 1024 := by rw [hN, fenceM_V, flushU_len]; exact hlenM
  rw [← hN] at HS6; clear hN
  have h429 := h427.subs (l' := [(8, _), (7, _), (0, _), (1, _), (2, _)]) rfl
  clear h427
  iterate 5 go_step
  refine wmk h429 rfl rfl rfl rfl 1 rfl (fun _ => rfl) fun a431 h430 => ?_
  refine wpk_call h430 (wanted_none rfl) rfl (by decide) (fr rfl) (fun args => callP_21 args _) rfl #[.slice pa X.length pc] (by simp only [List.map_toArray, List.map_cons, List.map_nil, h430.ev 43 rfl]) (R := fun v' w' => ∃ la lc, v' = .slice la (cutP 6 40 X).length lc ∧ OwnPt w' w6.heap.size la lc (cutP 6 40 X) ∧ Below w6.heap.size w6 w') ((little_any (HPX.out.below HB6.out) hL9x).mono fun e w' q => by obtain ⟨x, y, q1, q2⟩ := q; exact ⟨_, q1, x, y, rfl, q2⟩) fun a433 v7 w7 r7 h432 => ?_
  obtain ⟨la, lc, rfl, o7, b7⟩ := r7; rw [hC] at o7 h432; have HS7 := hid (HS6.out.mono b7); have HB7 := hid (kept_trans HB6.out b7); have hlt7 := sides_lt HS6.out; have R7 := hid o7; clear b7 o7
  have h434 := h432.subs (l' := [(44, _), (43, _), (8, _), (7, _), (0, _), (2, _)]) rfl
  clear h432
  refine wmk h434 rfl rfl rfl rfl 44 rfl (fun _ => rfl) fun a436 h435 => ?_
  have h437 := h435.subs (l' := [(1, _), (8, _), (7, _), (0, _), (2, _)]) rfl
  clear h435
  iterate 5 go_step
  refine wmk h437 rfl rfl rfl rfl 7 rfl (fun _ => rfl) fun a439 h438 => ?_
  refine wv h438 rfl rfl rfl rfl (.pointer (some ⟨K.pp, 0, none⟩)) (by unfold execOp; simp only [h438.ev 45 rfl]; exact rfl) fun a441 h440 => ?_
  refine wv h440 rfl rfl rfl rfl (.pointer (some ⟨K.pp, 1, none⟩)) (by unfold execOp; simp only [h440.ev 46 rfl]; exact run_v (fa_50_0_1 (K.pp) _)) fun a443 h442 => ?_
  refine wv h442 rfl rfl rfl rfl (.pointer (some ⟨K.lg, 0, none⟩)) (by unfold execOp; simp only [h442.ev 47 rfl]; exact run_v (loadLP (HS7.out.b.cell (i := 1) (by show 1 < 4; omega)))) fun a445 h444 => ?_
  refine wpk_call h444 (wanted_none rfl) rfl (by decide) (fr rfl) (fun args => callP_29 args _) rfl #[.pointer (some ⟨K.lg, 0, none⟩)] (by simp only [List.map_toArray, List.map_cons, List.map_nil, h444.ev 48 rfl]) (R := fun v' w' => ∃ ra rc rs, v' = .slice ra rs.length rc ∧ rs.map (·.2.2) = (logR N.V 512 512).1 ∧ RecsP w' w7.heap.size ra rc rs ∧ Below w7.heap.size w7 w') ((records_any HS7.out.l (logOk_of hNl)).mono fun e w' q => by obtain ⟨x, y, z, q1, q2⟩ := q; exact ⟨_, q1, x, y, z, rfl, q2⟩) fun a447 v8 w8 r8 h446 => ?_
  obtain ⟨ra1, rc1, rs1, rfl, hm1, hr1, b8⟩ := r8; have HS8 := hid (HS7.out.mono b8); have HB8 := hid (kept_trans HB7.out b8); have R8 := hid (Own.mono R7.out b8); have HR1 := hid hr1; have HM1 := hid hm1; have hlt8 : ∀ k, K.all k → k < w7.heap.size := sides_lt HS7.out; have hn1 : rs1.length ≤ 1000 := by have z := congrArg List.length hm1; rw [List.length_map] at z; have z2 := logR_n N.V 512 512; omega
  clear b8 hr1 hm1
  refine wmk h446 rfl rfl rfl rfl 49 rfl (fun _ => rfl) fun a449 h448 => ?_
  have h450 := h448.subs (l' := [(9, _), (1, _), (8, _), (7, _), (0, _), (2, _)]) rfl
  clear h448
  iterate 5 go_step
  refine wmk h450 rfl rfl rfl rfl 7 rfl (fun _ => rfl) fun a452 h451 => ?_
  refine wv h451 rfl rfl rfl rfl (.pointer (some ⟨K.pp, 0, none⟩)) (by unfold execOp; simp only [h451.ev 50 rfl]; exact rfl) fun a454 h453 => ?_
  refine wv h453 rfl rfl rfl rfl (.pointer (some ⟨K.pp, 1, none⟩)) (by unfold execOp; simp only [h453.ev 51 rfl]; exact run_v (fa_50_0_1 (K.pp) _)) fun a456 h455 => ?_
  refine wv h455 rfl rfl rfl rfl (.pointer (some ⟨K.lg, 0, none⟩)) (by unfold execOp; simp only [h455.ev 52 rfl]; exact run_v (loadLP (HS8.out.b.cell (i := 1) (by show 1 < 4; omega)))) fun a458 h457 => ?_
  refine wmk h457 rfl rfl rfl rfl 1 rfl (fun _ => rfl) fun a460 h459 => ?_
  refine wpk_call h459 (wanted_none rfl) rfl (by decide) (fr rfl) (fun args => callP_22 args _) rfl #[.pointer (some ⟨K.lg, 0, none⟩), .slice la C.length lc] (by simp only [List.map_toArray, List.map_cons, List.map_nil, h459.ev 53 rfl, h459.ev 54 rfl]) (R := fun v' w' => v' = .int .i64 (appE N 512 512 C) ∧ LogP w' K.lg K.g K.v K.d K.p 512 512 (appM N 512 512 C) ∧ Turns (XM K.v K.d K.p) w8 w') (append_any HS8.out.l (logOk_of hNl) R8.out.row okC (by omega)) fun a462 v9 w9 r9 h461 => ?_
  obtain ⟨rfl, l9, t9⟩ := r9; have HS9 := hid (HS8.out.left l9 t9); have HB9 := hid (sides_belowL HS8.out HB8.out t9); have R9 := hid (t9.own R8.out (by intro k hk; exact hlt7 k (.inl hk))); have HR1 := hid (HR1.out.turns t9 (by intro k hk; exact hlt8 k (.inl hk))); clear l9 t9
  refine wmk h461 rfl rfl rfl rfl 55 rfl (fun _ => rfl) fun a464 h463 => ?_
  have h465 := h463.subs (l' := [(10, _), (9, _), (1, _), (8, _), (7, _), (0, _), (2, _)]) rfl
  clear h463
  iterate 4 go_step
  by_cases hp2 : 200 < I.length
  case pos =>
    have hbig : decide ((200 : Int) < (I.length : Int)) = true := decide_eq_true (by omega)
    have hI2 : (I.take 200).length = 200 := by rw [List.length_take]; omega
    have hcr := crash_any HS9.out.l.m (I.take 200) ia ic ((rowI_take HIS.out 200).below HB9.out) (fun y hy => hIok y (List.mem_of_mem_take hy)) (fun hn k hk => by obtain ⟨off, e⟩ := hk; have z := rowLt (rowI_take HIS.out 200) hn e; have f := HS9.out.f; unfold PK.from at f; omega)
    rw [hI2] at hcr
    iterate 2 go_step
    refine wmk h465 rfl rfl rfl rfl 2 rfl (fun _ => rfl) fun a467 h466 => ?_
    refine wv h466 rfl rfl rfl rfl (.int .i64 (I.length : Int)) (run_lenIS rfl (h466.ev 56 rfl) _) fun a469 h468 => ?_
    refine wv h468 rfl rfl rfl rfl (.bool true) (by unfold execOp; simp only [h468.ev 57 rfl]; exact run_v (gtIP _ _ _ _ _ hbig)) fun a471 h470 => ?_
    have h472 := h470.subs (l' := [(58, _), (10, _), (9, _), (1, _), (8, _), (7, _), (0, _), (2, _)]) rfl
    clear h470
    iterate 3 go_step
    refine wp_cond (t := true) (h472.ev 58 rfl) ?_
    simp only [if_true]
    have h473 := h472.subs (l' := [(10, _), (9, _), (1, _), (8, _), (7, _), (0, _), (2, _)]) rfl
    clear h472
    go_step
    refine wmk h473 rfl rfl rfl rfl 2 rfl (fun _ => rfl) fun a475 h474 => ?_
    refine wv h474 rfl rfl rfl rfl (.slice ia 200 ic) (by unfold execOp; simp only [Option.map_some, Option.map_none, h474.ev 59 rfl]; exact run_v (sliceHI HIS.out 200 (by omega) _)) fun a477 h476 => ?_
    have h478 := h476.subs (l' := [(60, _), (59, _), (10, _), (9, _), (1, _), (8, _), (7, _), (0, _)]) rfl
    clear h476
    refine wmk h478 rfl rfl rfl rfl 60 rfl (fun _ => rfl) fun a480 h479 => ?_
    have h481 := h479.subs (l' := [(2, _), (10, _), (9, _), (1, _), (8, _), (7, _), (0, _)]) rfl
    clear h479
    iterate 5 go_step
    refine wmk h481 rfl rfl rfl rfl 7 rfl (fun _ => rfl) fun a483 h482 => ?_
    refine wv h482 rfl rfl rfl rfl (.pointer (some ⟨K.pp, 0, none⟩)) (by unfold execOp; simp only [h482.ev 61 rfl]; exact rfl) fun a485 h484 => ?_
    refine wv h484 rfl rfl rfl rfl (.pointer (some ⟨K.pp, 0, none⟩)) (by unfold execOp; simp only [h484.ev 62 rfl]; exact run_v (fa_50_0_0 (K.pp) _)) fun a487 h486 => ?_
    refine wv h486 rfl rfl rfl rfl (.pointer (some ⟨K.g, 0, none⟩)) (by unfold execOp; simp only [h486.ev 63 rfl]; exact run_v (loadMP (HS9.out.b.cell (i := 0) (by show 0 < 4; omega)))) fun a489 h488 => ?_
    refine wmk h488 rfl rfl rfl rfl 2 rfl (fun _ => rfl) fun a491 h490 => ?_
    refine wpk_call h490 (wanted_none rfl) rfl (by decide) (fr rfl) (fun args => callP_24 args _) rfl #[.pointer (some ⟨K.g, 0, none⟩), .slice ia 200 ic] (by simp only [List.map_toArray, List.map_cons, List.map_nil, h490.ev 64 rfl, h490.ev 65 rfl]) (R := fun v' w' => LogP w' K.lg K.g K.v K.d K.p 512 512 (crashM (appM N 512 512 C) (I.take 200)) ∧ Turns (XM K.v K.d K.p) w9 w') ((hcr).mono fun e w' q => by obtain ⟨⟨y, q1⟩, q2, q3⟩ := q; exact ⟨y, q1, HS9.out.l.next q2 q3 (by intro k hk; exact hk), q3⟩) fun a493 v10 w10 r10 h492 => ?_
    have HS10 := hid (HS9.out.left r10.1 r10.2); have HB10 := hid (sides_belowL HS9.out HB9.out r10.2); have R10 := hid (r10.2.own R9.out (by intro k hk; exact hlt7 k (.inl hk))); have HR1 := hid (HR1.out.turns r10.2 (by intro k hk; exact hlt8 k (.inl hk))); clear r10
    have hV : (crashM (appM N 512 512 C) (I.take 200)).V = (appM N 512 512 C).V := (crash_same (appM_ok HS8.out.l.m.1 _ _ _) (appM_D HS8.out.l.m.1 hND _ _ _) _).1
    have h494 := h492.subs (l' := [(2, _), (10, _), (9, _), (1, _), (8, _), (7, _), (0, _)]) rfl
    clear h492
    iterate 5 go_step
    refine wmk h494 rfl rfl rfl rfl 7 rfl (fun _ => rfl) fun a496 h495 => ?_
    refine wv h495 rfl rfl rfl rfl (.pointer (some ⟨K.pp, 0, none⟩)) (by unfold execOp; simp only [h495.ev 67 rfl]; exact rfl) fun a498 h497 => ?_
    refine wv h497 rfl rfl rfl rfl (.pointer (some ⟨K.pp, 1, none⟩)) (by unfold execOp; simp only [h497.ev 68 rfl]; exact run_v (fa_50_0_1 (K.pp) _)) fun a500 h499 => ?_
    refine wv h499 rfl rfl rfl rfl (.pointer (some ⟨K.lg, 0, none⟩)) (by unfold execOp; simp only [h499.ev 69 rfl]; exact run_v (loadLP (HS10.out.b.cell (i := 1) (by show 1 < 4; omega)))) fun a502 h501 => ?_
    refine wpk_call h501 (wanted_none rfl) rfl (by decide) (fr rfl) (fun args => callP_29 args _) rfl #[.pointer (some ⟨K.lg, 0, none⟩)] (by simp only [List.map_toArray, List.map_cons, List.map_nil, h501.ev 70 rfl]) (R := fun v' w' => ∃ ra rc rs, v' = .slice ra rs.length rc ∧ rs.map (·.2.2) = (logR (crashM (appM N 512 512 C) (I.take 200)).V 512 512).1 ∧ RecsP w' w10.heap.size ra rc rs ∧ Below w10.heap.size w10 w') ((records_any HS10.out.l (logOk_of (by rw [hV, appM_len]; exact hNl))).mono fun e w' q => by obtain ⟨x, y, z, q1, q2⟩ := q; exact ⟨_, q1, x, y, z, rfl, q2⟩) fun a504 v11 w11 r11 h503 => ?_
    obtain ⟨ra3, rc3, rs3, rfl, hm3, hr3, b11⟩ := r11; rw [hV, logR_app (logOk_of hNl)] at hm3; have HB11 := hid (kept_trans HB10.out b11); have R11 := hid (Own.mono R10.out b11); have HR1 := hid (HR1.out.mono b11); have HR3 := hid hr3; have HM3 := hid hm3; clear b11 hr3 hm3
    refine wmk h503 rfl rfl rfl rfl 71 rfl (fun _ => rfl) fun a506 h505 => ?_
    have h507 := h505.subs (l' := [(11, _), (2, _), (10, _), (9, _), (1, _), (8, _), (7, _), (0, _)]) rfl
    clear h505
    iterate 4 go_step
    by_cases he : appE N 512 512 C = 0
    case neg =>
      have hbad : (appE N 512 512 C != 0) = true := by simp [bne, he]
      have hsame : (if appE N 512 512 C = 0 then ((logR N.V 512 512).1 ++ [C], (logR N.V 512 512).2 + (encL C).length) else logR N.V 512 512).1 = (logR N.V 512 512).1 := by rw [if_neg he]
      have hln : rs3.length = rs1.length := by have z := congrArg List.length (HM3.out.trans (hsame.trans HM1.out.symm)); simpa using z
      iterate 2 go_step
      refine wmk h507 rfl rfl rfl rfl 10 rfl (fun _ => rfl) fun a509 h508 => ?_
      refine wv h508 rfl rfl rfl rfl (.bool true) (by unfold execOp; simp only [h508.ev 72 rfl]; exact run_v (neEP _ _ _ _ _ hbad)) fun a511 h510 => ?_
      have h512 := h510.subs (l' := [(73, _), (11, _), (2, _), (10, _), (9, _), (1, _), (8, _), (7, _), (0, _)]) rfl
      clear h510
      iterate 3 go_step
      refine wp_cond (t := true) (h512.ev 73 rfl) ?_
      simp only [if_true]
      have h513 := h512.subs (l' := [(11, _), (2, _), (10, _), (9, _), (1, _), (8, _), (7, _), (0, _)]) rfl
      clear h512
      iterate 2 go_step
      refine wmk h513 rfl rfl rfl rfl 11 rfl (fun _ => rfl) fun a515 h514 => ?_
      refine wmk h514 rfl rfl rfl rfl 9 rfl (fun _ => rfl) fun a517 h516 => ?_
      rw [hln] at h516
      refine wpk_call h516 (wanted_none rfl) rfl (by decide) (fr rfl) (fun args => callP_58 args _) rfl #[.slice ra3 rs1.length rc3, .slice ra1 rs1.length rc1] (by simp only [List.map_toArray, List.map_cons, List.map_nil, h516.ev 74 rfl, h516.ev 75 rfl]) (R := fun v' w' => v' = .bool true ∧ Below w11.heap.size w11 w') ((sameRecs_eqn rs1.length HR3.out HR1.out (HM3.out.trans (hsame.trans HM1.out.symm)) hln rfl (by omega) (fun L hL => by rw [HM1.out] at hL; exact Nat.le_trans (logR_ok hL).2.2 (by omega))).mono fun e w' q => ⟨_, q.1, rfl, q.2⟩) fun a519 v21 w21 r21 h518 => ?_
      obtain ⟨rfl, b21⟩ := r21; have HB21 := hid (kept_trans HB11.out b21); have R11 := hid (Own.mono R11.out b21); have HR3 := hid (HR3.out.mono b21); clear b21
      refine wmk h518 rfl rfl rfl rfl 76 rfl (fun _ => rfl) fun a521 h520 => ?_
      refine wpk_call h520 (by rw [wanted_of (g := 3) (want := true) (b := true) rfl (h520.yields (prev := 77) rfl (by simp))]; rfl) rfl (by decide) (fr rfl) (fun args => callP_13 args _) rfl #[] (by simp) (R := fun v' w' => v' = .bool true ∧ Below w21.heap.size w21 w') ((lives08_any _).mono fun e w' q => ⟨_, q.1, rfl, q.2⟩) fun a523 vx wx rx h522 => ?_
      obtain ⟨rfl, bx⟩ := rx; have HBx := hid (kept_trans HB21.out bx); clear bx
      refine wv h522 rfl rfl rfl rfl (.bool true) (run_pick rfl (h522.ev 77 rfl) (by rw [if_pos rfl]; exact h522.ev 78 rfl)) fun a525 h524 => ?_
      refine wmk h524 rfl rfl rfl rfl 79 rfl (fun _ => rfl) fun a527 h526 => ?_
      have h528 := h526.subs (l' := [(6, _), (11, _), (2, _), (10, _), (9, _), (1, _), (8, _), (7, _), (0, _)]) rfl
      clear h526
      iterate 4 go_step
      simp only [Exit.then, Exit.inBlock]
      exact bodyPost_ret (results_tmp1 rfl (h528.known (6, .bool true) (by simp))) h528.defs ⟨rfl, HBx.out⟩
    have hbad : (appE N 512 512 C != 0) = false := by rw [he]; rfl
    have hnow : (if appE N 512 512 C = 0 then ((logR N.V 512 512).1 ++ [C], (logR N.V 512 512).2 + (encL C).length) else logR N.V 512 512).1 = (logR N.V 512 512).1 ++ [C] := by rw [if_pos he]
    have hln : rs3.length = rs1.length + 1 := by have z := congrArg List.length (HM3.out.trans (hnow.trans (by rw [← HM1.out]))); simpa using z
    have hnn : ((rs3.length : Int) != ((rs1.length + 1 : Nat) : Int)) = false := by rw [hln]; simp
    iterate 2 go_step
    refine wmk h507 rfl rfl rfl rfl 10 rfl (fun _ => rfl) fun a530 h529 => ?_
    refine wv h529 rfl rfl rfl rfl (.bool false) (by unfold execOp; simp only [h529.ev 72 rfl]; exact run_v (neEP _ _ _ _ _ hbad)) fun a532 h531 => ?_
    have h533 := h531.subs (l' := [(73, _), (11, _), (2, _), (10, _), (9, _), (1, _), (8, _), (7, _), (0, _)]) rfl
    clear h531
    iterate 3 go_step
    refine wp_cond (t := false) (h533.ev 73 rfl) ?_
    simp only [Bool.false_eq_true, if_false]
    have h534 := h533.subs (l' := [(11, _), (2, _), (10, _), (9, _), (1, _), (8, _), (7, _), (0, _)]) rfl
    clear h533
    iterate 6 go_step
    refine wmk h534 rfl rfl rfl rfl 11 rfl (fun _ => rfl) fun a536 h535 => ?_
    refine wv h535 rfl rfl rfl rfl (.int .i64 (rs3.length : Int)) (run_lenRP rfl (h535.ev 80 rfl) _) fun a538 h537 => ?_
    refine wmk h537 rfl rfl rfl rfl 9 rfl (fun _ => rfl) fun a540 h539 => ?_
    refine wv h539 rfl rfl rfl rfl (.int .i64 (rs1.length : Int)) (run_lenRP rfl (h539.ev 82 rfl) _) fun a542 h541 => ?_
    refine wv h541 rfl rfl rfl rfl (.int .i64 ((rs1.length + 1 : Nat) : Int)) (by unfold execOp; simp only [h541.ev 83 rfl]; exact run_v (addIP _ _ rs1.length (by omega) _)) fun a544 h543 => ?_
    refine wv h543 rfl rfl rfl rfl (.bool false) (by unfold execOp; simp only [h543.ev 81 rfl, h543.ev 84 rfl]; exact run_v (neqIP _ _ _ _ _ hnn)) fun a546 h545 => ?_
    have h547 := h545.subs (l' := [(85, _), (11, _), (2, _), (10, _), (9, _), (1, _), (8, _), (7, _), (0, _)]) rfl
    clear h545
    iterate 3 go_step
    refine wp_cond (t := false) (h547.ev 85 rfl) ?_
    simp only [Bool.false_eq_true, if_false]
    have h548 := h547.subs (l' := [(11, _), (2, _), (10, _), (9, _), (1, _), (8, _), (7, _), (0, _)]) rfl
    clear h547
    iterate 5 go_step
    refine wmk h548 rfl rfl rfl rfl 11 rfl (fun _ => rfl) fun a550 h549 => ?_
    refine wmk h549 rfl rfl rfl rfl 9 rfl (fun _ => rfl) fun a552 h551 => ?_
    refine wv h551 rfl rfl rfl rfl (.int .i64 (rs1.length : Int)) (run_lenRP rfl (h551.ev 87 rfl) _) fun a554 h553 => ?_
    refine wv h553 rfl rfl rfl rfl (.slice ra3 rs1.length rc3) (by unfold execOp; simp only [Option.map_some, Option.map_none, h553.ev 86 rfl, h553.ev 88 rfl]; exact run_v (sliceHR HR3.out rs1.length (by omega) _)) fun a556 h555 => ?_
    refine wmk h555 rfl rfl rfl rfl 9 rfl (fun _ => rfl) fun a558 h557 => ?_
    refine wpk_call h557 (wanted_none rfl) rfl (by decide) (fr rfl) (fun args => callP_58 args _) rfl #[.slice ra3 rs1.length rc3, .slice ra1 rs1.length rc1] (by simp only [List.map_toArray, List.map_cons, List.map_nil, h557.ev 89 rfl, h557.ev 90 rfl]) (R := fun v' w' => v' = .bool true ∧ Below w11.heap.size w11 w') ((sameRecs_eqn rs1.length (HR3.out.take rs1.length) HR1.out (by rw [List.map_take, HM3.out, hnow, ← HM1.out, ← List.length_map (f := fun r : Option Addr × Nat × List PtM => r.2.2), List.take_left]) (by rw [List.length_take]; omega) rfl (by omega) (fun L hL => by rw [HM1.out] at hL; exact Nat.le_trans (logR_ok hL).2.2 (by omega))).mono fun e w' q => ⟨_, q.1, rfl, q.2⟩) fun a560 v21 w21 r21 h559 => ?_
    obtain ⟨rfl, b21⟩ := r21; have HB21 := hid (kept_trans HB11.out b21); have R11 := hid (Own.mono R11.out b21); have HR3 := hid (HR3.out.mono b21); clear b21
    refine wmk h559 rfl rfl rfl rfl 91 rfl (fun _ => rfl) fun a562 h561 => ?_
    have h563 := h561.subs (l' := [(12, _), (11, _), (2, _), (10, _), (9, _), (1, _), (8, _), (7, _), (0, _)]) rfl
    clear h561
    iterate 5 go_step
    refine wmk h563 rfl rfl rfl rfl 11 rfl (fun _ => rfl) fun a565 h564 => ?_
    refine wmk h564 rfl rfl rfl rfl 9 rfl (fun _ => rfl) fun a567 h566 => ?_
    refine wv h566 rfl rfl rfl rfl (.int .i64 (rs1.length : Int)) (run_lenRP rfl (h566.ev 93 rfl) _) fun a569 h568 => ?_
    obtain ⟨qb, qo, ad, cc, L9, hq0, hqc, hqr, hql⟩ := recs_at HR3.out (j := rs1.length) (by omega)
    have hL9 : C = L9 := by rw [HM3.out, hnow, ← HM1.out, List.getElem?_append_right (by rw [List.length_map]; exact Nat.le_refl _), List.length_map, Nat.sub_self] at hql; injection hql with e
    subst hL9
    refine wv h568 rfl rfl rfl rfl (.pointer (some ⟨qb, qo + rs1.length, none⟩)) (by unfold execOp; simp only [h568.ev 92 rfl, h568.ev 94 rfl]; exact run_v (by rw [hq0]; exact ixRP qb qo _ rc3 rs1.length (by omega) _)) fun a571 h570 => ?_
    refine wv h570 rfl rfl rfl rfl (.slice ad C.length cc) (by unfold execOp; simp only [h570.ev 95 rfl]; exact run_v (loadRP hqc)) fun a573 h572 => ?_
    refine wmk h572 rfl rfl rfl rfl 1 rfl (fun _ => rfl) fun a575 h574 => ?_
    refine wpk_call h574 (wanted_none rfl) rfl (by decide) (fr rfl) (fun args => callP_16 args _) rfl #[.slice ad C.length cc, .slice la C.length lc] (by simp only [List.map_toArray, List.map_cons, List.map_nil, h574.ev 96 rfl, h574.ev 97 rfl]) (R := fun v' w' => v' = .bool true ∧ Below w21.heap.size w21 w') ((samePts_eq hqr R11.out.row (by omega)).mono fun e w' q => ⟨_, q.1, rfl, q.2⟩) fun a577 v30 w30 r30 h576 => ?_
    obtain ⟨rfl, b30⟩ := r30; have HB30 := hid (kept_trans HB21.out b30); clear b30
    refine wmk h576 rfl rfl rfl rfl 98 rfl (fun _ => rfl) fun a579 h578 => ?_
    have h580 := h578.subs (l' := [(13, _), (12, _), (11, _), (2, _), (10, _), (9, _), (1, _), (8, _), (7, _), (0, _)]) rfl
    clear h578
    iterate 5 go_step
    refine wmk h580 rfl rfl rfl rfl 12 rfl (fun _ => rfl) fun a582 h581 => ?_
    refine wmk h581 rfl rfl rfl rfl 99 rfl (fun _ => rfl) fun a584 h583 => ?_
    refine wpk_val h583 (by rw [wanted_of (g := 1) (want := true) (b := true) rfl (h583.yields (prev := 100) rfl (by simp))]; rfl) rfl (by decide) (fr rfl) (.bool true) (by unfold execOp; simp only [h583.ev 13 rfl]; rfl) fun a586 h585 => ?_
    refine wv h585 rfl rfl rfl rfl (.bool true) (run_pick rfl (h585.ev 100 rfl) (by rw [if_pos rfl]; exact h585.ev 101 rfl)) fun a588 h587 => ?_
    refine wmk h587 rfl rfl rfl rfl 102 rfl (fun _ => rfl) fun a590 h589 => ?_
    refine wpk_call h589 (by rw [wanted_of (g := 4) (want := true) (b := true) rfl (h589.yields (prev := 103) rfl (by simp))]; rfl) rfl (by decide) (fr rfl) (fun args => callP_13 args _) rfl #[] (by simp) (R := fun v' w' => v' = .bool true ∧ Below w30.heap.size w30 w') ((lives08_any _).mono fun e w' q => ⟨_, q.1, rfl, q.2⟩) fun a592 vx wx rx h591 => ?_
    obtain ⟨rfl, bx⟩ := rx; have HBx := hid (kept_trans HB30.out bx); clear bx
    refine wv h591 rfl rfl rfl rfl (.bool true) (run_pick rfl (h591.ev 103 rfl) (by rw [if_pos rfl]; exact h591.ev 104 rfl)) fun a594 h593 => ?_
    refine wmk h593 rfl rfl rfl rfl 105 rfl (fun _ => rfl) fun a596 h595 => ?_
    have h597 := h595.subs (l' := [(6, _), (13, _), (12, _), (11, _), (2, _), (10, _), (9, _), (1, _), (8, _), (7, _), (0, _)]) rfl
    clear h595
    iterate 4 go_step
    exact bodyPost_ret (results_tmp1 rfl (h597.known (6, .bool true) (by simp))) h597.defs ⟨rfl, HBx.out⟩
  have hbig : decide ((200 : Int) < (I.length : Int)) = false := decide_eq_false (by omega)
  have hcr := crash_any HS9.out.l.m I ia ic (HIS.out.below HB9.out) hIok (fun hn k hk => by obtain ⟨off, e⟩ := hk; have z := rowLt HIS.out hn e; have f := HS9.out.f; unfold PK.from at f; omega)
  iterate 2 go_step
  refine wmk h465 rfl rfl rfl rfl 2 rfl (fun _ => rfl) fun a599 h598 => ?_
  refine wv h598 rfl rfl rfl rfl (.int .i64 (I.length : Int)) (run_lenIS rfl (h598.ev 56 rfl) _) fun a601 h600 => ?_
  refine wv h600 rfl rfl rfl rfl (.bool false) (by unfold execOp; simp only [h600.ev 57 rfl]; exact run_v (gtIP _ _ _ _ _ hbig)) fun a603 h602 => ?_
  have h604 := h602.subs (l' := [(58, _), (10, _), (9, _), (1, _), (8, _), (7, _), (0, _), (2, _)]) rfl
  clear h602
  iterate 3 go_step
  refine wp_cond (t := false) (h604.ev 58 rfl) ?_
  simp only [Bool.false_eq_true, if_false]
  have h605 := h604.subs (l' := [(10, _), (9, _), (1, _), (8, _), (7, _), (0, _), (2, _)]) rfl
  clear h604
  iterate 5 go_step
  refine wmk h605 rfl rfl rfl rfl 7 rfl (fun _ => rfl) fun a607 h606 => ?_
  refine wv h606 rfl rfl rfl rfl (.pointer (some ⟨K.pp, 0, none⟩)) (by unfold execOp; simp only [h606.ev 61 rfl]; exact rfl) fun a609 h608 => ?_
  refine wv h608 rfl rfl rfl rfl (.pointer (some ⟨K.pp, 0, none⟩)) (by unfold execOp; simp only [h608.ev 62 rfl]; exact run_v (fa_50_0_0 (K.pp) _)) fun a611 h610 => ?_
  refine wv h610 rfl rfl rfl rfl (.pointer (some ⟨K.g, 0, none⟩)) (by unfold execOp; simp only [h610.ev 63 rfl]; exact run_v (loadMP (HS9.out.b.cell (i := 0) (by show 0 < 4; omega)))) fun a613 h612 => ?_
  refine wmk h612 rfl rfl rfl rfl 2 rfl (fun _ => rfl) fun a615 h614 => ?_
  refine wpk_call h614 (wanted_none rfl) rfl (by decide) (fr rfl) (fun args => callP_24 args _) rfl #[.pointer (some ⟨K.g, 0, none⟩), .slice ia I.length ic] (by simp only [List.map_toArray, List.map_cons, List.map_nil, h614.ev 64 rfl, h614.ev 65 rfl]) (R := fun v' w' => LogP w' K.lg K.g K.v K.d K.p 512 512 (crashM (appM N 512 512 C) I) ∧ Turns (XM K.v K.d K.p) w9 w') ((hcr).mono fun e w' q => by obtain ⟨⟨y, q1⟩, q2, q3⟩ := q; exact ⟨y, q1, HS9.out.l.next q2 q3 (by intro k hk; exact hk), q3⟩) fun a617 v10 w10 r10 h616 => ?_
  have HS10 := hid (HS9.out.left r10.1 r10.2); have HB10 := hid (sides_belowL HS9.out HB9.out r10.2); have R10 := hid (r10.2.own R9.out (by intro k hk; exact hlt7 k (.inl hk))); have HR1 := hid (HR1.out.turns r10.2 (by intro k hk; exact hlt8 k (.inl hk))); clear r10
  have hV : (crashM (appM N 512 512 C) I).V = (appM N 512 512 C).V := (crash_same (appM_ok HS8.out.l.m.1 _ _ _) (appM_D HS8.out.l.m.1 hND _ _ _) _).1
  have h618 := h616.subs (l' := [(10, _), (9, _), (1, _), (8, _), (7, _), (0, _), (2, _)]) rfl
  clear h616
  iterate 5 go_step
  refine wmk h618 rfl rfl rfl rfl 7 rfl (fun _ => rfl) fun a620 h619 => ?_
  refine wv h619 rfl rfl rfl rfl (.pointer (some ⟨K.pp, 0, none⟩)) (by unfold execOp; simp only [h619.ev 67 rfl]; exact rfl) fun a622 h621 => ?_
  refine wv h621 rfl rfl rfl rfl (.pointer (some ⟨K.pp, 1, none⟩)) (by unfold execOp; simp only [h621.ev 68 rfl]; exact run_v (fa_50_0_1 (K.pp) _)) fun a624 h623 => ?_
  refine wv h623 rfl rfl rfl rfl (.pointer (some ⟨K.lg, 0, none⟩)) (by unfold execOp; simp only [h623.ev 69 rfl]; exact run_v (loadLP (HS10.out.b.cell (i := 1) (by show 1 < 4; omega)))) fun a626 h625 => ?_
  refine wpk_call h625 (wanted_none rfl) rfl (by decide) (fr rfl) (fun args => callP_29 args _) rfl #[.pointer (some ⟨K.lg, 0, none⟩)] (by simp only [List.map_toArray, List.map_cons, List.map_nil, h625.ev 70 rfl]) (R := fun v' w' => ∃ ra rc rs, v' = .slice ra rs.length rc ∧ rs.map (·.2.2) = (logR (crashM (appM N 512 512 C) I).V 512 512).1 ∧ RecsP w' w10.heap.size ra rc rs ∧ Below w10.heap.size w10 w') ((records_any HS10.out.l (logOk_of (by rw [hV, appM_len]; exact hNl))).mono fun e w' q => by obtain ⟨x, y, z, q1, q2⟩ := q; exact ⟨_, q1, x, y, z, rfl, q2⟩) fun a628 v11 w11 r11 h627 => ?_
  obtain ⟨ra3, rc3, rs3, rfl, hm3, hr3, b11⟩ := r11; rw [hV, logR_app (logOk_of hNl)] at hm3; have HB11 := hid (kept_trans HB10.out b11); have R11 := hid (Own.mono R10.out b11); have HR1 := hid (HR1.out.mono b11); have HR3 := hid hr3; have HM3 := hid hm3; clear b11 hr3 hm3
  refine wmk h627 rfl rfl rfl rfl 71 rfl (fun _ => rfl) fun a630 h629 => ?_
  have h631 := h629.subs (l' := [(11, _), (10, _), (9, _), (1, _), (8, _), (7, _), (0, _), (2, _)]) rfl
  clear h629
  iterate 4 go_step
  by_cases he : appE N 512 512 C = 0
  case neg =>
    have hbad : (appE N 512 512 C != 0) = true := by simp [bne, he]
    have hsame : (if appE N 512 512 C = 0 then ((logR N.V 512 512).1 ++ [C], (logR N.V 512 512).2 + (encL C).length) else logR N.V 512 512).1 = (logR N.V 512 512).1 := by rw [if_neg he]
    have hln : rs3.length = rs1.length := by have z := congrArg List.length (HM3.out.trans (hsame.trans HM1.out.symm)); simpa using z
    iterate 2 go_step
    refine wmk h631 rfl rfl rfl rfl 10 rfl (fun _ => rfl) fun a633 h632 => ?_
    refine wv h632 rfl rfl rfl rfl (.bool true) (by unfold execOp; simp only [h632.ev 72 rfl]; exact run_v (neEP _ _ _ _ _ hbad)) fun a635 h634 => ?_
    have h636 := h634.subs (l' := [(73, _), (11, _), (10, _), (9, _), (1, _), (8, _), (7, _), (0, _), (2, _)]) rfl
    clear h634
    iterate 3 go_step
    refine wp_cond (t := true) (h636.ev 73 rfl) ?_
    simp only [if_true]
    have h637 := h636.subs (l' := [(11, _), (10, _), (9, _), (1, _), (8, _), (7, _), (0, _), (2, _)]) rfl
    clear h636
    iterate 2 go_step
    refine wmk h637 rfl rfl rfl rfl 11 rfl (fun _ => rfl) fun a639 h638 => ?_
    refine wmk h638 rfl rfl rfl rfl 9 rfl (fun _ => rfl) fun a641 h640 => ?_
    rw [hln] at h640
    refine wpk_call h640 (wanted_none rfl) rfl (by decide) (fr rfl) (fun args => callP_58 args _) rfl #[.slice ra3 rs1.length rc3, .slice ra1 rs1.length rc1] (by simp only [List.map_toArray, List.map_cons, List.map_nil, h640.ev 74 rfl, h640.ev 75 rfl]) (R := fun v' w' => v' = .bool true ∧ Below w11.heap.size w11 w') ((sameRecs_eqn rs1.length HR3.out HR1.out (HM3.out.trans (hsame.trans HM1.out.symm)) hln rfl (by omega) (fun L hL => by rw [HM1.out] at hL; exact Nat.le_trans (logR_ok hL).2.2 (by omega))).mono fun e w' q => ⟨_, q.1, rfl, q.2⟩) fun a643 v22 w22 r22 h642 => ?_
    obtain ⟨rfl, b22⟩ := r22; have HB22 := hid (kept_trans HB11.out b22); have R11 := hid (Own.mono R11.out b22); have HR3 := hid (HR3.out.mono b22); clear b22
    refine wmk h642 rfl rfl rfl rfl 76 rfl (fun _ => rfl) fun a645 h644 => ?_
    refine wpk_call h644 (by rw [wanted_of (g := 3) (want := true) (b := true) rfl (h644.yields (prev := 77) rfl (by simp))]; rfl) rfl (by decide) (fr rfl) (fun args => callP_13 args _) rfl #[] (by simp) (R := fun v' w' => v' = .bool true ∧ Below w22.heap.size w22 w') ((lives08_any _).mono fun e w' q => ⟨_, q.1, rfl, q.2⟩) fun a647 vx wx rx h646 => ?_
    obtain ⟨rfl, bx⟩ := rx; have HBx := hid (kept_trans HB22.out bx); clear bx
    refine wv h646 rfl rfl rfl rfl (.bool true) (run_pick rfl (h646.ev 77 rfl) (by rw [if_pos rfl]; exact h646.ev 78 rfl)) fun a649 h648 => ?_
    refine wmk h648 rfl rfl rfl rfl 79 rfl (fun _ => rfl) fun a651 h650 => ?_
    have h652 := h650.subs (l' := [(6, _), (11, _), (10, _), (9, _), (1, _), (8, _), (7, _), (0, _), (2, _)]) rfl
    clear h650
    iterate 4 go_step
    simp only [Exit.then, Exit.inBlock]
    exact bodyPost_ret (results_tmp1 rfl (h652.known (6, .bool true) (by simp))) h652.defs ⟨rfl, HBx.out⟩
  have hbad : (appE N 512 512 C != 0) = false := by rw [he]; rfl
  have hnow : (if appE N 512 512 C = 0 then ((logR N.V 512 512).1 ++ [C], (logR N.V 512 512).2 + (encL C).length) else logR N.V 512 512).1 = (logR N.V 512 512).1 ++ [C] := by rw [if_pos he]
  have hln : rs3.length = rs1.length + 1 := by have z := congrArg List.length (HM3.out.trans (hnow.trans (by rw [← HM1.out]))); simpa using z
  have hnn : ((rs3.length : Int) != ((rs1.length + 1 : Nat) : Int)) = false := by rw [hln]; simp
  iterate 2 go_step
  refine wmk h631 rfl rfl rfl rfl 10 rfl (fun _ => rfl) fun a654 h653 => ?_
  refine wv h653 rfl rfl rfl rfl (.bool false) (by unfold execOp; simp only [h653.ev 72 rfl]; exact run_v (neEP _ _ _ _ _ hbad)) fun a656 h655 => ?_
  have h657 := h655.subs (l' := [(73, _), (11, _), (10, _), (9, _), (1, _), (8, _), (7, _), (0, _), (2, _)]) rfl
  clear h655
  iterate 3 go_step
  refine wp_cond (t := false) (h657.ev 73 rfl) ?_
  simp only [Bool.false_eq_true, if_false]
  have h658 := h657.subs (l' := [(11, _), (10, _), (9, _), (1, _), (8, _), (7, _), (0, _), (2, _)]) rfl
  clear h657
  iterate 6 go_step
  refine wmk h658 rfl rfl rfl rfl 11 rfl (fun _ => rfl) fun a660 h659 => ?_
  refine wv h659 rfl rfl rfl rfl (.int .i64 (rs3.length : Int)) (run_lenRP rfl (h659.ev 80 rfl) _) fun a662 h661 => ?_
  refine wmk h661 rfl rfl rfl rfl 9 rfl (fun _ => rfl) fun a664 h663 => ?_
  refine wv h663 rfl rfl rfl rfl (.int .i64 (rs1.length : Int)) (run_lenRP rfl (h663.ev 82 rfl) _) fun a666 h665 => ?_
  refine wv h665 rfl rfl rfl rfl (.int .i64 ((rs1.length + 1 : Nat) : Int)) (by unfold execOp; simp only [h665.ev 83 rfl]; exact run_v (addIP _ _ rs1.length (by omega) _)) fun a668 h667 => ?_
  refine wv h667 rfl rfl rfl rfl (.bool false) (by unfold execOp; simp only [h667.ev 81 rfl, h667.ev 84 rfl]; exact run_v (neqIP _ _ _ _ _ hnn)) fun a670 h669 => ?_
  have h671 := h669.subs (l' := [(85, _), (11, _), (10, _), (9, _), (1, _), (8, _), (7, _), (0, _), (2, _)]) rfl
  clear h669
  iterate 3 go_step
  refine wp_cond (t := false) (h671.ev 85 rfl) ?_
  simp only [Bool.false_eq_true, if_false]
  have h672 := h671.subs (l' := [(11, _), (10, _), (9, _), (1, _), (8, _), (7, _), (0, _), (2, _)]) rfl
  clear h671
  iterate 5 go_step
  refine wmk h672 rfl rfl rfl rfl 11 rfl (fun _ => rfl) fun a674 h673 => ?_
  refine wmk h673 rfl rfl rfl rfl 9 rfl (fun _ => rfl) fun a676 h675 => ?_
  refine wv h675 rfl rfl rfl rfl (.int .i64 (rs1.length : Int)) (run_lenRP rfl (h675.ev 87 rfl) _) fun a678 h677 => ?_
  refine wv h677 rfl rfl rfl rfl (.slice ra3 rs1.length rc3) (by unfold execOp; simp only [Option.map_some, Option.map_none, h677.ev 86 rfl, h677.ev 88 rfl]; exact run_v (sliceHR HR3.out rs1.length (by omega) _)) fun a680 h679 => ?_
  refine wmk h679 rfl rfl rfl rfl 9 rfl (fun _ => rfl) fun a682 h681 => ?_
  refine wpk_call h681 (wanted_none rfl) rfl (by decide) (fr rfl) (fun args => callP_58 args _) rfl #[.slice ra3 rs1.length rc3, .slice ra1 rs1.length rc1] (by simp only [List.map_toArray, List.map_cons, List.map_nil, h681.ev 89 rfl, h681.ev 90 rfl]) (R := fun v' w' => v' = .bool true ∧ Below w11.heap.size w11 w') ((sameRecs_eqn rs1.length (HR3.out.take rs1.length) HR1.out (by rw [List.map_take, HM3.out, hnow, ← HM1.out, ← List.length_map (f := fun r : Option Addr × Nat × List PtM => r.2.2), List.take_left]) (by rw [List.length_take]; omega) rfl (by omega) (fun L hL => by rw [HM1.out] at hL; exact Nat.le_trans (logR_ok hL).2.2 (by omega))).mono fun e w' q => ⟨_, q.1, rfl, q.2⟩) fun a684 v22 w22 r22 h683 => ?_
  obtain ⟨rfl, b22⟩ := r22; have HB22 := hid (kept_trans HB11.out b22); have R11 := hid (Own.mono R11.out b22); have HR3 := hid (HR3.out.mono b22); clear b22
  refine wmk h683 rfl rfl rfl rfl 91 rfl (fun _ => rfl) fun a686 h685 => ?_
  have h687 := h685.subs (l' := [(12, _), (11, _), (10, _), (9, _), (1, _), (8, _), (7, _), (0, _), (2, _)]) rfl
  clear h685
  iterate 5 go_step
  refine wmk h687 rfl rfl rfl rfl 11 rfl (fun _ => rfl) fun a689 h688 => ?_
  refine wmk h688 rfl rfl rfl rfl 9 rfl (fun _ => rfl) fun a691 h690 => ?_
  refine wv h690 rfl rfl rfl rfl (.int .i64 (rs1.length : Int)) (run_lenRP rfl (h690.ev 93 rfl) _) fun a693 h692 => ?_
  obtain ⟨qb, qo, ad, cc, L9, hq0, hqc, hqr, hql⟩ := recs_at HR3.out (j := rs1.length) (by omega)
  have hL9 : C = L9 := by rw [HM3.out, hnow, ← HM1.out, List.getElem?_append_right (by rw [List.length_map]; exact Nat.le_refl _), List.length_map, Nat.sub_self] at hql; injection hql with e
  subst hL9
  refine wv h692 rfl rfl rfl rfl (.pointer (some ⟨qb, qo + rs1.length, none⟩)) (by unfold execOp; simp only [h692.ev 92 rfl, h692.ev 94 rfl]; exact run_v (by rw [hq0]; exact ixRP qb qo _ rc3 rs1.length (by omega) _)) fun a695 h694 => ?_
  refine wv h694 rfl rfl rfl rfl (.slice ad C.length cc) (by unfold execOp; simp only [h694.ev 95 rfl]; exact run_v (loadRP hqc)) fun a697 h696 => ?_
  refine wmk h696 rfl rfl rfl rfl 1 rfl (fun _ => rfl) fun a699 h698 => ?_
  refine wpk_call h698 (wanted_none rfl) rfl (by decide) (fr rfl) (fun args => callP_16 args _) rfl #[.slice ad C.length cc, .slice la C.length lc] (by simp only [List.map_toArray, List.map_cons, List.map_nil, h698.ev 96 rfl, h698.ev 97 rfl]) (R := fun v' w' => v' = .bool true ∧ Below w22.heap.size w22 w') ((samePts_eq hqr R11.out.row (by omega)).mono fun e w' q => ⟨_, q.1, rfl, q.2⟩) fun a701 v30 w30 r30 h700 => ?_
  obtain ⟨rfl, b30⟩ := r30; have HB30 := hid (kept_trans HB22.out b30); clear b30
  refine wmk h700 rfl rfl rfl rfl 98 rfl (fun _ => rfl) fun a703 h702 => ?_
  have h704 := h702.subs (l' := [(13, _), (12, _), (11, _), (10, _), (9, _), (1, _), (8, _), (7, _), (0, _), (2, _)]) rfl
  clear h702
  iterate 5 go_step
  refine wmk h704 rfl rfl rfl rfl 12 rfl (fun _ => rfl) fun a706 h705 => ?_
  refine wmk h705 rfl rfl rfl rfl 99 rfl (fun _ => rfl) fun a708 h707 => ?_
  refine wpk_val h707 (by rw [wanted_of (g := 1) (want := true) (b := true) rfl (h707.yields (prev := 100) rfl (by simp))]; rfl) rfl (by decide) (fr rfl) (.bool true) (by unfold execOp; simp only [h707.ev 13 rfl]; rfl) fun a710 h709 => ?_
  refine wv h709 rfl rfl rfl rfl (.bool true) (run_pick rfl (h709.ev 100 rfl) (by rw [if_pos rfl]; exact h709.ev 101 rfl)) fun a712 h711 => ?_
  refine wmk h711 rfl rfl rfl rfl 102 rfl (fun _ => rfl) fun a714 h713 => ?_
  refine wpk_call h713 (by rw [wanted_of (g := 4) (want := true) (b := true) rfl (h713.yields (prev := 103) rfl (by simp))]; rfl) rfl (by decide) (fr rfl) (fun args => callP_13 args _) rfl #[] (by simp) (R := fun v' w' => v' = .bool true ∧ Below w30.heap.size w30 w') ((lives08_any _).mono fun e w' q => ⟨_, q.1, rfl, q.2⟩) fun a716 vx wx rx h715 => ?_
  obtain ⟨rfl, bx⟩ := rx; have HBx := hid (kept_trans HB30.out bx); clear bx
  refine wv h715 rfl rfl rfl rfl (.bool true) (run_pick rfl (h715.ev 103 rfl) (by rw [if_pos rfl]; exact h715.ev 104 rfl)) fun a718 h717 => ?_
  refine wmk h717 rfl rfl rfl rfl 105 rfl (fun _ => rfl) fun a720 h719 => ?_
  have h721 := h719.subs (l' := [(6, _), (13, _), (12, _), (11, _), (10, _), (9, _), (1, _), (8, _), (7, _), (0, _), (2, _)]) rfl
  clear h719
  iterate 4 go_step
  exact bodyPost_ret (results_tmp1 rfl (h721.known (6, .bool true) (by simp))) h721.defs ⟨rfl, HBx.out⟩
end Go.Proofs.YtkhhoognemjibaaGreatDoor
