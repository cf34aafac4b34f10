/- TxnAlone. (genTxnY.py) -/
import Derived.Test.YtcackliabemecaaGreatDoorTxnYa
namespace Go.Proofs.YtcackliabemecaaGreatDoor
open Go.RowKit
set_option linter.unusedSimpArgs false
set_option linter.unusedVariables false
set_option maxRecDepth 100000
theorem callZ_6 (args : Array Value) (w : World) : (callFunc 6 args).run Tryz.prog w = .ok (.enter 6 args) w := by
  have h := Tryz.func6
  go_simp
theorem callZ_7 (args : Array Value) (w : World) : (callFunc 7 args).run Tryz.prog w = .ok (.enter 7 args) w := by
  have h := Tryz.func7
  go_simp
theorem callZ_9 (args : Array Value) (w : World) : (callFunc 9 args).run Tryz.prog w = .ok (.enter 9 args) w := by
  have h := Tryz.func9
  go_simp

set_option maxHeartbeats 16000000 in
theorem TxnAlone_walk (w : World) (a : Option Addr) (c : Nat) (xs : List DeedT) (hxs : DeedsIn w a c xs) :
    Calls Tryz.prog 4 #[.slice a xs.length c] w fun e w' => e = .returned (.bool true) ∧ Below w.heap.size w w' := by
  have HXS := hid hxs
  clear hxs
  go_enter Tryz.func4, Tryz.ntmps4
  iterate 3 go_step
  refine wpk_enter (N := 125) (l := [(0, .slice a xs.length c)]) ⟨rfl, (by intro x hx; simp only [List.mem_cons, List.not_mem_nil, or_false] at hx; rcases hx with rfl <;> rfl), rfl⟩ fun a2 h1 => ?_
  refine wv h1 rfl rfl rfl rfl (.bool false) rfl fun a4 h3 => ?_
  iterate 5 go_step
  refine wpk_call h3 (wanted_none rfl) rfl (by decide) (fr rfl) (fun args => callZ_6 args _) rfl #[] (by simp) (R := fun v' w' => ∃ K : TK, v' = .pointer (some ⟨K.pp, 0, none⟩) ∧ SideT w' w'.heap.size K none 0 none 0 mem0 [] mem0 [] ∧ K.ord w.heap.size w'.heap.size ∧ Below w.heap.size w w') ((beginS w).mono fun e w' q => by obtain ⟨K, q1, q2⟩ := q; exact ⟨_, q1, K, rfl, q2⟩) fun a6 vb0 wb0 rb0 h5 => ?_
  obtain ⟨K, rfl, hs0, ho0, hb0⟩ := rb0; have HS0 := hid hs0; have HB0 := hid hb0; clear hs0 hb0
  refine wmk h5 rfl rfl rfl rfl 17 rfl (fun _ => rfl) fun a8 h7 => ?_
  have h9 := h7.subs (l' := [(3, _), (2, _), (0, _)]) rfl
  clear h7
  iterate 5 go_step
  refine wpk_call h9 (wanted_none rfl) rfl (by decide) (fr rfl) (fun args => callZ_6 args _) rfl #[] (by simp) (R := fun v' w' => ∃ K : TK, v' = .pointer (some ⟨K.pp, 0, none⟩) ∧ SideT w' w'.heap.size K none 0 none 0 mem0 [] mem0 [] ∧ K.ord wb0.heap.size w'.heap.size ∧ Below wb0.heap.size wb0 w') ((beginS wb0).mono fun e w' q => by obtain ⟨K, q1, q2⟩ := q; exact ⟨_, q1, K, rfl, q2⟩) fun a11 vb1 wb1 rb1 h10 => ?_
  obtain ⟨Q, rfl, hs1, ho1, hb1⟩ := rb1; obtain ⟨B, hB⟩ : ∃ B, B = wb1.heap.size := ⟨_, rfl⟩; have HSK := hid ((HS0.out.mono hb1).rebase (B' := B) (by rw [hB]; exact hb1.size) (by omega)); rw [← hB] at hs1 ho1; have HSQ := hid hs1; have HB1 := hid (kept_trans HB0.out hb1); have hA := ho0.weak (Nat.le_refl _) (show wb0.heap.size ≤ B by rw [hB]; exact hb1.size); have hAQ := ho1.weak HB0.out.size (Nat.le_refl B); have hKQ : ∀ k, Q.has k → K.pp < k := fun k hk => (by have y := (TK.has_le ho1 k hk).1; have z := ho0.pp; omega); clear hs1 hb1 HS0 HB0 hB
  refine wmk h10 rfl rfl rfl rfl 18 rfl (fun _ => rfl) fun a13 h12 => ?_
  have h14 := h12.subs (l' := [(4, _), (3, _), (2, _), (0, _)]) rfl
  clear h12
  iterate 6 go_step
  refine wmk h14 rfl rfl rfl rfl 3 rfl (fun _ => rfl) fun a16 h15 => ?_
  refine wv h15 rfl rfl rfl rfl (.bool false) (by unfold execOp; simp only [h15.ev 19 rfl]; exact run_v (eqPnT _ _ _ _)) fun a18 h17 => ?_
  refine wmk h17 rfl rfl rfl rfl 20 rfl (fun _ => rfl) fun a20 h19 => ?_
  refine wpk_val h19 (by rw [wanted_of (g := 2) (want := false) (b := false) rfl (h19.yields (prev := 21) rfl (by simp))]; rfl) rfl (by decide) (fr rfl) (.pointer (some ⟨Q.pp, 0, none⟩)) (by unfold execOp; simp only [h19.ev 4 rfl]; rfl) fun a22 h21 => ?_
  refine wpk_val h21 (by rw [wanted_of (g := 2) (want := false) (b := false) rfl (h21.yields (prev := 21) rfl (by simp))]; rfl) rfl (by decide) (fr rfl) (.bool false) (by unfold execOp; simp only [h21.ev 22 rfl]; exact run_v (eqPnT _ _ _ _)) fun a24 h23 => ?_
  refine wv h23 rfl rfl rfl rfl (.bool false) (run_pick rfl (h23.ev 21 rfl) (by rw [if_neg (by simp)]; exact h23.ev 23 rfl)) fun a26 h25 => ?_
  have h27 := h25.subs (l' := [(24, _), (4, _), (3, _), (2, _), (0, _)]) rfl
  clear h25
  iterate 3 go_step
  refine wp_cond (t := false) (h27.ev 24 rfl) ?_
  simp only [Bool.false_eq_true, if_false]
  have h28 := h27.subs (l' := [(4, _), (3, _), (2, _), (0, _)]) rfl
  clear h27
  iterate 6 go_step
  refine wv h28 rfl rfl rfl rfl (.int .i64 0) rfl fun a30 h29 => ?_
  iterate 4 go_step
  have h31 := h29.subs (l' := [(5, _), (3, _), (4, _), (0, _)]) rfl
  clear h29
  refine wp_loop (I := fun a' w' => ∃ (i : Nat) (M : MemM) (P : List PtM) (ta : Option Addr) (tc : Nat) (ra : Option Addr) (rc : Nat), i ≤ xs.length ∧ i ≤ 12 ∧ Kn 125 [(5, .int .i64 (i : Int)), (3, .pointer (some ⟨K.pp, 0, none⟩)), (4, .pointer (some ⟨Q.pp, 0, none⟩)), (0, .slice a xs.length c)] a' ∧ M.V.length = 1024 ∧ TxOk M P ∧ SideT w' B K ta tc ra rc M P M P ∧ SideT w' B Q none 0 none 0 M [] M [] ∧ Below w.heap.size w w') (μ := fun a' _ => xs.length - (intOf (a'.eval (.tmp 5))).toNat) ⟨0, mem0, [], none, 0, none, 0, by omega, by omega, h31, mem0_len, TxOk.nil _, HSK.out, HSQ.out, HB1.out⟩ ?_
  clear HSK HSQ HB1 h31
  rintro aL aw ⟨i, M, P, ta, tc, ra, rc, hi, hiN, hK, hlen, htx, hs, hq, hb⟩; have HSa := hid hs; have HSq := hid hq; have HBa := hid hb; clear hs hq hb
  by_cases hltL : i < xs.length
  case neg =>
    iterate 4 go_step
    refine wmk hK rfl rfl rfl rfl 5 rfl (fun _ => rfl) fun a33 h32 => ?_
    refine wmk h32 rfl rfl rfl rfl 0 rfl (fun _ => rfl) fun a35 h34 => ?_
    refine wv h34 rfl rfl rfl rfl (.int .i64 (xs.length : Int)) (run_lenDP rfl (h34.ev 26 rfl) _) fun a37 h36 => ?_
    refine wv h36 rfl rfl rfl rfl (.bool false) (by unfold execOp; simp only [h36.ev 25 rfl, h36.ev 27 rfl]; exact run_v (ltIP _ _ _ _ _ (decide_eq_false (by omega)))) fun a39 h38 => ?_
    refine wmk h38 rfl rfl rfl rfl 28 rfl (fun _ => rfl) fun a41 h40 => ?_
    refine wpk_skip h40 (by rw [wanted_of (g := 4) (want := true) (b := false) rfl (h40.yields (prev := 29) rfl (by simp))]; rfl) rfl (by decide) (fr rfl) fun a43 h42 => ?_
    refine wpk_skip h42 (by rw [wanted_of (g := 4) (want := true) (b := false) rfl (h42.yields (prev := 29) rfl (by simp))]; rfl) rfl (by decide) (fr rfl) fun a45 h44 => ?_
    refine wv h44 rfl rfl rfl rfl (.bool false) (run_pick rfl (h44.ev 29 rfl) rfl) fun a47 h46 => ?_
    have h48 := h46.subs (l' := [(32, _), (5, _), (3, _), (4, _), (0, _)]) rfl
    clear h46
    iterate 3 go_step
    refine wp_cond (t := false) (h48.ev 32 rfl) ?_
    simp only [Bool.false_eq_true, if_false]
    have h49 := h48.subs (l' := [(5, _), (3, _), (4, _), (0, _)]) rfl
    clear h48
    iterate 7 go_step
    refine wmk h49 rfl rfl rfl rfl 3 rfl (fun _ => rfl) fun a51 h50 => ?_
    refine wv h50 rfl rfl rfl rfl (.pointer (some ⟨K.pp, 0, none⟩)) (by unfold execOp; simp only [h50.ev 88 rfl]; exact rfl) fun a53 h52 => ?_
    refine wv h52 rfl rfl rfl rfl (.pointer (some ⟨K.pp, 2, none⟩)) (by unfold execOp; simp only [h52.ev 89 rfl]; exact run_v (faZ_40_0_2 (K.pp) _)) fun a55 h54 => ?_
    refine wv h54 rfl rfl rfl rfl (.pointer (some ⟨K.tg, 0, none⟩)) (by unfold execOp; simp only [h54.ev 90 rfl]; exact run_v (loadTP (HSa.out.t.q.cell (i := 2) (by show 2 < 5; omega)))) fun a57 h56 => ?_
    refine wpk_call h56 (wanted_none rfl) rfl (by decide) (fr rfl) (fun args => callZ_12 args _) rfl #[.pointer (some ⟨K.tg, 0, none⟩)] (by simp only [List.map_toArray, List.map_cons, List.map_nil, h56.ev 91 rfl]) (R := fun v' w' => SideT w' B K none 0 ra rc M [] M P ∧ Turns (XL K ta) aw w') (HSa.out.dropL) fun a59 vd wd rd h58 => ?_
    have HSd := hid rd.1; have HQd := hid (HSq.out.past rd.2 (apartL HSa.out HSq.out.k hKQ)); have HBd := hid (HBa.out.trans (rd.2.below HBa.out.size (fun k hk => HSa.out.high hA k (.inl hk)))); clear rd
    have h60 := h58.subs (l' := [(5, _), (3, _), (4, _), (0, _)]) rfl
    clear h58
    iterate 5 go_step
    refine wmk h60 rfl rfl rfl rfl 3 rfl (fun _ => rfl) fun a62 h61 => ?_
    refine wv h61 rfl rfl rfl rfl (.pointer (some ⟨K.pp, 0, none⟩)) (by unfold execOp; simp only [h61.ev 93 rfl]; exact rfl) fun a64 h63 => ?_
    refine wv h63 rfl rfl rfl rfl (.pointer (some ⟨K.pp, 2, none⟩)) (by unfold execOp; simp only [h63.ev 94 rfl]; exact run_v (faZ_40_0_2 (K.pp) _)) fun a66 h65 => ?_
    refine wv h65 rfl rfl rfl rfl (.pointer (some ⟨K.tg, 0, none⟩)) (by unfold execOp; simp only [h65.ev 95 rfl]; exact run_v (loadTP (HSd.out.t.q.cell (i := 2) (by show 2 < 5; omega)))) fun a68 h67 => ?_
    refine wpk_call h67 (wanted_none rfl) rfl (by decide) (fr rfl) (fun args => callZ_13 args _) rfl #[.pointer (some ⟨K.tg, 0, none⟩)] (by simp only [List.map_toArray, List.map_cons, List.map_nil, h67.ev 96 rfl]) (R := fun v' w' => v' = .int .i64 (comE M []) ∧ ∃ ta2 tc2, SideT w' B K ta2 tc2 ra rc (comM M []) (comP M []) M P ∧ Turns (XL K none) wd w') ((HSd.out.commitL (logOk_of hlen) (TxOk.nil _)).mono fun e w' q => ⟨_, q.1, rfl, q.2⟩) fun a70 ve we re h69 => ?_
    obtain ⟨rfl, te, tce, se, xe⟩ := re; rw [comE_nil] at h69; rw [comM_nil, comP_nil] at se; have HSe := hid se; have HQe := hid (HQd.out.past xe (apartL HSd.out HSq.out.k hKQ)); have HBe := hid (HBd.out.trans (xe.below HBd.out.size (fun k hk => HSd.out.high hA k (.inl hk)))); clear se xe
    refine wmk h69 rfl rfl rfl rfl 97 rfl (fun _ => rfl) fun a72 h71 => ?_
    have h73 := h71.subs (l' := [(11, _), (5, _), (3, _), (4, _), (0, _)]) rfl
    clear h71
    iterate 5 go_step
    refine wmk h73 rfl rfl rfl rfl 3 rfl (fun _ => rfl) fun a75 h74 => ?_
    refine wv h74 rfl rfl rfl rfl (.pointer (some ⟨K.pp, 0, none⟩)) (by unfold execOp; simp only [h74.ev 99 rfl]; exact rfl) fun a77 h76 => ?_
    refine wv h76 rfl rfl rfl rfl (.pointer (some ⟨K.pp, 2, none⟩)) (by unfold execOp; simp only [h76.ev 100 rfl]; exact run_v (faZ_40_0_2 (K.pp) _)) fun a79 h78 => ?_
    refine wv h78 rfl rfl rfl rfl (.pointer (some ⟨K.tg, 0, none⟩)) (by unfold execOp; simp only [h78.ev 101 rfl]; exact run_v (loadTP (HSe.out.t.q.cell (i := 2) (by show 2 < 5; omega)))) fun a81 h80 => ?_
    refine wpk_call h80 (wanted_none rfl) rfl (by decide) (fr rfl) (fun args => callZ_14 args _) rfl #[.pointer (some ⟨K.tg, 0, none⟩), .int .i64 0, .int .i64 1024] (by simp only [List.map_toArray, List.map_cons, List.map_nil, h80.ev 102 rfl]; rfl) (R := fun v' w' => (∃ x1 y1, v' = .tuple #[.slice x1 M.V.length y1, .int .i64 0] ∧ RowB w' x1 y1 M.V) ∧ Below we.heap.size we w') ((HSe.out.loadL (TxOk.nil _) (by omega) 0 1024 (by unfold i64B; omega) (by unfold i64B; omega)).mono fun e w' q => by obtain ⟨x1, y1, q1, q2, q3⟩ := q; rw [loadT_nil hlen, errM_1024 hlen] at q1; rw [loadT_nil hlen] at q2; exact ⟨_, q1, ⟨x1, y1, rfl, q2.row⟩, q3⟩) fun a83 vf wf rf h82 => ?_
    obtain ⟨⟨lf, cf, rfl, of⟩, bf⟩ := rf; have HSf := hid (HSe.out.mono bf); have HQf := hid (HQe.out.mono bf); have HBf := hid (kept_trans HBe.out bf); have HRf := hid of; clear of bf
    refine wmk h82 rfl rfl rfl rfl 103 rfl (fun _ => rfl) fun a85 h84 => ?_
    refine wv h84 rfl rfl rfl rfl (.slice lf M.V.length cf) (by unfold execOp; simp only [h84.ev 98 rfl]; exact rfl) fun a87 h86 => ?_
    refine wv h86 rfl rfl rfl rfl (.int .i64 0) (by unfold execOp; simp only [h86.ev 98 rfl]; exact rfl) fun a89 h88 => ?_
    refine wmk h88 rfl rfl rfl rfl 104 rfl (fun _ => rfl) fun a91 h90 => ?_
    refine wmk h90 rfl rfl rfl rfl 105 rfl (fun _ => rfl) fun a93 h92 => ?_
    have h94 := h92.subs (l' := [(12, _), (11, _), (5, _), (3, _), (4, _), (0, _)]) rfl
    clear h92
    iterate 5 go_step
    refine wmk h94 rfl rfl rfl rfl 4 rfl (fun _ => rfl) fun a96 h95 => ?_
    refine wv h95 rfl rfl rfl rfl (.pointer (some ⟨Q.pp, 0, none⟩)) (by unfold execOp; simp only [h95.ev 107 rfl]; exact rfl) fun a98 h97 => ?_
    refine wv h97 rfl rfl rfl rfl (.pointer (some ⟨Q.pp, 0, none⟩)) (by unfold execOp; simp only [h97.ev 108 rfl]; exact run_v (faZ_40_0_0 (Q.pp) _)) fun a100 h99 => ?_
    refine wv h99 rfl rfl rfl rfl (.pointer (some ⟨Q.g, 0, none⟩)) (by unfold execOp; simp only [h99.ev 109 rfl]; exact run_v (loadMP (HQf.out.t.q.cell (i := 0) (by show 0 < 5; omega)))) fun a102 h101 => ?_
    refine wpk_call h101 (wanted_none rfl) rfl (by decide) (fr rfl) (fun args => callZ_10 args _) rfl #[.pointer (some ⟨Q.g, 0, none⟩), .int .i64 0, .int .i64 1024] (by simp only [List.map_toArray, List.map_cons, List.map_nil, h101.ev 110 rfl]; rfl) (R := fun v' w' => (∃ x1 y1, v' = .tuple #[.slice x1 (M).V.length y1, .int .i64 0] ∧ RowB w' x1 y1 (M).V) ∧ Below wf.heap.size wf w') ((load1024 HQf.out.t.l.m hlen).mono fun e w' q => by obtain ⟨x1, y1, q1, q2, q3⟩ := q; exact ⟨_, q1, ⟨x1, y1, rfl, q2⟩, q3⟩) fun a104 vm1 wm1 rm1 h103 => ?_
    obtain ⟨⟨lm1, cm1, rfl, om1⟩, bm1⟩ := rm1; have HSKm1 := hid (HSf.out.mono bm1); have HSQm1 := hid (HQf.out.mono bm1); have HBm1 := hid (kept_trans HBf.out bm1); have HRm1 := hid om1
    have HRf_m1 := hid (HRf.out.below bm1)
    clear om1 bm1
    refine wmk h103 rfl rfl rfl rfl 111 rfl (fun _ => rfl) fun a106 h105 => ?_
    refine wv h105 rfl rfl rfl rfl (.slice lm1 (M).V.length cm1) (by unfold execOp; simp only [h105.ev 106 rfl]; exact rfl) fun a108 h107 => ?_
    refine wv h107 rfl rfl rfl rfl (.int .i64 0) (by unfold execOp; simp only [h107.ev 106 rfl]; exact rfl) fun a110 h109 => ?_
    refine wmk h109 rfl rfl rfl rfl 112 rfl (fun _ => rfl) fun a112 h111 => ?_
    refine wmk h111 rfl rfl rfl rfl 113 rfl (fun _ => rfl) fun a114 h113 => ?_
    have h115 := h113.subs (l' := [(14, _), (12, _), (11, _), (5, _), (3, _), (4, _), (0, _)]) rfl
    clear h113
    iterate 5 go_step
    refine wmk h115 rfl rfl rfl rfl 12 rfl (fun _ => rfl) fun a117 h116 => ?_
    refine wmk h116 rfl rfl rfl rfl 14 rfl (fun _ => rfl) fun a119 h118 => ?_
    refine wpk_call h118 (wanted_none rfl) rfl (by decide) (fr rfl) (fun args => callZ_11 args _) rfl #[.slice lf M.V.length cf, .slice lm1 (M).V.length cm1] (by simp only [List.map_toArray, List.map_cons, List.map_nil, h118.ev 114 rfl, h118.ev 115 rfl]) (R := fun v' w' => v' = .bool true ∧ Below wm1.heap.size wm1 w') ((same9T HRf_m1.out HRm1.out (by omega)).mono fun e w' q => ⟨_, q.1, rfl, q.2⟩) fun a121 vs ws rs h120 => ?_
    obtain ⟨rfl, bs⟩ := rs; have HSKs := hid (HSKm1.out.mono bs); have HSQs := hid (HSQm1.out.mono bs); have HBs := hid (kept_trans HBm1.out bs); clear bs
    refine wmk h120 rfl rfl rfl rfl 116 rfl (fun _ => rfl) fun a123 h122 => ?_
    have h124 := h122.subs (l' := [(16, _), (14, _), (12, _), (11, _), (5, _), (3, _), (4, _), (0, _)]) rfl
    clear h122
    iterate 5 go_step
    refine wmk h124 rfl rfl rfl rfl 16 rfl (fun _ => rfl) fun a126 h125 => ?_
    refine wmk h125 rfl rfl rfl rfl 117 rfl (fun _ => rfl) fun a128 h127 => ?_
    refine wpk_val h127 (by rw [wanted_of (g := 1) (want := true) (b := true) rfl (h127.yields (prev := 118) rfl (by simp))]; rfl) rfl (by decide) (fr rfl) (.int .i64 0) (by unfold execOp; simp only [h127.ev 11 rfl]; rfl) fun a130 h129 => ?_
    refine wpk_val h129 (by rw [wanted_of (g := 1) (want := true) (b := true) rfl (h129.yields (prev := 118) rfl (by simp))]; rfl) rfl (by decide) (fr rfl) (.bool true) (by unfold execOp; simp only [h129.ev 119 rfl]; exact run_v (eqEP _ _ _ _ _ (beq_iff_eq.2 (by omega)))) fun a132 h131 => ?_
    refine wv h131 rfl rfl rfl rfl (.bool true) (run_pick rfl (h131.ev 118 rfl) (by rw [if_pos rfl]; exact h131.ev 120 rfl)) fun a134 h133 => ?_
    refine wmk h133 rfl rfl rfl rfl 121 rfl (fun _ => rfl) fun a136 h135 => ?_
    refine wpk_call h135 (by rw [wanted_of (g := 5) (want := true) (b := true) rfl (h135.yields (prev := 122) rfl (by simp))]; rfl) rfl (by decide) (fr rfl) (fun args => callZ_9 args _) rfl #[] (by simp) (R := fun v' w' => v' = .bool true ∧ Below ws.heap.size ws w') ((lives09_any _).mono fun e w' q => ⟨_, q.1, rfl, q.2⟩) fun a138 vz9 wz9 rz9 h137 => ?_
    obtain ⟨rfl, bz9⟩ := rz9; have HBz9 := hid (kept_trans HBs.out bz9); clear bz9
    refine wv h137 rfl rfl rfl rfl (.bool true) (run_pick rfl (h137.ev 122 rfl) (by rw [if_pos rfl]; exact h137.ev 123 rfl)) fun a140 h139 => ?_
    refine wmk h139 rfl rfl rfl rfl 124 rfl (fun _ => rfl) fun a142 h141 => ?_
    have h143 := h141.subs (l' := [(2, _), (16, _), (14, _), (12, _), (11, _), (5, _), (3, _), (4, _), (0, _)]) rfl
    clear h141
    iterate 4 go_step
    exact bodyPost_ret (results_tmp1 rfl (h143.known (2, .bool true) (by simp))) h143.defs ⟨rfl, HBz9.out⟩
  by_cases hltN : i < 12
  case neg =>
    iterate 4 go_step
    refine wmk hK rfl rfl rfl rfl 5 rfl (fun _ => rfl) fun a145 h144 => ?_
    refine wmk h144 rfl rfl rfl rfl 0 rfl (fun _ => rfl) fun a147 h146 => ?_
    refine wv h146 rfl rfl rfl rfl (.int .i64 (xs.length : Int)) (run_lenDP rfl (h146.ev 26 rfl) _) fun a149 h148 => ?_
    refine wv h148 rfl rfl rfl rfl (.bool true) (by unfold execOp; simp only [h148.ev 25 rfl, h148.ev 27 rfl]; exact run_v (ltIP _ _ _ _ _ (decide_eq_true (by omega)))) fun a151 h150 => ?_
    refine wmk h150 rfl rfl rfl rfl 28 rfl (fun _ => rfl) fun a153 h152 => ?_
    refine wpk_val h152 (by rw [wanted_of (g := 4) (want := true) (b := true) rfl (h152.yields (prev := 29) rfl (by simp))]; rfl) rfl (by decide) (fr rfl) (.int .i64 (i : Int)) (by unfold execOp; simp only [h152.ev 5 rfl]; rfl) fun a155 h154 => ?_
    refine wpk_val h154 (by rw [wanted_of (g := 4) (want := true) (b := true) rfl (h154.yields (prev := 29) rfl (by simp))]; rfl) rfl (by decide) (fr rfl) (.bool false) (by unfold execOp; simp only [h154.ev 30 rfl]; exact run_v (ltIP _ _ _ _ _ (decide_eq_false (by omega)))) fun a157 h156 => ?_
    refine wv h156 rfl rfl rfl rfl (.bool false) (run_pick rfl (h156.ev 29 rfl) (by rw [if_pos rfl]; exact h156.ev 31 rfl)) fun a159 h158 => ?_
    have h160 := h158.subs (l' := [(32, _), (5, _), (3, _), (4, _), (0, _)]) rfl
    clear h158
    iterate 3 go_step
    refine wp_cond (t := false) (h160.ev 32 rfl) ?_
    simp only [Bool.false_eq_true, if_false]
    have h161 := h160.subs (l' := [(5, _), (3, _), (4, _), (0, _)]) rfl
    clear h160
    iterate 7 go_step
    refine wmk h161 rfl rfl rfl rfl 3 rfl (fun _ => rfl) fun a163 h162 => ?_
    refine wv h162 rfl rfl rfl rfl (.pointer (some ⟨K.pp, 0, none⟩)) (by unfold execOp; simp only [h162.ev 88 rfl]; exact rfl) fun a165 h164 => ?_
    refine wv h164 rfl rfl rfl rfl (.pointer (some ⟨K.pp, 2, none⟩)) (by unfold execOp; simp only [h164.ev 89 rfl]; exact run_v (faZ_40_0_2 (K.pp) _)) fun a167 h166 => ?_
    refine wv h166 rfl rfl rfl rfl (.pointer (some ⟨K.tg, 0, none⟩)) (by unfold execOp; simp only [h166.ev 90 rfl]; exact run_v (loadTP (HSa.out.t.q.cell (i := 2) (by show 2 < 5; omega)))) fun a169 h168 => ?_
    refine wpk_call h168 (wanted_none rfl) rfl (by decide) (fr rfl) (fun args => callZ_12 args _) rfl #[.pointer (some ⟨K.tg, 0, none⟩)] (by simp only [List.map_toArray, List.map_cons, List.map_nil, h168.ev 91 rfl]) (R := fun v' w' => SideT w' B K none 0 ra rc M [] M P ∧ Turns (XL K ta) aw w') (HSa.out.dropL) fun a171 vd wd rd h170 => ?_
    have HSd := hid rd.1; have HQd := hid (HSq.out.past rd.2 (apartL HSa.out HSq.out.k hKQ)); have HBd := hid (HBa.out.trans (rd.2.below HBa.out.size (fun k hk => HSa.out.high hA k (.inl hk)))); clear rd
    have h172 := h170.subs (l' := [(5, _), (3, _), (4, _), (0, _)]) rfl
    clear h170
    iterate 5 go_step
    refine wmk h172 rfl rfl rfl rfl 3 rfl (fun _ => rfl) fun a174 h173 => ?_
    refine wv h173 rfl rfl rfl rfl (.pointer (some ⟨K.pp, 0, none⟩)) (by unfold execOp; simp only [h173.ev 93 rfl]; exact rfl) fun a176 h175 => ?_
    refine wv h175 rfl rfl rfl rfl (.pointer (some ⟨K.pp, 2, none⟩)) (by unfold execOp; simp only [h175.ev 94 rfl]; exact run_v (faZ_40_0_2 (K.pp) _)) fun a178 h177 => ?_
    refine wv h177 rfl rfl rfl rfl (.pointer (some ⟨K.tg, 0, none⟩)) (by unfold execOp; simp only [h177.ev 95 rfl]; exact run_v (loadTP (HSd.out.t.q.cell (i := 2) (by show 2 < 5; omega)))) fun a180 h179 => ?_
    refine wpk_call h179 (wanted_none rfl) rfl (by decide) (fr rfl) (fun args => callZ_13 args _) rfl #[.pointer (some ⟨K.tg, 0, none⟩)] (by simp only [List.map_toArray, List.map_cons, List.map_nil, h179.ev 96 rfl]) (R := fun v' w' => v' = .int .i64 (comE M []) ∧ ∃ ta2 tc2, SideT w' B K ta2 tc2 ra rc (comM M []) (comP M []) M P ∧ Turns (XL K none) wd w') ((HSd.out.commitL (logOk_of hlen) (TxOk.nil _)).mono fun e w' q => ⟨_, q.1, rfl, q.2⟩) fun a182 ve we re h181 => ?_
    obtain ⟨rfl, te, tce, se, xe⟩ := re; rw [comE_nil] at h181; rw [comM_nil, comP_nil] at se; have HSe := hid se; have HQe := hid (HQd.out.past xe (apartL HSd.out HSq.out.k hKQ)); have HBe := hid (HBd.out.trans (xe.below HBd.out.size (fun k hk => HSd.out.high hA k (.inl hk)))); clear se xe
    refine wmk h181 rfl rfl rfl rfl 97 rfl (fun _ => rfl) fun a184 h183 => ?_
    have h185 := h183.subs (l' := [(11, _), (5, _), (3, _), (4, _), (0, _)]) rfl
    clear h183
    iterate 5 go_step
    refine wmk h185 rfl rfl rfl rfl 3 rfl (fun _ => rfl) fun a187 h186 => ?_
    refine wv h186 rfl rfl rfl rfl (.pointer (some ⟨K.pp, 0, none⟩)) (by unfold execOp; simp only [h186.ev 99 rfl]; exact rfl) fun a189 h188 => ?_
    refine wv h188 rfl rfl rfl rfl (.pointer (some ⟨K.pp, 2, none⟩)) (by unfold execOp; simp only [h188.ev 100 rfl]; exact run_v (faZ_40_0_2 (K.pp) _)) fun a191 h190 => ?_
    refine wv h190 rfl rfl rfl rfl (.pointer (some ⟨K.tg, 0, none⟩)) (by unfold execOp; simp only [h190.ev 101 rfl]; exact run_v (loadTP (HSe.out.t.q.cell (i := 2) (by show 2 < 5; omega)))) fun a193 h192 => ?_
    refine wpk_call h192 (wanted_none rfl) rfl (by decide) (fr rfl) (fun args => callZ_14 args _) rfl #[.pointer (some ⟨K.tg, 0, none⟩), .int .i64 0, .int .i64 1024] (by simp only [List.map_toArray, List.map_cons, List.map_nil, h192.ev 102 rfl]; rfl) (R := fun v' w' => (∃ x1 y1, v' = .tuple #[.slice x1 M.V.length y1, .int .i64 0] ∧ RowB w' x1 y1 M.V) ∧ Below we.heap.size we w') ((HSe.out.loadL (TxOk.nil _) (by omega) 0 1024 (by unfold i64B; omega) (by unfold i64B; omega)).mono fun e w' q => by obtain ⟨x1, y1, q1, q2, q3⟩ := q; rw [loadT_nil hlen, errM_1024 hlen] at q1; rw [loadT_nil hlen] at q2; exact ⟨_, q1, ⟨x1, y1, rfl, q2.row⟩, q3⟩) fun a195 vf wf rf h194 => ?_
    obtain ⟨⟨lf, cf, rfl, of⟩, bf⟩ := rf; have HSf := hid (HSe.out.mono bf); have HQf := hid (HQe.out.mono bf); have HBf := hid (kept_trans HBe.out bf); have HRf := hid of; clear of bf
    refine wmk h194 rfl rfl rfl rfl 103 rfl (fun _ => rfl) fun a197 h196 => ?_
    refine wv h196 rfl rfl rfl rfl (.slice lf M.V.length cf) (by unfold execOp; simp only [h196.ev 98 rfl]; exact rfl) fun a199 h198 => ?_
    refine wv h198 rfl rfl rfl rfl (.int .i64 0) (by unfold execOp; simp only [h198.ev 98 rfl]; exact rfl) fun a201 h200 => ?_
    refine wmk h200 rfl rfl rfl rfl 104 rfl (fun _ => rfl) fun a203 h202 => ?_
    refine wmk h202 rfl rfl rfl rfl 105 rfl (fun _ => rfl) fun a205 h204 => ?_
    have h206 := h204.subs (l' := [(12, _), (11, _), (5, _), (3, _), (4, _), (0, _)]) rfl
    clear h204
    iterate 5 go_step
    refine wmk h206 rfl rfl rfl rfl 4 rfl (fun _ => rfl) fun a208 h207 => ?_
    refine wv h207 rfl rfl rfl rfl (.pointer (some ⟨Q.pp, 0, none⟩)) (by unfold execOp; simp only [h207.ev 107 rfl]; exact rfl) fun a210 h209 => ?_
    refine wv h209 rfl rfl rfl rfl (.pointer (some ⟨Q.pp, 0, none⟩)) (by unfold execOp; simp only [h209.ev 108 rfl]; exact run_v (faZ_40_0_0 (Q.pp) _)) fun a212 h211 => ?_
    refine wv h211 rfl rfl rfl rfl (.pointer (some ⟨Q.g, 0, none⟩)) (by unfold execOp; simp only [h211.ev 109 rfl]; exact run_v (loadMP (HQf.out.t.q.cell (i := 0) (by show 0 < 5; omega)))) fun a214 h213 => ?_
    refine wpk_call h213 (wanted_none rfl) rfl (by decide) (fr rfl) (fun args => callZ_10 args _) rfl #[.pointer (some ⟨Q.g, 0, none⟩), .int .i64 0, .int .i64 1024] (by simp only [List.map_toArray, List.map_cons, List.map_nil, h213.ev 110 rfl]; rfl) (R := fun v' w' => (∃ x1 y1, v' = .tuple #[.slice x1 (M).V.length y1, .int .i64 0] ∧ RowB w' x1 y1 (M).V) ∧ Below wf.heap.size wf w') ((load1024 HQf.out.t.l.m hlen).mono fun e w' q => by obtain ⟨x1, y1, q1, q2, q3⟩ := q; exact ⟨_, q1, ⟨x1, y1, rfl, q2⟩, q3⟩) fun a216 vm1 wm1 rm1 h215 => ?_
    obtain ⟨⟨lm1, cm1, rfl, om1⟩, bm1⟩ := rm1; have HSKm1 := hid (HSf.out.mono bm1); have HSQm1 := hid (HQf.out.mono bm1); have HBm1 := hid (kept_trans HBf.out bm1); have HRm1 := hid om1
    have HRf_m1 := hid (HRf.out.below bm1)
    clear om1 bm1
    refine wmk h215 rfl rfl rfl rfl 111 rfl (fun _ => rfl) fun a218 h217 => ?_
    refine wv h217 rfl rfl rfl rfl (.slice lm1 (M).V.length cm1) (by unfold execOp; simp only [h217.ev 106 rfl]; exact rfl) fun a220 h219 => ?_
    refine wv h219 rfl rfl rfl rfl (.int .i64 0) (by unfold execOp; simp only [h219.ev 106 rfl]; exact rfl) fun a222 h221 => ?_
    refine wmk h221 rfl rfl rfl rfl 112 rfl (fun _ => rfl) fun a224 h223 => ?_
    refine wmk h223 rfl rfl rfl rfl 113 rfl (fun _ => rfl) fun a226 h225 => ?_
    have h227 := h225.subs (l' := [(14, _), (12, _), (11, _), (5, _), (3, _), (4, _), (0, _)]) rfl
    clear h225
    iterate 5 go_step
    refine wmk h227 rfl rfl rfl rfl 12 rfl (fun _ => rfl) fun a229 h228 => ?_
    refine wmk h228 rfl rfl rfl rfl 14 rfl (fun _ => rfl) fun a231 h230 => ?_
    refine wpk_call h230 (wanted_none rfl) rfl (by decide) (fr rfl) (fun args => callZ_11 args _) rfl #[.slice lf M.V.length cf, .slice lm1 (M).V.length cm1] (by simp only [List.map_toArray, List.map_cons, List.map_nil, h230.ev 114 rfl, h230.ev 115 rfl]) (R := fun v' w' => v' = .bool true ∧ Below wm1.heap.size wm1 w') ((same9T HRf_m1.out HRm1.out (by omega)).mono fun e w' q => ⟨_, q.1, rfl, q.2⟩) fun a233 vs ws rs h232 => ?_
    obtain ⟨rfl, bs⟩ := rs; have HSKs := hid (HSKm1.out.mono bs); have HSQs := hid (HSQm1.out.mono bs); have HBs := hid (kept_trans HBm1.out bs); clear bs
    refine wmk h232 rfl rfl rfl rfl 116 rfl (fun _ => rfl) fun a235 h234 => ?_
    have h236 := h234.subs (l' := [(16, _), (14, _), (12, _), (11, _), (5, _), (3, _), (4, _), (0, _)]) rfl
    clear h234
    iterate 5 go_step
    refine wmk h236 rfl rfl rfl rfl 16 rfl (fun _ => rfl) fun a238 h237 => ?_
    refine wmk h237 rfl rfl rfl rfl 117 rfl (fun _ => rfl) fun a240 h239 => ?_
    refine wpk_val h239 (by rw [wanted_of (g := 1) (want := true) (b := true) rfl (h239.yields (prev := 118) rfl (by simp))]; rfl) rfl (by decide) (fr rfl) (.int .i64 0) (by unfold execOp; simp only [h239.ev 11 rfl]; rfl) fun a242 h241 => ?_
    refine wpk_val h241 (by rw [wanted_of (g := 1) (want := true) (b := true) rfl (h241.yields (prev := 118) rfl (by simp))]; rfl) rfl (by decide) (fr rfl) (.bool true) (by unfold execOp; simp only [h241.ev 119 rfl]; exact run_v (eqEP _ _ _ _ _ (beq_iff_eq.2 (by omega)))) fun a244 h243 => ?_
    refine wv h243 rfl rfl rfl rfl (.bool true) (run_pick rfl (h243.ev 118 rfl) (by rw [if_pos rfl]; exact h243.ev 120 rfl)) fun a246 h245 => ?_
    refine wmk h245 rfl rfl rfl rfl 121 rfl (fun _ => rfl) fun a248 h247 => ?_
    refine wpk_call h247 (by rw [wanted_of (g := 5) (want := true) (b := true) rfl (h247.yields (prev := 122) rfl (by simp))]; rfl) rfl (by decide) (fr rfl) (fun args => callZ_9 args _) rfl #[] (by simp) (R := fun v' w' => v' = .bool true ∧ Below ws.heap.size ws w') ((lives09_any _).mono fun e w' q => ⟨_, q.1, rfl, q.2⟩) fun a250 vz9 wz9 rz9 h249 => ?_
    obtain ⟨rfl, bz9⟩ := rz9; have HBz9 := hid (kept_trans HBs.out bz9); clear bz9
    refine wv h249 rfl rfl rfl rfl (.bool true) (run_pick rfl (h249.ev 122 rfl) (by rw [if_pos rfl]; exact h249.ev 123 rfl)) fun a252 h251 => ?_
    refine wmk h251 rfl rfl rfl rfl 124 rfl (fun _ => rfl) fun a254 h253 => ?_
    have h255 := h253.subs (l' := [(2, _), (16, _), (14, _), (12, _), (11, _), (5, _), (3, _), (4, _), (0, _)]) rfl
    clear h253
    iterate 4 go_step
    exact bodyPost_ret (results_tmp1 rfl (h255.known (2, .bool true) (by simp))) h255.defs ⟨rfl, HBz9.out⟩
  obtain ⟨pb, po, ha0, hpb, hrg⟩ := deedsIn_at HXS.out hltL
  obtain ⟨x, hx⟩ : ∃ y, y = xs[i] := ⟨_, rfl⟩
  have hxin := HXS.out.i xs[i] (List.getElem_mem hltL)
  rw [← hx] at hrg hxin
  have HX := hid hxin; have HRG := hid hrg; clear hxin hx hrg
  have hrgW := hid (below_range HBa.out hpb HRG.out)
  iterate 4 go_step
  refine wmk hK rfl rfl rfl rfl 5 rfl (fun _ => rfl) fun a257 h256 => ?_
  refine wmk h256 rfl rfl rfl rfl 0 rfl (fun _ => rfl) fun a259 h258 => ?_
  refine wv h258 rfl rfl rfl rfl (.int .i64 (xs.length : Int)) (run_lenDP rfl (h258.ev 26 rfl) _) fun a261 h260 => ?_
  refine wv h260 rfl rfl rfl rfl (.bool true) (by unfold execOp; simp only [h260.ev 25 rfl, h260.ev 27 rfl]; exact run_v (ltIP _ _ _ _ _ (decide_eq_true (by omega)))) fun a263 h262 => ?_
  refine wmk h262 rfl rfl rfl rfl 28 rfl (fun _ => rfl) fun a265 h264 => ?_
  refine wpk_val h264 (by rw [wanted_of (g := 4) (want := true) (b := true) rfl (h264.yields (prev := 29) rfl (by simp))]; rfl) rfl (by decide) (fr rfl) (.int .i64 (i : Int)) (by unfold execOp; simp only [h264.ev 5 rfl]; rfl) fun a267 h266 => ?_
  refine wpk_val h266 (by rw [wanted_of (g := 4) (want := true) (b := true) rfl (h266.yields (prev := 29) rfl (by simp))]; rfl) rfl (by decide) (fr rfl) (.bool true) (by unfold execOp; simp only [h266.ev 30 rfl]; exact run_v (ltIP _ _ _ _ _ (decide_eq_true (by omega)))) fun a269 h268 => ?_
  refine wv h268 rfl rfl rfl rfl (.bool true) (run_pick rfl (h268.ev 29 rfl) (by rw [if_pos rfl]; exact h268.ev 31 rfl)) fun a271 h270 => ?_
  have h272 := h270.subs (l' := [(32, _), (5, _), (3, _), (4, _), (0, _)]) rfl
  clear h270
  iterate 3 go_step
  refine wp_cond (t := true) (h272.ev 32 rfl) ?_
  simp only [if_true]
  have h273 := h272.subs (l' := [(5, _), (3, _), (4, _), (0, _)]) rfl
  clear h272
  iterate 5 go_step
  by_cases hk0 : x.kind = 0
  case pos =>
    have hdm0 : doM x M P = M := by unfold doM; rw [if_neg (by omega), if_neg (by omega), if_neg (by omega)]
    iterate 3 go_step
    refine wmk h273 rfl rfl rfl rfl 0 rfl (fun _ => rfl) fun a275 h274 => ?_
    refine wmk h274 rfl rfl rfl rfl 5 rfl (fun _ => rfl) fun a277 h276 => ?_
    refine wv h276 rfl rfl rfl rfl (.pointer (some ⟨pb, po + i * 5, none⟩)) (by unfold execOp; simp only [h276.ev 35 rfl, h276.ev 36 rfl]; exact run_v (by rw [ha0]; exact ixDP pb po _ c i hltL _)) fun a279 h278 => ?_
    refine wv h278 rfl rfl rfl rfl (.pointer (some ⟨pb, po + i * 5, none⟩)) (by unfold execOp; simp only [h278.ev 37 rfl]; exact run_v (faD9 _ _ _)) fun a281 h280 => ?_
    refine wv h280 rfl rfl rfl rfl (.int .i64 x.kind) (by unfold execOp; simp only [h280.ev 38 rfl]; exact run_v (loadIP (hrgW.out 0 _ rfl))) fun a283 h282 => ?_
    refine wv h282 rfl rfl rfl rfl (.bool true) (by unfold execOp; simp only [h282.ev 39 rfl]; exact run_v (eqIP _ _ _ _ _ (beq_iff_eq.2 (by omega)))) fun a285 h284 => ?_
    refine wmk h284 rfl rfl rfl rfl 40 rfl (fun _ => rfl) fun a287 h286 => ?_
    refine wpk_skip h286 (by rw [wanted_of (g := 6) (want := false) (b := true) rfl (h286.yields (prev := 41) rfl (by simp))]; rfl) rfl (by decide) (fr rfl) fun a289 h288 => ?_
    refine wpk_skip h288 (by rw [wanted_of (g := 6) (want := false) (b := true) rfl (h288.yields (prev := 41) rfl (by simp))]; rfl) rfl (by decide) (fr rfl) fun a291 h290 => ?_
    refine wpk_skip h290 (by rw [wanted_of (g := 6) (want := false) (b := true) rfl (h290.yields (prev := 41) rfl (by simp))]; rfl) rfl (by decide) (fr rfl) fun a293 h292 => ?_
    refine wpk_skip h292 (by rw [wanted_of (g := 6) (want := false) (b := true) rfl (h292.yields (prev := 41) rfl (by simp))]; rfl) rfl (by decide) (fr rfl) fun a295 h294 => ?_
    refine wpk_skip h294 (by rw [wanted_of (g := 6) (want := false) (b := true) rfl (h294.yields (prev := 41) rfl (by simp))]; rfl) rfl (by decide) (fr rfl) fun a297 h296 => ?_
    refine wpk_skip h296 (by rw [wanted_of (g := 6) (want := false) (b := true) rfl (h296.yields (prev := 41) rfl (by simp))]; rfl) rfl (by decide) (fr rfl) fun a299 h298 => ?_
    refine wv h298 rfl rfl rfl rfl (.bool true) (run_pick rfl (h298.ev 41 rfl) rfl) fun a301 h300 => ?_
    have h302 := h300.subs (l' := [(48, _), (5, _), (3, _), (4, _), (0, _)]) rfl
    clear h300
    iterate 3 go_step
    refine wp_cond (t := true) (h302.ev 48 rfl) ?_
    simp only [if_true]
    have h303 := h302.subs (l' := [(5, _), (3, _), (4, _), (0, _)]) rfl
    clear h302
    go_step
    refine wmk h303 rfl rfl rfl rfl 3 rfl (fun _ => rfl) fun a305 h304 => ?_
    refine wmk h304 rfl rfl rfl rfl 0 rfl (fun _ => rfl) fun a307 h306 => ?_
    refine wmk h306 rfl rfl rfl rfl 5 rfl (fun _ => rfl) fun a309 h308 => ?_
    refine wv h308 rfl rfl rfl rfl (.pointer (some ⟨pb, po + i * 5, none⟩)) (by unfold execOp; simp only [h308.ev 50 rfl, h308.ev 51 rfl]; exact run_v (by rw [ha0]; exact ixDP pb po _ c i hltL _)) fun a311 h310 => ?_
    refine wv h310 rfl rfl rfl rfl (.agg (deedC x).toArray) (by unfold execOp; simp only [h310.ev 52 rfl]; exact run_v (run_loadAt_mid _ _ _ _ (deedC x) _ (fun i u hu => hrgW.out i u hu) Tryz.underlying29 rfl (by rw [infoDeed]; rfl))) fun a313 h312 => ?_
    refine wpk_call h312 (wanted_none rfl) rfl (by decide) (fr rfl) (fun args => callZ_7 args _) rfl #[.pointer (some ⟨K.pp, 0, none⟩), .agg (deedC x).toArray] (by simp only [List.map_toArray, List.map_cons, List.map_nil, h312.ev 49 rfl, h312.ev 53 rfl]) (R := fun v' w' => v' = .bool true ∧ ∃ ta2 tc2 ra2 rc2, SideT w' B K ta2 tc2 ra2 rc2 (doM x M P) (doP x M P) (doM x M P) (doP x M P) ∧ Turns (XT K ta ra) aw w' ∧ Below w.heap.size w w' ∧ (x.kind = 4 → ta2 = ta ∧ tc2 = tc ∧ ra2 = ra ∧ rc2 = rc)) ((does9_any HSa.out HBa.out hA hlen htx x HX.out).mono fun e w' q => ⟨_, q.1, rfl, q.2⟩) fun a315 vp wp rp h314 => ?_
    obtain ⟨rfl, ta2, tc2, ra2, rc2, sp, tp, bp, yp⟩ := rp; have HSp := hid sp; have HBp := hid bp; have HQp := hid (HSq.out.past tp (apartT HSa.out HSq.out.k hKQ)); have hlen2 : (doM x M P).V.length = 1024 := (doM_len HSa.out.t.l.m.1).trans hlen; have htx2 := doP_ok (x := x) HSa.out.t.l.m.1 htx; clear sp tp bp yp
    have hrgW := hid (below_range HBp.out hpb HRG.out)
    have h316 := h314.subs (l' := [(5, _), (3, _), (4, _), (0, _)]) rfl
    clear h314
    iterate 3 go_step
    rw [hdm0] at htx2; have HSpm := HSp; rw [hdm0] at HSpm
    iterate 3 go_step
    refine wmk h316 rfl rfl rfl rfl 0 rfl (fun _ => rfl) fun a318 h317 => ?_
    refine wmk h317 rfl rfl rfl rfl 5 rfl (fun _ => rfl) fun a320 h319 => ?_
    refine wv h319 rfl rfl rfl rfl (.pointer (some ⟨pb, po + i * 5, none⟩)) (by unfold execOp; simp only [h319.ev 55 rfl, h319.ev 56 rfl]; exact run_v (by rw [ha0]; exact ixDP pb po _ c i hltL _)) fun a322 h321 => ?_
    refine wv h321 rfl rfl rfl rfl (.pointer (some ⟨pb, po + i * 5, none⟩)) (by unfold execOp; simp only [h321.ev 57 rfl]; exact run_v (faD9 _ _ _)) fun a324 h323 => ?_
    refine wv h323 rfl rfl rfl rfl (.int .i64 x.kind) (by unfold execOp; simp only [h323.ev 58 rfl]; exact run_v (loadIP (hrgW.out 0 _ rfl))) fun a326 h325 => ?_
    refine wv h325 rfl rfl rfl rfl (.bool false) (by unfold execOp; simp only [h325.ev 59 rfl]; exact run_v (eqIP _ _ _ _ _ (beq_eq_false_iff_ne.2 (by omega)))) fun a328 h327 => ?_
    have h329 := h327.subs (l' := [(60, _), (5, _), (3, _), (4, _), (0, _)]) rfl
    clear h327
    iterate 3 go_step
    refine wp_cond (t := false) (h329.ev 60 rfl) ?_
    simp only [Bool.false_eq_true, if_false]
    have h330 := h329.subs (l' := [(5, _), (3, _), (4, _), (0, _)]) rfl
    clear h329
    iterate 5 go_step
    refine wmk h330 rfl rfl rfl rfl 3 rfl (fun _ => rfl) fun a332 h331 => ?_
    refine wv h331 rfl rfl rfl rfl (.pointer (some ⟨K.pp, 0, none⟩)) (by unfold execOp; simp only [h331.ev 68 rfl]; exact rfl) fun a334 h333 => ?_
    refine wv h333 rfl rfl rfl rfl (.pointer (some ⟨K.pp, 0, none⟩)) (by unfold execOp; simp only [h333.ev 69 rfl]; exact run_v (faZ_40_0_0 (K.pp) _)) fun a336 h335 => ?_
    refine wv h335 rfl rfl rfl rfl (.pointer (some ⟨K.g, 0, none⟩)) (by unfold execOp; simp only [h335.ev 70 rfl]; exact run_v (loadMP (HSpm.out.t.q.cell (i := 0) (by show 0 < 5; omega)))) fun a338 h337 => ?_
    refine wpk_call h337 (wanted_none rfl) rfl (by decide) (fr rfl) (fun args => callZ_10 args _) rfl #[.pointer (some ⟨K.g, 0, none⟩), .int .i64 0, .int .i64 1024] (by simp only [List.map_toArray, List.map_cons, List.map_nil, h337.ev 71 rfl]; rfl) (R := fun v' w' => (∃ x1 y1, v' = .tuple #[.slice x1 (M).V.length y1, .int .i64 0] ∧ RowB w' x1 y1 (M).V) ∧ Below wp.heap.size wp w') ((load1024 HSpm.out.t.l.m hlen).mono fun e w' q => by obtain ⟨x1, y1, q1, q2, q3⟩ := q; exact ⟨_, q1, ⟨x1, y1, rfl, q2⟩, q3⟩) fun a340 vm1 wm1 rm1 h339 => ?_
    obtain ⟨⟨lm1, cm1, rfl, om1⟩, bm1⟩ := rm1; have HSKm1 := hid (HSpm.out.mono bm1); have HSQm1 := hid (HQp.out.mono bm1); have HBm1 := hid (kept_trans HBp.out bm1); have HRm1 := hid om1
    clear om1 bm1
    refine wmk h339 rfl rfl rfl rfl 72 rfl (fun _ => rfl) fun a342 h341 => ?_
    refine wv h341 rfl rfl rfl rfl (.slice lm1 (M).V.length cm1) (by unfold execOp; simp only [h341.ev 67 rfl]; exact rfl) fun a344 h343 => ?_
    refine wv h343 rfl rfl rfl rfl (.int .i64 0) (by unfold execOp; simp only [h343.ev 67 rfl]; exact rfl) fun a346 h345 => ?_
    refine wmk h345 rfl rfl rfl rfl 73 rfl (fun _ => rfl) fun a348 h347 => ?_
    refine wmk h347 rfl rfl rfl rfl 74 rfl (fun _ => rfl) fun a350 h349 => ?_
    have h351 := h349.subs (l' := [(6, _), (5, _), (3, _), (4, _), (0, _)]) rfl
    clear h349
    iterate 5 go_step
    refine wmk h351 rfl rfl rfl rfl 4 rfl (fun _ => rfl) fun a353 h352 => ?_
    refine wv h352 rfl rfl rfl rfl (.pointer (some ⟨Q.pp, 0, none⟩)) (by unfold execOp; simp only [h352.ev 76 rfl]; exact rfl) fun a355 h354 => ?_
    refine wv h354 rfl rfl rfl rfl (.pointer (some ⟨Q.pp, 0, none⟩)) (by unfold execOp; simp only [h354.ev 77 rfl]; exact run_v (faZ_40_0_0 (Q.pp) _)) fun a357 h356 => ?_
    refine wv h356 rfl rfl rfl rfl (.pointer (some ⟨Q.g, 0, none⟩)) (by unfold execOp; simp only [h356.ev 78 rfl]; exact run_v (loadMP (HSQm1.out.t.q.cell (i := 0) (by show 0 < 5; omega)))) fun a359 h358 => ?_
    refine wpk_call h358 (wanted_none rfl) rfl (by decide) (fr rfl) (fun args => callZ_10 args _) rfl #[.pointer (some ⟨Q.g, 0, none⟩), .int .i64 0, .int .i64 1024] (by simp only [List.map_toArray, List.map_cons, List.map_nil, h358.ev 79 rfl]; rfl) (R := fun v' w' => (∃ x1 y1, v' = .tuple #[.slice x1 (M).V.length y1, .int .i64 0] ∧ RowB w' x1 y1 (M).V) ∧ Below wm1.heap.size wm1 w') ((load1024 HSQm1.out.t.l.m hlen).mono fun e w' q => by obtain ⟨x1, y1, q1, q2, q3⟩ := q; exact ⟨_, q1, ⟨x1, y1, rfl, q2⟩, q3⟩) fun a361 vm2 wm2 rm2 h360 => ?_
    obtain ⟨⟨lm2, cm2, rfl, om2⟩, bm2⟩ := rm2; have HSKm2 := hid (HSKm1.out.mono bm2); have HSQm2 := hid (HSQm1.out.mono bm2); have HBm2 := hid (kept_trans HBm1.out bm2); have HRm2 := hid om2
    have HRm1_m2 := hid (HRm1.out.below bm2)
    clear om2 bm2
    refine wmk h360 rfl rfl rfl rfl 80 rfl (fun _ => rfl) fun a363 h362 => ?_
    refine wv h362 rfl rfl rfl rfl (.slice lm2 (M).V.length cm2) (by unfold execOp; simp only [h362.ev 75 rfl]; exact rfl) fun a365 h364 => ?_
    refine wv h364 rfl rfl rfl rfl (.int .i64 0) (by unfold execOp; simp only [h364.ev 75 rfl]; exact rfl) fun a367 h366 => ?_
    refine wmk h366 rfl rfl rfl rfl 81 rfl (fun _ => rfl) fun a369 h368 => ?_
    refine wmk h368 rfl rfl rfl rfl 82 rfl (fun _ => rfl) fun a371 h370 => ?_
    have h372 := h370.subs (l' := [(8, _), (6, _), (5, _), (3, _), (4, _), (0, _)]) rfl
    clear h370
    iterate 5 go_step
    refine wmk h372 rfl rfl rfl rfl 6 rfl (fun _ => rfl) fun a374 h373 => ?_
    refine wmk h373 rfl rfl rfl rfl 8 rfl (fun _ => rfl) fun a376 h375 => ?_
    refine wpk_call h375 (wanted_none rfl) rfl (by decide) (fr rfl) (fun args => callZ_11 args _) rfl #[.slice lm1 (M).V.length cm1, .slice lm2 (M).V.length cm2] (by simp only [List.map_toArray, List.map_cons, List.map_nil, h375.ev 83 rfl, h375.ev 84 rfl]) (R := fun v' w' => v' = .bool true ∧ Below wm2.heap.size wm2 w') ((same9T HRm1_m2.out HRm2.out (by omega)).mono fun e w' q => ⟨_, q.1, rfl, q.2⟩) fun a378 vs ws rs h377 => ?_
    obtain ⟨rfl, bs⟩ := rs; have HSKs := hid (HSKm2.out.mono bs); have HSQs := hid (HSQm2.out.mono bs); have HBs := hid (kept_trans HBm2.out bs); clear bs
    refine wmk h377 rfl rfl rfl rfl 85 rfl (fun _ => rfl) fun a380 h379 => ?_
    have h381 := h379.subs (l' := [(10, _), (8, _), (6, _), (5, _), (3, _), (4, _), (0, _)]) rfl
    clear h379
    iterate 5 go_step
    refine wmk h381 rfl rfl rfl rfl 10 rfl (fun _ => rfl) fun a383 h382 => ?_
    refine wv h382 rfl rfl rfl rfl (.bool false) (run_not rfl (h382.ev 86 rfl)) fun a385 h384 => ?_
    have h386 := h384.subs (l' := [(87, _), (10, _), (8, _), (6, _), (5, _), (3, _), (4, _), (0, _)]) rfl
    clear h384
    iterate 3 go_step
    refine wp_cond (t := false) (h386.ev 87 rfl) ?_
    simp only [Bool.false_eq_true, if_false]
    have h387 := h386.subs (l' := [(10, _), (8, _), (6, _), (5, _), (3, _), (4, _), (0, _)]) rfl
    clear h386
    iterate 4 go_step
    refine wmk h387 rfl rfl rfl rfl 5 rfl (fun _ => rfl) fun a389 h388 => ?_
    refine wv h388 rfl rfl rfl rfl (.int .i64 ((i + 1 : Nat) : Int)) (by unfold execOp; simp only [h388.ev 33 rfl]; exact run_v (addNP _ _ _ _ _ (by omega) (by omega) (by omega) _)) fun a391 h390 => ?_
    have h392 := h390.subs (l' := [(34, _), (33, _), (10, _), (8, _), (6, _), (3, _), (4, _), (0, _)]) rfl
    clear h390
    refine wmk h392 rfl rfl rfl rfl 34 rfl (fun _ => rfl) fun a394 h393 => ?_
    have h395 := h393.subs (l' := [(5, _), (10, _), (8, _), (6, _), (3, _), (4, _), (0, _)]) rfl
    clear h393
    iterate 2 go_step
    refine ⟨⟨i + 1, M, doP x M P, ta2, tc2, ra2, rc2, by omega, by omega, h395.subs rfl, hlen, htx2, HSKs.out, HSQs.out, HBs.out⟩, ?_⟩
    rw [h395.ev 5 rfl, hK.ev 5 rfl]; simp [intOf]; omega
  by_cases hk4 : x.kind = 4
  case pos =>
    iterate 3 go_step
    refine wmk h273 rfl rfl rfl rfl 0 rfl (fun _ => rfl) fun a397 h396 => ?_
    refine wmk h396 rfl rfl rfl rfl 5 rfl (fun _ => rfl) fun a399 h398 => ?_
    refine wv h398 rfl rfl rfl rfl (.pointer (some ⟨pb, po + i * 5, none⟩)) (by unfold execOp; simp only [h398.ev 35 rfl, h398.ev 36 rfl]; exact run_v (by rw [ha0]; exact ixDP pb po _ c i hltL _)) fun a401 h400 => ?_
    refine wv h400 rfl rfl rfl rfl (.pointer (some ⟨pb, po + i * 5, none⟩)) (by unfold execOp; simp only [h400.ev 37 rfl]; exact run_v (faD9 _ _ _)) fun a403 h402 => ?_
    refine wv h402 rfl rfl rfl rfl (.int .i64 x.kind) (by unfold execOp; simp only [h402.ev 38 rfl]; exact run_v (loadIP (hrgW.out 0 _ rfl))) fun a405 h404 => ?_
    refine wv h404 rfl rfl rfl rfl (.bool false) (by unfold execOp; simp only [h404.ev 39 rfl]; exact run_v (eqIP _ _ _ _ _ (beq_eq_false_iff_ne.2 (by omega)))) fun a407 h406 => ?_
    refine wmk h406 rfl rfl rfl rfl 40 rfl (fun _ => rfl) fun a409 h408 => ?_
    refine wpk_val h408 (by rw [wanted_of (g := 6) (want := false) (b := false) rfl (h408.yields (prev := 41) rfl (by simp))]; rfl) rfl (by decide) (fr rfl) (.slice a xs.length c) (by unfold execOp; simp only [h408.ev 0 rfl]; rfl) fun a411 h410 => ?_
    refine wpk_val h410 (by rw [wanted_of (g := 6) (want := false) (b := false) rfl (h410.yields (prev := 41) rfl (by simp))]; rfl) rfl (by decide) (fr rfl) (.int .i64 (i : Int)) (by unfold execOp; simp only [h410.ev 5 rfl]; rfl) fun a413 h412 => ?_
    refine wpk_val h412 (by rw [wanted_of (g := 6) (want := false) (b := false) rfl (h412.yields (prev := 41) rfl (by simp))]; rfl) rfl (by decide) (fr rfl) (.pointer (some ⟨pb, po + i * 5, none⟩)) (by unfold execOp; simp only [h412.ev 42 rfl, h412.ev 43 rfl]; exact run_v (by rw [ha0]; exact ixDP pb po _ c i hltL _)) fun a415 h414 => ?_
    refine wpk_val h414 (by rw [wanted_of (g := 6) (want := false) (b := false) rfl (h414.yields (prev := 41) rfl (by simp))]; rfl) rfl (by decide) (fr rfl) (.pointer (some ⟨pb, po + i * 5, none⟩)) (by unfold execOp; simp only [h414.ev 44 rfl]; exact run_v (faD9 _ _ _)) fun a417 h416 => ?_
    refine wpk_val h416 (by rw [wanted_of (g := 6) (want := false) (b := false) rfl (h416.yields (prev := 41) rfl (by simp))]; rfl) rfl (by decide) (fr rfl) (.int .i64 x.kind) (by unfold execOp; simp only [h416.ev 45 rfl]; exact run_v (loadIP (hrgW.out 0 _ rfl))) fun a419 h418 => ?_
    refine wpk_val h418 (by rw [wanted_of (g := 6) (want := false) (b := false) rfl (h418.yields (prev := 41) rfl (by simp))]; rfl) rfl (by decide) (fr rfl) (.bool true) (by unfold execOp; simp only [h418.ev 46 rfl]; exact run_v (eqIP _ _ _ _ _ (beq_iff_eq.2 (by omega)))) fun a421 h420 => ?_
    refine wv h420 rfl rfl rfl rfl (.bool true) (run_pick rfl (h420.ev 41 rfl) (by rw [if_neg (by simp)]; exact h420.ev 47 rfl)) fun a423 h422 => ?_
    have h424 := h422.subs (l' := [(48, _), (5, _), (3, _), (4, _), (0, _)]) rfl
    clear h422
    iterate 3 go_step
    refine wp_cond (t := true) (h424.ev 48 rfl) ?_
    simp only [if_true]
    have h425 := h424.subs (l' := [(5, _), (3, _), (4, _), (0, _)]) rfl
    clear h424
    go_step
    refine wmk h425 rfl rfl rfl rfl 3 rfl (fun _ => rfl) fun a427 h426 => ?_
    refine wmk h426 rfl rfl rfl rfl 0 rfl (fun _ => rfl) fun a429 h428 => ?_
    refine wmk h428 rfl rfl rfl rfl 5 rfl (fun _ => rfl) fun a431 h430 => ?_
    refine wv h430 rfl rfl rfl rfl (.pointer (some ⟨pb, po + i * 5, none⟩)) (by unfold execOp; simp only [h430.ev 50 rfl, h430.ev 51 rfl]; exact run_v (by rw [ha0]; exact ixDP pb po _ c i hltL _)) fun a433 h432 => ?_
    refine wv h432 rfl rfl rfl rfl (.agg (deedC x).toArray) (by unfold execOp; simp only [h432.ev 52 rfl]; exact run_v (run_loadAt_mid _ _ _ _ (deedC x) _ (fun i u hu => hrgW.out i u hu) Tryz.underlying29 rfl (by rw [infoDeed]; rfl))) fun a435 h434 => ?_
    refine wpk_call h434 (wanted_none rfl) rfl (by decide) (fr rfl) (fun args => callZ_7 args _) rfl #[.pointer (some ⟨K.pp, 0, none⟩), .agg (deedC x).toArray] (by simp only [List.map_toArray, List.map_cons, List.map_nil, h434.ev 49 rfl, h434.ev 53 rfl]) (R := fun v' w' => v' = .bool true ∧ ∃ ta2 tc2 ra2 rc2, SideT w' B K ta2 tc2 ra2 rc2 (doM x M P) (doP x M P) (doM x M P) (doP x M P) ∧ Turns (XT K ta ra) aw w' ∧ Below w.heap.size w w' ∧ (x.kind = 4 → ta2 = ta ∧ tc2 = tc ∧ ra2 = ra ∧ rc2 = rc)) ((does9_any HSa.out HBa.out hA hlen htx x HX.out).mono fun e w' q => ⟨_, q.1, rfl, q.2⟩) fun a437 vp wp rp h436 => ?_
    obtain ⟨rfl, ta2, tc2, ra2, rc2, sp, tp, bp, yp⟩ := rp; have HSp := hid sp; have HBp := hid bp; have HQp := hid (HSq.out.past tp (apartT HSa.out HSq.out.k hKQ)); have hlen2 : (doM x M P).V.length = 1024 := (doM_len HSa.out.t.l.m.1).trans hlen; have htx2 := doP_ok (x := x) HSa.out.t.l.m.1 htx; clear sp tp bp yp
    have hrgW := hid (below_range HBp.out hpb HRG.out)
    have h438 := h436.subs (l' := [(5, _), (3, _), (4, _), (0, _)]) rfl
    clear h436
    iterate 6 go_step
    refine wmk h438 rfl rfl rfl rfl 0 rfl (fun _ => rfl) fun a440 h439 => ?_
    refine wmk h439 rfl rfl rfl rfl 5 rfl (fun _ => rfl) fun a442 h441 => ?_
    refine wv h441 rfl rfl rfl rfl (.pointer (some ⟨pb, po + i * 5, none⟩)) (by unfold execOp; simp only [h441.ev 55 rfl, h441.ev 56 rfl]; exact run_v (by rw [ha0]; exact ixDP pb po _ c i hltL _)) fun a444 h443 => ?_
    refine wv h443 rfl rfl rfl rfl (.pointer (some ⟨pb, po + i * 5, none⟩)) (by unfold execOp; simp only [h443.ev 57 rfl]; exact run_v (faD9 _ _ _)) fun a446 h445 => ?_
    refine wv h445 rfl rfl rfl rfl (.int .i64 x.kind) (by unfold execOp; simp only [h445.ev 58 rfl]; exact run_v (loadIP (hrgW.out 0 _ rfl))) fun a448 h447 => ?_
    refine wv h447 rfl rfl rfl rfl (.bool true) (by unfold execOp; simp only [h447.ev 59 rfl]; exact run_v (eqIP _ _ _ _ _ (beq_iff_eq.2 (by omega)))) fun a450 h449 => ?_
    have h451 := h449.subs (l' := [(60, _), (5, _), (3, _), (4, _), (0, _)]) rfl
    clear h449
    iterate 3 go_step
    refine wp_cond (t := true) (h451.ev 60 rfl) ?_
    simp only [if_true]
    have h452 := h451.subs (l' := [(5, _), (3, _), (4, _), (0, _)]) rfl
    clear h451
    go_step
    refine wmk h452 rfl rfl rfl rfl 4 rfl (fun _ => rfl) fun a454 h453 => ?_
    refine wmk h453 rfl rfl rfl rfl 0 rfl (fun _ => rfl) fun a456 h455 => ?_
    refine wmk h455 rfl rfl rfl rfl 5 rfl (fun _ => rfl) fun a458 h457 => ?_
    refine wv h457 rfl rfl rfl rfl (.pointer (some ⟨pb, po + i * 5, none⟩)) (by unfold execOp; simp only [h457.ev 62 rfl, h457.ev 63 rfl]; exact run_v (by rw [ha0]; exact ixDP pb po _ c i hltL _)) fun a460 h459 => ?_
    refine wv h459 rfl rfl rfl rfl (.agg (deedC x).toArray) (by unfold execOp; simp only [h459.ev 64 rfl]; exact run_v (run_loadAt_mid _ _ _ _ (deedC x) _ (fun i u hu => hrgW.out i u hu) Tryz.underlying29 rfl (by rw [infoDeed]; rfl))) fun a462 h461 => ?_
    refine wpk_call h461 (wanted_none rfl) rfl (by decide) (fr rfl) (fun args => callZ_7 args _) rfl #[.pointer (some ⟨Q.pp, 0, none⟩), .agg (deedC x).toArray] (by simp only [List.map_toArray, List.map_cons, List.map_nil, h461.ev 61 rfl, h461.ev 65 rfl]) (R := fun v' w' => v' = .bool true ∧ ∃ ta2 tc2 ra2 rc2, SideT w' B Q ta2 tc2 ra2 rc2 (doM x M []) (doP x M []) (doM x M []) (doP x M []) ∧ Turns (XT Q none none) wp w' ∧ Below w.heap.size w w' ∧ (x.kind = 4 → ta2 = none ∧ tc2 = 0 ∧ ra2 = none ∧ rc2 = 0)) ((does9_any HQp.out HBp.out hAQ hlen (TxOk.nil _) x HX.out).mono fun e w' q => ⟨_, q.1, rfl, q.2⟩) fun a464 vq wq rq h463 => ?_
    obtain ⟨rfl, qa2, qc2, qr2, qd2, sq, tq, bq, yq⟩ := rq; obtain ⟨rfl, rfl, rfl, rfl⟩ := yq hk4; have hdm : doM x M [] = doM x M P := (by unfold doM; simp [hk4]); have hdp : doP x M [] = [] := (by unfold doP; simp [hk4]); rw [hdm, hdp] at sq; have HSq2 := hid sq; have HBq := hid bq; have HSp2 := hid (HSp.out.past tq (apartQ HSq.out.k hKQ HSp.out)); clear sq tq bq yq
    have hrgW := hid (below_range HBq.out hpb HRG.out)
    have h465 := h463.subs (l' := [(5, _), (3, _), (4, _), (0, _)]) rfl
    clear h463
    iterate 5 go_step
    refine wmk h465 rfl rfl rfl rfl 3 rfl (fun _ => rfl) fun a467 h466 => ?_
    refine wv h466 rfl rfl rfl rfl (.pointer (some ⟨K.pp, 0, none⟩)) (by unfold execOp; simp only [h466.ev 68 rfl]; exact rfl) fun a469 h468 => ?_
    refine wv h468 rfl rfl rfl rfl (.pointer (some ⟨K.pp, 0, none⟩)) (by unfold execOp; simp only [h468.ev 69 rfl]; exact run_v (faZ_40_0_0 (K.pp) _)) fun a471 h470 => ?_
    refine wv h470 rfl rfl rfl rfl (.pointer (some ⟨K.g, 0, none⟩)) (by unfold execOp; simp only [h470.ev 70 rfl]; exact run_v (loadMP (HSp2.out.t.q.cell (i := 0) (by show 0 < 5; omega)))) fun a473 h472 => ?_
    refine wpk_call h472 (wanted_none rfl) rfl (by decide) (fr rfl) (fun args => callZ_10 args _) rfl #[.pointer (some ⟨K.g, 0, none⟩), .int .i64 0, .int .i64 1024] (by simp only [List.map_toArray, List.map_cons, List.map_nil, h472.ev 71 rfl]; rfl) (R := fun v' w' => (∃ x1 y1, v' = .tuple #[.slice x1 ((doM x M P)).V.length y1, .int .i64 0] ∧ RowB w' x1 y1 ((doM x M P)).V) ∧ Below wq.heap.size wq w') ((load1024 HSp2.out.t.l.m hlen2).mono fun e w' q => by obtain ⟨x1, y1, q1, q2, q3⟩ := q; exact ⟨_, q1, ⟨x1, y1, rfl, q2⟩, q3⟩) fun a475 vm1 wm1 rm1 h474 => ?_
    obtain ⟨⟨lm1, cm1, rfl, om1⟩, bm1⟩ := rm1; have HSKm1 := hid (HSp2.out.mono bm1); have HSQm1 := hid (HSq2.out.mono bm1); have HBm1 := hid (kept_trans HBq.out bm1); have HRm1 := hid om1
    clear om1 bm1
    refine wmk h474 rfl rfl rfl rfl 72 rfl (fun _ => rfl) fun a477 h476 => ?_
    refine wv h476 rfl rfl rfl rfl (.slice lm1 ((doM x M P)).V.length cm1) (by unfold execOp; simp only [h476.ev 67 rfl]; exact rfl) fun a479 h478 => ?_
    refine wv h478 rfl rfl rfl rfl (.int .i64 0) (by unfold execOp; simp only [h478.ev 67 rfl]; exact rfl) fun a481 h480 => ?_
    refine wmk h480 rfl rfl rfl rfl 73 rfl (fun _ => rfl) fun a483 h482 => ?_
    refine wmk h482 rfl rfl rfl rfl 74 rfl (fun _ => rfl) fun a485 h484 => ?_
    have h486 := h484.subs (l' := [(6, _), (5, _), (3, _), (4, _), (0, _)]) rfl
    clear h484
    iterate 5 go_step
    refine wmk h486 rfl rfl rfl rfl 4 rfl (fun _ => rfl) fun a488 h487 => ?_
    refine wv h487 rfl rfl rfl rfl (.pointer (some ⟨Q.pp, 0, none⟩)) (by unfold execOp; simp only [h487.ev 76 rfl]; exact rfl) fun a490 h489 => ?_
    refine wv h489 rfl rfl rfl rfl (.pointer (some ⟨Q.pp, 0, none⟩)) (by unfold execOp; simp only [h489.ev 77 rfl]; exact run_v (faZ_40_0_0 (Q.pp) _)) fun a492 h491 => ?_
    refine wv h491 rfl rfl rfl rfl (.pointer (some ⟨Q.g, 0, none⟩)) (by unfold execOp; simp only [h491.ev 78 rfl]; exact run_v (loadMP (HSQm1.out.t.q.cell (i := 0) (by show 0 < 5; omega)))) fun a494 h493 => ?_
    refine wpk_call h493 (wanted_none rfl) rfl (by decide) (fr rfl) (fun args => callZ_10 args _) rfl #[.pointer (some ⟨Q.g, 0, none⟩), .int .i64 0, .int .i64 1024] (by simp only [List.map_toArray, List.map_cons, List.map_nil, h493.ev 79 rfl]; rfl) (R := fun v' w' => (∃ x1 y1, v' = .tuple #[.slice x1 ((doM x M P)).V.length y1, .int .i64 0] ∧ RowB w' x1 y1 ((doM x M P)).V) ∧ Below wm1.heap.size wm1 w') ((load1024 HSQm1.out.t.l.m hlen2).mono fun e w' q => by obtain ⟨x1, y1, q1, q2, q3⟩ := q; exact ⟨_, q1, ⟨x1, y1, rfl, q2⟩, q3⟩) fun a496 vm2 wm2 rm2 h495 => ?_
    obtain ⟨⟨lm2, cm2, rfl, om2⟩, bm2⟩ := rm2; have HSKm2 := hid (HSKm1.out.mono bm2); have HSQm2 := hid (HSQm1.out.mono bm2); have HBm2 := hid (kept_trans HBm1.out bm2); have HRm2 := hid om2
    have HRm1_m2 := hid (HRm1.out.below bm2)
    clear om2 bm2
    refine wmk h495 rfl rfl rfl rfl 80 rfl (fun _ => rfl) fun a498 h497 => ?_
    refine wv h497 rfl rfl rfl rfl (.slice lm2 ((doM x M P)).V.length cm2) (by unfold execOp; simp only [h497.ev 75 rfl]; exact rfl) fun a500 h499 => ?_
    refine wv h499 rfl rfl rfl rfl (.int .i64 0) (by unfold execOp; simp only [h499.ev 75 rfl]; exact rfl) fun a502 h501 => ?_
    refine wmk h501 rfl rfl rfl rfl 81 rfl (fun _ => rfl) fun a504 h503 => ?_
    refine wmk h503 rfl rfl rfl rfl 82 rfl (fun _ => rfl) fun a506 h505 => ?_
    have h507 := h505.subs (l' := [(8, _), (6, _), (5, _), (3, _), (4, _), (0, _)]) rfl
    clear h505
    iterate 5 go_step
    refine wmk h507 rfl rfl rfl rfl 6 rfl (fun _ => rfl) fun a509 h508 => ?_
    refine wmk h508 rfl rfl rfl rfl 8 rfl (fun _ => rfl) fun a511 h510 => ?_
    refine wpk_call h510 (wanted_none rfl) rfl (by decide) (fr rfl) (fun args => callZ_11 args _) rfl #[.slice lm1 ((doM x M P)).V.length cm1, .slice lm2 ((doM x M P)).V.length cm2] (by simp only [List.map_toArray, List.map_cons, List.map_nil, h510.ev 83 rfl, h510.ev 84 rfl]) (R := fun v' w' => v' = .bool true ∧ Below wm2.heap.size wm2 w') ((same9T HRm1_m2.out HRm2.out (by omega)).mono fun e w' q => ⟨_, q.1, rfl, q.2⟩) fun a513 vs ws rs h512 => ?_
    obtain ⟨rfl, bs⟩ := rs; have HSKs := hid (HSKm2.out.mono bs); have HSQs := hid (HSQm2.out.mono bs); have HBs := hid (kept_trans HBm2.out bs); clear bs
    refine wmk h512 rfl rfl rfl rfl 85 rfl (fun _ => rfl) fun a515 h514 => ?_
    have h516 := h514.subs (l' := [(10, _), (8, _), (6, _), (5, _), (3, _), (4, _), (0, _)]) rfl
    clear h514
    iterate 5 go_step
    refine wmk h516 rfl rfl rfl rfl 10 rfl (fun _ => rfl) fun a518 h517 => ?_
    refine wv h517 rfl rfl rfl rfl (.bool false) (run_not rfl (h517.ev 86 rfl)) fun a520 h519 => ?_
    have h521 := h519.subs (l' := [(87, _), (10, _), (8, _), (6, _), (5, _), (3, _), (4, _), (0, _)]) rfl
    clear h519
    iterate 3 go_step
    refine wp_cond (t := false) (h521.ev 87 rfl) ?_
    simp only [Bool.false_eq_true, if_false]
    have h522 := h521.subs (l' := [(10, _), (8, _), (6, _), (5, _), (3, _), (4, _), (0, _)]) rfl
    clear h521
    iterate 4 go_step
    refine wmk h522 rfl rfl rfl rfl 5 rfl (fun _ => rfl) fun a524 h523 => ?_
    refine wv h523 rfl rfl rfl rfl (.int .i64 ((i + 1 : Nat) : Int)) (by unfold execOp; simp only [h523.ev 33 rfl]; exact run_v (addNP _ _ _ _ _ (by omega) (by omega) (by omega) _)) fun a526 h525 => ?_
    have h527 := h525.subs (l' := [(34, _), (33, _), (10, _), (8, _), (6, _), (3, _), (4, _), (0, _)]) rfl
    clear h525
    refine wmk h527 rfl rfl rfl rfl 34 rfl (fun _ => rfl) fun a529 h528 => ?_
    have h530 := h528.subs (l' := [(5, _), (10, _), (8, _), (6, _), (3, _), (4, _), (0, _)]) rfl
    clear h528
    iterate 2 go_step
    refine ⟨⟨i + 1, doM x M P, doP x M P, ta2, tc2, ra2, rc2, by omega, by omega, h530.subs rfl, hlen2, htx2, HSKs.out, HSQs.out, HBs.out⟩, ?_⟩
    rw [h530.ev 5 rfl, hK.ev 5 rfl]; simp [intOf]; omega
  iterate 3 go_step
  refine wmk h273 rfl rfl rfl rfl 0 rfl (fun _ => rfl) fun a532 h531 => ?_
  refine wmk h531 rfl rfl rfl rfl 5 rfl (fun _ => rfl) fun a534 h533 => ?_
  refine wv h533 rfl rfl rfl rfl (.pointer (some ⟨pb, po + i * 5, none⟩)) (by unfold execOp; simp only [h533.ev 35 rfl, h533.ev 36 rfl]; exact run_v (by rw [ha0]; exact ixDP pb po _ c i hltL _)) fun a536 h535 => ?_
  refine wv h535 rfl rfl rfl rfl (.pointer (some ⟨pb, po + i * 5, none⟩)) (by unfold execOp; simp only [h535.ev 37 rfl]; exact run_v (faD9 _ _ _)) fun a538 h537 => ?_
  refine wv h537 rfl rfl rfl rfl (.int .i64 x.kind) (by unfold execOp; simp only [h537.ev 38 rfl]; exact run_v (loadIP (hrgW.out 0 _ rfl))) fun a540 h539 => ?_
  refine wv h539 rfl rfl rfl rfl (.bool false) (by unfold execOp; simp only [h539.ev 39 rfl]; exact run_v (eqIP _ _ _ _ _ (beq_eq_false_iff_ne.2 (by omega)))) fun a542 h541 => ?_
  refine wmk h541 rfl rfl rfl rfl 40 rfl (fun _ => rfl) fun a544 h543 => ?_
  refine wpk_val h543 (by rw [wanted_of (g := 6) (want := false) (b := false) rfl (h543.yields (prev := 41) rfl (by simp))]; rfl) rfl (by decide) (fr rfl) (.slice a xs.length c) (by unfold execOp; simp only [h543.ev 0 rfl]; rfl) fun a546 h545 => ?_
  refine wpk_val h545 (by rw [wanted_of (g := 6) (want := false) (b := false) rfl (h545.yields (prev := 41) rfl (by simp))]; rfl) rfl (by decide) (fr rfl) (.int .i64 (i : Int)) (by unfold execOp; simp only [h545.ev 5 rfl]; rfl) fun a548 h547 => ?_
  refine wpk_val h547 (by rw [wanted_of (g := 6) (want := false) (b := false) rfl (h547.yields (prev := 41) rfl (by simp))]; rfl) rfl (by decide) (fr rfl) (.pointer (some ⟨pb, po + i * 5, none⟩)) (by unfold execOp; simp only [h547.ev 42 rfl, h547.ev 43 rfl]; exact run_v (by rw [ha0]; exact ixDP pb po _ c i hltL _)) fun a550 h549 => ?_
  refine wpk_val h549 (by rw [wanted_of (g := 6) (want := false) (b := false) rfl (h549.yields (prev := 41) rfl (by simp))]; rfl) rfl (by decide) (fr rfl) (.pointer (some ⟨pb, po + i * 5, none⟩)) (by unfold execOp; simp only [h549.ev 44 rfl]; exact run_v (faD9 _ _ _)) fun a552 h551 => ?_
  refine wpk_val h551 (by rw [wanted_of (g := 6) (want := false) (b := false) rfl (h551.yields (prev := 41) rfl (by simp))]; rfl) rfl (by decide) (fr rfl) (.int .i64 x.kind) (by unfold execOp; simp only [h551.ev 45 rfl]; exact run_v (loadIP (hrgW.out 0 _ rfl))) fun a554 h553 => ?_
  refine wpk_val h553 (by rw [wanted_of (g := 6) (want := false) (b := false) rfl (h553.yields (prev := 41) rfl (by simp))]; rfl) rfl (by decide) (fr rfl) (.bool false) (by unfold execOp; simp only [h553.ev 46 rfl]; exact run_v (eqIP _ _ _ _ _ (beq_eq_false_iff_ne.2 (by omega)))) fun a556 h555 => ?_
  refine wv h555 rfl rfl rfl rfl (.bool false) (run_pick rfl (h555.ev 41 rfl) (by rw [if_neg (by simp)]; exact h555.ev 47 rfl)) fun a558 h557 => ?_
  have h559 := h557.subs (l' := [(48, _), (5, _), (3, _), (4, _), (0, _)]) rfl
  clear h557
  iterate 3 go_step
  refine wp_cond (t := false) (h559.ev 48 rfl) ?_
  simp only [Bool.false_eq_true, if_false]
  have h560 := h559.subs (l' := [(5, _), (3, _), (4, _), (0, _)]) rfl
  clear h559
  iterate 6 go_step
  refine wmk h560 rfl rfl rfl rfl 0 rfl (fun _ => rfl) fun a562 h561 => ?_
  refine wmk h561 rfl rfl rfl rfl 5 rfl (fun _ => rfl) fun a564 h563 => ?_
  refine wv h563 rfl rfl rfl rfl (.pointer (some ⟨pb, po + i * 5, none⟩)) (by unfold execOp; simp only [h563.ev 55 rfl, h563.ev 56 rfl]; exact run_v (by rw [ha0]; exact ixDP pb po _ c i hltL _)) fun a566 h565 => ?_
  refine wv h565 rfl rfl rfl rfl (.pointer (some ⟨pb, po + i * 5, none⟩)) (by unfold execOp; simp only [h565.ev 57 rfl]; exact run_v (faD9 _ _ _)) fun a568 h567 => ?_
  refine wv h567 rfl rfl rfl rfl (.int .i64 x.kind) (by unfold execOp; simp only [h567.ev 58 rfl]; exact run_v (loadIP (hrgW.out 0 _ rfl))) fun a570 h569 => ?_
  refine wv h569 rfl rfl rfl rfl (.bool false) (by unfold execOp; simp only [h569.ev 59 rfl]; exact run_v (eqIP _ _ _ _ _ (beq_eq_false_iff_ne.2 (by omega)))) fun a572 h571 => ?_
  have h573 := h571.subs (l' := [(60, _), (5, _), (3, _), (4, _), (0, _)]) rfl
  clear h571
  iterate 3 go_step
  refine wp_cond (t := false) (h573.ev 60 rfl) ?_
  simp only [Bool.false_eq_true, if_false]
  have h574 := h573.subs (l' := [(5, _), (3, _), (4, _), (0, _)]) rfl
  clear h573
  iterate 5 go_step
  refine wmk h574 rfl rfl rfl rfl 3 rfl (fun _ => rfl) fun a576 h575 => ?_
  refine wv h575 rfl rfl rfl rfl (.pointer (some ⟨K.pp, 0, none⟩)) (by unfold execOp; simp only [h575.ev 68 rfl]; exact rfl) fun a578 h577 => ?_
  refine wv h577 rfl rfl rfl rfl (.pointer (some ⟨K.pp, 0, none⟩)) (by unfold execOp; simp only [h577.ev 69 rfl]; exact run_v (faZ_40_0_0 (K.pp) _)) fun a580 h579 => ?_
  refine wv h579 rfl rfl rfl rfl (.pointer (some ⟨K.g, 0, none⟩)) (by unfold execOp; simp only [h579.ev 70 rfl]; exact run_v (loadMP (HSa.out.t.q.cell (i := 0) (by show 0 < 5; omega)))) fun a582 h581 => ?_
  refine wpk_call h581 (wanted_none rfl) rfl (by decide) (fr rfl) (fun args => callZ_10 args _) rfl #[.pointer (some ⟨K.g, 0, none⟩), .int .i64 0, .int .i64 1024] (by simp only [List.map_toArray, List.map_cons, List.map_nil, h581.ev 71 rfl]; rfl) (R := fun v' w' => (∃ x1 y1, v' = .tuple #[.slice x1 (M).V.length y1, .int .i64 0] ∧ RowB w' x1 y1 (M).V) ∧ Below aw.heap.size aw w') ((load1024 HSa.out.t.l.m hlen).mono fun e w' q => by obtain ⟨x1, y1, q1, q2, q3⟩ := q; exact ⟨_, q1, ⟨x1, y1, rfl, q2⟩, q3⟩) fun a584 vm1 wm1 rm1 h583 => ?_
  obtain ⟨⟨lm1, cm1, rfl, om1⟩, bm1⟩ := rm1; have HSKm1 := hid (HSa.out.mono bm1); have HSQm1 := hid (HSq.out.mono bm1); have HBm1 := hid (kept_trans HBa.out bm1); have HRm1 := hid om1
  clear om1 bm1
  refine wmk h583 rfl rfl rfl rfl 72 rfl (fun _ => rfl) fun a586 h585 => ?_
  refine wv h585 rfl rfl rfl rfl (.slice lm1 (M).V.length cm1) (by unfold execOp; simp only [h585.ev 67 rfl]; exact rfl) fun a588 h587 => ?_
  refine wv h587 rfl rfl rfl rfl (.int .i64 0) (by unfold execOp; simp only [h587.ev 67 rfl]; exact rfl) fun a590 h589 => ?_
  refine wmk h589 rfl rfl rfl rfl 73 rfl (fun _ => rfl) fun a592 h591 => ?_
  refine wmk h591 rfl rfl rfl rfl 74 rfl (fun _ => rfl) fun a594 h593 => ?_
  have h595 := h593.subs (l' := [(6, _), (5, _), (3, _), (4, _), (0, _)]) rfl
  clear h593
  iterate 5 go_step
  refine wmk h595 rfl rfl rfl rfl 4 rfl (fun _ => rfl) fun a597 h596 => ?_
  refine wv h596 rfl rfl rfl rfl (.pointer (some ⟨Q.pp, 0, none⟩)) (by unfold execOp; simp only [h596.ev 76 rfl]; exact rfl) fun a599 h598 => ?_
  refine wv h598 rfl rfl rfl rfl (.pointer (some ⟨Q.pp, 0, none⟩)) (by unfold execOp; simp only [h598.ev 77 rfl]; exact run_v (faZ_40_0_0 (Q.pp) _)) fun a601 h600 => ?_
  refine wv h600 rfl rfl rfl rfl (.pointer (some ⟨Q.g, 0, none⟩)) (by unfold execOp; simp only [h600.ev 78 rfl]; exact run_v (loadMP (HSQm1.out.t.q.cell (i := 0) (by show 0 < 5; omega)))) fun a603 h602 => ?_
  refine wpk_call h602 (wanted_none rfl) rfl (by decide) (fr rfl) (fun args => callZ_10 args _) rfl #[.pointer (some ⟨Q.g, 0, none⟩), .int .i64 0, .int .i64 1024] (by simp only [List.map_toArray, List.map_cons, List.map_nil, h602.ev 79 rfl]; rfl) (R := fun v' w' => (∃ x1 y1, v' = .tuple #[.slice x1 (M).V.length y1, .int .i64 0] ∧ RowB w' x1 y1 (M).V) ∧ Below wm1.heap.size wm1 w') ((load1024 HSQm1.out.t.l.m hlen).mono fun e w' q => by obtain ⟨x1, y1, q1, q2, q3⟩ := q; exact ⟨_, q1, ⟨x1, y1, rfl, q2⟩, q3⟩) fun a605 vm2 wm2 rm2 h604 => ?_
  obtain ⟨⟨lm2, cm2, rfl, om2⟩, bm2⟩ := rm2; have HSKm2 := hid (HSKm1.out.mono bm2); have HSQm2 := hid (HSQm1.out.mono bm2); have HBm2 := hid (kept_trans HBm1.out bm2); have HRm2 := hid om2
  have HRm1_m2 := hid (HRm1.out.below bm2)
  clear om2 bm2
  refine wmk h604 rfl rfl rfl rfl 80 rfl (fun _ => rfl) fun a607 h606 => ?_
  refine wv h606 rfl rfl rfl rfl (.slice lm2 (M).V.length cm2) (by unfold execOp; simp only [h606.ev 75 rfl]; exact rfl) fun a609 h608 => ?_
  refine wv h608 rfl rfl rfl rfl (.int .i64 0) (by unfold execOp; simp only [h608.ev 75 rfl]; exact rfl) fun a611 h610 => ?_
  refine wmk h610 rfl rfl rfl rfl 81 rfl (fun _ => rfl) fun a613 h612 => ?_
  refine wmk h612 rfl rfl rfl rfl 82 rfl (fun _ => rfl) fun a615 h614 => ?_
  have h616 := h614.subs (l' := [(8, _), (6, _), (5, _), (3, _), (4, _), (0, _)]) rfl
  clear h614
  iterate 5 go_step
  refine wmk h616 rfl rfl rfl rfl 6 rfl (fun _ => rfl) fun a618 h617 => ?_
  refine wmk h617 rfl rfl rfl rfl 8 rfl (fun _ => rfl) fun a620 h619 => ?_
  refine wpk_call h619 (wanted_none rfl) rfl (by decide) (fr rfl) (fun args => callZ_11 args _) rfl #[.slice lm1 (M).V.length cm1, .slice lm2 (M).V.length cm2] (by simp only [List.map_toArray, List.map_cons, List.map_nil, h619.ev 83 rfl, h619.ev 84 rfl]) (R := fun v' w' => v' = .bool true ∧ Below wm2.heap.size wm2 w') ((same9T HRm1_m2.out HRm2.out (by omega)).mono fun e w' q => ⟨_, q.1, rfl, q.2⟩) fun a622 vs ws rs h621 => ?_
  obtain ⟨rfl, bs⟩ := rs; have HSKs := hid (HSKm2.out.mono bs); have HSQs := hid (HSQm2.out.mono bs); have HBs := hid (kept_trans HBm2.out bs); clear bs
  refine wmk h621 rfl rfl rfl rfl 85 rfl (fun _ => rfl) fun a624 h623 => ?_
  have h625 := h623.subs (l' := [(10, _), (8, _), (6, _), (5, _), (3, _), (4, _), (0, _)]) rfl
  clear h623
  iterate 5 go_step
  refine wmk h625 rfl rfl rfl rfl 10 rfl (fun _ => rfl) fun a627 h626 => ?_
  refine wv h626 rfl rfl rfl rfl (.bool false) (run_not rfl (h626.ev 86 rfl)) fun a629 h628 => ?_
  have h630 := h628.subs (l' := [(87, _), (10, _), (8, _), (6, _), (5, _), (3, _), (4, _), (0, _)]) rfl
  clear h628
  iterate 3 go_step
  refine wp_cond (t := false) (h630.ev 87 rfl) ?_
  simp only [Bool.false_eq_true, if_false]
  have h631 := h630.subs (l' := [(10, _), (8, _), (6, _), (5, _), (3, _), (4, _), (0, _)]) rfl
  clear h630
  iterate 4 go_step
  refine wmk h631 rfl rfl rfl rfl 5 rfl (fun _ => rfl) fun a633 h632 => ?_
  refine wv h632 rfl rfl rfl rfl (.int .i64 ((i + 1 : Nat) : Int)) (by unfold execOp; simp only [h632.ev 33 rfl]; exact run_v (addNP _ _ _ _ _ (by omega) (by omega) (by omega) _)) fun a635 h634 => ?_
  have h636 := h634.subs (l' := [(34, _), (33, _), (10, _), (8, _), (6, _), (3, _), (4, _), (0, _)]) rfl
  clear h634
  refine wmk h636 rfl rfl rfl rfl 34 rfl (fun _ => rfl) fun a638 h637 => ?_
  have h639 := h637.subs (l' := [(5, _), (10, _), (8, _), (6, _), (3, _), (4, _), (0, _)]) rfl
  clear h637
  iterate 2 go_step
  refine ⟨⟨i + 1, M, P, ta, tc, ra, rc, by omega, by omega, h639.subs rfl, hlen, htx, HSKs.out, HSQs.out, HBs.out⟩, ?_⟩
  rw [h639.ev 5 rfl, hK.ev 5 rfl]; simp [intOf]; omega
end Go.Proofs.YtcackliabemecaaGreatDoor
