import Derived.Test.YtpalgffmdinfpaaPk1
section
namespace Go.Proofs.Ytpalgffmdinfpaa
open Go.RowKit
set_option linter.unusedSimpArgs false
set_option linter.unusedVariables false
set_option maxRecDepth 100000
theorem callP_29 (args : Array Value) (w : World) : (callFunc 29 args).run Try.prog w = .ok (.enter 29 args) w := by
  have h := Try.func29
  go_simp
theorem fa_60_0_1 (g : Nat) (w : World) : (Instr.fieldAt 60 (.pointer (some ⟨g, 0, none⟩)) 1).run Try.prog w = .ok (.pointer (some ⟨g, 1, none⟩)) w := rfl
theorem fa_62_0_0 (g : Nat) (w : World) : (Instr.fieldAt 62 (.pointer (some ⟨g, 0, none⟩)) 0).run Try.prog w = .ok (.pointer (some ⟨g, 0, none⟩)) w := rfl

set_option maxHeartbeats 4000000 in
theorem against_t {w : World} {tg gm wm n m : Nat} {g : GrF} {wt : WtF} (h : TabP w tg gm wm n m g wt) (hgok : GrOk g) (c i : Int) (hwi : (Lit.int .i64 i).wf = true) :
    Calls Try.prog 31 #[.pointer (some ⟨tg, 0, none⟩), .int .i64 c, .int .i64 i, .bool true] w fun e w' => ∃ la lc, e = .returned (.slice la (agL g c i true).length lc) ∧ OwnI w' w.heap.size la lc (agL g c i true) ∧ TabP w' tg gm wm n m g wt ∧ Below w.heap.size w w' := by
  have HT := hid h; clear h
  go_enter Try.func31, Try.ntmps31
  iterate 3 go_step
  refine wpk_enter (N := 47) (l := [(0, .pointer (some ⟨tg, 0, none⟩)), (1, .int .i64 c), (2, .int .i64 i), (3, .bool true)]) ⟨rfl, (by intro x hx; simp only [List.mem_cons, List.not_mem_nil, or_false] at hx; rcases hx with rfl | rfl | rfl | rfl <;> rfl), rfl⟩ fun a2 h1 => ?_
  refine wv h1 rfl rfl rfl rfl (.slice none 0 0) rfl fun a4 h3 => ?_
  iterate 5 go_step
  refine wv h3 rfl rfl rfl rfl (.slice none 0 0) rfl fun a6 h5 => ?_
  iterate 6 go_step
  refine wmk h5 rfl rfl rfl rfl 0 rfl (fun _ => rfl) fun a8 h7 => ?_
  refine wv h7 rfl rfl rfl rfl (.pointer (some ⟨tg, 0, none⟩)) (by unfold execOp; simp only [h7.ev 12 rfl]; exact rfl) fun a10 h9 => ?_
  refine wv h9 rfl rfl rfl rfl (.pointer (some ⟨tg, 0, none⟩)) (by unfold execOp; simp only [h9.ev 13 rfl]; exact run_v (fa_54_0_0 (tg) _)) fun a12 h11 => ?_
  refine wv h11 rfl rfl rfl rfl (.map (some gm)) (by unfold execOp; simp only [h11.ev 14 rfl]; exact run_v (loadGM (HT.out.t.cell (i := 0) (by show 0 < 2; omega)))) fun a14 h13 => ?_
  obtain ⟨wA, hrA, ⟨cntA, RA⟩, bA⟩ := HT.out.g.range
  obtain ⟨rA, hr_A⟩ : ∃ y, y = w.heap.size := ⟨_, rfl⟩
  rw [← hr_A] at hrA RA
  refine wv h13 rfl rfl rfl rfl (.pointer (some ⟨rA, 0, none⟩)) (by unfold execOp; simp only [h13.ev 15 rfl]; exact run_v hrA) fun a16 h15 => ?_
  have HRA := hid RA; have HTA := hid (HT.out.mono bA); have hlt := HT.out.lt; have HBA := hid bA; have hrw : w.heap.size ≤ rA := (by rw [hr_A]; exact Nat.le_refl _); have hrB := RA.lt; obtain ⟨B1, hB1⟩ : ∃ y, y = wA.heap.size := ⟨_, rfl⟩; have hrB1 : rA < B1 := (by rw [hB1]; exact hrB); clear RA bA hrB
  have h17 := h15.subs (l' := [(16, _), (9, _), (8, _), (0, _), (1, _), (2, _), (3, _)]) rfl
  clear h15
  iterate 4 go_step
  have h18 := h17.subs (l' := [(9, _), (16, _), (1, _), (2, _), (3, _), (0, _)]) rfl
  clear h17
  refine wp_loop (I := fun a' w' => ∃ (left : Int × Int → Bool) (cnt : Nat) (L : List Int) (la : Option Addr) (lc : Nat), Kn 47 [(9, .slice la L.length lc), (16, .pointer (some ⟨rA, 0, none⟩)), (1, .int .i64 c), (2, .int .i64 i), (3, .bool true), (0, .pointer (some ⟨tg, 0, none⟩))] a' ∧ RanG KG w' gm rA n g left cnt ∧ GathA g c i true left L ∧ TabP w' tg gm wm n m g wt ∧ OwnI w' B1 la lc L ∧ B1 ≤ w'.heap.size ∧ Below w.heap.size w w') (μ := fun _ w' => w'.rangeLeft gm rA) ⟨_, cntA, [], none, 0, h18, HRA.out, GathA.start g c i true _ (fun k _ => rfl), HTA.out, Own.nil _ _ _ _, by rw [hB1]; exact Nat.le_refl _, HBA.out⟩ ?_
  clear HRA HTA HBA h18
  rintro aL aw ⟨left, cnt, L, la, lc, hK, hr, hga, ht, ho, hB, hbl⟩; have HR := hid hr; have HGA := hid hga; have HTW := hid ht; have HO := hid ho; have HBW := hid hbl; clear hr hga ht ho hbl
  have hrn := HR.out.ne; have hll := HR.out.left_eq; have hL8 := HGA.out.len hgok
  rcases HR.out.next 0 with ⟨hl, hrun⟩ | ⟨⟨c1, i1⟩, ⟨o, u⟩, w2, cnt2, hok, hlf, hgp, hrun, hr2, hcl, t2, hen⟩
  case inr =>
    have hlw := HTW.out.lt; have HR2 := hid hr2; have HT2 := hid (HTW.out.turns t2 (by omega) (by omega) (by omega)); have HO2 := hid (own_turnsL HO.out t2 (fun k e => .inl (by omega))); have HB2 := hid (HBW.out.trans (t2.below HBW.out.size (fun k e => by omega))); have hs2 := t2.size; clear hr2 t2
    iterate 3 go_step
    refine wv hK rfl rfl rfl rfl (.tuple #[.bool true, .agg (kC c1 i1).toArray, .agg (gC o u).toArray]) (by unfold execOp; simp only [hK.ev 16 rfl]; exact run_v hrun) fun a20 h19 => ?_
    refine wv h19 rfl rfl rfl rfl (.bool true) (by unfold execOp; simp only [h19.ev 17 rfl]; exact rfl) fun a22 h21 => ?_
    have h23 := h21.subs (l' := [(18, _), (9, _), (16, _), (1, _), (2, _), (3, _), (0, _)]) rfl
    clear h21
    iterate 4 go_step
    refine wp_cond (t := true) (h23.ev 18 rfl) ?_
    simp only [if_true]
    have h24 := h23.subs (l' := [(9, _), (16, _), (1, _), (2, _), (3, _), (0, _)]) rfl
    clear h23
    iterate 6 go_step
    refine wv h24 rfl rfl rfl rfl (.tuple #[.agg (kC c1 i1).toArray, .agg (gC o u).toArray]) (by unfold execOp; simp only [h24.ev 16 rfl]; exact run_v hen) fun a26 h25 => ?_
    refine wv h25 rfl rfl rfl rfl (.agg (kC c1 i1).toArray) (by unfold execOp; simp only [h25.ev 19 rfl]; exact rfl) fun a28 h27 => ?_
    refine wv h27 rfl rfl rfl rfl (.agg (gC o u).toArray) (by unfold execOp; simp only [h27.ev 19 rfl]; exact rfl) fun a30 h29 => ?_
    refine wv h29 rfl rfl rfl rfl (.pointer (some ⟨w2.heap.size, 0, none⟩)) (run_allocKL rfl _ w2) fun a32 h31 => ?_
    obtain ⟨w3, hw3⟩ : ∃ y, y = w2.alloc (.cells (kC 0 0).toArray 60) := ⟨_, rfl⟩
    obtain ⟨kb, hkb⟩ : ∃ y, y = w2.heap.size := ⟨_, rfl⟩
    have Kkb : Blk w3 kb 60 (kC 0 0) := by rw [hw3, hkb]; exact blk_newO rfl _ _
    have bw3 : Below w2.heap.size w2 w3 := by rw [hw3]; exact albO _ _
    rw [← hkb] at h31; rw [← hw3]; clear hw3
    refine wv h31 rfl rfl rfl rfl (.pointer (some ⟨w3.heap.size, 0, none⟩)) (run_allocGL rfl _ w3) fun a34 h33 => ?_
    obtain ⟨w4, hw4⟩ : ∃ y, y = w3.alloc (.cells (gC false 0).toArray 62) := ⟨_, rfl⟩
    obtain ⟨gb, hgb⟩ : ∃ y, y = w3.heap.size := ⟨_, rfl⟩
    have Kgb : Blk w4 gb 62 (gC false 0) := by rw [hw4, hgb]; exact blk_newO rfl _ _
    have bw4 : Below w3.heap.size w3 w4 := by rw [hw4]; exact albO _ _
    rw [← hgb] at h33; rw [← hw4]; clear hw4
    have HKk := hid (Kkb.mono bw4); have hkg : kb < gb := (by have := Kkb.lt; omega); have b24 := kept_trans bw3 bw4; clear Kkb
    refine wpk_storeP h33 rfl rfl rfl kb 0 (h33.ev 10 rfl) (kC c1 i1) (h33.ev 20 rfl) (by rw [infoKL]; rfl) (kC_one _ _) HKk.out (by show 0 + 2 ≤ 2; omega) fun a36 w5 h35 kqkb gqkb => ?_
    rw [splice_all (by rfl)] at kqkb
    have HGg := hid ((Turns.of_grown (X := fun k => k = kb) gqkb rfl).blk Kgb (by omega)); clear Kgb
    refine wpk_storeP h35 rfl rfl rfl gb 0 (h35.ev 11 rfl) (gC o u) (h35.ev 21 rfl) (by rw [infoGL]; rfl) (gC_one _ _) HGg.out (by show 0 + 2 ≤ 2; omega) fun a38 w6 h37 kqgb gqgb => ?_
    rw [splice_all (by rfl)] at kqgb
    have t6 : Turns (fun k => k = kb ∨ k = gb) w2 w6 := ((Turns.of_below b24).trans (Turns.of_grown gqkb (.inl rfl))).trans (Turns.of_grown gqgb (.inr rfl))
    have hl2 := HT2.out.lt; have hr2 := HR2.out.lt
    have HK6 := hid ((Turns.of_grown (X := fun k => k = gb) gqgb rfl).blk kqkb (by omega)); have HG6 := hid kqgb; have HR6 := hid (HR2.out.turns t6 (by omega) (by omega)); have HT6 := hid (HT2.out.turns t6 (by omega) (by omega) (by omega)); have HO6 := hid (own_turnsL HO2.out t6 (fun k e => .inr (by omega))); have HB6 := hid (HB2.out.trans (t6.below HB2.out.size (fun k e => by have := HB2.out.size; omega))); have hs6 := t6.size; clear t6 kqkb kqgb gqkb gqgb b24 bw3 bw4
    have h39 := h37.subs (l' := [(11, _), (10, _), (9, _), (16, _), (1, _), (2, _), (3, _), (0, _)]) rfl
    clear h37
    iterate 3 go_step
    by_cases hi : i1 = i
    case neg =>
      iterate 2 go_step
      refine wv h39 rfl rfl rfl rfl (.pointer (some ⟨kb, 1, none⟩)) (by unfold execOp; simp only [h39.ev 10 rfl]; exact run_v (fa_60_0_1 (kb) _)) fun a41 h40 => ?_
      refine wv h40 rfl rfl rfl rfl (.int .i64 i1) (by unfold execOp; simp only [h40.ev 22 rfl]; exact run_v (loadIP (HK6.out.cell (i := 1) (by show 1 < 2; omega)))) fun a43 h42 => ?_
      refine wmk h42 rfl rfl rfl rfl 2 rfl (fun _ => rfl) fun a45 h44 => ?_
      refine wv h44 rfl rfl rfl rfl (.bool false) (by unfold execOp; simp only [h44.ev 23 rfl, h44.ev 24 rfl]; exact run_v (eqIP _ _ _ _ _ (beq_eq_false_iff_ne.2 (by omega)))) fun a47 h46 => ?_
      refine wmk h46 rfl rfl rfl rfl 25 rfl (fun _ => rfl) fun a49 h48 => ?_
      refine wpk_skip h48 (by rw [wanted_of (g := 4) (want := true) (b := false) rfl (h48.yields (prev := 26) rfl (by simp))]; rfl) rfl (by decide) (fr rfl) fun a51 h50 => ?_
      refine wpk_skip h50 (by rw [wanted_of (g := 4) (want := true) (b := false) rfl (h50.yields (prev := 26) rfl (by simp))]; rfl) rfl (by decide) (fr rfl) fun a53 h52 => ?_
      refine wpk_skip h52 (by rw [wanted_of (g := 4) (want := true) (b := false) rfl (h52.yields (prev := 26) rfl (by simp))]; rfl) rfl (by decide) (fr rfl) fun a55 h54 => ?_
      refine wpk_skip h54 (by rw [wanted_of (g := 4) (want := true) (b := false) rfl (h54.yields (prev := 26) rfl (by simp))]; rfl) rfl (by decide) (fr rfl) fun a57 h56 => ?_
      refine wv h56 rfl rfl rfl rfl (.bool false) (run_pick rfl (h56.ev 26 rfl) rfl) fun a59 h58 => ?_
      refine wmk h58 rfl rfl rfl rfl 31 rfl (fun _ => rfl) fun a61 h60 => ?_
      refine wpk_skip h60 (by rw [wanted_of (g := 10) (want := true) (b := false) rfl (h60.yields (prev := 32) rfl (by simp))]; rfl) rfl (by decide) (fr rfl) fun a63 h62 => ?_
      refine wpk_skip h62 (by rw [wanted_of (g := 10) (want := true) (b := false) rfl (h62.yields (prev := 32) rfl (by simp))]; rfl) rfl (by decide) (fr rfl) fun a65 h64 => ?_
      refine wpk_skip h64 (wanted_undef (g := 12) (want := false) rfl (yields_undef (k := 34) rfl (h64.known (34, undef) (by simp)))) rfl (by decide) (fr rfl) fun a67 h66 => ?_
      refine wpk_skip h66 (wanted_undef (g := 12) (want := false) rfl (yields_undef (k := 34) rfl (h66.known (34, undef) (by simp)))) rfl (by decide) (fr rfl) fun a69 h68 => ?_
      refine wpk_skip h68 (by rw [wanted_of (g := 10) (want := true) (b := false) rfl (h68.yields (prev := 32) rfl (by simp))]; rfl) rfl (by decide) (fr rfl) fun a71 h70 => ?_
      refine wv h70 rfl rfl rfl rfl (.bool false) (run_pick rfl (h70.ev 32 rfl) rfl) fun a73 h72 => ?_
      have h74 := h72.subs (l' := [(38, _), (11, _), (10, _), (9, _), (16, _), (1, _), (2, _), (3, _), (0, _)]) rfl
      clear h72
      iterate 3 go_step
      refine wp_cond (t := false) (h74.ev 38 rfl) ?_
      simp only [Bool.false_eq_true, if_false]
      have h75 := h74.subs (l' := [(11, _), (10, _), (9, _), (16, _), (1, _), (2, _), (3, _), (0, _)]) rfl
      clear h74
      iterate 2 go_step
      refine ⟨⟨_, cnt2, L, la, lc, h75.subs rfl, HR6.out, HGA.out.pass (p := (c1, i1)) (fun e => absurd e hi), HT6.out, HO6.out, by omega, HB6.out⟩, ?_⟩
      rw [HR6.out.left_eq, hll]; omega
    by_cases hc : c1 = c
    case pos =>
      iterate 2 go_step
      refine wv h39 rfl rfl rfl rfl (.pointer (some ⟨kb, 1, none⟩)) (by unfold execOp; simp only [h39.ev 10 rfl]; exact run_v (fa_60_0_1 (kb) _)) fun a77 h76 => ?_
      refine wv h76 rfl rfl rfl rfl (.int .i64 i1) (by unfold execOp; simp only [h76.ev 22 rfl]; exact run_v (loadIP (HK6.out.cell (i := 1) (by show 1 < 2; omega)))) fun a79 h78 => ?_
      refine wmk h78 rfl rfl rfl rfl 2 rfl (fun _ => rfl) fun a81 h80 => ?_
      refine wv h80 rfl rfl rfl rfl (.bool true) (by unfold execOp; simp only [h80.ev 23 rfl, h80.ev 24 rfl]; exact run_v (eqIP _ _ _ _ _ (beq_iff_eq.2 (by omega)))) fun a83 h82 => ?_
      refine wmk h82 rfl rfl rfl rfl 25 rfl (fun _ => rfl) fun a85 h84 => ?_
      refine wpk_val h84 (by rw [wanted_of (g := 4) (want := true) (b := true) rfl (h84.yields (prev := 26) rfl (by simp))]; rfl) rfl (by decide) (fr rfl) (.pointer (some ⟨kb, 0, none⟩)) (by unfold execOp; simp only [h84.ev 10 rfl]; exact run_v (fa_60_0_0 (kb) _)) fun a87 h86 => ?_
      refine wpk_val h86 (by rw [wanted_of (g := 4) (want := true) (b := true) rfl (h86.yields (prev := 26) rfl (by simp))]; rfl) rfl (by decide) (fr rfl) (.int .i64 c1) (by unfold execOp; simp only [h86.ev 27 rfl]; exact run_v (loadIP (HK6.out.cell (i := 0) (by show 0 < 2; omega)))) fun a89 h88 => ?_
      refine wpk_val h88 (by rw [wanted_of (g := 4) (want := true) (b := true) rfl (h88.yields (prev := 26) rfl (by simp))]; rfl) rfl (by decide) (fr rfl) (.int .i64 c) (by unfold execOp; simp only [h88.ev 1 rfl]; rfl) fun a91 h90 => ?_
      refine wpk_val h90 (by rw [wanted_of (g := 4) (want := true) (b := true) rfl (h90.yields (prev := 26) rfl (by simp))]; rfl) rfl (by decide) (fr rfl) (.bool false) (by unfold execOp; simp only [h90.ev 28 rfl, h90.ev 29 rfl]; exact run_v (neqIP _ _ _ _ _ (bne_eq_false_iff_eq.2 (by omega)))) fun a93 h92 => ?_
      refine wv h92 rfl rfl rfl rfl (.bool false) (run_pick rfl (h92.ev 26 rfl) (by rw [if_pos rfl]; exact h92.ev 30 rfl)) fun a95 h94 => ?_
      refine wmk h94 rfl rfl rfl rfl 31 rfl (fun _ => rfl) fun a97 h96 => ?_
      refine wpk_skip h96 (by rw [wanted_of (g := 10) (want := true) (b := false) rfl (h96.yields (prev := 32) rfl (by simp))]; rfl) rfl (by decide) (fr rfl) fun a99 h98 => ?_
      refine wpk_skip h98 (by rw [wanted_of (g := 10) (want := true) (b := false) rfl (h98.yields (prev := 32) rfl (by simp))]; rfl) rfl (by decide) (fr rfl) fun a101 h100 => ?_
      refine wpk_skip h100 (wanted_undef (g := 12) (want := false) rfl (yields_undef (k := 34) rfl (h100.known (34, undef) (by simp)))) rfl (by decide) (fr rfl) fun a103 h102 => ?_
      refine wpk_skip h102 (wanted_undef (g := 12) (want := false) rfl (yields_undef (k := 34) rfl (h102.known (34, undef) (by simp)))) rfl (by decide) (fr rfl) fun a105 h104 => ?_
      refine wpk_skip h104 (by rw [wanted_of (g := 10) (want := true) (b := false) rfl (h104.yields (prev := 32) rfl (by simp))]; rfl) rfl (by decide) (fr rfl) fun a107 h106 => ?_
      refine wv h106 rfl rfl rfl rfl (.bool false) (run_pick rfl (h106.ev 32 rfl) rfl) fun a109 h108 => ?_
      have h110 := h108.subs (l' := [(38, _), (11, _), (10, _), (9, _), (16, _), (1, _), (2, _), (3, _), (0, _)]) rfl
      clear h108
      iterate 3 go_step
      refine wp_cond (t := false) (h110.ev 38 rfl) ?_
      simp only [Bool.false_eq_true, if_false]
      have h111 := h110.subs (l' := [(11, _), (10, _), (9, _), (16, _), (1, _), (2, _), (3, _), (0, _)]) rfl
      clear h110
      iterate 2 go_step
      refine ⟨⟨_, cnt2, L, la, lc, h111.subs rfl, HR6.out, HGA.out.pass (p := (c1, i1)) (fun _ => by unfold confB; cases g (c1, i) <;> simp [hc]), HT6.out, HO6.out, by omega, HB6.out⟩, ?_⟩
      rw [HR6.out.left_eq, hll]; omega
    iterate 2 go_step
    refine wv h39 rfl rfl rfl rfl (.pointer (some ⟨kb, 1, none⟩)) (by unfold execOp; simp only [h39.ev 10 rfl]; exact run_v (fa_60_0_1 (kb) _)) fun a113 h112 => ?_
    refine wv h112 rfl rfl rfl rfl (.int .i64 i1) (by unfold execOp; simp only [h112.ev 22 rfl]; exact run_v (loadIP (HK6.out.cell (i := 1) (by show 1 < 2; omega)))) fun a115 h114 => ?_
    refine wmk h114 rfl rfl rfl rfl 2 rfl (fun _ => rfl) fun a117 h116 => ?_
    refine wv h116 rfl rfl rfl rfl (.bool true) (by unfold execOp; simp only [h116.ev 23 rfl, h116.ev 24 rfl]; exact run_v (eqIP _ _ _ _ _ (beq_iff_eq.2 (by omega)))) fun a119 h118 => ?_
    refine wmk h118 rfl rfl rfl rfl 25 rfl (fun _ => rfl) fun a121 h120 => ?_
    refine wpk_val h120 (by rw [wanted_of (g := 4) (want := true) (b := true) rfl (h120.yields (prev := 26) rfl (by simp))]; rfl) rfl (by decide) (fr rfl) (.pointer (some ⟨kb, 0, none⟩)) (by unfold execOp; simp only [h120.ev 10 rfl]; exact run_v (fa_60_0_0 (kb) _)) fun a123 h122 => ?_
    refine wpk_val h122 (by rw [wanted_of (g := 4) (want := true) (b := true) rfl (h122.yields (prev := 26) rfl (by simp))]; rfl) rfl (by decide) (fr rfl) (.int .i64 c1) (by unfold execOp; simp only [h122.ev 27 rfl]; exact run_v (loadIP (HK6.out.cell (i := 0) (by show 0 < 2; omega)))) fun a125 h124 => ?_
    refine wpk_val h124 (by rw [wanted_of (g := 4) (want := true) (b := true) rfl (h124.yields (prev := 26) rfl (by simp))]; rfl) rfl (by decide) (fr rfl) (.int .i64 c) (by unfold execOp; simp only [h124.ev 1 rfl]; rfl) fun a127 h126 => ?_
    refine wpk_val h126 (by rw [wanted_of (g := 4) (want := true) (b := true) rfl (h126.yields (prev := 26) rfl (by simp))]; rfl) rfl (by decide) (fr rfl) (.bool true) (by unfold execOp; simp only [h126.ev 28 rfl, h126.ev 29 rfl]; exact run_v (neqIP _ _ _ _ _ (bne_iff_ne.2 (by omega)))) fun a129 h128 => ?_
    refine wv h128 rfl rfl rfl rfl (.bool true) (run_pick rfl (h128.ev 26 rfl) (by rw [if_pos rfl]; exact h128.ev 30 rfl)) fun a131 h130 => ?_
    refine wmk h130 rfl rfl rfl rfl 31 rfl (fun _ => rfl) fun a133 h132 => ?_
    refine wpk_val h132 (by rw [wanted_of (g := 10) (want := true) (b := true) rfl (h132.yields (prev := 32) rfl (by simp))]; rfl) rfl (by decide) (fr rfl) (.bool true) (by unfold execOp; simp only [h132.ev 3 rfl]; rfl) fun a135 h134 => ?_
    refine wpk_val h134 (by rw [wanted_of (g := 10) (want := true) (b := true) rfl (h134.yields (prev := 32) rfl (by simp))]; rfl) rfl (by decide) (fr rfl) (.bool true) (by unfold execOp; simp only [h134.ev 33 rfl]; rfl) fun a137 h136 => ?_
    refine wpk_skip h136 (by rw [wanted_of (g := 12) (want := false) (b := true) rfl (h136.yields (prev := 34) rfl (by simp))]; rfl) rfl (by decide) (fr rfl) fun a139 h138 => ?_
    refine wpk_skip h138 (by rw [wanted_of (g := 12) (want := false) (b := true) rfl (h138.yields (prev := 34) rfl (by simp))]; rfl) rfl (by decide) (fr rfl) fun a141 h140 => ?_
    refine wpk_val h140 (by rw [wanted_of (g := 10) (want := true) (b := true) rfl (h140.yields (prev := 32) rfl (by simp))]; rfl) rfl (by decide) (fr rfl) (.bool true) (run_pick rfl (h140.ev 34 rfl) rfl) fun a143 h142 => ?_
    refine wv h142 rfl rfl rfl rfl (.bool true) (run_pick rfl (h142.ev 32 rfl) (by rw [if_pos rfl]; exact h142.ev 37 rfl)) fun a145 h144 => ?_
    have h146 := h144.subs (l' := [(38, _), (11, _), (10, _), (9, _), (16, _), (1, _), (2, _), (3, _), (0, _)]) rfl
    clear h144
    iterate 3 go_step
    refine wp_cond (t := true) (h146.ev 38 rfl) ?_
    simp only [if_true]
    have h147 := h146.subs (l' := [(11, _), (10, _), (9, _), (16, _), (1, _), (2, _), (3, _), (0, _)]) rfl
    clear h146
    go_step
    refine wmk h147 rfl rfl rfl rfl 9 rfl (fun _ => rfl) fun a149 h148 => ?_
    refine wv h148 rfl rfl rfl rfl (.pointer (some ⟨kb, 0, none⟩)) (by unfold execOp; simp only [h148.ev 10 rfl]; exact run_v (fa_60_0_0 (kb) _)) fun a151 h150 => ?_
    refine wv h150 rfl rfl rfl rfl (.int .i64 c1) (by unfold execOp; simp only [h150.ev 40 rfl]; exact run_v (loadIP (HK6.out.cell (i := 0) (by show 0 < 2; omega)))) fun a153 h152 => ?_
    obtain ⟨w7, hw7⟩ : ∃ y, y = w6.alloc (.cells #[iV c1] 3) := ⟨_, rfl⟩
    have rz : RowI w7 (some ⟨w6.heap.size, 0, none⟩) 1 [c1] := by rw [hw7]; exact row_new1 _ _ _
    have oz : OwnI w7 B1 la lc L := by rw [hw7]; exact Own.alloc HO6.out _
    have bz : Below w.heap.size w w7 := by rw [hw7]; exact kept_alloc HB6.out _
    have b67 : Below w6.heap.size w6 w7 := by rw [hw7]; exact albO _ _
    refine wv h152 rfl rfl rfl rfl (.slice (some ⟨w6.heap.size, 0, none⟩) ([c1] : List Int).length 1) (by unfold execOp; simp only [List.map_toArray, List.map_cons, List.map_nil, h152.ev 41 rfl]; exact run_v (buildIL _ _)) fun a155 h154 => ?_
    rw [← hw7]
    have hs7 := b67.size
    refine wpl_append rfl (.tmp 39) (.tmp 42) rfl EIL B1 (h154.ev 39 rfl) (h154.ev 42 rfl) oz rz (iV_one _) (by show (L.length + 1) * 8 ≤ _; omega) (by show L.length + 1 ≤ _; omega) (by omega) ?_
    intro la3 lc3 w8 o3 g3 b3
    refine wpk_enter (h154.put (d := 43) (by decide) (fr rfl) (.slice la3 (L.length + ([c1] : List Int).length) lc3)) fun a157 h156 => ?_
    rw [← List.length_append] at h156
    have HO8 : Hid (OwnI w8 B1 la3 lc3 (L ++ [c1])) := hid (by unfold OwnI; rw [List.length_append, List.map_append]; exact o3)
    have T8 : Turns (fun k => B1 ≤ k) w6 w8 := (Turns.of_below b67).trans ⟨b3.os, b3.tape, b3.output, b3.size, fun k hk hn => b3.block k (by omega)⟩
    have hw1 := HBW.out.size; have HR8 := hid (HR6.out.turns T8 (by omega) (by omega)); have HT8 := hid (HT6.out.turns T8 (by omega) (by omega) (by omega)); have HB8 := hid (HB6.out.trans (T8.below HB6.out.size (fun k (hk : B1 ≤ k) => by omega))); have hs8 := T8.size
    clear o3 g3 b3 oz rz bz b67 hw7
    have h158 := h156.subs (l' := [(43, _), (42, _), (41, _), (40, _), (39, _), (11, _), (10, _), (16, _), (1, _), (2, _), (3, _), (0, _)]) rfl
    clear h156
    refine wmk h158 rfl rfl rfl rfl 43 rfl (fun _ => rfl) fun a160 h159 => ?_
    have h161 := h159.subs (l' := [(9, _), (11, _), (10, _), (16, _), (1, _), (2, _), (3, _), (0, _)]) rfl
    clear h159
    iterate 2 go_step
    have hcf : confB g c i true c1 = true := by rw [← hi]; unfold confB; rw [hgp]; simp [hc]
    refine ⟨⟨_, cnt2, L ++ [c1], la3, lc3, h161.subs rfl, HR8.out, (by have z := HGA.out.push (k0 := c1) hok.1 (by rw [← hi]; exact hlf) hcf; rw [← hi] at z ⊢; exact z), HT8.out, HO8.out, by omega, HB8.out⟩, ?_⟩
    rw [HR8.out.left_eq, hll]; omega
  iterate 3 go_step
  refine wv hK rfl rfl rfl rfl (.tuple #[.bool false]) (by unfold execOp; simp only [hK.ev 16 rfl]; exact run_v hrun) fun a163 h162 => ?_
  refine wv h162 rfl rfl rfl rfl (.bool false) (by unfold execOp; simp only [h162.ev 17 rfl]; exact rfl) fun a165 h164 => ?_
  have h166 := h164.subs (l' := [(18, _), (9, _), (16, _), (1, _), (2, _), (3, _), (0, _)]) rfl
  clear h164
  iterate 4 go_step
  refine wp_cond (t := false) (h166.ev 18 rfl) ?_
  simp only [Bool.false_eq_true, if_false]
  have h167 := h166.subs (l' := [(9, _), (16, _), (1, _), (2, _), (3, _), (0, _)]) rfl
  clear h166
  iterate 4 go_step
  have hfin := HGA.out.done hgok (fun k hk => hl _ ⟨hk, hwi⟩)
  go_step
  have hhs := HTW.out.lt; have hw1 := HBW.out.size
  iterate 2 go_step
  refine wmk h167 rfl rfl rfl rfl 9 rfl (fun _ => rfl) fun a169 h168 => ?_
  have hhs := HTW.out.lt
  refine wpk_call h168 (wanted_none rfl) rfl (by decide) (fr rfl) (fun args => callP_29 args _) rfl #[.slice la L.length lc] (by simp only [List.map_toArray, List.map_cons, List.map_nil, h168.ev 44 rfl]) (R := fun v' w' => v' = .tuple #[] ∧ OwnI w' B1 la lc (sortI L) ∧ Turns (fun k => some k = la.map (·.block)) aw w' ∧ Below B1 aw w') ((sortI_any la lc L aw B1 HO.out hB (by omega)).mono fun e w' q => ⟨_, q.1, rfl, q.2⟩) fun a171 vs ws rs h170 => ?_
  obtain ⟨rfl, os_, _, bs⟩ := rs; have hlen : L.length = (agL g c i true).length := (by rw [← hfin, sortI_len]); rw [hfin] at os_; have HOS := hid os_; have tS : Turns (fun k => B1 ≤ k) aw ws := ⟨bs.os, bs.tape, bs.output, bs.size, fun k hk hn => bs.block k (by omega)⟩; have HTS := hid (HTW.out.turns tS (by omega) (by omega) (by omega)); have HBS := hid (HBW.out.trans (tS.below HBW.out.size (fun k (hk : B1 ≤ k) => by omega)))
  have h172 := h170.subs (l' := [(9, _), (16, _), (1, _), (2, _), (3, _), (0, _)]) rfl
  clear h170
  iterate 5 go_step
  refine wmk h172 rfl rfl rfl rfl 9 rfl (fun _ => rfl) fun a174 h173 => ?_
  refine wmk h173 rfl rfl rfl rfl 46 rfl (fun _ => rfl) fun a176 h175 => ?_
  have h177 := h175.subs (l' := [(8, _), (9, _), (16, _), (1, _), (2, _), (3, _), (0, _)]) rfl
  clear h175
  iterate 4 go_step
  rw [hlen] at h177
  exact bodyPost_ret (results_tmp1 rfl (h177.known (8, .slice la (agL g c i true).length lc) (by simp))) h177.defs ⟨la, lc, rfl, own_weak HOS.out (by omega), HTS.out, HBS.out⟩

set_option maxHeartbeats 4000000 in
theorem against_f {w : World} {tg gm wm n m : Nat} {g : GrF} {wt : WtF} (h : TabP w tg gm wm n m g wt) (hgok : GrOk g) (c i : Int) (hwi : (Lit.int .i64 i).wf = true) :
    Calls Try.prog 31 #[.pointer (some ⟨tg, 0, none⟩), .int .i64 c, .int .i64 i, .bool false] w fun e w' => ∃ la lc, e = .returned (.slice la (agL g c i false).length lc) ∧ OwnI w' w.heap.size la lc (agL g c i false) ∧ TabP w' tg gm wm n m g wt ∧ Below w.heap.size w w' := by
  have HT := hid h; clear h
  go_enter Try.func31, Try.ntmps31
  iterate 3 go_step
  refine wpk_enter (N := 47) (l := [(0, .pointer (some ⟨tg, 0, none⟩)), (1, .int .i64 c), (2, .int .i64 i), (3, .bool false)]) ⟨rfl, (by intro x hx; simp only [List.mem_cons, List.not_mem_nil, or_false] at hx; rcases hx with rfl | rfl | rfl | rfl <;> rfl), rfl⟩ fun a2 h1 => ?_
  refine wv h1 rfl rfl rfl rfl (.slice none 0 0) rfl fun a4 h3 => ?_
  iterate 5 go_step
  refine wv h3 rfl rfl rfl rfl (.slice none 0 0) rfl fun a6 h5 => ?_
  iterate 6 go_step
  refine wmk h5 rfl rfl rfl rfl 0 rfl (fun _ => rfl) fun a8 h7 => ?_
  refine wv h7 rfl rfl rfl rfl (.pointer (some ⟨tg, 0, none⟩)) (by unfold execOp; simp only [h7.ev 12 rfl]; exact rfl) fun a10 h9 => ?_
  refine wv h9 rfl rfl rfl rfl (.pointer (some ⟨tg, 0, none⟩)) (by unfold execOp; simp only [h9.ev 13 rfl]; exact run_v (fa_54_0_0 (tg) _)) fun a12 h11 => ?_
  refine wv h11 rfl rfl rfl rfl (.map (some gm)) (by unfold execOp; simp only [h11.ev 14 rfl]; exact run_v (loadGM (HT.out.t.cell (i := 0) (by show 0 < 2; omega)))) fun a14 h13 => ?_
  obtain ⟨wA, hrA, ⟨cntA, RA⟩, bA⟩ := HT.out.g.range
  obtain ⟨rA, hr_A⟩ : ∃ y, y = w.heap.size := ⟨_, rfl⟩
  rw [← hr_A] at hrA RA
  refine wv h13 rfl rfl rfl rfl (.pointer (some ⟨rA, 0, none⟩)) (by unfold execOp; simp only [h13.ev 15 rfl]; exact run_v hrA) fun a16 h15 => ?_
  have HRA := hid RA; have HTA := hid (HT.out.mono bA); have hlt := HT.out.lt; have HBA := hid bA; have hrw : w.heap.size ≤ rA := (by rw [hr_A]; exact Nat.le_refl _); have hrB := RA.lt; obtain ⟨B1, hB1⟩ : ∃ y, y = wA.heap.size := ⟨_, rfl⟩; have hrB1 : rA < B1 := (by rw [hB1]; exact hrB); clear RA bA hrB
  have h17 := h15.subs (l' := [(16, _), (9, _), (8, _), (0, _), (1, _), (2, _), (3, _)]) rfl
  clear h15
  iterate 4 go_step
  have h18 := h17.subs (l' := [(9, _), (16, _), (1, _), (2, _), (3, _), (0, _)]) rfl
  clear h17
  refine wp_loop (I := fun a' w' => ∃ (left : Int × Int → Bool) (cnt : Nat) (L : List Int) (la : Option Addr) (lc : Nat), Kn 47 [(9, .slice la L.length lc), (16, .pointer (some ⟨rA, 0, none⟩)), (1, .int .i64 c), (2, .int .i64 i), (3, .bool false), (0, .pointer (some ⟨tg, 0, none⟩))] a' ∧ RanG KG w' gm rA n g left cnt ∧ GathA g c i false left L ∧ TabP w' tg gm wm n m g wt ∧ OwnI w' B1 la lc L ∧ B1 ≤ w'.heap.size ∧ Below w.heap.size w w') (μ := fun _ w' => w'.rangeLeft gm rA) ⟨_, cntA, [], none, 0, h18, HRA.out, GathA.start g c i false _ (fun k _ => rfl), HTA.out, Own.nil _ _ _ _, by rw [hB1]; exact Nat.le_refl _, HBA.out⟩ ?_
  clear HRA HTA HBA h18
  rintro aL aw ⟨left, cnt, L, la, lc, hK, hr, hga, ht, ho, hB, hbl⟩; have HR := hid hr; have HGA := hid hga; have HTW := hid ht; have HO := hid ho; have HBW := hid hbl; clear hr hga ht ho hbl
  have hrn := HR.out.ne; have hll := HR.out.left_eq; have hL8 := HGA.out.len hgok
  rcases HR.out.next 0 with ⟨hl, hrun⟩ | ⟨⟨c1, i1⟩, ⟨o, u⟩, w2, cnt2, hok, hlf, hgp, hrun, hr2, hcl, t2, hen⟩
  case inr =>
    have hlw := HTW.out.lt; have HR2 := hid hr2; have HT2 := hid (HTW.out.turns t2 (by omega) (by omega) (by omega)); have HO2 := hid (own_turnsL HO.out t2 (fun k e => .inl (by omega))); have HB2 := hid (HBW.out.trans (t2.below HBW.out.size (fun k e => by omega))); have hs2 := t2.size; clear hr2 t2
    iterate 3 go_step
    refine wv hK rfl rfl rfl rfl (.tuple #[.bool true, .agg (kC c1 i1).toArray, .agg (gC o u).toArray]) (by unfold execOp; simp only [hK.ev 16 rfl]; exact run_v hrun) fun a20 h19 => ?_
    refine wv h19 rfl rfl rfl rfl (.bool true) (by unfold execOp; simp only [h19.ev 17 rfl]; exact rfl) fun a22 h21 => ?_
    have h23 := h21.subs (l' := [(18, _), (9, _), (16, _), (1, _), (2, _), (3, _), (0, _)]) rfl
    clear h21
    iterate 4 go_step
    refine wp_cond (t := true) (h23.ev 18 rfl) ?_
    simp only [if_true]
    have h24 := h23.subs (l' := [(9, _), (16, _), (1, _), (2, _), (3, _), (0, _)]) rfl
    clear h23
    iterate 6 go_step
    refine wv h24 rfl rfl rfl rfl (.tuple #[.agg (kC c1 i1).toArray, .agg (gC o u).toArray]) (by unfold execOp; simp only [h24.ev 16 rfl]; exact run_v hen) fun a26 h25 => ?_
    refine wv h25 rfl rfl rfl rfl (.agg (kC c1 i1).toArray) (by unfold execOp; simp only [h25.ev 19 rfl]; exact rfl) fun a28 h27 => ?_
    refine wv h27 rfl rfl rfl rfl (.agg (gC o u).toArray) (by unfold execOp; simp only [h27.ev 19 rfl]; exact rfl) fun a30 h29 => ?_
    refine wv h29 rfl rfl rfl rfl (.pointer (some ⟨w2.heap.size, 0, none⟩)) (run_allocKL rfl _ w2) fun a32 h31 => ?_
    obtain ⟨w3, hw3⟩ : ∃ y, y = w2.alloc (.cells (kC 0 0).toArray 60) := ⟨_, rfl⟩
    obtain ⟨kb, hkb⟩ : ∃ y, y = w2.heap.size := ⟨_, rfl⟩
    have Kkb : Blk w3 kb 60 (kC 0 0) := by rw [hw3, hkb]; exact blk_newO rfl _ _
    have bw3 : Below w2.heap.size w2 w3 := by rw [hw3]; exact albO _ _
    rw [← hkb] at h31; rw [← hw3]; clear hw3
    refine wv h31 rfl rfl rfl rfl (.pointer (some ⟨w3.heap.size, 0, none⟩)) (run_allocGL rfl _ w3) fun a34 h33 => ?_
    obtain ⟨w4, hw4⟩ : ∃ y, y = w3.alloc (.cells (gC false 0).toArray 62) := ⟨_, rfl⟩
    obtain ⟨gb, hgb⟩ : ∃ y, y = w3.heap.size := ⟨_, rfl⟩
    have Kgb : Blk w4 gb 62 (gC false 0) := by rw [hw4, hgb]; exact blk_newO rfl _ _
    have bw4 : Below w3.heap.size w3 w4 := by rw [hw4]; exact albO _ _
    rw [← hgb] at h33; rw [← hw4]; clear hw4
    have HKk := hid (Kkb.mono bw4); have hkg : kb < gb := (by have := Kkb.lt; omega); have b24 := kept_trans bw3 bw4; clear Kkb
    refine wpk_storeP h33 rfl rfl rfl kb 0 (h33.ev 10 rfl) (kC c1 i1) (h33.ev 20 rfl) (by rw [infoKL]; rfl) (kC_one _ _) HKk.out (by show 0 + 2 ≤ 2; omega) fun a36 w5 h35 kqkb gqkb => ?_
    rw [splice_all (by rfl)] at kqkb
    have HGg := hid ((Turns.of_grown (X := fun k => k = kb) gqkb rfl).blk Kgb (by omega)); clear Kgb
    refine wpk_storeP h35 rfl rfl rfl gb 0 (h35.ev 11 rfl) (gC o u) (h35.ev 21 rfl) (by rw [infoGL]; rfl) (gC_one _ _) HGg.out (by show 0 + 2 ≤ 2; omega) fun a38 w6 h37 kqgb gqgb => ?_
    rw [splice_all (by rfl)] at kqgb
    have t6 : Turns (fun k => k = kb ∨ k = gb) w2 w6 := ((Turns.of_below b24).trans (Turns.of_grown gqkb (.inl rfl))).trans (Turns.of_grown gqgb (.inr rfl))
    have hl2 := HT2.out.lt; have hr2 := HR2.out.lt
    have HK6 := hid ((Turns.of_grown (X := fun k => k = gb) gqgb rfl).blk kqkb (by omega)); have HG6 := hid kqgb; have HR6 := hid (HR2.out.turns t6 (by omega) (by omega)); have HT6 := hid (HT2.out.turns t6 (by omega) (by omega) (by omega)); have HO6 := hid (own_turnsL HO2.out t6 (fun k e => .inr (by omega))); have HB6 := hid (HB2.out.trans (t6.below HB2.out.size (fun k e => by have := HB2.out.size; omega))); have hs6 := t6.size; clear t6 kqkb kqgb gqkb gqgb b24 bw3 bw4
    have h39 := h37.subs (l' := [(11, _), (10, _), (9, _), (16, _), (1, _), (2, _), (3, _), (0, _)]) rfl
    clear h37
    iterate 3 go_step
    by_cases hi : i1 = i
    case neg =>
      iterate 2 go_step
      refine wv h39 rfl rfl rfl rfl (.pointer (some ⟨kb, 1, none⟩)) (by unfold execOp; simp only [h39.ev 10 rfl]; exact run_v (fa_60_0_1 (kb) _)) fun a41 h40 => ?_
      refine wv h40 rfl rfl rfl rfl (.int .i64 i1) (by unfold execOp; simp only [h40.ev 22 rfl]; exact run_v (loadIP (HK6.out.cell (i := 1) (by show 1 < 2; omega)))) fun a43 h42 => ?_
      refine wmk h42 rfl rfl rfl rfl 2 rfl (fun _ => rfl) fun a45 h44 => ?_
      refine wv h44 rfl rfl rfl rfl (.bool false) (by unfold execOp; simp only [h44.ev 23 rfl, h44.ev 24 rfl]; exact run_v (eqIP _ _ _ _ _ (beq_eq_false_iff_ne.2 (by omega)))) fun a47 h46 => ?_
      refine wmk h46 rfl rfl rfl rfl 25 rfl (fun _ => rfl) fun a49 h48 => ?_
      refine wpk_skip h48 (by rw [wanted_of (g := 4) (want := true) (b := false) rfl (h48.yields (prev := 26) rfl (by simp))]; rfl) rfl (by decide) (fr rfl) fun a51 h50 => ?_
      refine wpk_skip h50 (by rw [wanted_of (g := 4) (want := true) (b := false) rfl (h50.yields (prev := 26) rfl (by simp))]; rfl) rfl (by decide) (fr rfl) fun a53 h52 => ?_
      refine wpk_skip h52 (by rw [wanted_of (g := 4) (want := true) (b := false) rfl (h52.yields (prev := 26) rfl (by simp))]; rfl) rfl (by decide) (fr rfl) fun a55 h54 => ?_
      refine wpk_skip h54 (by rw [wanted_of (g := 4) (want := true) (b := false) rfl (h54.yields (prev := 26) rfl (by simp))]; rfl) rfl (by decide) (fr rfl) fun a57 h56 => ?_
      refine wv h56 rfl rfl rfl rfl (.bool false) (run_pick rfl (h56.ev 26 rfl) rfl) fun a59 h58 => ?_
      refine wmk h58 rfl rfl rfl rfl 31 rfl (fun _ => rfl) fun a61 h60 => ?_
      refine wpk_skip h60 (by rw [wanted_of (g := 10) (want := true) (b := false) rfl (h60.yields (prev := 32) rfl (by simp))]; rfl) rfl (by decide) (fr rfl) fun a63 h62 => ?_
      refine wpk_skip h62 (by rw [wanted_of (g := 10) (want := true) (b := false) rfl (h62.yields (prev := 32) rfl (by simp))]; rfl) rfl (by decide) (fr rfl) fun a65 h64 => ?_
      refine wpk_skip h64 (wanted_undef (g := 12) (want := false) rfl (yields_undef (k := 34) rfl (h64.known (34, undef) (by simp)))) rfl (by decide) (fr rfl) fun a67 h66 => ?_
      refine wpk_skip h66 (wanted_undef (g := 12) (want := false) rfl (yields_undef (k := 34) rfl (h66.known (34, undef) (by simp)))) rfl (by decide) (fr rfl) fun a69 h68 => ?_
      refine wpk_skip h68 (by rw [wanted_of (g := 10) (want := true) (b := false) rfl (h68.yields (prev := 32) rfl (by simp))]; rfl) rfl (by decide) (fr rfl) fun a71 h70 => ?_
      refine wv h70 rfl rfl rfl rfl (.bool false) (run_pick rfl (h70.ev 32 rfl) rfl) fun a73 h72 => ?_
      have h74 := h72.subs (l' := [(38, _), (11, _), (10, _), (9, _), (16, _), (1, _), (2, _), (3, _), (0, _)]) rfl
      clear h72
      iterate 3 go_step
      refine wp_cond (t := false) (h74.ev 38 rfl) ?_
      simp only [Bool.false_eq_true, if_false]
      have h75 := h74.subs (l' := [(11, _), (10, _), (9, _), (16, _), (1, _), (2, _), (3, _), (0, _)]) rfl
      clear h74
      iterate 2 go_step
      refine ⟨⟨_, cnt2, L, la, lc, h75.subs rfl, HR6.out, HGA.out.pass (p := (c1, i1)) (fun e => absurd e hi), HT6.out, HO6.out, by omega, HB6.out⟩, ?_⟩
      rw [HR6.out.left_eq, hll]; omega
    by_cases hc : c1 = c
    case pos =>
      iterate 2 go_step
      refine wv h39 rfl rfl rfl rfl (.pointer (some ⟨kb, 1, none⟩)) (by unfold execOp; simp only [h39.ev 10 rfl]; exact run_v (fa_60_0_1 (kb) _)) fun a77 h76 => ?_
      refine wv h76 rfl rfl rfl rfl (.int .i64 i1) (by unfold execOp; simp only [h76.ev 22 rfl]; exact run_v (loadIP (HK6.out.cell (i := 1) (by show 1 < 2; omega)))) fun a79 h78 => ?_
      refine wmk h78 rfl rfl rfl rfl 2 rfl (fun _ => rfl) fun a81 h80 => ?_
      refine wv h80 rfl rfl rfl rfl (.bool true) (by unfold execOp; simp only [h80.ev 23 rfl, h80.ev 24 rfl]; exact run_v (eqIP _ _ _ _ _ (beq_iff_eq.2 (by omega)))) fun a83 h82 => ?_
      refine wmk h82 rfl rfl rfl rfl 25 rfl (fun _ => rfl) fun a85 h84 => ?_
      refine wpk_val h84 (by rw [wanted_of (g := 4) (want := true) (b := true) rfl (h84.yields (prev := 26) rfl (by simp))]; rfl) rfl (by decide) (fr rfl) (.pointer (some ⟨kb, 0, none⟩)) (by unfold execOp; simp only [h84.ev 10 rfl]; exact run_v (fa_60_0_0 (kb) _)) fun a87 h86 => ?_
      refine wpk_val h86 (by rw [wanted_of (g := 4) (want := true) (b := true) rfl (h86.yields (prev := 26) rfl (by simp))]; rfl) rfl (by decide) (fr rfl) (.int .i64 c1) (by unfold execOp; simp only [h86.ev 27 rfl]; exact run_v (loadIP (HK6.out.cell (i := 0) (by show 0 < 2; omega)))) fun a89 h88 => ?_
      refine wpk_val h88 (by rw [wanted_of (g := 4) (want := true) (b := true) rfl (h88.yields (prev := 26) rfl (by simp))]; rfl) rfl (by decide) (fr rfl) (.int .i64 c) (by unfold execOp; simp only [h88.ev 1 rfl]; rfl) fun a91 h90 => ?_
      refine wpk_val h90 (by rw [wanted_of (g := 4) (want := true) (b := true) rfl (h90.yields (prev := 26) rfl (by simp))]; rfl) rfl (by decide) (fr rfl) (.bool false) (by unfold execOp; simp only [h90.ev 28 rfl, h90.ev 29 rfl]; exact run_v (neqIP _ _ _ _ _ (bne_eq_false_iff_eq.2 (by omega)))) fun a93 h92 => ?_
      refine wv h92 rfl rfl rfl rfl (.bool false) (run_pick rfl (h92.ev 26 rfl) (by rw [if_pos rfl]; exact h92.ev 30 rfl)) fun a95 h94 => ?_
      refine wmk h94 rfl rfl rfl rfl 31 rfl (fun _ => rfl) fun a97 h96 => ?_
      refine wpk_skip h96 (by rw [wanted_of (g := 10) (want := true) (b := false) rfl (h96.yields (prev := 32) rfl (by simp))]; rfl) rfl (by decide) (fr rfl) fun a99 h98 => ?_
      refine wpk_skip h98 (by rw [wanted_of (g := 10) (want := true) (b := false) rfl (h98.yields (prev := 32) rfl (by simp))]; rfl) rfl (by decide) (fr rfl) fun a101 h100 => ?_
      refine wpk_skip h100 (wanted_undef (g := 12) (want := false) rfl (yields_undef (k := 34) rfl (h100.known (34, undef) (by simp)))) rfl (by decide) (fr rfl) fun a103 h102 => ?_
      refine wpk_skip h102 (wanted_undef (g := 12) (want := false) rfl (yields_undef (k := 34) rfl (h102.known (34, undef) (by simp)))) rfl (by decide) (fr rfl) fun a105 h104 => ?_
      refine wpk_skip h104 (by rw [wanted_of (g := 10) (want := true) (b := false) rfl (h104.yields (prev := 32) rfl (by simp))]; rfl) rfl (by decide) (fr rfl) fun a107 h106 => ?_
      refine wv h106 rfl rfl rfl rfl (.bool false) (run_pick rfl (h106.ev 32 rfl) rfl) fun a109 h108 => ?_
      have h110 := h108.subs (l' := [(38, _), (11, _), (10, _), (9, _), (16, _), (1, _), (2, _), (3, _), (0, _)]) rfl
      clear h108
      iterate 3 go_step
      refine wp_cond (t := false) (h110.ev 38 rfl) ?_
      simp only [Bool.false_eq_true, if_false]
      have h111 := h110.subs (l' := [(11, _), (10, _), (9, _), (16, _), (1, _), (2, _), (3, _), (0, _)]) rfl
      clear h110
      iterate 2 go_step
      refine ⟨⟨_, cnt2, L, la, lc, h111.subs rfl, HR6.out, HGA.out.pass (p := (c1, i1)) (fun _ => by unfold confB; cases g (c1, i) <;> simp [hc]), HT6.out, HO6.out, by omega, HB6.out⟩, ?_⟩
      rw [HR6.out.left_eq, hll]; omega
    cases o
    case false =>
      iterate 2 go_step
      refine wv h39 rfl rfl rfl rfl (.pointer (some ⟨kb, 1, none⟩)) (by unfold execOp; simp only [h39.ev 10 rfl]; exact run_v (fa_60_0_1 (kb) _)) fun a113 h112 => ?_
      refine wv h112 rfl rfl rfl rfl (.int .i64 i1) (by unfold execOp; simp only [h112.ev 22 rfl]; exact run_v (loadIP (HK6.out.cell (i := 1) (by show 1 < 2; omega)))) fun a115 h114 => ?_
      refine wmk h114 rfl rfl rfl rfl 2 rfl (fun _ => rfl) fun a117 h116 => ?_
      refine wv h116 rfl rfl rfl rfl (.bool true) (by unfold execOp; simp only [h116.ev 23 rfl, h116.ev 24 rfl]; exact run_v (eqIP _ _ _ _ _ (beq_iff_eq.2 (by omega)))) fun a119 h118 => ?_
      refine wmk h118 rfl rfl rfl rfl 25 rfl (fun _ => rfl) fun a121 h120 => ?_
      refine wpk_val h120 (by rw [wanted_of (g := 4) (want := true) (b := true) rfl (h120.yields (prev := 26) rfl (by simp))]; rfl) rfl (by decide) (fr rfl) (.pointer (some ⟨kb, 0, none⟩)) (by unfold execOp; simp only [h120.ev 10 rfl]; exact run_v (fa_60_0_0 (kb) _)) fun a123 h122 => ?_
      refine wpk_val h122 (by rw [wanted_of (g := 4) (want := true) (b := true) rfl (h122.yields (prev := 26) rfl (by simp))]; rfl) rfl (by decide) (fr rfl) (.int .i64 c1) (by unfold execOp; simp only [h122.ev 27 rfl]; exact run_v (loadIP (HK6.out.cell (i := 0) (by show 0 < 2; omega)))) fun a125 h124 => ?_
      refine wpk_val h124 (by rw [wanted_of (g := 4) (want := true) (b := true) rfl (h124.yields (prev := 26) rfl (by simp))]; rfl) rfl (by decide) (fr rfl) (.int .i64 c) (by unfold execOp; simp only [h124.ev 1 rfl]; rfl) fun a127 h126 => ?_
      refine wpk_val h126 (by rw [wanted_of (g := 4) (want := true) (b := true) rfl (h126.yields (prev := 26) rfl (by simp))]; rfl) rfl (by decide) (fr rfl) (.bool true) (by unfold execOp; simp only [h126.ev 28 rfl, h126.ev 29 rfl]; exact run_v (neqIP _ _ _ _ _ (bne_iff_ne.2 (by omega)))) fun a129 h128 => ?_
      refine wv h128 rfl rfl rfl rfl (.bool true) (run_pick rfl (h128.ev 26 rfl) (by rw [if_pos rfl]; exact h128.ev 30 rfl)) fun a131 h130 => ?_
      refine wmk h130 rfl rfl rfl rfl 31 rfl (fun _ => rfl) fun a133 h132 => ?_
      refine wpk_val h132 (by rw [wanted_of (g := 10) (want := true) (b := true) rfl (h132.yields (prev := 32) rfl (by simp))]; rfl) rfl (by decide) (fr rfl) (.bool false) (by unfold execOp; simp only [h132.ev 3 rfl]; rfl) fun a135 h134 => ?_
      refine wpk_val h134 (by rw [wanted_of (g := 10) (want := true) (b := true) rfl (h134.yields (prev := 32) rfl (by simp))]; rfl) rfl (by decide) (fr rfl) (.bool false) (by unfold execOp; simp only [h134.ev 33 rfl]; rfl) fun a137 h136 => ?_
      refine wpk_val h136 (by rw [wanted_of (g := 12) (want := false) (b := false) rfl (h136.yields (prev := 34) rfl (by simp))]; rfl) rfl (by decide) (fr rfl) (.pointer (some ⟨gb, 0, none⟩)) (by unfold execOp; simp only [h136.ev 11 rfl]; exact run_v (fa_62_0_0 (gb) _)) fun a139 h138 => ?_
      refine wpk_val h138 (by rw [wanted_of (g := 12) (want := false) (b := false) rfl (h138.yields (prev := 34) rfl (by simp))]; rfl) rfl (by decide) (fr rfl) (.bool false) (by unfold execOp; simp only [h138.ev 35 rfl]; exact run_v (loadBP (HG6.out.cell (i := 0) (by show 0 < 2; omega)))) fun a141 h140 => ?_
      refine wpk_val h140 (by rw [wanted_of (g := 10) (want := true) (b := true) rfl (h140.yields (prev := 32) rfl (by simp))]; rfl) rfl (by decide) (fr rfl) (.bool false) (run_pick rfl (h140.ev 34 rfl) (by rw [if_neg (by simp)]; exact h140.ev 36 rfl)) fun a143 h142 => ?_
      refine wv h142 rfl rfl rfl rfl (.bool false) (run_pick rfl (h142.ev 32 rfl) (by rw [if_pos rfl]; exact h142.ev 37 rfl)) fun a145 h144 => ?_
      have h146 := h144.subs (l' := [(38, _), (11, _), (10, _), (9, _), (16, _), (1, _), (2, _), (3, _), (0, _)]) rfl
      clear h144
      iterate 3 go_step
      refine wp_cond (t := false) (h146.ev 38 rfl) ?_
      simp only [Bool.false_eq_true, if_false]
      have h147 := h146.subs (l' := [(11, _), (10, _), (9, _), (16, _), (1, _), (2, _), (3, _), (0, _)]) rfl
      clear h146
      iterate 2 go_step
      refine ⟨⟨_, cnt2, L, la, lc, h147.subs rfl, HR6.out, HGA.out.pass (p := (c1, i1)) (fun _ => by show confB g c i false c1 = false; rw [← hi]; unfold confB; rw [hgp]; simp), HT6.out, HO6.out, by omega, HB6.out⟩, ?_⟩
      rw [HR6.out.left_eq, hll]; omega
    case true =>
      iterate 2 go_step
      refine wv h39 rfl rfl rfl rfl (.pointer (some ⟨kb, 1, none⟩)) (by unfold execOp; simp only [h39.ev 10 rfl]; exact run_v (fa_60_0_1 (kb) _)) fun a149 h148 => ?_
      refine wv h148 rfl rfl rfl rfl (.int .i64 i1) (by unfold execOp; simp only [h148.ev 22 rfl]; exact run_v (loadIP (HK6.out.cell (i := 1) (by show 1 < 2; omega)))) fun a151 h150 => ?_
      refine wmk h150 rfl rfl rfl rfl 2 rfl (fun _ => rfl) fun a153 h152 => ?_
      refine wv h152 rfl rfl rfl rfl (.bool true) (by unfold execOp; simp only [h152.ev 23 rfl, h152.ev 24 rfl]; exact run_v (eqIP _ _ _ _ _ (beq_iff_eq.2 (by omega)))) fun a155 h154 => ?_
      refine wmk h154 rfl rfl rfl rfl 25 rfl (fun _ => rfl) fun a157 h156 => ?_
      refine wpk_val h156 (by rw [wanted_of (g := 4) (want := true) (b := true) rfl (h156.yields (prev := 26) rfl (by simp))]; rfl) rfl (by decide) (fr rfl) (.pointer (some ⟨kb, 0, none⟩)) (by unfold execOp; simp only [h156.ev 10 rfl]; exact run_v (fa_60_0_0 (kb) _)) fun a159 h158 => ?_
      refine wpk_val h158 (by rw [wanted_of (g := 4) (want := true) (b := true) rfl (h158.yields (prev := 26) rfl (by simp))]; rfl) rfl (by decide) (fr rfl) (.int .i64 c1) (by unfold execOp; simp only [h158.ev 27 rfl]; exact run_v (loadIP (HK6.out.cell (i := 0) (by show 0 < 2; omega)))) fun a161 h160 => ?_
      refine wpk_val h160 (by rw [wanted_of (g := 4) (want := true) (b := true) rfl (h160.yields (prev := 26) rfl (by simp))]; rfl) rfl (by decide) (fr rfl) (.int .i64 c) (by unfold execOp; simp only [h160.ev 1 rfl]; rfl) fun a163 h162 => ?_
      refine wpk_val h162 (by rw [wanted_of (g := 4) (want := true) (b := true) rfl (h162.yields (prev := 26) rfl (by simp))]; rfl) rfl (by decide) (fr rfl) (.bool true) (by unfold execOp; simp only [h162.ev 28 rfl, h162.ev 29 rfl]; exact run_v (neqIP _ _ _ _ _ (bne_iff_ne.2 (by omega)))) fun a165 h164 => ?_
      refine wv h164 rfl rfl rfl rfl (.bool true) (run_pick rfl (h164.ev 26 rfl) (by rw [if_pos rfl]; exact h164.ev 30 rfl)) fun a167 h166 => ?_
      refine wmk h166 rfl rfl rfl rfl 31 rfl (fun _ => rfl) fun a169 h168 => ?_
      refine wpk_val h168 (by rw [wanted_of (g := 10) (want := true) (b := true) rfl (h168.yields (prev := 32) rfl (by simp))]; rfl) rfl (by decide) (fr rfl) (.bool false) (by unfold execOp; simp only [h168.ev 3 rfl]; rfl) fun a171 h170 => ?_
      refine wpk_val h170 (by rw [wanted_of (g := 10) (want := true) (b := true) rfl (h170.yields (prev := 32) rfl (by simp))]; rfl) rfl (by decide) (fr rfl) (.bool false) (by unfold execOp; simp only [h170.ev 33 rfl]; rfl) fun a173 h172 => ?_
      refine wpk_val h172 (by rw [wanted_of (g := 12) (want := false) (b := false) rfl (h172.yields (prev := 34) rfl (by simp))]; rfl) rfl (by decide) (fr rfl) (.pointer (some ⟨gb, 0, none⟩)) (by unfold execOp; simp only [h172.ev 11 rfl]; exact run_v (fa_62_0_0 (gb) _)) fun a175 h174 => ?_
      refine wpk_val h174 (by rw [wanted_of (g := 12) (want := false) (b := false) rfl (h174.yields (prev := 34) rfl (by simp))]; rfl) rfl (by decide) (fr rfl) (.bool true) (by unfold execOp; simp only [h174.ev 35 rfl]; exact run_v (loadBP (HG6.out.cell (i := 0) (by show 0 < 2; omega)))) fun a177 h176 => ?_
      refine wpk_val h176 (by rw [wanted_of (g := 10) (want := true) (b := true) rfl (h176.yields (prev := 32) rfl (by simp))]; rfl) rfl (by decide) (fr rfl) (.bool true) (run_pick rfl (h176.ev 34 rfl) (by rw [if_neg (by simp)]; exact h176.ev 36 rfl)) fun a179 h178 => ?_
      refine wv h178 rfl rfl rfl rfl (.bool true) (run_pick rfl (h178.ev 32 rfl) (by rw [if_pos rfl]; exact h178.ev 37 rfl)) fun a181 h180 => ?_
      have h182 := h180.subs (l' := [(38, _), (11, _), (10, _), (9, _), (16, _), (1, _), (2, _), (3, _), (0, _)]) rfl
      clear h180
      iterate 3 go_step
      refine wp_cond (t := true) (h182.ev 38 rfl) ?_
      simp only [if_true]
      have h183 := h182.subs (l' := [(11, _), (10, _), (9, _), (16, _), (1, _), (2, _), (3, _), (0, _)]) rfl
      clear h182
      go_step
      refine wmk h183 rfl rfl rfl rfl 9 rfl (fun _ => rfl) fun a185 h184 => ?_
      refine wv h184 rfl rfl rfl rfl (.pointer (some ⟨kb, 0, none⟩)) (by unfold execOp; simp only [h184.ev 10 rfl]; exact run_v (fa_60_0_0 (kb) _)) fun a187 h186 => ?_
      refine wv h186 rfl rfl rfl rfl (.int .i64 c1) (by unfold execOp; simp only [h186.ev 40 rfl]; exact run_v (loadIP (HK6.out.cell (i := 0) (by show 0 < 2; omega)))) fun a189 h188 => ?_
      obtain ⟨w7, hw7⟩ : ∃ y, y = w6.alloc (.cells #[iV c1] 3) := ⟨_, rfl⟩
      have rz : RowI w7 (some ⟨w6.heap.size, 0, none⟩) 1 [c1] := by rw [hw7]; exact row_new1 _ _ _
      have oz : OwnI w7 B1 la lc L := by rw [hw7]; exact Own.alloc HO6.out _
      have bz : Below w.heap.size w w7 := by rw [hw7]; exact kept_alloc HB6.out _
      have b67 : Below w6.heap.size w6 w7 := by rw [hw7]; exact albO _ _
      refine wv h188 rfl rfl rfl rfl (.slice (some ⟨w6.heap.size, 0, none⟩) ([c1] : List Int).length 1) (by unfold execOp; simp only [List.map_toArray, List.map_cons, List.map_nil, h188.ev 41 rfl]; exact run_v (buildIL _ _)) fun a191 h190 => ?_
      rw [← hw7]
      have hs7 := b67.size
      refine wpl_append rfl (.tmp 39) (.tmp 42) rfl EIL B1 (h190.ev 39 rfl) (h190.ev 42 rfl) oz rz (iV_one _) (by show (L.length + 1) * 8 ≤ _; omega) (by show L.length + 1 ≤ _; omega) (by omega) ?_
      intro la3 lc3 w8 o3 g3 b3
      refine wpk_enter (h190.put (d := 43) (by decide) (fr rfl) (.slice la3 (L.length + ([c1] : List Int).length) lc3)) fun a193 h192 => ?_
      rw [← List.length_append] at h192
      have HO8 : Hid (OwnI w8 B1 la3 lc3 (L ++ [c1])) := hid (by unfold OwnI; rw [List.length_append, List.map_append]; exact o3)
      have T8 : Turns (fun k => B1 ≤ k) w6 w8 := (Turns.of_below b67).trans ⟨b3.os, b3.tape, b3.output, b3.size, fun k hk hn => b3.block k (by omega)⟩
      have hw1 := HBW.out.size; have HR8 := hid (HR6.out.turns T8 (by omega) (by omega)); have HT8 := hid (HT6.out.turns T8 (by omega) (by omega) (by omega)); have HB8 := hid (HB6.out.trans (T8.below HB6.out.size (fun k (hk : B1 ≤ k) => by omega))); have hs8 := T8.size
      clear o3 g3 b3 oz rz bz b67 hw7
      have h194 := h192.subs (l' := [(43, _), (42, _), (41, _), (40, _), (39, _), (11, _), (10, _), (16, _), (1, _), (2, _), (3, _), (0, _)]) rfl
      clear h192
      refine wmk h194 rfl rfl rfl rfl 43 rfl (fun _ => rfl) fun a196 h195 => ?_
      have h197 := h195.subs (l' := [(9, _), (11, _), (10, _), (16, _), (1, _), (2, _), (3, _), (0, _)]) rfl
      clear h195
      iterate 2 go_step
      have hcf : confB g c i false c1 = true := by rw [← hi]; unfold confB; rw [hgp]; simp [hc]
      refine ⟨⟨_, cnt2, L ++ [c1], la3, lc3, h197.subs rfl, HR8.out, (by have z := HGA.out.push (k0 := c1) hok.1 (by rw [← hi]; exact hlf) hcf; rw [← hi] at z ⊢; exact z), HT8.out, HO8.out, by omega, HB8.out⟩, ?_⟩
      rw [HR8.out.left_eq, hll]; omega
  iterate 3 go_step
  refine wv hK rfl rfl rfl rfl (.tuple #[.bool false]) (by unfold execOp; simp only [hK.ev 16 rfl]; exact run_v hrun) fun a199 h198 => ?_
  refine wv h198 rfl rfl rfl rfl (.bool false) (by unfold execOp; simp only [h198.ev 17 rfl]; exact rfl) fun a201 h200 => ?_
  have h202 := h200.subs (l' := [(18, _), (9, _), (16, _), (1, _), (2, _), (3, _), (0, _)]) rfl
  clear h200
  iterate 4 go_step
  refine wp_cond (t := false) (h202.ev 18 rfl) ?_
  simp only [Bool.false_eq_true, if_false]
  have h203 := h202.subs (l' := [(9, _), (16, _), (1, _), (2, _), (3, _), (0, _)]) rfl
  clear h202
  iterate 4 go_step
  have hfin := HGA.out.done hgok (fun k hk => hl _ ⟨hk, hwi⟩)
  go_step
  have hhs := HTW.out.lt; have hw1 := HBW.out.size
  iterate 2 go_step
  refine wmk h203 rfl rfl rfl rfl 9 rfl (fun _ => rfl) fun a205 h204 => ?_
  have hhs := HTW.out.lt
  refine wpk_call h204 (wanted_none rfl) rfl (by decide) (fr rfl) (fun args => callP_29 args _) rfl #[.slice la L.length lc] (by simp only [List.map_toArray, List.map_cons, List.map_nil, h204.ev 44 rfl]) (R := fun v' w' => v' = .tuple #[] ∧ OwnI w' B1 la lc (sortI L) ∧ Turns (fun k => some k = la.map (·.block)) aw w' ∧ Below B1 aw w') ((sortI_any la lc L aw B1 HO.out hB (by omega)).mono fun e w' q => ⟨_, q.1, rfl, q.2⟩) fun a207 vs ws rs h206 => ?_
  obtain ⟨rfl, os_, _, bs⟩ := rs; have hlen : L.length = (agL g c i false).length := (by rw [← hfin, sortI_len]); rw [hfin] at os_; have HOS := hid os_; have tS : Turns (fun k => B1 ≤ k) aw ws := ⟨bs.os, bs.tape, bs.output, bs.size, fun k hk hn => bs.block k (by omega)⟩; have HTS := hid (HTW.out.turns tS (by omega) (by omega) (by omega)); have HBS := hid (HBW.out.trans (tS.below HBW.out.size (fun k (hk : B1 ≤ k) => by omega)))
  have h208 := h206.subs (l' := [(9, _), (16, _), (1, _), (2, _), (3, _), (0, _)]) rfl
  clear h206
  iterate 5 go_step
  refine wmk h208 rfl rfl rfl rfl 9 rfl (fun _ => rfl) fun a210 h209 => ?_
  refine wmk h209 rfl rfl rfl rfl 46 rfl (fun _ => rfl) fun a212 h211 => ?_
  have h213 := h211.subs (l' := [(8, _), (9, _), (16, _), (1, _), (2, _), (3, _), (0, _)]) rfl
  clear h211
  iterate 4 go_step
  rw [hlen] at h213
  exact bodyPost_ret (results_tmp1 rfl (h213.known (8, .slice la (agL g c i false).length lc) (by simp))) h213.defs ⟨la, lc, rfl, own_weak HOS.out (by omega), HTS.out, HBS.out⟩
end Go.Proofs.Ytpalgffmdinfpaa
end
section
namespace Go.Proofs.Ytpalgffmdinfpaa
open Go.RowKit
set_option linter.unusedSimpArgs false
set_option linter.unusedVariables false
set_option maxRecDepth 100000

theorem give_any {w : World} {tg gm wm n m : Nat} {g : GrF} {wt : WtF} (h : TabP w tg gm wm n m g wt) {c i : Int} (hk : wfK (c, i)) :
    Calls Try.prog 21 #[.pointer (some ⟨tg, 0, none⟩), .int .i64 c, .int .i64 i] w fun e w' => e = .returned (.int .i64 (if (g (c, i)).isSome then 0 else 10)) ∧ TabP w' tg gm wm n m (updG g (c, i) none) wt ∧ Turns (fun k => k = gm) w w' := by
  cases hg : g (c, i) with
  | none =>
    have z := give_none h hk hg
    rw [hg] at z
    exact z
  | some a =>
    have z := give_some h hk ⟨a.1, a.2, hg⟩
    rw [hg] at z
    exact z
theorem tab_new (w : World) : TabP (((w.alloc (.map #[] 0)).alloc (.map #[] 0)).alloc (.cells #[.map (some w.heap.size), .map (some (w.heap.size + 1))] 54)) (w.heap.size + 2) w.heap.size (w.heap.size + 1) 0 0 (fun _ => none) (fun _ => none) := by
  have e1 : (w.alloc (.map #[] 0)).heap.size = w.heap.size + 1 := by simp
  have e2 : ((w.alloc (.map #[] 0)).alloc (.map #[] 0)).heap.size = w.heap.size + 2 := by simp
  have b2 : Below (w.alloc (.map #[] 0)).heap.size (w.alloc (.map #[] 0)) ((w.alloc (.map #[] 0)).alloc (.map #[] 0)) := albO _ _
  have b3 := albO ((w.alloc (.map #[] 0)).alloc (.map #[] 0)) (.cells #[.map (some w.heap.size), .map (some (w.heap.size + 1))] 54)
  refine ⟨?_, ?_, ?_, by omega⟩
  · exact blk_newO e2 54 (tabC w.heap.size (w.heap.size + 1))
  · exact ((MapG.new (K := KG) w).mono b2).mono b3
  · have z := MapG.new (K := KW) (w.alloc (.map #[] 0))
    rw [e1] at z
    exact z.mono b3
theorem buildTL (x y : Nat) (w : World) : (Instr.build 54 #[(0, .map (some x)), (1, .map (some y))]).run Try.prog w = .ok (.agg (tabC x y).toArray) w := by
  have u3 := Try.underlying54
  have z3 := Try.sizeOf54
  unfold tabC
  go_simp
theorem boxTL (x y : Nat) (w : World) {k : Nat} (hk : w.heap.size = k) : (do let a ← Instr.box 54 (.agg (tabC x y).toArray); pure (Next.value a) : Sem Next).run Try.prog w = .ok (.value (.pointer (some ⟨k, 0, none⟩))) (w.alloc (.cells #[.map (some x), .map (some y)] 54)) := by
  subst hk
  rfl
theorem newT_any (w : World) : Calls Try.prog 8 #[] w fun e w' => ∃ tg gm wm, e = .returned (.pointer (some ⟨tg, 0, none⟩)) ∧ TabP w' tg gm wm 0 0 (fun _ => none) (fun _ => none) ∧ (w.heap.size ≤ tg ∧ w.heap.size ≤ gm ∧ w.heap.size ≤ wm) ∧ Below w.heap.size w w' := by
  have HN := hid (tab_new w)
  have hb : Below w.heap.size w (((w.alloc (.map #[] 0)).alloc (.map #[] 0)).alloc (.cells #[.map (some w.heap.size), .map (some (w.heap.size + 1))] 54)) := kept_alloc (kept_alloc (albO w _) _) _
  have HB := hid hb
  clear hb
  have z1 : (w.alloc (.map #[] 0)).heap.size = w.heap.size + 1 := by simp
  have z2 : ((w.alloc (.map #[] 0)).alloc (.map #[] 0)).heap.size = w.heap.size + 2 := by simp
  obtain ⟨k0, hk0⟩ : ∃ y, y = w.heap.size := ⟨_, rfl⟩
  go_enter Try.func8, Try.ntmps8
  iterate 3 go_step
  refine wpk_enter (N := 5) (l := []) ⟨rfl, (by intro x hx; cases hx), rfl⟩ fun a1 h1 => ?_
  refine wpk_val h1 (wanted_none rfl) rfl (by decide) (fr rfl) (.pointer none) rfl fun a2 h2 => ?_
  iterate 5 go_step
  refine wpk_val (h2.subs (l' := []) rfl) (wanted_none rfl) rfl (by decide) (fr rfl) (.map (some w.heap.size)) (by unfold execOp; exact run_v (run_makeMap _ _)) fun a3 h3 => ?_
  refine wpk_val h3 (wanted_none rfl) rfl (by decide) (fr rfl) (.map (some (w.heap.size + 1))) (by unfold execOp; exact run_v (by rw [← z1]; exact run_makeMap _ _)) fun a4 h4 => ?_
  refine wpk_val h4 (wanted_none rfl) rfl (by decide) (fr rfl) (.agg (tabC w.heap.size (w.heap.size + 1)).toArray) (by unfold execOp; simp only [List.map_toArray, List.map_cons, List.map_nil, h4.ev 1 rfl, h4.ev 2 rfl]; exact run_v (buildTL _ _ _)) fun a5 h5 => ?_
  refine wpk_val h5 (wanted_none rfl) rfl (by decide) (fr rfl) (.pointer (some ⟨w.heap.size + 2, 0, none⟩)) (by unfold execOp; simp only [h5.ev 3 rfl]; exact boxTL _ _ _ z2) fun a6 h6 => ?_
  refine wpk_val h6 (wanted_none rfl) rfl (by decide) (fr rfl) (.pointer (some ⟨w.heap.size + 2, 0, none⟩)) (by unfold execOp; simp only [h6.ev 4 rfl]; rfl) fun a7 h7 => ?_

  iterate 4 go_step
  exact bodyPost_ret (results_tmp1 rfl (h7.known (0, .pointer (some ⟨w.heap.size + 2, 0, none⟩)) (by simp))) h7.defs ⟨w.heap.size + 2, w.heap.size, w.heap.size + 1, rfl, HN.out, by omega, HB.out⟩
end Go.Proofs.Ytpalgffmdinfpaa
end
section
namespace Go.Proofs.Ytpalgffmdinfpaa
open Go.RowKit
set_option linter.unusedSimpArgs false
set_option linter.unusedVariables false
set_option maxRecDepth 100000

theorem against_any {w : World} {tg gm wm n m : Nat} {g : GrF} {wt : WtF} (h : TabP w tg gm wm n m g wt) (hgok : GrOk g) (c i : Int) (own : Bool) (hwi : (Lit.int .i64 i).wf = true) :
    Calls Try.prog 31 #[.pointer (some ⟨tg, 0, none⟩), .int .i64 c, .int .i64 i, .bool own] w fun e w' => ∃ la lc, e = .returned (.slice la (agL g c i own).length lc) ∧ OwnI w' w.heap.size la lc (agL g c i own) ∧ TabP w' tg gm wm n m g wt ∧ Below w.heap.size w w' := by
  cases own
  · exact against_f h hgok c i hwi
  · exact against_t h hgok c i hwi
theorem buildWL (c i : Int) (w : World) : (Instr.build 70 #[(0, .int .i64 c), (1, .int .i64 i)]).run Try.prog w = .ok (.agg (kC c i).toArray) w := by
  have u3 := Try.underlying70
  have z3 := Try.sizeOf70
  unfold kC
  go_simp
theorem buildGL (o : Bool) (u : Int) (w : World) : (Instr.build 62 #[(0, .bool o), (1, .int .i64 u)]).run Try.prog w = .ok (.agg (gC o u).toArray) w := by
  have u3 := Try.underlying62
  have z3 := Try.sizeOf62
  unfold gC
  go_simp
theorem lookWL {w : World} {wm m : Nat} {wt : WtF} (h : MapG KW w wm m wt) {i : Int} (hk : (Lit.int .i64 i).wf = true) {a b : Int} (hg : wt i = some (a, b)) : (Instr.lookup 52 (.map (some wm)) (.int .i64 i) true).run Try.prog w = .ok (.tuple #[.agg (kC a b).toArray, .bool true]) w := by
  have z := h.look (K := KW) (i := i) hk
  rw [hg] at z
  exact z
theorem lookWN {w : World} {wm m : Nat} {wt : WtF} (h : MapG KW w wm m wt) {i : Int} (hk : (Lit.int .i64 i).wf = true) (hg : wt i = none) : (Instr.lookup 52 (.map (some wm)) (.int .i64 i) true).run Try.prog w = .ok (.tuple #[.agg (kC 0 0).toArray, .bool false]) w := by
  have z := h.look (K := KW) (i := i) hk
  rw [hg] at z
  exact z
theorem storeWL {w : World} {wm m : Nat} {wt : WtF} (h : MapG KW w wm m wt) (hm : m < 1000000) {i : Int} (hk : (Lit.int .i64 i).wf = true) (a b : Int) :
    ∃ w', (Instr.mapUpdate 52 (.map (some wm)) (.int .i64 i) (.agg (kC a b).toArray)).run Try.prog w = .ok () w' ∧ MapG KW w' wm (m + 1) (updG wt i (some (a, b))) ∧ Turns (fun k => k = wm) w w' :=
  h.store (K := KW) (by unfold maxLen; omega) (i := i) hk (a, b)
theorem storeGL {w : World} {gm n : Nat} {g : GrF} (h : MapG KG w gm n g) (hn : n < 1000000) {c i : Int} (hk : wfK (c, i)) (o : Bool) (u : Int) :
    ∃ w', (Instr.mapUpdate 51 (.map (some gm)) (.agg (kC c i).toArray) (.agg (gC o u).toArray)).run Try.prog w = .ok () w' ∧ MapG KG w' gm (n + 1) (updG g (c, i) (some (o, u))) ∧ Turns (fun k => k = gm) w w' :=
  h.store (K := KG) (by unfold maxLen; omega) (i := (c, i)) hk (o, u)
/-- a wait is deleted -/
theorem wpk_dropWL {ops : Array Oper} {Q : Exit → Act → World → Prop} {rest : List Oper} {oi : Oper} {a : Act} {w : World} {N : Nat} {l : List (Nat × Value)} {wm m : Nat} {g : WtF} (h : Kn N l a) (hw : oi.guard = none) (hd : oi.dst = none) (hm : MapG KW w wm m g) {i : Int} (hk : (Lit.int .i64 i).wf = true) {x y : Operand} (ho : oi.op = .call { callee := .builtin .delete, args := #[x, y], argTypes := #[52, 3] }) (hx : a.eval x = .map (some wm)) (hy : a.eval y = .int .i64 i)
    (k : ∀ a' w', Kn N l a' → MapG KW w' wm m (updG g i none) → Turns (fun k => k = wm) w w' → wpList Try.prog ops Q rest a' w') : wpList Try.prog ops Q (oi :: rest) a w := by
  obtain ⟨w', hrun, q, t⟩ := hm.drop (K := KW) (i := i) hk oi.type
  have hrun' : (Builtin.delete_ #[52, 3] oi.type #[.map (some wm), .int .i64 i]).run Try.prog w = .ok (.tuple #[]) w' := hrun
  refine wpList_step fun K hK => ?_
  rw [if_pos (wanted_none hw)]
  refine op_gone h hd (v := .tuple #[]) ?_ fun a' h' => hK a' w' (k a' w' h' q t)
  unfold execOp
  rw [ho]
  simp [resolve, invoke, builtin, hx, hy, hrun', Result.andThen]
theorem run_lenIL {o : Oper} {x : Operand} (ho : o.op = .call { callee := .builtin .len, args := #[x], argTypes := #[38] }) {ρ : Operand → Value} {a : Option Addr} {n c : Nat} (hx : ρ x = .slice a n c) (w : World) : (execOp ρ o).run Try.prog w = .ok (.value (.int .i64 (n : Int))) w := by
  unfold execOp; rw [ho]
  have u3 := Try.underlying38
  simp [resolve, invoke, builtin, hx]
  go_simp
/-- does another client wait? -/
def askO (wt : WtF) (now c i : Int) : Bool := match wt i with | some a => decide (a.1 ≠ c) && decide (now < a.2) | none => false
def askOk (now c i : Int) : Prop := (0 ≤ now ∧ now ≤ 1099511627776) ∧ (1 ≤ c ∧ c ≤ 8) ∧ (1 ≤ i ∧ i ≤ 32)
/-- a wait of one's own ends -/
def ownW (wt : WtF) (c i : Int) : WtF := match wt i with | some a => if a.1 = c then updG wt i none else wt | none => wt
def i64W (wt : WtF) : Prop := ∀ i a, wt i = some a → (Lit.int .i64 a.1).wf = true ∧ (Lit.int .i64 a.2).wf = true
end Go.Proofs.Ytpalgffmdinfpaa
end
section
namespace Go.Proofs.Ytpalgffmdinfpaa
open Go.RowKit
set_option linter.unusedSimpArgs false
set_option linter.unusedVariables false
set_option maxRecDepth 100000
theorem callP_31 (args : Array Value) (w : World) : (callFunc 31 args).run Try.prog w = .ok (.enter 31 args) w := by
  have h := Try.func31
  go_simp
theorem fa_70_0_1 (g : Nat) (w : World) : (Instr.fieldAt 70 (.pointer (some ⟨g, 0, none⟩)) 1).run Try.prog w = .ok (.pointer (some ⟨g, 1, none⟩)) w := rfl

set_option maxHeartbeats 4000000 in
theorem ask_bad {w : World} {tg gm wm n m : Nat} {g : GrF} {wt : WtF} (h : TabP w tg gm wm n m g wt) (hgok : GrOk g) (hn : n < 1000000) (hm : m < 1000000) {now c i : Int} (own : Bool) (hb : ¬ askOk now c i) :
    Calls Try.prog 17 #[.pointer (some ⟨tg, 0, none⟩), .int .i64 now, .int .i64 c, .int .i64 i, .bool own] w fun e w' => e = .returned (.tuple #[.slice none 0 0, .int .i64 1]) ∧ w = w' := by
  by_cases b0 : now < 0
  case pos =>
    have HT := hid h; clear h
    go_enter Try.func17, Try.ntmps17
    iterate 3 go_step
    refine wpk_enter (N := 104) (l := [(0, .pointer (some ⟨tg, 0, none⟩)), (1, .int .i64 now), (2, .int .i64 c), (3, .int .i64 i), (4, .bool own)]) ⟨rfl, (by intro x hx; simp only [List.mem_cons, List.not_mem_nil, or_false] at hx; rcases hx with rfl | rfl | rfl | rfl | rfl <;> rfl), rfl⟩ fun a2 h1 => ?_
    refine wv h1 rfl rfl rfl rfl (.slice none 0 0) rfl fun a4 h3 => ?_
    refine wv h3 rfl rfl rfl rfl (.int .i64 0) rfl fun a6 h5 => ?_
    iterate 6 go_step
    refine wmk h5 rfl rfl rfl rfl 1 rfl (fun _ => rfl) fun a8 h7 => ?_
    refine wv h7 rfl rfl rfl rfl (.bool true) (by unfold execOp; simp only [h7.ev 16 rfl]; exact run_v (ltIP _ _ _ _ _ (decide_eq_true (by omega)))) fun a10 h9 => ?_
    refine wmk h9 rfl rfl rfl rfl 17 rfl (fun _ => rfl) fun a12 h11 => ?_
    refine wpk_skip h11 (by rw [wanted_of (g := 2) (want := false) (b := true) rfl (h11.yields (prev := 18) rfl (by simp))]; rfl) rfl (by decide) (fr rfl) fun a14 h13 => ?_
    refine wpk_skip h13 (by rw [wanted_of (g := 2) (want := false) (b := true) rfl (h13.yields (prev := 18) rfl (by simp))]; rfl) rfl (by decide) (fr rfl) fun a16 h15 => ?_
    refine wv h15 rfl rfl rfl rfl (.bool true) (run_pick rfl (h15.ev 18 rfl) rfl) fun a18 h17 => ?_
    refine wmk h17 rfl rfl rfl rfl 21 rfl (fun _ => rfl) fun a20 h19 => ?_
    refine wpk_skip h19 (by rw [wanted_of (g := 6) (want := false) (b := true) rfl (h19.yields (prev := 22) rfl (by simp))]; rfl) rfl (by decide) (fr rfl) fun a22 h21 => ?_
    refine wpk_skip h21 (by rw [wanted_of (g := 6) (want := false) (b := true) rfl (h21.yields (prev := 22) rfl (by simp))]; rfl) rfl (by decide) (fr rfl) fun a24 h23 => ?_
    refine wv h23 rfl rfl rfl rfl (.bool true) (run_pick rfl (h23.ev 22 rfl) rfl) fun a26 h25 => ?_
    refine wmk h25 rfl rfl rfl rfl 25 rfl (fun _ => rfl) fun a28 h27 => ?_
    refine wpk_skip h27 (by rw [wanted_of (g := 10) (want := false) (b := true) rfl (h27.yields (prev := 26) rfl (by simp))]; rfl) rfl (by decide) (fr rfl) fun a30 h29 => ?_
    refine wpk_skip h29 (by rw [wanted_of (g := 10) (want := false) (b := true) rfl (h29.yields (prev := 26) rfl (by simp))]; rfl) rfl (by decide) (fr rfl) fun a32 h31 => ?_
    refine wv h31 rfl rfl rfl rfl (.bool true) (run_pick rfl (h31.ev 26 rfl) rfl) fun a34 h33 => ?_
    refine wmk h33 rfl rfl rfl rfl 29 rfl (fun _ => rfl) fun a36 h35 => ?_
    refine wpk_skip h35 (by rw [wanted_of (g := 14) (want := false) (b := true) rfl (h35.yields (prev := 30) rfl (by simp))]; rfl) rfl (by decide) (fr rfl) fun a38 h37 => ?_
    refine wpk_skip h37 (by rw [wanted_of (g := 14) (want := false) (b := true) rfl (h37.yields (prev := 30) rfl (by simp))]; rfl) rfl (by decide) (fr rfl) fun a40 h39 => ?_
    refine wv h39 rfl rfl rfl rfl (.bool true) (run_pick rfl (h39.ev 30 rfl) rfl) fun a42 h41 => ?_
    refine wmk h41 rfl rfl rfl rfl 33 rfl (fun _ => rfl) fun a44 h43 => ?_
    refine wpk_skip h43 (by rw [wanted_of (g := 18) (want := false) (b := true) rfl (h43.yields (prev := 34) rfl (by simp))]; rfl) rfl (by decide) (fr rfl) fun a46 h45 => ?_
    refine wpk_skip h45 (by rw [wanted_of (g := 18) (want := false) (b := true) rfl (h45.yields (prev := 34) rfl (by simp))]; rfl) rfl (by decide) (fr rfl) fun a48 h47 => ?_
    refine wv h47 rfl rfl rfl rfl (.bool true) (run_pick rfl (h47.ev 34 rfl) rfl) fun a50 h49 => ?_
    have h51 := h49.subs (l' := [(37, _), (11, _), (10, _), (0, _), (1, _), (2, _), (3, _), (4, _)]) rfl
    clear h49
    iterate 3 go_step
    refine wp_cond (t := true) (h51.ev 37 rfl) ?_
    simp only [if_true]
    have h52 := h51.subs (l' := [(11, _), (10, _), (0, _), (1, _), (2, _), (3, _), (4, _)]) rfl
    clear h51
    iterate 2 go_step
    have h53 := h52.subs (l' := [(11, _), (0, _), (1, _), (2, _), (3, _), (4, _)]) rfl
    clear h52
    refine wv h53 rfl rfl rfl rfl (.slice none 0 0) rfl fun a55 h54 => ?_
    have h56 := h54.subs (l' := [(10, _), (0, _), (1, _), (2, _), (3, _), (4, _)]) rfl
    clear h54
    refine wv h56 rfl rfl rfl rfl (.int .i64 1) rfl fun a58 h57 => ?_
    iterate 4 go_step
    simp only [Exit.then, Exit.inBlock]
    exact bodyPost_ret (results_tmp2 rfl (h57.known (10, .slice none 0 0) (by simp)) (h57.known (11, .int .i64 1) (by simp))) h57.defs ⟨rfl, rfl⟩
  by_cases b1 : 1099511627776 < now
  case pos =>
    have HT := hid h; clear h
    go_enter Try.func17, Try.ntmps17
    iterate 3 go_step
    refine wpk_enter (N := 104) (l := [(0, .pointer (some ⟨tg, 0, none⟩)), (1, .int .i64 now), (2, .int .i64 c), (3, .int .i64 i), (4, .bool own)]) ⟨rfl, (by intro x hx; simp only [List.mem_cons, List.not_mem_nil, or_false] at hx; rcases hx with rfl | rfl | rfl | rfl | rfl <;> rfl), rfl⟩ fun a2 h1 => ?_
    refine wv h1 rfl rfl rfl rfl (.slice none 0 0) rfl fun a4 h3 => ?_
    refine wv h3 rfl rfl rfl rfl (.int .i64 0) rfl fun a6 h5 => ?_
    iterate 6 go_step
    refine wmk h5 rfl rfl rfl rfl 1 rfl (fun _ => rfl) fun a8 h7 => ?_
    refine wv h7 rfl rfl rfl rfl (.bool false) (by unfold execOp; simp only [h7.ev 16 rfl]; exact run_v (ltIP _ _ _ _ _ (decide_eq_false (by omega)))) fun a10 h9 => ?_
    refine wmk h9 rfl rfl rfl rfl 17 rfl (fun _ => rfl) fun a12 h11 => ?_
    refine wpk_val h11 (by rw [wanted_of (g := 2) (want := false) (b := false) rfl (h11.yields (prev := 18) rfl (by simp))]; rfl) rfl (by decide) (fr rfl) (.int .i64 now) (by unfold execOp; simp only [h11.ev 1 rfl]; rfl) fun a14 h13 => ?_
    refine wpk_val h13 (by rw [wanted_of (g := 2) (want := false) (b := false) rfl (h13.yields (prev := 18) rfl (by simp))]; rfl) rfl (by decide) (fr rfl) (.bool true) (by unfold execOp; simp only [h13.ev 19 rfl]; exact run_v (gtIP _ _ _ _ _ (decide_eq_true (by omega)))) fun a16 h15 => ?_
    refine wv h15 rfl rfl rfl rfl (.bool true) (run_pick rfl (h15.ev 18 rfl) (by rw [if_neg (by simp)]; exact h15.ev 20 rfl)) fun a18 h17 => ?_
    refine wmk h17 rfl rfl rfl rfl 21 rfl (fun _ => rfl) fun a20 h19 => ?_
    refine wpk_skip h19 (by rw [wanted_of (g := 6) (want := false) (b := true) rfl (h19.yields (prev := 22) rfl (by simp))]; rfl) rfl (by decide) (fr rfl) fun a22 h21 => ?_
    refine wpk_skip h21 (by rw [wanted_of (g := 6) (want := false) (b := true) rfl (h21.yields (prev := 22) rfl (by simp))]; rfl) rfl (by decide) (fr rfl) fun a24 h23 => ?_
    refine wv h23 rfl rfl rfl rfl (.bool true) (run_pick rfl (h23.ev 22 rfl) rfl) fun a26 h25 => ?_
    refine wmk h25 rfl rfl rfl rfl 25 rfl (fun _ => rfl) fun a28 h27 => ?_
    refine wpk_skip h27 (by rw [wanted_of (g := 10) (want := false) (b := true) rfl (h27.yields (prev := 26) rfl (by simp))]; rfl) rfl (by decide) (fr rfl) fun a30 h29 => ?_
    refine wpk_skip h29 (by rw [wanted_of (g := 10) (want := false) (b := true) rfl (h29.yields (prev := 26) rfl (by simp))]; rfl) rfl (by decide) (fr rfl) fun a32 h31 => ?_
    refine wv h31 rfl rfl rfl rfl (.bool true) (run_pick rfl (h31.ev 26 rfl) rfl) fun a34 h33 => ?_
    refine wmk h33 rfl rfl rfl rfl 29 rfl (fun _ => rfl) fun a36 h35 => ?_
    refine wpk_skip h35 (by rw [wanted_of (g := 14) (want := false) (b := true) rfl (h35.yields (prev := 30) rfl (by simp))]; rfl) rfl (by decide) (fr rfl) fun a38 h37 => ?_
    refine wpk_skip h37 (by rw [wanted_of (g := 14) (want := false) (b := true) rfl (h37.yields (prev := 30) rfl (by simp))]; rfl) rfl (by decide) (fr rfl) fun a40 h39 => ?_
    refine wv h39 rfl rfl rfl rfl (.bool true) (run_pick rfl (h39.ev 30 rfl) rfl) fun a42 h41 => ?_
    refine wmk h41 rfl rfl rfl rfl 33 rfl (fun _ => rfl) fun a44 h43 => ?_
    refine wpk_skip h43 (by rw [wanted_of (g := 18) (want := false) (b := true) rfl (h43.yields (prev := 34) rfl (by simp))]; rfl) rfl (by decide) (fr rfl) fun a46 h45 => ?_
    refine wpk_skip h45 (by rw [wanted_of (g := 18) (want := false) (b := true) rfl (h45.yields (prev := 34) rfl (by simp))]; rfl) rfl (by decide) (fr rfl) fun a48 h47 => ?_
    refine wv h47 rfl rfl rfl rfl (.bool true) (run_pick rfl (h47.ev 34 rfl) rfl) fun a50 h49 => ?_
    have h51 := h49.subs (l' := [(37, _), (11, _), (10, _), (0, _), (1, _), (2, _), (3, _), (4, _)]) rfl
    clear h49
    iterate 3 go_step
    refine wp_cond (t := true) (h51.ev 37 rfl) ?_
    simp only [if_true]
    have h52 := h51.subs (l' := [(11, _), (10, _), (0, _), (1, _), (2, _), (3, _), (4, _)]) rfl
    clear h51
    iterate 2 go_step
    have h53 := h52.subs (l' := [(11, _), (0, _), (1, _), (2, _), (3, _), (4, _)]) rfl
    clear h52
    refine wv h53 rfl rfl rfl rfl (.slice none 0 0) rfl fun a55 h54 => ?_
    have h56 := h54.subs (l' := [(10, _), (0, _), (1, _), (2, _), (3, _), (4, _)]) rfl
    clear h54
    refine wv h56 rfl rfl rfl rfl (.int .i64 1) rfl fun a58 h57 => ?_
    iterate 4 go_step
    simp only [Exit.then, Exit.inBlock]
    exact bodyPost_ret (results_tmp2 rfl (h57.known (10, .slice none 0 0) (by simp)) (h57.known (11, .int .i64 1) (by simp))) h57.defs ⟨rfl, rfl⟩
  by_cases b2 : c < 1
  case pos =>
    have HT := hid h; clear h
    go_enter Try.func17, Try.ntmps17
    iterate 3 go_step
    refine wpk_enter (N := 104) (l := [(0, .pointer (some ⟨tg, 0, none⟩)), (1, .int .i64 now), (2, .int .i64 c), (3, .int .i64 i), (4, .bool own)]) ⟨rfl, (by intro x hx; simp only [List.mem_cons, List.not_mem_nil, or_false] at hx; rcases hx with rfl | rfl | rfl | rfl | rfl <;> rfl), rfl⟩ fun a2 h1 => ?_
    refine wv h1 rfl rfl rfl rfl (.slice none 0 0) rfl fun a4 h3 => ?_
    refine wv h3 rfl rfl rfl rfl (.int .i64 0) rfl fun a6 h5 => ?_
    iterate 6 go_step
    refine wmk h5 rfl rfl rfl rfl 1 rfl (fun _ => rfl) fun a8 h7 => ?_
    refine wv h7 rfl rfl rfl rfl (.bool false) (by unfold execOp; simp only [h7.ev 16 rfl]; exact run_v (ltIP _ _ _ _ _ (decide_eq_false (by omega)))) fun a10 h9 => ?_
    refine wmk h9 rfl rfl rfl rfl 17 rfl (fun _ => rfl) fun a12 h11 => ?_
    refine wpk_val h11 (by rw [wanted_of (g := 2) (want := false) (b := false) rfl (h11.yields (prev := 18) rfl (by simp))]; rfl) rfl (by decide) (fr rfl) (.int .i64 now) (by unfold execOp; simp only [h11.ev 1 rfl]; rfl) fun a14 h13 => ?_
    refine wpk_val h13 (by rw [wanted_of (g := 2) (want := false) (b := false) rfl (h13.yields (prev := 18) rfl (by simp))]; rfl) rfl (by decide) (fr rfl) (.bool false) (by unfold execOp; simp only [h13.ev 19 rfl]; exact run_v (gtIP _ _ _ _ _ (decide_eq_false (by omega)))) fun a16 h15 => ?_
    refine wv h15 rfl rfl rfl rfl (.bool false) (run_pick rfl (h15.ev 18 rfl) (by rw [if_neg (by simp)]; exact h15.ev 20 rfl)) fun a18 h17 => ?_
    refine wmk h17 rfl rfl rfl rfl 21 rfl (fun _ => rfl) fun a20 h19 => ?_
    refine wpk_val h19 (by rw [wanted_of (g := 6) (want := false) (b := false) rfl (h19.yields (prev := 22) rfl (by simp))]; rfl) rfl (by decide) (fr rfl) (.int .i64 c) (by unfold execOp; simp only [h19.ev 2 rfl]; rfl) fun a22 h21 => ?_
    refine wpk_val h21 (by rw [wanted_of (g := 6) (want := false) (b := false) rfl (h21.yields (prev := 22) rfl (by simp))]; rfl) rfl (by decide) (fr rfl) (.bool true) (by unfold execOp; simp only [h21.ev 23 rfl]; exact run_v (ltIP _ _ _ _ _ (decide_eq_true (by omega)))) fun a24 h23 => ?_
    refine wv h23 rfl rfl rfl rfl (.bool true) (run_pick rfl (h23.ev 22 rfl) (by rw [if_neg (by simp)]; exact h23.ev 24 rfl)) fun a26 h25 => ?_
    refine wmk h25 rfl rfl rfl rfl 25 rfl (fun _ => rfl) fun a28 h27 => ?_
    refine wpk_skip h27 (by rw [wanted_of (g := 10) (want := false) (b := true) rfl (h27.yields (prev := 26) rfl (by simp))]; rfl) rfl (by decide) (fr rfl) fun a30 h29 => ?_
    refine wpk_skip h29 (by rw [wanted_of (g := 10) (want := false) (b := true) rfl (h29.yields (prev := 26) rfl (by simp))]; rfl) rfl (by decide) (fr rfl) fun a32 h31 => ?_
    refine wv h31 rfl rfl rfl rfl (.bool true) (run_pick rfl (h31.ev 26 rfl) rfl) fun a34 h33 => ?_
    refine wmk h33 rfl rfl rfl rfl 29 rfl (fun _ => rfl) fun a36 h35 => ?_
    refine wpk_skip h35 (by rw [wanted_of (g := 14) (want := false) (b := true) rfl (h35.yields (prev := 30) rfl (by simp))]; rfl) rfl (by decide) (fr rfl) fun a38 h37 => ?_
    refine wpk_skip h37 (by rw [wanted_of (g := 14) (want := false) (b := true) rfl (h37.yields (prev := 30) rfl (by simp))]; rfl) rfl (by decide) (fr rfl) fun a40 h39 => ?_
    refine wv h39 rfl rfl rfl rfl (.bool true) (run_pick rfl (h39.ev 30 rfl) rfl) fun a42 h41 => ?_
    refine wmk h41 rfl rfl rfl rfl 33 rfl (fun _ => rfl) fun a44 h43 => ?_
    refine wpk_skip h43 (by rw [wanted_of (g := 18) (want := false) (b := true) rfl (h43.yields (prev := 34) rfl (by simp))]; rfl) rfl (by decide) (fr rfl) fun a46 h45 => ?_
    refine wpk_skip h45 (by rw [wanted_of (g := 18) (want := false) (b := true) rfl (h45.yields (prev := 34) rfl (by simp))]; rfl) rfl (by decide) (fr rfl) fun a48 h47 => ?_
    refine wv h47 rfl rfl rfl rfl (.bool true) (run_pick rfl (h47.ev 34 rfl) rfl) fun a50 h49 => ?_
    have h51 := h49.subs (l' := [(37, _), (11, _), (10, _), (0, _), (1, _), (2, _), (3, _), (4, _)]) rfl
    clear h49
    iterate 3 go_step
    refine wp_cond (t := true) (h51.ev 37 rfl) ?_
    simp only [if_true]
    have h52 := h51.subs (l' := [(11, _), (10, _), (0, _), (1, _), (2, _), (3, _), (4, _)]) rfl
    clear h51
    iterate 2 go_step
    have h53 := h52.subs (l' := [(11, _), (0, _), (1, _), (2, _), (3, _), (4, _)]) rfl
    clear h52
    refine wv h53 rfl rfl rfl rfl (.slice none 0 0) rfl fun a55 h54 => ?_
    have h56 := h54.subs (l' := [(10, _), (0, _), (1, _), (2, _), (3, _), (4, _)]) rfl
    clear h54
    refine wv h56 rfl rfl rfl rfl (.int .i64 1) rfl fun a58 h57 => ?_
    iterate 4 go_step
    simp only [Exit.then, Exit.inBlock]
    exact bodyPost_ret (results_tmp2 rfl (h57.known (10, .slice none 0 0) (by simp)) (h57.known (11, .int .i64 1) (by simp))) h57.defs ⟨rfl, rfl⟩
  by_cases b3 : 8 < c
  case pos =>
    have HT := hid h; clear h
    go_enter Try.func17, Try.ntmps17
    iterate 3 go_step
    refine wpk_enter (N := 104) (l := [(0, .pointer (some ⟨tg, 0, none⟩)), (1, .int .i64 now), (2, .int .i64 c), (3, .int .i64 i), (4, .bool own)]) ⟨rfl, (by intro x hx; simp only [List.mem_cons, List.not_mem_nil, or_false] at hx; rcases hx with rfl | rfl | rfl | rfl | rfl <;> rfl), rfl⟩ fun a2 h1 => ?_
    refine wv h1 rfl rfl rfl rfl (.slice none 0 0) rfl fun a4 h3 => ?_
    refine wv h3 rfl rfl rfl rfl (.int .i64 0) rfl fun a6 h5 => ?_
    iterate 6 go_step
    refine wmk h5 rfl rfl rfl rfl 1 rfl (fun _ => rfl) fun a8 h7 => ?_
    refine wv h7 rfl rfl rfl rfl (.bool false) (by unfold execOp; simp only [h7.ev 16 rfl]; exact run_v (ltIP _ _ _ _ _ (decide_eq_false (by omega)))) fun a10 h9 => ?_
    refine wmk h9 rfl rfl rfl rfl 17 rfl (fun _ => rfl) fun a12 h11 => ?_
    refine wpk_val h11 (by rw [wanted_of (g := 2) (want := false) (b := false) rfl (h11.yields (prev := 18) rfl (by simp))]; rfl) rfl (by decide) (fr rfl) (.int .i64 now) (by unfold execOp; simp only [h11.ev 1 rfl]; rfl) fun a14 h13 => ?_
    refine wpk_val h13 (by rw [wanted_of (g := 2) (want := false) (b := false) rfl (h13.yields (prev := 18) rfl (by simp))]; rfl) rfl (by decide) (fr rfl) (.bool false) (by unfold execOp; simp only [h13.ev 19 rfl]; exact run_v (gtIP _ _ _ _ _ (decide_eq_false (by omega)))) fun a16 h15 => ?_
    refine wv h15 rfl rfl rfl rfl (.bool false) (run_pick rfl (h15.ev 18 rfl) (by rw [if_neg (by simp)]; exact h15.ev 20 rfl)) fun a18 h17 => ?_
    refine wmk h17 rfl rfl rfl rfl 21 rfl (fun _ => rfl) fun a20 h19 => ?_
    refine wpk_val h19 (by rw [wanted_of (g := 6) (want := false) (b := false) rfl (h19.yields (prev := 22) rfl (by simp))]; rfl) rfl (by decide) (fr rfl) (.int .i64 c) (by unfold execOp; simp only [h19.ev 2 rfl]; rfl) fun a22 h21 => ?_
    refine wpk_val h21 (by rw [wanted_of (g := 6) (want := false) (b := false) rfl (h21.yields (prev := 22) rfl (by simp))]; rfl) rfl (by decide) (fr rfl) (.bool false) (by unfold execOp; simp only [h21.ev 23 rfl]; exact run_v (ltIP _ _ _ _ _ (decide_eq_false (by omega)))) fun a24 h23 => ?_
    refine wv h23 rfl rfl rfl rfl (.bool false) (run_pick rfl (h23.ev 22 rfl) (by rw [if_neg (by simp)]; exact h23.ev 24 rfl)) fun a26 h25 => ?_
    refine wmk h25 rfl rfl rfl rfl 25 rfl (fun _ => rfl) fun a28 h27 => ?_
    refine wpk_val h27 (by rw [wanted_of (g := 10) (want := false) (b := false) rfl (h27.yields (prev := 26) rfl (by simp))]; rfl) rfl (by decide) (fr rfl) (.int .i64 c) (by unfold execOp; simp only [h27.ev 2 rfl]; rfl) fun a30 h29 => ?_
    refine wpk_val h29 (by rw [wanted_of (g := 10) (want := false) (b := false) rfl (h29.yields (prev := 26) rfl (by simp))]; rfl) rfl (by decide) (fr rfl) (.bool true) (by unfold execOp; simp only [h29.ev 27 rfl]; exact run_v (gtIP _ _ _ _ _ (decide_eq_true (by omega)))) fun a32 h31 => ?_
    refine wv h31 rfl rfl rfl rfl (.bool true) (run_pick rfl (h31.ev 26 rfl) (by rw [if_neg (by simp)]; exact h31.ev 28 rfl)) fun a34 h33 => ?_
    refine wmk h33 rfl rfl rfl rfl 29 rfl (fun _ => rfl) fun a36 h35 => ?_
    refine wpk_skip h35 (by rw [wanted_of (g := 14) (want := false) (b := true) rfl (h35.yields (prev := 30) rfl (by simp))]; rfl) rfl (by decide) (fr rfl) fun a38 h37 => ?_
    refine wpk_skip h37 (by rw [wanted_of (g := 14) (want := false) (b := true) rfl (h37.yields (prev := 30) rfl (by simp))]; rfl) rfl (by decide) (fr rfl) fun a40 h39 => ?_
    refine wv h39 rfl rfl rfl rfl (.bool true) (run_pick rfl (h39.ev 30 rfl) rfl) fun a42 h41 => ?_
    refine wmk h41 rfl rfl rfl rfl 33 rfl (fun _ => rfl) fun a44 h43 => ?_
    refine wpk_skip h43 (by rw [wanted_of (g := 18) (want := false) (b := true) rfl (h43.yields (prev := 34) rfl (by simp))]; rfl) rfl (by decide) (fr rfl) fun a46 h45 => ?_
    refine wpk_skip h45 (by rw [wanted_of (g := 18) (want := false) (b := true) rfl (h45.yields (prev := 34) rfl (by simp))]; rfl) rfl (by decide) (fr rfl) fun a48 h47 => ?_
    refine wv h47 rfl rfl rfl rfl (.bool true) (run_pick rfl (h47.ev 34 rfl) rfl) fun a50 h49 => ?_
    have h51 := h49.subs (l' := [(37, _), (11, _), (10, _), (0, _), (1, _), (2, _), (3, _), (4, _)]) rfl
    clear h49
    iterate 3 go_step
    refine wp_cond (t := true) (h51.ev 37 rfl) ?_
    simp only [if_true]
    have h52 := h51.subs (l' := [(11, _), (10, _), (0, _), (1, _), (2, _), (3, _), (4, _)]) rfl
    clear h51
    iterate 2 go_step
    have h53 := h52.subs (l' := [(11, _), (0, _), (1, _), (2, _), (3, _), (4, _)]) rfl
    clear h52
    refine wv h53 rfl rfl rfl rfl (.slice none 0 0) rfl fun a55 h54 => ?_
    have h56 := h54.subs (l' := [(10, _), (0, _), (1, _), (2, _), (3, _), (4, _)]) rfl
    clear h54
    refine wv h56 rfl rfl rfl rfl (.int .i64 1) rfl fun a58 h57 => ?_
    iterate 4 go_step
    simp only [Exit.then, Exit.inBlock]
    exact bodyPost_ret (results_tmp2 rfl (h57.known (10, .slice none 0 0) (by simp)) (h57.known (11, .int .i64 1) (by simp))) h57.defs ⟨rfl, rfl⟩
  by_cases b4 : i < 1
  case pos =>
    have HT := hid h; clear h
    go_enter Try.func17, Try.ntmps17
    iterate 3 go_step
    refine wpk_enter (N := 104) (l := [(0, .pointer (some ⟨tg, 0, none⟩)), (1, .int .i64 now), (2, .int .i64 c), (3, .int .i64 i), (4, .bool own)]) ⟨rfl, (by intro x hx; simp only [List.mem_cons, List.not_mem_nil, or_false] at hx; rcases hx with rfl | rfl | rfl | rfl | rfl <;> rfl), rfl⟩ fun a2 h1 => ?_
    refine wv h1 rfl rfl rfl rfl (.slice none 0 0) rfl fun a4 h3 => ?_
    refine wv h3 rfl rfl rfl rfl (.int .i64 0) rfl fun a6 h5 => ?_
    iterate 6 go_step
    refine wmk h5 rfl rfl rfl rfl 1 rfl (fun _ => rfl) fun a8 h7 => ?_
    refine wv h7 rfl rfl rfl rfl (.bool false) (by unfold execOp; simp only [h7.ev 16 rfl]; exact run_v (ltIP _ _ _ _ _ (decide_eq_false (by omega)))) fun a10 h9 => ?_
    refine wmk h9 rfl rfl rfl rfl 17 rfl (fun _ => rfl) fun a12 h11 => ?_
    refine wpk_val h11 (by rw [wanted_of (g := 2) (want := false) (b := false) rfl (h11.yields (prev := 18) rfl (by simp))]; rfl) rfl (by decide) (fr rfl) (.int .i64 now) (by unfold execOp; simp only [h11.ev 1 rfl]; rfl) fun a14 h13 => ?_
    refine wpk_val h13 (by rw [wanted_of (g := 2) (want := false) (b := false) rfl (h13.yields (prev := 18) rfl (by simp))]; rfl) rfl (by decide) (fr rfl) (.bool false) (by unfold execOp; simp only [h13.ev 19 rfl]; exact run_v (gtIP _ _ _ _ _ (decide_eq_false (by omega)))) fun a16 h15 => ?_
    refine wv h15 rfl rfl rfl rfl (.bool false) (run_pick rfl (h15.ev 18 rfl) (by rw [if_neg (by simp)]; exact h15.ev 20 rfl)) fun a18 h17 => ?_
    refine wmk h17 rfl rfl rfl rfl 21 rfl (fun _ => rfl) fun a20 h19 => ?_
    refine wpk_val h19 (by rw [wanted_of (g := 6) (want := false) (b := false) rfl (h19.yields (prev := 22) rfl (by simp))]; rfl) rfl (by decide) (fr rfl) (.int .i64 c) (by unfold execOp; simp only [h19.ev 2 rfl]; rfl) fun a22 h21 => ?_
    refine wpk_val h21 (by rw [wanted_of (g := 6) (want := false) (b := false) rfl (h21.yields (prev := 22) rfl (by simp))]; rfl) rfl (by decide) (fr rfl) (.bool false) (by unfold execOp; simp only [h21.ev 23 rfl]; exact run_v (ltIP _ _ _ _ _ (decide_eq_false (by omega)))) fun a24 h23 => ?_
    refine wv h23 rfl rfl rfl rfl (.bool false) (run_pick rfl (h23.ev 22 rfl) (by rw [if_neg (by simp)]; exact h23.ev 24 rfl)) fun a26 h25 => ?_
    refine wmk h25 rfl rfl rfl rfl 25 rfl (fun _ => rfl) fun a28 h27 => ?_
    refine wpk_val h27 (by rw [wanted_of (g := 10) (want := false) (b := false) rfl (h27.yields (prev := 26) rfl (by simp))]; rfl) rfl (by decide) (fr rfl) (.int .i64 c) (by unfold execOp; simp only [h27.ev 2 rfl]; rfl) fun a30 h29 => ?_
    refine wpk_val h29 (by rw [wanted_of (g := 10) (want := false) (b := false) rfl (h29.yields (prev := 26) rfl (by simp))]; rfl) rfl (by decide) (fr rfl) (.bool false) (by unfold execOp; simp only [h29.ev 27 rfl]; exact run_v (gtIP _ _ _ _ _ (decide_eq_false (by omega)))) fun a32 h31 => ?_
    refine wv h31 rfl rfl rfl rfl (.bool false) (run_pick rfl (h31.ev 26 rfl) (by rw [if_neg (by simp)]; exact h31.ev 28 rfl)) fun a34 h33 => ?_
    refine wmk h33 rfl rfl rfl rfl 29 rfl (fun _ => rfl) fun a36 h35 => ?_
    refine wpk_val h35 (by rw [wanted_of (g := 14) (want := false) (b := false) rfl (h35.yields (prev := 30) rfl (by simp))]; rfl) rfl (by decide) (fr rfl) (.int .i64 i) (by unfold execOp; simp only [h35.ev 3 rfl]; rfl) fun a38 h37 => ?_
    refine wpk_val h37 (by rw [wanted_of (g := 14) (want := false) (b := false) rfl (h37.yields (prev := 30) rfl (by simp))]; rfl) rfl (by decide) (fr rfl) (.bool true) (by unfold execOp; simp only [h37.ev 31 rfl]; exact run_v (ltIP _ _ _ _ _ (decide_eq_true (by omega)))) fun a40 h39 => ?_
    refine wv h39 rfl rfl rfl rfl (.bool true) (run_pick rfl (h39.ev 30 rfl) (by rw [if_neg (by simp)]; exact h39.ev 32 rfl)) fun a42 h41 => ?_
    refine wmk h41 rfl rfl rfl rfl 33 rfl (fun _ => rfl) fun a44 h43 => ?_
    refine wpk_skip h43 (by rw [wanted_of (g := 18) (want := false) (b := true) rfl (h43.yields (prev := 34) rfl (by simp))]; rfl) rfl (by decide) (fr rfl) fun a46 h45 => ?_
    refine wpk_skip h45 (by rw [wanted_of (g := 18) (want := false) (b := true) rfl (h45.yields (prev := 34) rfl (by simp))]; rfl) rfl (by decide) (fr rfl) fun a48 h47 => ?_
    refine wv h47 rfl rfl rfl rfl (.bool true) (run_pick rfl (h47.ev 34 rfl) rfl) fun a50 h49 => ?_
    have h51 := h49.subs (l' := [(37, _), (11, _), (10, _), (0, _), (1, _), (2, _), (3, _), (4, _)]) rfl
    clear h49
    iterate 3 go_step
    refine wp_cond (t := true) (h51.ev 37 rfl) ?_
    simp only [if_true]
    have h52 := h51.subs (l' := [(11, _), (10, _), (0, _), (1, _), (2, _), (3, _), (4, _)]) rfl
    clear h51
    iterate 2 go_step
    have h53 := h52.subs (l' := [(11, _), (0, _), (1, _), (2, _), (3, _), (4, _)]) rfl
    clear h52
    refine wv h53 rfl rfl rfl rfl (.slice none 0 0) rfl fun a55 h54 => ?_
    have h56 := h54.subs (l' := [(10, _), (0, _), (1, _), (2, _), (3, _), (4, _)]) rfl
    clear h54
    refine wv h56 rfl rfl rfl rfl (.int .i64 1) rfl fun a58 h57 => ?_
    iterate 4 go_step
    simp only [Exit.then, Exit.inBlock]
    exact bodyPost_ret (results_tmp2 rfl (h57.known (10, .slice none 0 0) (by simp)) (h57.known (11, .int .i64 1) (by simp))) h57.defs ⟨rfl, rfl⟩
  by_cases b5 : 32 < i
  case pos =>
    have HT := hid h; clear h
    go_enter Try.func17, Try.ntmps17
    iterate 3 go_step
    refine wpk_enter (N := 104) (l := [(0, .pointer (some ⟨tg, 0, none⟩)), (1, .int .i64 now), (2, .int .i64 c), (3, .int .i64 i), (4, .bool own)]) ⟨rfl, (by intro x hx; simp only [List.mem_cons, List.not_mem_nil, or_false] at hx; rcases hx with rfl | rfl | rfl | rfl | rfl <;> rfl), rfl⟩ fun a2 h1 => ?_
    refine wv h1 rfl rfl rfl rfl (.slice none 0 0) rfl fun a4 h3 => ?_
    refine wv h3 rfl rfl rfl rfl (.int .i64 0) rfl fun a6 h5 => ?_
    iterate 6 go_step
    refine wmk h5 rfl rfl rfl rfl 1 rfl (fun _ => rfl) fun a8 h7 => ?_
    refine wv h7 rfl rfl rfl rfl (.bool false) (by unfold execOp; simp only [h7.ev 16 rfl]; exact run_v (ltIP _ _ _ _ _ (decide_eq_false (by omega)))) fun a10 h9 => ?_
    refine wmk h9 rfl rfl rfl rfl 17 rfl (fun _ => rfl) fun a12 h11 => ?_
    refine wpk_val h11 (by rw [wanted_of (g := 2) (want := false) (b := false) rfl (h11.yields (prev := 18) rfl (by simp))]; rfl) rfl (by decide) (fr rfl) (.int .i64 now) (by unfold execOp; simp only [h11.ev 1 rfl]; rfl) fun a14 h13 => ?_
    refine wpk_val h13 (by rw [wanted_of (g := 2) (want := false) (b := false) rfl (h13.yields (prev := 18) rfl (by simp))]; rfl) rfl (by decide) (fr rfl) (.bool false) (by unfold execOp; simp only [h13.ev 19 rfl]; exact run_v (gtIP _ _ _ _ _ (decide_eq_false (by omega)))) fun a16 h15 => ?_
    refine wv h15 rfl rfl rfl rfl (.bool false) (run_pick rfl (h15.ev 18 rfl) (by rw [if_neg (by simp)]; exact h15.ev 20 rfl)) fun a18 h17 => ?_
    refine wmk h17 rfl rfl rfl rfl 21 rfl (fun _ => rfl) fun a20 h19 => ?_
    refine wpk_val h19 (by rw [wanted_of (g := 6) (want := false) (b := false) rfl (h19.yields (prev := 22) rfl (by simp))]; rfl) rfl (by decide) (fr rfl) (.int .i64 c) (by unfold execOp; simp only [h19.ev 2 rfl]; rfl) fun a22 h21 => ?_
    refine wpk_val h21 (by rw [wanted_of (g := 6) (want := false) (b := false) rfl (h21.yields (prev := 22) rfl (by simp))]; rfl) rfl (by decide) (fr rfl) (.bool false) (by unfold execOp; simp only [h21.ev 23 rfl]; exact run_v (ltIP _ _ _ _ _ (decide_eq_false (by omega)))) fun a24 h23 => ?_
    refine wv h23 rfl rfl rfl rfl (.bool false) (run_pick rfl (h23.ev 22 rfl) (by rw [if_neg (by simp)]; exact h23.ev 24 rfl)) fun a26 h25 => ?_
    refine wmk h25 rfl rfl rfl rfl 25 rfl (fun _ => rfl) fun a28 h27 => ?_
    refine wpk_val h27 (by rw [wanted_of (g := 10) (want := false) (b := false) rfl (h27.yields (prev := 26) rfl (by simp))]; rfl) rfl (by decide) (fr rfl) (.int .i64 c) (by unfold execOp; simp only [h27.ev 2 rfl]; rfl) fun a30 h29 => ?_
    refine wpk_val h29 (by rw [wanted_of (g := 10) (want := false) (b := false) rfl (h29.yields (prev := 26) rfl (by simp))]; rfl) rfl (by decide) (fr rfl) (.bool false) (by unfold execOp; simp only [h29.ev 27 rfl]; exact run_v (gtIP _ _ _ _ _ (decide_eq_false (by omega)))) fun a32 h31 => ?_
    refine wv h31 rfl rfl rfl rfl (.bool false) (run_pick rfl (h31.ev 26 rfl) (by rw [if_neg (by simp)]; exact h31.ev 28 rfl)) fun a34 h33 => ?_
    refine wmk h33 rfl rfl rfl rfl 29 rfl (fun _ => rfl) fun a36 h35 => ?_
    refine wpk_val h35 (by rw [wanted_of (g := 14) (want := false) (b := false) rfl (h35.yields (prev := 30) rfl (by simp))]; rfl) rfl (by decide) (fr rfl) (.int .i64 i) (by unfold execOp; simp only [h35.ev 3 rfl]; rfl) fun a38 h37 => ?_
    refine wpk_val h37 (by rw [wanted_of (g := 14) (want := false) (b := false) rfl (h37.yields (prev := 30) rfl (by simp))]; rfl) rfl (by decide) (fr rfl) (.bool false) (by unfold execOp; simp only [h37.ev 31 rfl]; exact run_v (ltIP _ _ _ _ _ (decide_eq_false (by omega)))) fun a40 h39 => ?_
    refine wv h39 rfl rfl rfl rfl (.bool false) (run_pick rfl (h39.ev 30 rfl) (by rw [if_neg (by simp)]; exact h39.ev 32 rfl)) fun a42 h41 => ?_
    refine wmk h41 rfl rfl rfl rfl 33 rfl (fun _ => rfl) fun a44 h43 => ?_
    refine wpk_val h43 (by rw [wanted_of (g := 18) (want := false) (b := false) rfl (h43.yields (prev := 34) rfl (by simp))]; rfl) rfl (by decide) (fr rfl) (.int .i64 i) (by unfold execOp; simp only [h43.ev 3 rfl]; rfl) fun a46 h45 => ?_
    refine wpk_val h45 (by rw [wanted_of (g := 18) (want := false) (b := false) rfl (h45.yields (prev := 34) rfl (by simp))]; rfl) rfl (by decide) (fr rfl) (.bool true) (by unfold execOp; simp only [h45.ev 35 rfl]; exact run_v (gtIP _ _ _ _ _ (decide_eq_true (by omega)))) fun a48 h47 => ?_
    refine wv h47 rfl rfl rfl rfl (.bool true) (run_pick rfl (h47.ev 34 rfl) (by rw [if_neg (by simp)]; exact h47.ev 36 rfl)) fun a50 h49 => ?_
    have h51 := h49.subs (l' := [(37, _), (11, _), (10, _), (0, _), (1, _), (2, _), (3, _), (4, _)]) rfl
    clear h49
    iterate 3 go_step
    refine wp_cond (t := true) (h51.ev 37 rfl) ?_
    simp only [if_true]
    have h52 := h51.subs (l' := [(11, _), (10, _), (0, _), (1, _), (2, _), (3, _), (4, _)]) rfl
    clear h51
    iterate 2 go_step
    have h53 := h52.subs (l' := [(11, _), (0, _), (1, _), (2, _), (3, _), (4, _)]) rfl
    clear h52
    refine wv h53 rfl rfl rfl rfl (.slice none 0 0) rfl fun a55 h54 => ?_
    have h56 := h54.subs (l' := [(10, _), (0, _), (1, _), (2, _), (3, _), (4, _)]) rfl
    clear h54
    refine wv h56 rfl rfl rfl rfl (.int .i64 1) rfl fun a58 h57 => ?_
    iterate 4 go_step
    simp only [Exit.then, Exit.inBlock]
    exact bodyPost_ret (results_tmp2 rfl (h57.known (10, .slice none 0 0) (by simp)) (h57.known (11, .int .i64 1) (by simp))) h57.defs ⟨rfl, rfl⟩
  exact absurd (show askOk now c i from ⟨⟨by omega, by omega⟩, ⟨by omega, by omega⟩, ⟨by omega, by omega⟩⟩) hb

set_option maxHeartbeats 4000000 in
theorem ask_none1 {w : World} {tg gm wm n m : Nat} {g : GrF} {wt : WtF} (h : TabP w tg gm wm n m g wt) (hgok : GrOk g) (hn : n < 1000000) (hm : m < 1000000) {now c i : Int} (own : Bool) (hok : askOk now c i) (hwt : wt i = none) (hag : 0 < (agL g c i own).length) :
    Calls Try.prog 17 #[.pointer (some ⟨tg, 0, none⟩), .int .i64 now, .int .i64 c, .int .i64 i, .bool own] w fun e w' => ∃ la lc, e = .returned (.tuple #[.slice la (agL g c i own).length lc, .int .i64 32]) ∧ OwnI w' w.heap.size la lc (agL g c i own) ∧ (∃ m', m' ≤ m + 1 ∧ TabP w' tg gm wm n m' g (updG wt i (some (c, now + 64)))) ∧ Turns (fun k => k = wm) w w' := by
  obtain ⟨⟨n1, n2⟩, ⟨c1, c2⟩, ⟨i1, i2⟩⟩ := hok
  have hwi : (Lit.int .i64 i).wf = true := WalkArith.wf_i64 (by omega)
  have hwc : (Lit.int .i64 c).wf = true := WalkArith.wf_i64 (by omega)
  have HT := hid h; clear h
  go_enter Try.func17, Try.ntmps17
  iterate 3 go_step
  refine wpk_enter (N := 104) (l := [(0, .pointer (some ⟨tg, 0, none⟩)), (1, .int .i64 now), (2, .int .i64 c), (3, .int .i64 i), (4, .bool own)]) ⟨rfl, (by intro x hx; simp only [List.mem_cons, List.not_mem_nil, or_false] at hx; rcases hx with rfl | rfl | rfl | rfl | rfl <;> rfl), rfl⟩ fun a2 h1 => ?_
  refine wv h1 rfl rfl rfl rfl (.slice none 0 0) rfl fun a4 h3 => ?_
  refine wv h3 rfl rfl rfl rfl (.int .i64 0) rfl fun a6 h5 => ?_
  iterate 6 go_step
  refine wmk h5 rfl rfl rfl rfl 1 rfl (fun _ => rfl) fun a8 h7 => ?_
  refine wv h7 rfl rfl rfl rfl (.bool false) (by unfold execOp; simp only [h7.ev 16 rfl]; exact run_v (ltIP _ _ _ _ _ (decide_eq_false (by omega)))) fun a10 h9 => ?_
  refine wmk h9 rfl rfl rfl rfl 17 rfl (fun _ => rfl) fun a12 h11 => ?_
  refine wpk_val h11 (by rw [wanted_of (g := 2) (want := false) (b := false) rfl (h11.yields (prev := 18) rfl (by simp))]; rfl) rfl (by decide) (fr rfl) (.int .i64 now) (by unfold execOp; simp only [h11.ev 1 rfl]; rfl) fun a14 h13 => ?_
  refine wpk_val h13 (by rw [wanted_of (g := 2) (want := false) (b := false) rfl (h13.yields (prev := 18) rfl (by simp))]; rfl) rfl (by decide) (fr rfl) (.bool false) (by unfold execOp; simp only [h13.ev 19 rfl]; exact run_v (gtIP _ _ _ _ _ (decide_eq_false (by omega)))) fun a16 h15 => ?_
  refine wv h15 rfl rfl rfl rfl (.bool false) (run_pick rfl (h15.ev 18 rfl) (by rw [if_neg (by simp)]; exact h15.ev 20 rfl)) fun a18 h17 => ?_
  refine wmk h17 rfl rfl rfl rfl 21 rfl (fun _ => rfl) fun a20 h19 => ?_
  refine wpk_val h19 (by rw [wanted_of (g := 6) (want := false) (b := false) rfl (h19.yields (prev := 22) rfl (by simp))]; rfl) rfl (by decide) (fr rfl) (.int .i64 c) (by unfold execOp; simp only [h19.ev 2 rfl]; rfl) fun a22 h21 => ?_
  refine wpk_val h21 (by rw [wanted_of (g := 6) (want := false) (b := false) rfl (h21.yields (prev := 22) rfl (by simp))]; rfl) rfl (by decide) (fr rfl) (.bool false) (by unfold execOp; simp only [h21.ev 23 rfl]; exact run_v (ltIP _ _ _ _ _ (decide_eq_false (by omega)))) fun a24 h23 => ?_
  refine wv h23 rfl rfl rfl rfl (.bool false) (run_pick rfl (h23.ev 22 rfl) (by rw [if_neg (by simp)]; exact h23.ev 24 rfl)) fun a26 h25 => ?_
  refine wmk h25 rfl rfl rfl rfl 25 rfl (fun _ => rfl) fun a28 h27 => ?_
  refine wpk_val h27 (by rw [wanted_of (g := 10) (want := false) (b := false) rfl (h27.yields (prev := 26) rfl (by simp))]; rfl) rfl (by decide) (fr rfl) (.int .i64 c) (by unfold execOp; simp only [h27.ev 2 rfl]; rfl) fun a30 h29 => ?_
  refine wpk_val h29 (by rw [wanted_of (g := 10) (want := false) (b := false) rfl (h29.yields (prev := 26) rfl (by simp))]; rfl) rfl (by decide) (fr rfl) (.bool false) (by unfold execOp; simp only [h29.ev 27 rfl]; exact run_v (gtIP _ _ _ _ _ (decide_eq_false (by omega)))) fun a32 h31 => ?_
  refine wv h31 rfl rfl rfl rfl (.bool false) (run_pick rfl (h31.ev 26 rfl) (by rw [if_neg (by simp)]; exact h31.ev 28 rfl)) fun a34 h33 => ?_
  refine wmk h33 rfl rfl rfl rfl 29 rfl (fun _ => rfl) fun a36 h35 => ?_
  refine wpk_val h35 (by rw [wanted_of (g := 14) (want := false) (b := false) rfl (h35.yields (prev := 30) rfl (by simp))]; rfl) rfl (by decide) (fr rfl) (.int .i64 i) (by unfold execOp; simp only [h35.ev 3 rfl]; rfl) fun a38 h37 => ?_
  refine wpk_val h37 (by rw [wanted_of (g := 14) (want := false) (b := false) rfl (h37.yields (prev := 30) rfl (by simp))]; rfl) rfl (by decide) (fr rfl) (.bool false) (by unfold execOp; simp only [h37.ev 31 rfl]; exact run_v (ltIP _ _ _ _ _ (decide_eq_false (by omega)))) fun a40 h39 => ?_
  refine wv h39 rfl rfl rfl rfl (.bool false) (run_pick rfl (h39.ev 30 rfl) (by rw [if_neg (by simp)]; exact h39.ev 32 rfl)) fun a42 h41 => ?_
  refine wmk h41 rfl rfl rfl rfl 33 rfl (fun _ => rfl) fun a44 h43 => ?_
  refine wpk_val h43 (by rw [wanted_of (g := 18) (want := false) (b := false) rfl (h43.yields (prev := 34) rfl (by simp))]; rfl) rfl (by decide) (fr rfl) (.int .i64 i) (by unfold execOp; simp only [h43.ev 3 rfl]; rfl) fun a46 h45 => ?_
  refine wpk_val h45 (by rw [wanted_of (g := 18) (want := false) (b := false) rfl (h45.yields (prev := 34) rfl (by simp))]; rfl) rfl (by decide) (fr rfl) (.bool false) (by unfold execOp; simp only [h45.ev 35 rfl]; exact run_v (gtIP _ _ _ _ _ (decide_eq_false (by omega)))) fun a48 h47 => ?_
  refine wv h47 rfl rfl rfl rfl (.bool false) (run_pick rfl (h47.ev 34 rfl) (by rw [if_neg (by simp)]; exact h47.ev 36 rfl)) fun a50 h49 => ?_
  have h51 := h49.subs (l' := [(37, _), (11, _), (10, _), (0, _), (1, _), (2, _), (3, _), (4, _)]) rfl
  clear h49
  iterate 3 go_step
  refine wp_cond (t := false) (h51.ev 37 rfl) ?_
  simp only [Bool.false_eq_true, if_false]
  have h52 := h51.subs (l' := [(11, _), (10, _), (0, _), (1, _), (2, _), (3, _), (4, _)]) rfl
  clear h51
  iterate 5 go_step
  refine wmk h52 rfl rfl rfl rfl 0 rfl (fun _ => rfl) fun a54 h53 => ?_
  refine wv h53 rfl rfl rfl rfl (.pointer (some ⟨tg, 0, none⟩)) (by unfold execOp; simp only [h53.ev 39 rfl]; exact rfl) fun a56 h55 => ?_
  refine wv h55 rfl rfl rfl rfl (.pointer (some ⟨tg, 1, none⟩)) (by unfold execOp; simp only [h55.ev 40 rfl]; exact run_v (fa_54_0_1 (tg) _)) fun a58 h57 => ?_
  refine wv h57 rfl rfl rfl rfl (.map (some wm)) (by unfold execOp; simp only [h57.ev 41 rfl]; exact run_v (loadWM (HT.out.t.cell (i := 1) (by show 1 < 2; omega)))) fun a60 h59 => ?_
  refine wmk h59 rfl rfl rfl rfl 3 rfl (fun _ => rfl) fun a62 h61 => ?_
  refine wv h61 rfl rfl rfl rfl (.tuple #[.agg (kC 0 0).toArray, .bool false]) (by unfold execOp; simp only [h61.ev 42 rfl, h61.ev 43 rfl]; exact run_v (lookWN HT.out.w hwi hwt)) fun a64 h63 => ?_
  refine wmk h63 rfl rfl rfl rfl 44 rfl (fun _ => rfl) fun a66 h65 => ?_
  refine wv h65 rfl rfl rfl rfl (.agg (kC 0 0).toArray) (by unfold execOp; simp only [h65.ev 38 rfl]; exact rfl) fun a68 h67 => ?_
  refine wv h67 rfl rfl rfl rfl (.bool false) (by unfold execOp; simp only [h67.ev 38 rfl]; exact rfl) fun a70 h69 => ?_
  refine wv h69 rfl rfl rfl rfl (.pointer (some ⟨w.heap.size, 0, none⟩)) (run_allocWL rfl _ w) fun a72 h71 => ?_
  obtain ⟨w1, hw1⟩ : ∃ y, y = w.alloc (.cells (kC 0 0).toArray 70) := ⟨_, rfl⟩
  obtain ⟨kb, hkb⟩ : ∃ y, y = w.heap.size := ⟨_, rfl⟩
  have K1 : Blk w1 kb 70 (kC 0 0) := by rw [hw1, hkb]; exact blk_newO rfl _ _
  have b1 : Below w.heap.size w w1 := by rw [hw1]; exact albO _ _
  rw [← hkb] at h71; rw [← hw1]; clear hw1
  refine wpk_storeP h71 rfl rfl rfl kb 0 (h71.ev 12 rfl) (kC 0 0) (h71.ev 45 rfl) (by rw [infoWL]; rfl) (kC_one _ _) K1 (by show 0 + 2 ≤ 2; omega) fun a74 w2 h73 kq gq => ?_
  rw [splice_all (by rfl)] at kq
  have hlt := HT.out.lt; have t2 : Turns (fun k => k = kb) w w2 := (Turns.of_below b1).trans (Turns.of_grown gq rfl)
  have HK2 := hid kq; have HT2 := hid (HT.out.turns t2 (by omega) (by omega) (by omega)); have B2 := hid (t2.below (Nat.le_refl _) (fun k e => by omega)); clear t2 kq gq b1 K1
  refine wmk h73 rfl rfl rfl rfl 46 rfl (fun _ => rfl) fun a76 h75 => ?_
  have h77 := h75.subs (l' := [(13, _), (12, _), (11, _), (10, _), (0, _), (1, _), (2, _), (3, _), (4, _)]) rfl
  clear h75
  iterate 5 go_step
  refine wmk h77 rfl rfl rfl rfl 13 rfl (fun _ => rfl) fun a79 h78 => ?_
  refine wmk h78 rfl rfl rfl rfl 47 rfl (fun _ => rfl) fun a81 h80 => ?_
  refine wpk_skip h80 (by rw [wanted_of (g := 1) (want := true) (b := false) rfl (h80.yields (prev := 48) rfl (by simp))]; rfl) rfl (by decide) (fr rfl) fun a83 h82 => ?_
  refine wpk_skip h82 (by rw [wanted_of (g := 1) (want := true) (b := false) rfl (h82.yields (prev := 48) rfl (by simp))]; rfl) rfl (by decide) (fr rfl) fun a85 h84 => ?_
  refine wpk_skip h84 (by rw [wanted_of (g := 1) (want := true) (b := false) rfl (h84.yields (prev := 48) rfl (by simp))]; rfl) rfl (by decide) (fr rfl) fun a87 h86 => ?_
  refine wpk_skip h86 (by rw [wanted_of (g := 1) (want := true) (b := false) rfl (h86.yields (prev := 48) rfl (by simp))]; rfl) rfl (by decide) (fr rfl) fun a89 h88 => ?_
  refine wv h88 rfl rfl rfl rfl (.bool false) (run_pick rfl (h88.ev 48 rfl) rfl) fun a91 h90 => ?_
  refine wmk h90 rfl rfl rfl rfl 53 rfl (fun _ => rfl) fun a93 h92 => ?_
  refine wpk_skip h92 (by rw [wanted_of (g := 7) (want := true) (b := false) rfl (h92.yields (prev := 54) rfl (by simp))]; rfl) rfl (by decide) (fr rfl) fun a95 h94 => ?_
  refine wpk_skip h94 (by rw [wanted_of (g := 7) (want := true) (b := false) rfl (h94.yields (prev := 54) rfl (by simp))]; rfl) rfl (by decide) (fr rfl) fun a97 h96 => ?_
  refine wpk_skip h96 (by rw [wanted_of (g := 7) (want := true) (b := false) rfl (h96.yields (prev := 54) rfl (by simp))]; rfl) rfl (by decide) (fr rfl) fun a99 h98 => ?_
  refine wpk_skip h98 (by rw [wanted_of (g := 7) (want := true) (b := false) rfl (h98.yields (prev := 54) rfl (by simp))]; rfl) rfl (by decide) (fr rfl) fun a101 h100 => ?_
  refine wv h100 rfl rfl rfl rfl (.bool false) (run_pick rfl (h100.ev 54 rfl) rfl) fun a103 h102 => ?_
  refine wmk h102 rfl rfl rfl rfl 59 rfl (fun _ => rfl) fun a105 h104 => ?_
  have h106 := h104.subs (l' := [(14, _), (13, _), (12, _), (11, _), (10, _), (0, _), (1, _), (2, _), (3, _), (4, _)]) rfl
  clear h104
  iterate 6 go_step
  refine wmk h106 rfl rfl rfl rfl 0 rfl (fun _ => rfl) fun a108 h107 => ?_
  refine wmk h107 rfl rfl rfl rfl 2 rfl (fun _ => rfl) fun a110 h109 => ?_
  refine wmk h109 rfl rfl rfl rfl 3 rfl (fun _ => rfl) fun a112 h111 => ?_
  refine wmk h111 rfl rfl rfl rfl 4 rfl (fun _ => rfl) fun a114 h113 => ?_
  refine wpk_call h113 (wanted_none rfl) rfl (by decide) (fr rfl) (fun args => callP_31 args _) rfl #[.pointer (some ⟨tg, 0, none⟩), .int .i64 c, .int .i64 i, .bool own] (by simp only [List.map_toArray, List.map_cons, List.map_nil, h113.ev 60 rfl, h113.ev 61 rfl, h113.ev 62 rfl, h113.ev 63 rfl]) (R := fun v' w' => ∃ la lc, v' = .slice la (agL g c i own).length lc ∧ OwnI w' w2.heap.size la lc (agL g c i own) ∧ TabP w' tg gm wm n m g wt ∧ Below w2.heap.size w2 w') ((against_any HT2.out hgok c i own hwi).mono fun e w' q => by obtain ⟨la, lc, q1, q2⟩ := q; exact ⟨_, q1, la, lc, rfl, q2⟩) fun a116 va wa ra h115 => ?_
  obtain ⟨la, lc, rfl, oa, ta, ba⟩ := ra; have HOA := hid (own_weak oa B2.out.size); have HTA := hid ta; have HKA := hid (HK2.out.mono ba); have BA := hid (kept_trans B2.out ba); clear oa ta ba
  refine wmk h115 rfl rfl rfl rfl 64 rfl (fun _ => rfl) fun a118 h117 => ?_
  have h119 := h117.subs (l' := [(15, _), (14, _), (13, _), (12, _), (11, _), (10, _), (0, _), (1, _), (2, _), (3, _), (4, _)]) rfl
  clear h117
  iterate 5 go_step
  refine wmk h119 rfl rfl rfl rfl 15 rfl (fun _ => rfl) fun a121 h120 => ?_
  refine wv h120 rfl rfl rfl rfl (.int .i64 ((agL g c i own).length : Int)) (run_lenIL rfl (h120.ev 65 rfl) _) fun a123 h122 => ?_
  refine wv h122 rfl rfl rfl rfl (.bool true) (by unfold execOp; simp only [h122.ev 66 rfl]; exact run_v (gtIP _ _ _ _ _ (decide_eq_true (by omega)))) fun a125 h124 => ?_
  have h126 := h124.subs (l' := [(67, _), (15, _), (14, _), (13, _), (12, _), (11, _), (10, _), (0, _), (1, _), (2, _), (3, _), (4, _)]) rfl
  clear h124
  iterate 3 go_step
  refine wp_cond (t := true) (h126.ev 67 rfl) ?_
  simp only [if_true]
  have h127 := h126.subs (l' := [(15, _), (14, _), (13, _), (12, _), (11, _), (10, _), (0, _), (1, _), (2, _), (3, _), (4, _)]) rfl
  clear h126
  iterate 3 go_step
  refine wmk h127 rfl rfl rfl rfl 14 rfl (fun _ => rfl) fun a129 h128 => ?_
  refine wv h128 rfl rfl rfl rfl (.bool true) (run_not rfl (h128.ev 68 rfl)) fun a131 h130 => ?_
  have h132 := h130.subs (l' := [(69, _), (15, _), (14, _), (13, _), (12, _), (11, _), (10, _), (0, _), (1, _), (2, _), (3, _), (4, _)]) rfl
  clear h130
  iterate 3 go_step
  refine wp_cond (t := true) (h132.ev 69 rfl) ?_
  simp only [if_true]
  have h133 := h132.subs (l' := [(15, _), (14, _), (13, _), (12, _), (11, _), (10, _), (0, _), (1, _), (2, _), (3, _), (4, _)]) rfl
  clear h132
  go_step
  refine wmk h133 rfl rfl rfl rfl 0 rfl (fun _ => rfl) fun a135 h134 => ?_
  refine wv h134 rfl rfl rfl rfl (.pointer (some ⟨tg, 0, none⟩)) (by unfold execOp; simp only [h134.ev 70 rfl]; exact rfl) fun a137 h136 => ?_
  refine wv h136 rfl rfl rfl rfl (.pointer (some ⟨tg, 1, none⟩)) (by unfold execOp; simp only [h136.ev 71 rfl]; exact run_v (fa_54_0_1 (tg) _)) fun a139 h138 => ?_
  refine wv h138 rfl rfl rfl rfl (.map (some wm)) (by unfold execOp; simp only [h138.ev 72 rfl]; exact run_v (loadWM (HTA.out.t.cell (i := 1) (by show 1 < 2; omega)))) fun a141 h140 => ?_
  refine wmk h140 rfl rfl rfl rfl 3 rfl (fun _ => rfl) fun a143 h142 => ?_
  refine wmk h142 rfl rfl rfl rfl 2 rfl (fun _ => rfl) fun a145 h144 => ?_
  refine wmk h144 rfl rfl rfl rfl 1 rfl (fun _ => rfl) fun a147 h146 => ?_
  refine wv h146 rfl rfl rfl rfl (.int .i64 (now + 64)) (by unfold execOp; simp only [h146.ev 76 rfl]; exact run_v (addNP _ _ _ _ _ (by omega) (by omega) (by omega) _)) fun a149 h148 => ?_
  refine wv h148 rfl rfl rfl rfl (.agg (kC c (now + 64)).toArray) (by unfold execOp; simp only [List.map_toArray, List.map_cons, List.map_nil, h148.ev 75 rfl, h148.ev 77 rfl]; exact run_v (buildWL _ _ _)) fun a151 h150 => ?_
  obtain ⟨wu, hru, mu, tu⟩ := storeWL HTA.out.w hm hwi c (now + 64)
  refine wpk_skipvP h150 (wanted_none rfl) rfl (w' := wu) (by unfold execOp; simp only [h150.ev 73 rfl, h150.ev 74 rfl, h150.ev 78 rfl]; exact run_uP hru) fun a153 h152 => ?_
  have HTU := hid (HTA.out.setW tu mu); have TU := hid tu; have HOU := hid (own_turnsL HOA.out tu (fun k e => .inl (by have := HT.out.lt; omega))); clear mu tu
  have h154 := h152.subs (l' := [(15, _), (14, _), (13, _), (12, _), (11, _), (10, _), (0, _), (1, _), (2, _), (3, _), (4, _)]) rfl
  clear h152
  iterate 5 go_step
  refine wmk h154 rfl rfl rfl rfl 15 rfl (fun _ => rfl) fun a156 h155 => ?_
  have h157 := h155.subs (l' := [(79, _), (15, _), (14, _), (13, _), (12, _), (11, _), (0, _), (1, _), (2, _), (3, _), (4, _)]) rfl
  clear h155
  refine wmk h157 rfl rfl rfl rfl 79 rfl (fun _ => rfl) fun a159 h158 => ?_
  have h160 := h158.subs (l' := [(10, _), (79, _), (15, _), (14, _), (13, _), (12, _), (0, _), (1, _), (2, _), (3, _), (4, _)]) rfl
  clear h158
  refine wv h160 rfl rfl rfl rfl (.int .i64 32) rfl fun a162 h161 => ?_
  have h163 := h161.subs (l' := [(11, _), (10, _), (15, _), (14, _), (13, _), (12, _), (0, _), (1, _), (2, _), (3, _), (4, _)]) rfl
  clear h161
  iterate 4 go_step
  simp only [Exit.then, Exit.inBlock]
  exact bodyPost_ret (results_tmp2 rfl (h163.known (10, .slice la (agL g c i own).length lc) (by simp)) (h163.known (11, .int .i64 32) (by simp))) h163.defs ⟨la, lc, rfl, HOU.out, ⟨m + 1, by omega, HTU.out⟩, (Turns.of_below BA.out).trans TU.out⟩

set_option maxHeartbeats 4000000 in
theorem ask_none0 {w : World} {tg gm wm n m : Nat} {g : GrF} {wt : WtF} (h : TabP w tg gm wm n m g wt) (hgok : GrOk g) (hn : n < 1000000) (hm : m < 1000000) {now c i : Int} (own : Bool) (hok : askOk now c i) (hwt : wt i = none) (hag : (agL g c i own).length = 0) :
    Calls Try.prog 17 #[.pointer (some ⟨tg, 0, none⟩), .int .i64 now, .int .i64 c, .int .i64 i, .bool own] w fun e w' => e = .returned (.tuple #[.slice none 0 0, .int .i64 0]) ∧ (∃ n', n' ≤ n + 1 ∧ TabP w' tg gm wm n' m (updG g (c, i) (some (own, now + 64))) (wt)) ∧ Turns (fun k => k = gm ∨ k = wm) w w' := by
  obtain ⟨⟨n1, n2⟩, ⟨c1, c2⟩, ⟨i1, i2⟩⟩ := hok
  have hwi : (Lit.int .i64 i).wf = true := WalkArith.wf_i64 (by omega)
  have hwc : (Lit.int .i64 c).wf = true := WalkArith.wf_i64 (by omega)
  have HT := hid h; clear h
  go_enter Try.func17, Try.ntmps17
  iterate 3 go_step
  refine wpk_enter (N := 104) (l := [(0, .pointer (some ⟨tg, 0, none⟩)), (1, .int .i64 now), (2, .int .i64 c), (3, .int .i64 i), (4, .bool own)]) ⟨rfl, (by intro x hx; simp only [List.mem_cons, List.not_mem_nil, or_false] at hx; rcases hx with rfl | rfl | rfl | rfl | rfl <;> rfl), rfl⟩ fun a2 h1 => ?_
  refine wv h1 rfl rfl rfl rfl (.slice none 0 0) rfl fun a4 h3 => ?_
  refine wv h3 rfl rfl rfl rfl (.int .i64 0) rfl fun a6 h5 => ?_
  iterate 6 go_step
  refine wmk h5 rfl rfl rfl rfl 1 rfl (fun _ => rfl) fun a8 h7 => ?_
  refine wv h7 rfl rfl rfl rfl (.bool false) (by unfold execOp; simp only [h7.ev 16 rfl]; exact run_v (ltIP _ _ _ _ _ (decide_eq_false (by omega)))) fun a10 h9 => ?_
  refine wmk h9 rfl rfl rfl rfl 17 rfl (fun _ => rfl) fun a12 h11 => ?_
  refine wpk_val h11 (by rw [wanted_of (g := 2) (want := false) (b := false) rfl (h11.yields (prev := 18) rfl (by simp))]; rfl) rfl (by decide) (fr rfl) (.int .i64 now) (by unfold execOp; simp only [h11.ev 1 rfl]; rfl) fun a14 h13 => ?_
  refine wpk_val h13 (by rw [wanted_of (g := 2) (want := false) (b := false) rfl (h13.yields (prev := 18) rfl (by simp))]; rfl) rfl (by decide) (fr rfl) (.bool false) (by unfold execOp; simp only [h13.ev 19 rfl]; exact run_v (gtIP _ _ _ _ _ (decide_eq_false (by omega)))) fun a16 h15 => ?_
  refine wv h15 rfl rfl rfl rfl (.bool false) (run_pick rfl (h15.ev 18 rfl) (by rw [if_neg (by simp)]; exact h15.ev 20 rfl)) fun a18 h17 => ?_
  refine wmk h17 rfl rfl rfl rfl 21 rfl (fun _ => rfl) fun a20 h19 => ?_
  refine wpk_val h19 (by rw [wanted_of (g := 6) (want := false) (b := false) rfl (h19.yields (prev := 22) rfl (by simp))]; rfl) rfl (by decide) (fr rfl) (.int .i64 c) (by unfold execOp; simp only [h19.ev 2 rfl]; rfl) fun a22 h21 => ?_
  refine wpk_val h21 (by rw [wanted_of (g := 6) (want := false) (b := false) rfl (h21.yields (prev := 22) rfl (by simp))]; rfl) rfl (by decide) (fr rfl) (.bool false) (by unfold execOp; simp only [h21.ev 23 rfl]; exact run_v (ltIP _ _ _ _ _ (decide_eq_false (by omega)))) fun a24 h23 => ?_
  refine wv h23 rfl rfl rfl rfl (.bool false) (run_pick rfl (h23.ev 22 rfl) (by rw [if_neg (by simp)]; exact h23.ev 24 rfl)) fun a26 h25 => ?_
  refine wmk h25 rfl rfl rfl rfl 25 rfl (fun _ => rfl) fun a28 h27 => ?_
  refine wpk_val h27 (by rw [wanted_of (g := 10) (want := false) (b := false) rfl (h27.yields (prev := 26) rfl (by simp))]; rfl) rfl (by decide) (fr rfl) (.int .i64 c) (by unfold execOp; simp only [h27.ev 2 rfl]; rfl) fun a30 h29 => ?_
  refine wpk_val h29 (by rw [wanted_of (g := 10) (want := false) (b := false) rfl (h29.yields (prev := 26) rfl (by simp))]; rfl) rfl (by decide) (fr rfl) (.bool false) (by unfold execOp; simp only [h29.ev 27 rfl]; exact run_v (gtIP _ _ _ _ _ (decide_eq_false (by omega)))) fun a32 h31 => ?_
  refine wv h31 rfl rfl rfl rfl (.bool false) (run_pick rfl (h31.ev 26 rfl) (by rw [if_neg (by simp)]; exact h31.ev 28 rfl)) fun a34 h33 => ?_
  refine wmk h33 rfl rfl rfl rfl 29 rfl (fun _ => rfl) fun a36 h35 => ?_
  refine wpk_val h35 (by rw [wanted_of (g := 14) (want := false) (b := false) rfl (h35.yields (prev := 30) rfl (by simp))]; rfl) rfl (by decide) (fr rfl) (.int .i64 i) (by unfold execOp; simp only [h35.ev 3 rfl]; rfl) fun a38 h37 => ?_
  refine wpk_val h37 (by rw [wanted_of (g := 14) (want := false) (b := false) rfl (h37.yields (prev := 30) rfl (by simp))]; rfl) rfl (by decide) (fr rfl) (.bool false) (by unfold execOp; simp only [h37.ev 31 rfl]; exact run_v (ltIP _ _ _ _ _ (decide_eq_false (by omega)))) fun a40 h39 => ?_
  refine wv h39 rfl rfl rfl rfl (.bool false) (run_pick rfl (h39.ev 30 rfl) (by rw [if_neg (by simp)]; exact h39.ev 32 rfl)) fun a42 h41 => ?_
  refine wmk h41 rfl rfl rfl rfl 33 rfl (fun _ => rfl) fun a44 h43 => ?_
  refine wpk_val h43 (by rw [wanted_of (g := 18) (want := false) (b := false) rfl (h43.yields (prev := 34) rfl (by simp))]; rfl) rfl (by decide) (fr rfl) (.int .i64 i) (by unfold execOp; simp only [h43.ev 3 rfl]; rfl) fun a46 h45 => ?_
  refine wpk_val h45 (by rw [wanted_of (g := 18) (want := false) (b := false) rfl (h45.yields (prev := 34) rfl (by simp))]; rfl) rfl (by decide) (fr rfl) (.bool false) (by unfold execOp; simp only [h45.ev 35 rfl]; exact run_v (gtIP _ _ _ _ _ (decide_eq_false (by omega)))) fun a48 h47 => ?_
  refine wv h47 rfl rfl rfl rfl (.bool false) (run_pick rfl (h47.ev 34 rfl) (by rw [if_neg (by simp)]; exact h47.ev 36 rfl)) fun a50 h49 => ?_
  have h51 := h49.subs (l' := [(37, _), (11, _), (10, _), (0, _), (1, _), (2, _), (3, _), (4, _)]) rfl
  clear h49
  iterate 3 go_step
  refine wp_cond (t := false) (h51.ev 37 rfl) ?_
  simp only [Bool.false_eq_true, if_false]
  have h52 := h51.subs (l' := [(11, _), (10, _), (0, _), (1, _), (2, _), (3, _), (4, _)]) rfl
  clear h51
  iterate 5 go_step
  refine wmk h52 rfl rfl rfl rfl 0 rfl (fun _ => rfl) fun a54 h53 => ?_
  refine wv h53 rfl rfl rfl rfl (.pointer (some ⟨tg, 0, none⟩)) (by unfold execOp; simp only [h53.ev 39 rfl]; exact rfl) fun a56 h55 => ?_
  refine wv h55 rfl rfl rfl rfl (.pointer (some ⟨tg, 1, none⟩)) (by unfold execOp; simp only [h55.ev 40 rfl]; exact run_v (fa_54_0_1 (tg) _)) fun a58 h57 => ?_
  refine wv h57 rfl rfl rfl rfl (.map (some wm)) (by unfold execOp; simp only [h57.ev 41 rfl]; exact run_v (loadWM (HT.out.t.cell (i := 1) (by show 1 < 2; omega)))) fun a60 h59 => ?_
  refine wmk h59 rfl rfl rfl rfl 3 rfl (fun _ => rfl) fun a62 h61 => ?_
  refine wv h61 rfl rfl rfl rfl (.tuple #[.agg (kC 0 0).toArray, .bool false]) (by unfold execOp; simp only [h61.ev 42 rfl, h61.ev 43 rfl]; exact run_v (lookWN HT.out.w hwi hwt)) fun a64 h63 => ?_
  refine wmk h63 rfl rfl rfl rfl 44 rfl (fun _ => rfl) fun a66 h65 => ?_
  refine wv h65 rfl rfl rfl rfl (.agg (kC 0 0).toArray) (by unfold execOp; simp only [h65.ev 38 rfl]; exact rfl) fun a68 h67 => ?_
  refine wv h67 rfl rfl rfl rfl (.bool false) (by unfold execOp; simp only [h67.ev 38 rfl]; exact rfl) fun a70 h69 => ?_
  refine wv h69 rfl rfl rfl rfl (.pointer (some ⟨w.heap.size, 0, none⟩)) (run_allocWL rfl _ w) fun a72 h71 => ?_
  obtain ⟨w1, hw1⟩ : ∃ y, y = w.alloc (.cells (kC 0 0).toArray 70) := ⟨_, rfl⟩
  obtain ⟨kb, hkb⟩ : ∃ y, y = w.heap.size := ⟨_, rfl⟩
  have K1 : Blk w1 kb 70 (kC 0 0) := by rw [hw1, hkb]; exact blk_newO rfl _ _
  have b1 : Below w.heap.size w w1 := by rw [hw1]; exact albO _ _
  rw [← hkb] at h71; rw [← hw1]; clear hw1
  refine wpk_storeP h71 rfl rfl rfl kb 0 (h71.ev 12 rfl) (kC 0 0) (h71.ev 45 rfl) (by rw [infoWL]; rfl) (kC_one _ _) K1 (by show 0 + 2 ≤ 2; omega) fun a74 w2 h73 kq gq => ?_
  rw [splice_all (by rfl)] at kq
  have hlt := HT.out.lt; have t2 : Turns (fun k => k = kb) w w2 := (Turns.of_below b1).trans (Turns.of_grown gq rfl)
  have HK2 := hid kq; have HT2 := hid (HT.out.turns t2 (by omega) (by omega) (by omega)); have B2 := hid (t2.below (Nat.le_refl _) (fun k e => by omega)); clear t2 kq gq b1 K1
  refine wmk h73 rfl rfl rfl rfl 46 rfl (fun _ => rfl) fun a76 h75 => ?_
  have h77 := h75.subs (l' := [(13, _), (12, _), (11, _), (10, _), (0, _), (1, _), (2, _), (3, _), (4, _)]) rfl
  clear h75
  iterate 5 go_step
  refine wmk h77 rfl rfl rfl rfl 13 rfl (fun _ => rfl) fun a79 h78 => ?_
  refine wmk h78 rfl rfl rfl rfl 47 rfl (fun _ => rfl) fun a81 h80 => ?_
  refine wpk_skip h80 (by rw [wanted_of (g := 1) (want := true) (b := false) rfl (h80.yields (prev := 48) rfl (by simp))]; rfl) rfl (by decide) (fr rfl) fun a83 h82 => ?_
  refine wpk_skip h82 (by rw [wanted_of (g := 1) (want := true) (b := false) rfl (h82.yields (prev := 48) rfl (by simp))]; rfl) rfl (by decide) (fr rfl) fun a85 h84 => ?_
  refine wpk_skip h84 (by rw [wanted_of (g := 1) (want := true) (b := false) rfl (h84.yields (prev := 48) rfl (by simp))]; rfl) rfl (by decide) (fr rfl) fun a87 h86 => ?_
  refine wpk_skip h86 (by rw [wanted_of (g := 1) (want := true) (b := false) rfl (h86.yields (prev := 48) rfl (by simp))]; rfl) rfl (by decide) (fr rfl) fun a89 h88 => ?_
  refine wv h88 rfl rfl rfl rfl (.bool false) (run_pick rfl (h88.ev 48 rfl) rfl) fun a91 h90 => ?_
  refine wmk h90 rfl rfl rfl rfl 53 rfl (fun _ => rfl) fun a93 h92 => ?_
  refine wpk_skip h92 (by rw [wanted_of (g := 7) (want := true) (b := false) rfl (h92.yields (prev := 54) rfl (by simp))]; rfl) rfl (by decide) (fr rfl) fun a95 h94 => ?_
  refine wpk_skip h94 (by rw [wanted_of (g := 7) (want := true) (b := false) rfl (h94.yields (prev := 54) rfl (by simp))]; rfl) rfl (by decide) (fr rfl) fun a97 h96 => ?_
  refine wpk_skip h96 (by rw [wanted_of (g := 7) (want := true) (b := false) rfl (h96.yields (prev := 54) rfl (by simp))]; rfl) rfl (by decide) (fr rfl) fun a99 h98 => ?_
  refine wpk_skip h98 (by rw [wanted_of (g := 7) (want := true) (b := false) rfl (h98.yields (prev := 54) rfl (by simp))]; rfl) rfl (by decide) (fr rfl) fun a101 h100 => ?_
  refine wv h100 rfl rfl rfl rfl (.bool false) (run_pick rfl (h100.ev 54 rfl) rfl) fun a103 h102 => ?_
  refine wmk h102 rfl rfl rfl rfl 59 rfl (fun _ => rfl) fun a105 h104 => ?_
  have h106 := h104.subs (l' := [(14, _), (13, _), (12, _), (11, _), (10, _), (0, _), (1, _), (2, _), (3, _), (4, _)]) rfl
  clear h104
  iterate 6 go_step
  refine wmk h106 rfl rfl rfl rfl 0 rfl (fun _ => rfl) fun a108 h107 => ?_
  refine wmk h107 rfl rfl rfl rfl 2 rfl (fun _ => rfl) fun a110 h109 => ?_
  refine wmk h109 rfl rfl rfl rfl 3 rfl (fun _ => rfl) fun a112 h111 => ?_
  refine wmk h111 rfl rfl rfl rfl 4 rfl (fun _ => rfl) fun a114 h113 => ?_
  refine wpk_call h113 (wanted_none rfl) rfl (by decide) (fr rfl) (fun args => callP_31 args _) rfl #[.pointer (some ⟨tg, 0, none⟩), .int .i64 c, .int .i64 i, .bool own] (by simp only [List.map_toArray, List.map_cons, List.map_nil, h113.ev 60 rfl, h113.ev 61 rfl, h113.ev 62 rfl, h113.ev 63 rfl]) (R := fun v' w' => ∃ la lc, v' = .slice la (agL g c i own).length lc ∧ OwnI w' w2.heap.size la lc (agL g c i own) ∧ TabP w' tg gm wm n m g wt ∧ Below w2.heap.size w2 w') ((against_any HT2.out hgok c i own hwi).mono fun e w' q => by obtain ⟨la, lc, q1, q2⟩ := q; exact ⟨_, q1, la, lc, rfl, q2⟩) fun a116 va wa ra h115 => ?_
  obtain ⟨la, lc, rfl, oa, ta, ba⟩ := ra; have HOA := hid (own_weak oa B2.out.size); have HTA := hid ta; have HKA := hid (HK2.out.mono ba); have BA := hid (kept_trans B2.out ba); clear oa ta ba
  refine wmk h115 rfl rfl rfl rfl 64 rfl (fun _ => rfl) fun a118 h117 => ?_
  have h119 := h117.subs (l' := [(15, _), (14, _), (13, _), (12, _), (11, _), (10, _), (0, _), (1, _), (2, _), (3, _), (4, _)]) rfl
  clear h117
  iterate 5 go_step
  refine wmk h119 rfl rfl rfl rfl 15 rfl (fun _ => rfl) fun a121 h120 => ?_
  refine wv h120 rfl rfl rfl rfl (.int .i64 ((agL g c i own).length : Int)) (run_lenIL rfl (h120.ev 65 rfl) _) fun a123 h122 => ?_
  refine wv h122 rfl rfl rfl rfl (.bool false) (by unfold execOp; simp only [h122.ev 66 rfl]; exact run_v (gtIP _ _ _ _ _ (decide_eq_false (by omega)))) fun a125 h124 => ?_
  have h126 := h124.subs (l' := [(67, _), (15, _), (14, _), (13, _), (12, _), (11, _), (10, _), (0, _), (1, _), (2, _), (3, _), (4, _)]) rfl
  clear h124
  iterate 3 go_step
  refine wp_cond (t := false) (h126.ev 67 rfl) ?_
  simp only [Bool.false_eq_true, if_false]
  have h127 := h126.subs (l' := [(15, _), (14, _), (13, _), (12, _), (11, _), (10, _), (0, _), (1, _), (2, _), (3, _), (4, _)]) rfl
  clear h126
  iterate 6 go_step
  refine wmk h127 rfl rfl rfl rfl 14 rfl (fun _ => rfl) fun a129 h128 => ?_
  iterate 3 go_step
  refine wp_cond (t := false) (h128.ev 80 rfl) ?_
  simp only [Bool.false_eq_true, if_false]
  have h130 := h128.subs (l' := [(15, _), (14, _), (13, _), (12, _), (11, _), (10, _), (0, _), (1, _), (2, _), (3, _), (4, _)]) rfl
  clear h128
  iterate 6 go_step
  refine wmk h130 rfl rfl rfl rfl 13 rfl (fun _ => rfl) fun a132 h131 => ?_
  refine wmk h131 rfl rfl rfl rfl 81 rfl (fun _ => rfl) fun a134 h133 => ?_
  refine wpk_skip h133 (by rw [wanted_of (g := 1) (want := true) (b := false) rfl (h133.yields (prev := 82) rfl (by simp))]; rfl) rfl (by decide) (fr rfl) fun a136 h135 => ?_
  refine wpk_skip h135 (by rw [wanted_of (g := 1) (want := true) (b := false) rfl (h135.yields (prev := 82) rfl (by simp))]; rfl) rfl (by decide) (fr rfl) fun a138 h137 => ?_
  refine wpk_skip h137 (by rw [wanted_of (g := 1) (want := true) (b := false) rfl (h137.yields (prev := 82) rfl (by simp))]; rfl) rfl (by decide) (fr rfl) fun a140 h139 => ?_
  refine wpk_skip h139 (by rw [wanted_of (g := 1) (want := true) (b := false) rfl (h139.yields (prev := 82) rfl (by simp))]; rfl) rfl (by decide) (fr rfl) fun a142 h141 => ?_
  refine wv h141 rfl rfl rfl rfl (.bool false) (run_pick rfl (h141.ev 82 rfl) rfl) fun a144 h143 => ?_
  have h145 := h143.subs (l' := [(87, _), (15, _), (14, _), (13, _), (12, _), (11, _), (10, _), (0, _), (1, _), (2, _), (3, _), (4, _)]) rfl
  clear h143
  iterate 3 go_step
  refine wp_cond (t := false) (h145.ev 87 rfl) ?_
  simp only [Bool.false_eq_true, if_false]
  have h146 := h145.subs (l' := [(15, _), (14, _), (13, _), (12, _), (11, _), (10, _), (0, _), (1, _), (2, _), (3, _), (4, _)]) rfl
  clear h145
  iterate 5 go_step
  refine wmk h146 rfl rfl rfl rfl 0 rfl (fun _ => rfl) fun a148 h147 => ?_
  refine wv h147 rfl rfl rfl rfl (.pointer (some ⟨tg, 0, none⟩)) (by unfold execOp; simp only [h147.ev 93 rfl]; exact rfl) fun a150 h149 => ?_
  refine wv h149 rfl rfl rfl rfl (.pointer (some ⟨tg, 0, none⟩)) (by unfold execOp; simp only [h149.ev 94 rfl]; exact run_v (fa_54_0_0 (tg) _)) fun a152 h151 => ?_
  refine wv h151 rfl rfl rfl rfl (.map (some gm)) (by unfold execOp; simp only [h151.ev 95 rfl]; exact run_v (loadGM (HTA.out.t.cell (i := 0) (by show 0 < 2; omega)))) fun a154 h153 => ?_
  refine wmk h153 rfl rfl rfl rfl 2 rfl (fun _ => rfl) fun a156 h155 => ?_
  refine wmk h155 rfl rfl rfl rfl 3 rfl (fun _ => rfl) fun a158 h157 => ?_
  refine wv h157 rfl rfl rfl rfl (.agg (kC c i).toArray) (by unfold execOp; simp only [List.map_toArray, List.map_cons, List.map_nil, h157.ev 97 rfl, h157.ev 98 rfl]; exact run_v (buildKL _ _ _)) fun a160 h159 => ?_
  refine wmk h159 rfl rfl rfl rfl 4 rfl (fun _ => rfl) fun a162 h161 => ?_
  refine wmk h161 rfl rfl rfl rfl 1 rfl (fun _ => rfl) fun a164 h163 => ?_
  refine wv h163 rfl rfl rfl rfl (.int .i64 (now + 64)) (by unfold execOp; simp only [h163.ev 101 rfl]; exact run_v (addNP _ _ _ _ _ (by omega) (by omega) (by omega) _)) fun a166 h165 => ?_
  refine wv h165 rfl rfl rfl rfl (.agg (gC own (now + 64)).toArray) (by unfold execOp; simp only [List.map_toArray, List.map_cons, List.map_nil, h165.ev 100 rfl, h165.ev 102 rfl]; exact run_v (buildGL _ _ _)) fun a168 h167 => ?_
  obtain ⟨wg, hrg, mg, tg_⟩ := storeGL HTA.out.g hn ⟨hwc, hwi⟩ own (now + 64)
  refine wpk_skipvP h167 (wanted_none rfl) rfl (w' := wg) (by unfold execOp; simp only [h167.ev 96 rfl, h167.ev 99 rfl, h167.ev 103 rfl]; exact run_uP hrg) fun a170 h169 => ?_
  have HTG := hid (HTA.out.setG tg_ mg); have TG := hid tg_; clear mg tg_
  have h171 := h169.subs (l' := [(15, _), (14, _), (13, _), (12, _), (11, _), (10, _), (0, _), (1, _), (2, _), (3, _), (4, _)]) rfl
  clear h169
  iterate 5 go_step
  have h172 := h171.subs (l' := [(15, _), (14, _), (13, _), (12, _), (11, _), (0, _), (1, _), (2, _), (3, _), (4, _)]) rfl
  clear h171
  refine wv h172 rfl rfl rfl rfl (.slice none 0 0) rfl fun a174 h173 => ?_
  have h175 := h173.subs (l' := [(10, _), (15, _), (14, _), (13, _), (12, _), (0, _), (1, _), (2, _), (3, _), (4, _)]) rfl
  clear h173
  refine wv h175 rfl rfl rfl rfl (.int .i64 0) rfl fun a177 h176 => ?_
  iterate 4 go_step
  exact bodyPost_ret (results_tmp2 rfl (h176.known (10, .slice none 0 0) (by simp)) (h176.known (11, .int .i64 0) (by simp))) h176.defs ⟨rfl, ⟨n + 1, by omega, HTG.out⟩, (Turns.of_below BA.out).trans (TG.out.mono (fun k e => .inl e))⟩

set_option maxHeartbeats 4000000 in
theorem ask_own1 {w : World} {tg gm wm n m : Nat} {g : GrF} {wt : WtF} (h : TabP w tg gm wm n m g wt) (hgok : GrOk g) (hn : n < 1000000) (hm : m < 1000000) {now c i : Int} (own : Bool) (hok : askOk now c i) {cl un : Int} (hwt : wt i = some (cl, un)) (hcl : cl = c) (hag : 0 < (agL g c i own).length) :
    Calls Try.prog 17 #[.pointer (some ⟨tg, 0, none⟩), .int .i64 now, .int .i64 c, .int .i64 i, .bool own] w fun e w' => ∃ la lc, e = .returned (.tuple #[.slice la (agL g c i own).length lc, .int .i64 32]) ∧ OwnI w' w.heap.size la lc (agL g c i own) ∧ (∃ m', m' ≤ m + 1 ∧ TabP w' tg gm wm n m' g (updG wt i (some (c, now + 64)))) ∧ Turns (fun k => k = wm) w w' := by
  obtain ⟨⟨n1, n2⟩, ⟨c1, c2⟩, ⟨i1, i2⟩⟩ := hok
  have hwi : (Lit.int .i64 i).wf = true := WalkArith.wf_i64 (by omega)
  have hwc : (Lit.int .i64 c).wf = true := WalkArith.wf_i64 (by omega)
  have HT := hid h; clear h
  go_enter Try.func17, Try.ntmps17
  iterate 3 go_step
  refine wpk_enter (N := 104) (l := [(0, .pointer (some ⟨tg, 0, none⟩)), (1, .int .i64 now), (2, .int .i64 c), (3, .int .i64 i), (4, .bool own)]) ⟨rfl, (by intro x hx; simp only [List.mem_cons, List.not_mem_nil, or_false] at hx; rcases hx with rfl | rfl | rfl | rfl | rfl <;> rfl), rfl⟩ fun a2 h1 => ?_
  refine wv h1 rfl rfl rfl rfl (.slice none 0 0) rfl fun a4 h3 => ?_
  refine wv h3 rfl rfl rfl rfl (.int .i64 0) rfl fun a6 h5 => ?_
  iterate 6 go_step
  refine wmk h5 rfl rfl rfl rfl 1 rfl (fun _ => rfl) fun a8 h7 => ?_
  refine wv h7 rfl rfl rfl rfl (.bool false) (by unfold execOp; simp only [h7.ev 16 rfl]; exact run_v (ltIP _ _ _ _ _ (decide_eq_false (by omega)))) fun a10 h9 => ?_
  refine wmk h9 rfl rfl rfl rfl 17 rfl (fun _ => rfl) fun a12 h11 => ?_
  refine wpk_val h11 (by rw [wanted_of (g := 2) (want := false) (b := false) rfl (h11.yields (prev := 18) rfl (by simp))]; rfl) rfl (by decide) (fr rfl) (.int .i64 now) (by unfold execOp; simp only [h11.ev 1 rfl]; rfl) fun a14 h13 => ?_
  refine wpk_val h13 (by rw [wanted_of (g := 2) (want := false) (b := false) rfl (h13.yields (prev := 18) rfl (by simp))]; rfl) rfl (by decide) (fr rfl) (.bool false) (by unfold execOp; simp only [h13.ev 19 rfl]; exact run_v (gtIP _ _ _ _ _ (decide_eq_false (by omega)))) fun a16 h15 => ?_
  refine wv h15 rfl rfl rfl rfl (.bool false) (run_pick rfl (h15.ev 18 rfl) (by rw [if_neg (by simp)]; exact h15.ev 20 rfl)) fun a18 h17 => ?_
  refine wmk h17 rfl rfl rfl rfl 21 rfl (fun _ => rfl) fun a20 h19 => ?_
  refine wpk_val h19 (by rw [wanted_of (g := 6) (want := false) (b := false) rfl (h19.yields (prev := 22) rfl (by simp))]; rfl) rfl (by decide) (fr rfl) (.int .i64 c) (by unfold execOp; simp only [h19.ev 2 rfl]; rfl) fun a22 h21 => ?_
  refine wpk_val h21 (by rw [wanted_of (g := 6) (want := false) (b := false) rfl (h21.yields (prev := 22) rfl (by simp))]; rfl) rfl (by decide) (fr rfl) (.bool false) (by unfold execOp; simp only [h21.ev 23 rfl]; exact run_v (ltIP _ _ _ _ _ (decide_eq_false (by omega)))) fun a24 h23 => ?_
  refine wv h23 rfl rfl rfl rfl (.bool false) (run_pick rfl (h23.ev 22 rfl) (by rw [if_neg (by simp)]; exact h23.ev 24 rfl)) fun a26 h25 => ?_
  refine wmk h25 rfl rfl rfl rfl 25 rfl (fun _ => rfl) fun a28 h27 => ?_
  refine wpk_val h27 (by rw [wanted_of (g := 10) (want := false) (b := false) rfl (h27.yields (prev := 26) rfl (by simp))]; rfl) rfl (by decide) (fr rfl) (.int .i64 c) (by unfold execOp; simp only [h27.ev 2 rfl]; rfl) fun a30 h29 => ?_
  refine wpk_val h29 (by rw [wanted_of (g := 10) (want := false) (b := false) rfl (h29.yields (prev := 26) rfl (by simp))]; rfl) rfl (by decide) (fr rfl) (.bool false) (by unfold execOp; simp only [h29.ev 27 rfl]; exact run_v (gtIP _ _ _ _ _ (decide_eq_false (by omega)))) fun a32 h31 => ?_
  refine wv h31 rfl rfl rfl rfl (.bool false) (run_pick rfl (h31.ev 26 rfl) (by rw [if_neg (by simp)]; exact h31.ev 28 rfl)) fun a34 h33 => ?_
  refine wmk h33 rfl rfl rfl rfl 29 rfl (fun _ => rfl) fun a36 h35 => ?_
  refine wpk_val h35 (by rw [wanted_of (g := 14) (want := false) (b := false) rfl (h35.yields (prev := 30) rfl (by simp))]; rfl) rfl (by decide) (fr rfl) (.int .i64 i) (by unfold execOp; simp only [h35.ev 3 rfl]; rfl) fun a38 h37 => ?_
  refine wpk_val h37 (by rw [wanted_of (g := 14) (want := false) (b := false) rfl (h37.yields (prev := 30) rfl (by simp))]; rfl) rfl (by decide) (fr rfl) (.bool false) (by unfold execOp; simp only [h37.ev 31 rfl]; exact run_v (ltIP _ _ _ _ _ (decide_eq_false (by omega)))) fun a40 h39 => ?_
  refine wv h39 rfl rfl rfl rfl (.bool false) (run_pick rfl (h39.ev 30 rfl) (by rw [if_neg (by simp)]; exact h39.ev 32 rfl)) fun a42 h41 => ?_
  refine wmk h41 rfl rfl rfl rfl 33 rfl (fun _ => rfl) fun a44 h43 => ?_
  refine wpk_val h43 (by rw [wanted_of (g := 18) (want := false) (b := false) rfl (h43.yields (prev := 34) rfl (by simp))]; rfl) rfl (by decide) (fr rfl) (.int .i64 i) (by unfold execOp; simp only [h43.ev 3 rfl]; rfl) fun a46 h45 => ?_
  refine wpk_val h45 (by rw [wanted_of (g := 18) (want := false) (b := false) rfl (h45.yields (prev := 34) rfl (by simp))]; rfl) rfl (by decide) (fr rfl) (.bool false) (by unfold execOp; simp only [h45.ev 35 rfl]; exact run_v (gtIP _ _ _ _ _ (decide_eq_false (by omega)))) fun a48 h47 => ?_
  refine wv h47 rfl rfl rfl rfl (.bool false) (run_pick rfl (h47.ev 34 rfl) (by rw [if_neg (by simp)]; exact h47.ev 36 rfl)) fun a50 h49 => ?_
  have h51 := h49.subs (l' := [(37, _), (11, _), (10, _), (0, _), (1, _), (2, _), (3, _), (4, _)]) rfl
  clear h49
  iterate 3 go_step
  refine wp_cond (t := false) (h51.ev 37 rfl) ?_
  simp only [Bool.false_eq_true, if_false]
  have h52 := h51.subs (l' := [(11, _), (10, _), (0, _), (1, _), (2, _), (3, _), (4, _)]) rfl
  clear h51
  iterate 5 go_step
  refine wmk h52 rfl rfl rfl rfl 0 rfl (fun _ => rfl) fun a54 h53 => ?_
  refine wv h53 rfl rfl rfl rfl (.pointer (some ⟨tg, 0, none⟩)) (by unfold execOp; simp only [h53.ev 39 rfl]; exact rfl) fun a56 h55 => ?_
  refine wv h55 rfl rfl rfl rfl (.pointer (some ⟨tg, 1, none⟩)) (by unfold execOp; simp only [h55.ev 40 rfl]; exact run_v (fa_54_0_1 (tg) _)) fun a58 h57 => ?_
  refine wv h57 rfl rfl rfl rfl (.map (some wm)) (by unfold execOp; simp only [h57.ev 41 rfl]; exact run_v (loadWM (HT.out.t.cell (i := 1) (by show 1 < 2; omega)))) fun a60 h59 => ?_
  refine wmk h59 rfl rfl rfl rfl 3 rfl (fun _ => rfl) fun a62 h61 => ?_
  refine wv h61 rfl rfl rfl rfl (.tuple #[.agg (kC cl un).toArray, .bool true]) (by unfold execOp; simp only [h61.ev 42 rfl, h61.ev 43 rfl]; exact run_v (lookWL HT.out.w hwi hwt)) fun a64 h63 => ?_
  refine wmk h63 rfl rfl rfl rfl 44 rfl (fun _ => rfl) fun a66 h65 => ?_
  refine wv h65 rfl rfl rfl rfl (.agg (kC cl un).toArray) (by unfold execOp; simp only [h65.ev 38 rfl]; exact rfl) fun a68 h67 => ?_
  refine wv h67 rfl rfl rfl rfl (.bool true) (by unfold execOp; simp only [h67.ev 38 rfl]; exact rfl) fun a70 h69 => ?_
  refine wv h69 rfl rfl rfl rfl (.pointer (some ⟨w.heap.size, 0, none⟩)) (run_allocWL rfl _ w) fun a72 h71 => ?_
  obtain ⟨w1, hw1⟩ : ∃ y, y = w.alloc (.cells (kC 0 0).toArray 70) := ⟨_, rfl⟩
  obtain ⟨kb, hkb⟩ : ∃ y, y = w.heap.size := ⟨_, rfl⟩
  have K1 : Blk w1 kb 70 (kC 0 0) := by rw [hw1, hkb]; exact blk_newO rfl _ _
  have b1 : Below w.heap.size w w1 := by rw [hw1]; exact albO _ _
  rw [← hkb] at h71; rw [← hw1]; clear hw1
  refine wpk_storeP h71 rfl rfl rfl kb 0 (h71.ev 12 rfl) (kC cl un) (h71.ev 45 rfl) (by rw [infoWL]; rfl) (kC_one _ _) K1 (by show 0 + 2 ≤ 2; omega) fun a74 w2 h73 kq gq => ?_
  rw [splice_all (by rfl)] at kq
  have hlt := HT.out.lt; have t2 : Turns (fun k => k = kb) w w2 := (Turns.of_below b1).trans (Turns.of_grown gq rfl)
  have HK2 := hid kq; have HT2 := hid (HT.out.turns t2 (by omega) (by omega) (by omega)); have B2 := hid (t2.below (Nat.le_refl _) (fun k e => by omega)); clear t2 kq gq b1 K1
  refine wmk h73 rfl rfl rfl rfl 46 rfl (fun _ => rfl) fun a76 h75 => ?_
  have h77 := h75.subs (l' := [(13, _), (12, _), (11, _), (10, _), (0, _), (1, _), (2, _), (3, _), (4, _)]) rfl
  clear h75
  iterate 5 go_step
  refine wmk h77 rfl rfl rfl rfl 13 rfl (fun _ => rfl) fun a79 h78 => ?_
  refine wmk h78 rfl rfl rfl rfl 47 rfl (fun _ => rfl) fun a81 h80 => ?_
  refine wpk_val h80 (by rw [wanted_of (g := 1) (want := true) (b := true) rfl (h80.yields (prev := 48) rfl (by simp))]; rfl) rfl (by decide) (fr rfl) (.pointer (some ⟨kb, 0, none⟩)) (by unfold execOp; simp only [h80.ev 12 rfl]; exact run_v (fa_70_0_0 (kb) _)) fun a83 h82 => ?_
  refine wpk_val h82 (by rw [wanted_of (g := 1) (want := true) (b := true) rfl (h82.yields (prev := 48) rfl (by simp))]; rfl) rfl (by decide) (fr rfl) (.int .i64 cl) (by unfold execOp; simp only [h82.ev 49 rfl]; exact run_v (loadIP (HK2.out.cell (i := 0) (by show 0 < 2; omega)))) fun a85 h84 => ?_
  refine wpk_val h84 (by rw [wanted_of (g := 1) (want := true) (b := true) rfl (h84.yields (prev := 48) rfl (by simp))]; rfl) rfl (by decide) (fr rfl) (.int .i64 c) (by unfold execOp; simp only [h84.ev 2 rfl]; rfl) fun a87 h86 => ?_
  refine wpk_val h86 (by rw [wanted_of (g := 1) (want := true) (b := true) rfl (h86.yields (prev := 48) rfl (by simp))]; rfl) rfl (by decide) (fr rfl) (.bool false) (by unfold execOp; simp only [h86.ev 50 rfl, h86.ev 51 rfl]; exact run_v (neqIP _ _ _ _ _ (bne_eq_false_iff_eq.2 (by omega)))) fun a89 h88 => ?_
  refine wv h88 rfl rfl rfl rfl (.bool false) (run_pick rfl (h88.ev 48 rfl) (by rw [if_pos rfl]; exact h88.ev 52 rfl)) fun a91 h90 => ?_
  refine wmk h90 rfl rfl rfl rfl 53 rfl (fun _ => rfl) fun a93 h92 => ?_
  refine wpk_skip h92 (by rw [wanted_of (g := 7) (want := true) (b := false) rfl (h92.yields (prev := 54) rfl (by simp))]; rfl) rfl (by decide) (fr rfl) fun a95 h94 => ?_
  refine wpk_skip h94 (by rw [wanted_of (g := 7) (want := true) (b := false) rfl (h94.yields (prev := 54) rfl (by simp))]; rfl) rfl (by decide) (fr rfl) fun a97 h96 => ?_
  refine wpk_skip h96 (by rw [wanted_of (g := 7) (want := true) (b := false) rfl (h96.yields (prev := 54) rfl (by simp))]; rfl) rfl (by decide) (fr rfl) fun a99 h98 => ?_
  refine wpk_skip h98 (by rw [wanted_of (g := 7) (want := true) (b := false) rfl (h98.yields (prev := 54) rfl (by simp))]; rfl) rfl (by decide) (fr rfl) fun a101 h100 => ?_
  refine wv h100 rfl rfl rfl rfl (.bool false) (run_pick rfl (h100.ev 54 rfl) rfl) fun a103 h102 => ?_
  refine wmk h102 rfl rfl rfl rfl 59 rfl (fun _ => rfl) fun a105 h104 => ?_
  have h106 := h104.subs (l' := [(14, _), (13, _), (12, _), (11, _), (10, _), (0, _), (1, _), (2, _), (3, _), (4, _)]) rfl
  clear h104
  iterate 6 go_step
  refine wmk h106 rfl rfl rfl rfl 0 rfl (fun _ => rfl) fun a108 h107 => ?_
  refine wmk h107 rfl rfl rfl rfl 2 rfl (fun _ => rfl) fun a110 h109 => ?_
  refine wmk h109 rfl rfl rfl rfl 3 rfl (fun _ => rfl) fun a112 h111 => ?_
  refine wmk h111 rfl rfl rfl rfl 4 rfl (fun _ => rfl) fun a114 h113 => ?_
  refine wpk_call h113 (wanted_none rfl) rfl (by decide) (fr rfl) (fun args => callP_31 args _) rfl #[.pointer (some ⟨tg, 0, none⟩), .int .i64 c, .int .i64 i, .bool own] (by simp only [List.map_toArray, List.map_cons, List.map_nil, h113.ev 60 rfl, h113.ev 61 rfl, h113.ev 62 rfl, h113.ev 63 rfl]) (R := fun v' w' => ∃ la lc, v' = .slice la (agL g c i own).length lc ∧ OwnI w' w2.heap.size la lc (agL g c i own) ∧ TabP w' tg gm wm n m g wt ∧ Below w2.heap.size w2 w') ((against_any HT2.out hgok c i own hwi).mono fun e w' q => by obtain ⟨la, lc, q1, q2⟩ := q; exact ⟨_, q1, la, lc, rfl, q2⟩) fun a116 va wa ra h115 => ?_
  obtain ⟨la, lc, rfl, oa, ta, ba⟩ := ra; have HOA := hid (own_weak oa B2.out.size); have HTA := hid ta; have HKA := hid (HK2.out.mono ba); have BA := hid (kept_trans B2.out ba); clear oa ta ba
  refine wmk h115 rfl rfl rfl rfl 64 rfl (fun _ => rfl) fun a118 h117 => ?_
  have h119 := h117.subs (l' := [(15, _), (14, _), (13, _), (12, _), (11, _), (10, _), (0, _), (1, _), (2, _), (3, _), (4, _)]) rfl
  clear h117
  iterate 5 go_step
  refine wmk h119 rfl rfl rfl rfl 15 rfl (fun _ => rfl) fun a121 h120 => ?_
  refine wv h120 rfl rfl rfl rfl (.int .i64 ((agL g c i own).length : Int)) (run_lenIL rfl (h120.ev 65 rfl) _) fun a123 h122 => ?_
  refine wv h122 rfl rfl rfl rfl (.bool true) (by unfold execOp; simp only [h122.ev 66 rfl]; exact run_v (gtIP _ _ _ _ _ (decide_eq_true (by omega)))) fun a125 h124 => ?_
  have h126 := h124.subs (l' := [(67, _), (15, _), (14, _), (13, _), (12, _), (11, _), (10, _), (0, _), (1, _), (2, _), (3, _), (4, _)]) rfl
  clear h124
  iterate 3 go_step
  refine wp_cond (t := true) (h126.ev 67 rfl) ?_
  simp only [if_true]
  have h127 := h126.subs (l' := [(15, _), (14, _), (13, _), (12, _), (11, _), (10, _), (0, _), (1, _), (2, _), (3, _), (4, _)]) rfl
  clear h126
  iterate 3 go_step
  refine wmk h127 rfl rfl rfl rfl 14 rfl (fun _ => rfl) fun a129 h128 => ?_
  refine wv h128 rfl rfl rfl rfl (.bool true) (run_not rfl (h128.ev 68 rfl)) fun a131 h130 => ?_
  have h132 := h130.subs (l' := [(69, _), (15, _), (14, _), (13, _), (12, _), (11, _), (10, _), (0, _), (1, _), (2, _), (3, _), (4, _)]) rfl
  clear h130
  iterate 3 go_step
  refine wp_cond (t := true) (h132.ev 69 rfl) ?_
  simp only [if_true]
  have h133 := h132.subs (l' := [(15, _), (14, _), (13, _), (12, _), (11, _), (10, _), (0, _), (1, _), (2, _), (3, _), (4, _)]) rfl
  clear h132
  go_step
  refine wmk h133 rfl rfl rfl rfl 0 rfl (fun _ => rfl) fun a135 h134 => ?_
  refine wv h134 rfl rfl rfl rfl (.pointer (some ⟨tg, 0, none⟩)) (by unfold execOp; simp only [h134.ev 70 rfl]; exact rfl) fun a137 h136 => ?_
  refine wv h136 rfl rfl rfl rfl (.pointer (some ⟨tg, 1, none⟩)) (by unfold execOp; simp only [h136.ev 71 rfl]; exact run_v (fa_54_0_1 (tg) _)) fun a139 h138 => ?_
  refine wv h138 rfl rfl rfl rfl (.map (some wm)) (by unfold execOp; simp only [h138.ev 72 rfl]; exact run_v (loadWM (HTA.out.t.cell (i := 1) (by show 1 < 2; omega)))) fun a141 h140 => ?_
  refine wmk h140 rfl rfl rfl rfl 3 rfl (fun _ => rfl) fun a143 h142 => ?_
  refine wmk h142 rfl rfl rfl rfl 2 rfl (fun _ => rfl) fun a145 h144 => ?_
  refine wmk h144 rfl rfl rfl rfl 1 rfl (fun _ => rfl) fun a147 h146 => ?_
  refine wv h146 rfl rfl rfl rfl (.int .i64 (now + 64)) (by unfold execOp; simp only [h146.ev 76 rfl]; exact run_v (addNP _ _ _ _ _ (by omega) (by omega) (by omega) _)) fun a149 h148 => ?_
  refine wv h148 rfl rfl rfl rfl (.agg (kC c (now + 64)).toArray) (by unfold execOp; simp only [List.map_toArray, List.map_cons, List.map_nil, h148.ev 75 rfl, h148.ev 77 rfl]; exact run_v (buildWL _ _ _)) fun a151 h150 => ?_
  obtain ⟨wu, hru, mu, tu⟩ := storeWL HTA.out.w hm hwi c (now + 64)
  refine wpk_skipvP h150 (wanted_none rfl) rfl (w' := wu) (by unfold execOp; simp only [h150.ev 73 rfl, h150.ev 74 rfl, h150.ev 78 rfl]; exact run_uP hru) fun a153 h152 => ?_
  have HTU := hid (HTA.out.setW tu mu); have TU := hid tu; have HOU := hid (own_turnsL HOA.out tu (fun k e => .inl (by have := HT.out.lt; omega))); clear mu tu
  have h154 := h152.subs (l' := [(15, _), (14, _), (13, _), (12, _), (11, _), (10, _), (0, _), (1, _), (2, _), (3, _), (4, _)]) rfl
  clear h152
  iterate 5 go_step
  refine wmk h154 rfl rfl rfl rfl 15 rfl (fun _ => rfl) fun a156 h155 => ?_
  have h157 := h155.subs (l' := [(79, _), (15, _), (14, _), (13, _), (12, _), (11, _), (0, _), (1, _), (2, _), (3, _), (4, _)]) rfl
  clear h155
  refine wmk h157 rfl rfl rfl rfl 79 rfl (fun _ => rfl) fun a159 h158 => ?_
  have h160 := h158.subs (l' := [(10, _), (79, _), (15, _), (14, _), (13, _), (12, _), (0, _), (1, _), (2, _), (3, _), (4, _)]) rfl
  clear h158
  refine wv h160 rfl rfl rfl rfl (.int .i64 32) rfl fun a162 h161 => ?_
  have h163 := h161.subs (l' := [(11, _), (10, _), (15, _), (14, _), (13, _), (12, _), (0, _), (1, _), (2, _), (3, _), (4, _)]) rfl
  clear h161
  iterate 4 go_step
  simp only [Exit.then, Exit.inBlock]
  exact bodyPost_ret (results_tmp2 rfl (h163.known (10, .slice la (agL g c i own).length lc) (by simp)) (h163.known (11, .int .i64 32) (by simp))) h163.defs ⟨la, lc, rfl, HOU.out, ⟨m + 1, by omega, HTU.out⟩, (Turns.of_below BA.out).trans TU.out⟩

set_option maxHeartbeats 4000000 in
theorem ask_own0 {w : World} {tg gm wm n m : Nat} {g : GrF} {wt : WtF} (h : TabP w tg gm wm n m g wt) (hgok : GrOk g) (hn : n < 1000000) (hm : m < 1000000) {now c i : Int} (own : Bool) (hok : askOk now c i) {cl un : Int} (hwt : wt i = some (cl, un)) (hcl : cl = c) (hag : (agL g c i own).length = 0) :
    Calls Try.prog 17 #[.pointer (some ⟨tg, 0, none⟩), .int .i64 now, .int .i64 c, .int .i64 i, .bool own] w fun e w' => e = .returned (.tuple #[.slice none 0 0, .int .i64 0]) ∧ (∃ n', n' ≤ n + 1 ∧ TabP w' tg gm wm n' m (updG g (c, i) (some (own, now + 64))) (updG wt i none)) ∧ Turns (fun k => k = gm ∨ k = wm) w w' := by
  obtain ⟨⟨n1, n2⟩, ⟨c1, c2⟩, ⟨i1, i2⟩⟩ := hok
  have hwi : (Lit.int .i64 i).wf = true := WalkArith.wf_i64 (by omega)
  have hwc : (Lit.int .i64 c).wf = true := WalkArith.wf_i64 (by omega)
  have HT := hid h; clear h
  go_enter Try.func17, Try.ntmps17
  iterate 3 go_step
  refine wpk_enter (N := 104) (l := [(0, .pointer (some ⟨tg, 0, none⟩)), (1, .int .i64 now), (2, .int .i64 c), (3, .int .i64 i), (4, .bool own)]) ⟨rfl, (by intro x hx; simp only [List.mem_cons, List.not_mem_nil, or_false] at hx; rcases hx with rfl | rfl | rfl | rfl | rfl <;> rfl), rfl⟩ fun a2 h1 => ?_
  refine wv h1 rfl rfl rfl rfl (.slice none 0 0) rfl fun a4 h3 => ?_
  refine wv h3 rfl rfl rfl rfl (.int .i64 0) rfl fun a6 h5 => ?_
  iterate 6 go_step
  refine wmk h5 rfl rfl rfl rfl 1 rfl (fun _ => rfl) fun a8 h7 => ?_
  refine wv h7 rfl rfl rfl rfl (.bool false) (by unfold execOp; simp only [h7.ev 16 rfl]; exact run_v (ltIP _ _ _ _ _ (decide_eq_false (by omega)))) fun a10 h9 => ?_
  refine wmk h9 rfl rfl rfl rfl 17 rfl (fun _ => rfl) fun a12 h11 => ?_
  refine wpk_val h11 (by rw [wanted_of (g := 2) (want := false) (b := false) rfl (h11.yields (prev := 18) rfl (by simp))]; rfl) rfl (by decide) (fr rfl) (.int .i64 now) (by unfold execOp; simp only [h11.ev 1 rfl]; rfl) fun a14 h13 => ?_
  refine wpk_val h13 (by rw [wanted_of (g := 2) (want := false) (b := false) rfl (h13.yields (prev := 18) rfl (by simp))]; rfl) rfl (by decide) (fr rfl) (.bool false) (by unfold execOp; simp only [h13.ev 19 rfl]; exact run_v (gtIP _ _ _ _ _ (decide_eq_false (by omega)))) fun a16 h15 => ?_
  refine wv h15 rfl rfl rfl rfl (.bool false) (run_pick rfl (h15.ev 18 rfl) (by rw [if_neg (by simp)]; exact h15.ev 20 rfl)) fun a18 h17 => ?_
  refine wmk h17 rfl rfl rfl rfl 21 rfl (fun _ => rfl) fun a20 h19 => ?_
  refine wpk_val h19 (by rw [wanted_of (g := 6) (want := false) (b := false) rfl (h19.yields (prev := 22) rfl (by simp))]; rfl) rfl (by decide) (fr rfl) (.int .i64 c) (by unfold execOp; simp only [h19.ev 2 rfl]; rfl) fun a22 h21 => ?_
  refine wpk_val h21 (by rw [wanted_of (g := 6) (want := false) (b := false) rfl (h21.yields (prev := 22) rfl (by simp))]; rfl) rfl (by decide) (fr rfl) (.bool false) (by unfold execOp; simp only [h21.ev 23 rfl]; exact run_v (ltIP _ _ _ _ _ (decide_eq_false (by omega)))) fun a24 h23 => ?_
  refine wv h23 rfl rfl rfl rfl (.bool false) (run_pick rfl (h23.ev 22 rfl) (by rw [if_neg (by simp)]; exact h23.ev 24 rfl)) fun a26 h25 => ?_
  refine wmk h25 rfl rfl rfl rfl 25 rfl (fun _ => rfl) fun a28 h27 => ?_
  refine wpk_val h27 (by rw [wanted_of (g := 10) (want := false) (b := false) rfl (h27.yields (prev := 26) rfl (by simp))]; rfl) rfl (by decide) (fr rfl) (.int .i64 c) (by unfold execOp; simp only [h27.ev 2 rfl]; rfl) fun a30 h29 => ?_
  refine wpk_val h29 (by rw [wanted_of (g := 10) (want := false) (b := false) rfl (h29.yields (prev := 26) rfl (by simp))]; rfl) rfl (by decide) (fr rfl) (.bool false) (by unfold execOp; simp only [h29.ev 27 rfl]; exact run_v (gtIP _ _ _ _ _ (decide_eq_false (by omega)))) fun a32 h31 => ?_
  refine wv h31 rfl rfl rfl rfl (.bool false) (run_pick rfl (h31.ev 26 rfl) (by rw [if_neg (by simp)]; exact h31.ev 28 rfl)) fun a34 h33 => ?_
  refine wmk h33 rfl rfl rfl rfl 29 rfl (fun _ => rfl) fun a36 h35 => ?_
  refine wpk_val h35 (by rw [wanted_of (g := 14) (want := false) (b := false) rfl (h35.yields (prev := 30) rfl (by simp))]; rfl) rfl (by decide) (fr rfl) (.int .i64 i) (by unfold execOp; simp only [h35.ev 3 rfl]; rfl) fun a38 h37 => ?_
  refine wpk_val h37 (by rw [wanted_of (g := 14) (want := false) (b := false) rfl (h37.yields (prev := 30) rfl (by simp))]; rfl) rfl (by decide) (fr rfl) (.bool false) (by unfold execOp; simp only [h37.ev 31 rfl]; exact run_v (ltIP _ _ _ _ _ (decide_eq_false (by omega)))) fun a40 h39 => ?_
  refine wv h39 rfl rfl rfl rfl (.bool false) (run_pick rfl (h39.ev 30 rfl) (by rw [if_neg (by simp)]; exact h39.ev 32 rfl)) fun a42 h41 => ?_
  refine wmk h41 rfl rfl rfl rfl 33 rfl (fun _ => rfl) fun a44 h43 => ?_
  refine wpk_val h43 (by rw [wanted_of (g := 18) (want := false) (b := false) rfl (h43.yields (prev := 34) rfl (by simp))]; rfl) rfl (by decide) (fr rfl) (.int .i64 i) (by unfold execOp; simp only [h43.ev 3 rfl]; rfl) fun a46 h45 => ?_
  refine wpk_val h45 (by rw [wanted_of (g := 18) (want := false) (b := false) rfl (h45.yields (prev := 34) rfl (by simp))]; rfl) rfl (by decide) (fr rfl) (.bool false) (by unfold execOp; simp only [h45.ev 35 rfl]; exact run_v (gtIP _ _ _ _ _ (decide_eq_false (by omega)))) fun a48 h47 => ?_
  refine wv h47 rfl rfl rfl rfl (.bool false) (run_pick rfl (h47.ev 34 rfl) (by rw [if_neg (by simp)]; exact h47.ev 36 rfl)) fun a50 h49 => ?_
  have h51 := h49.subs (l' := [(37, _), (11, _), (10, _), (0, _), (1, _), (2, _), (3, _), (4, _)]) rfl
  clear h49
  iterate 3 go_step
  refine wp_cond (t := false) (h51.ev 37 rfl) ?_
  simp only [Bool.false_eq_true, if_false]
  have h52 := h51.subs (l' := [(11, _), (10, _), (0, _), (1, _), (2, _), (3, _), (4, _)]) rfl
  clear h51
  iterate 5 go_step
  refine wmk h52 rfl rfl rfl rfl 0 rfl (fun _ => rfl) fun a54 h53 => ?_
  refine wv h53 rfl rfl rfl rfl (.pointer (some ⟨tg, 0, none⟩)) (by unfold execOp; simp only [h53.ev 39 rfl]; exact rfl) fun a56 h55 => ?_
  refine wv h55 rfl rfl rfl rfl (.pointer (some ⟨tg, 1, none⟩)) (by unfold execOp; simp only [h55.ev 40 rfl]; exact run_v (fa_54_0_1 (tg) _)) fun a58 h57 => ?_
  refine wv h57 rfl rfl rfl rfl (.map (some wm)) (by unfold execOp; simp only [h57.ev 41 rfl]; exact run_v (loadWM (HT.out.t.cell (i := 1) (by show 1 < 2; omega)))) fun a60 h59 => ?_
  refine wmk h59 rfl rfl rfl rfl 3 rfl (fun _ => rfl) fun a62 h61 => ?_
  refine wv h61 rfl rfl rfl rfl (.tuple #[.agg (kC cl un).toArray, .bool true]) (by unfold execOp; simp only [h61.ev 42 rfl, h61.ev 43 rfl]; exact run_v (lookWL HT.out.w hwi hwt)) fun a64 h63 => ?_
  refine wmk h63 rfl rfl rfl rfl 44 rfl (fun _ => rfl) fun a66 h65 => ?_
  refine wv h65 rfl rfl rfl rfl (.agg (kC cl un).toArray) (by unfold execOp; simp only [h65.ev 38 rfl]; exact rfl) fun a68 h67 => ?_
  refine wv h67 rfl rfl rfl rfl (.bool true) (by unfold execOp; simp only [h67.ev 38 rfl]; exact rfl) fun a70 h69 => ?_
  refine wv h69 rfl rfl rfl rfl (.pointer (some ⟨w.heap.size, 0, none⟩)) (run_allocWL rfl _ w) fun a72 h71 => ?_
  obtain ⟨w1, hw1⟩ : ∃ y, y = w.alloc (.cells (kC 0 0).toArray 70) := ⟨_, rfl⟩
  obtain ⟨kb, hkb⟩ : ∃ y, y = w.heap.size := ⟨_, rfl⟩
  have K1 : Blk w1 kb 70 (kC 0 0) := by rw [hw1, hkb]; exact blk_newO rfl _ _
  have b1 : Below w.heap.size w w1 := by rw [hw1]; exact albO _ _
  rw [← hkb] at h71; rw [← hw1]; clear hw1
  refine wpk_storeP h71 rfl rfl rfl kb 0 (h71.ev 12 rfl) (kC cl un) (h71.ev 45 rfl) (by rw [infoWL]; rfl) (kC_one _ _) K1 (by show 0 + 2 ≤ 2; omega) fun a74 w2 h73 kq gq => ?_
  rw [splice_all (by rfl)] at kq
  have hlt := HT.out.lt; have t2 : Turns (fun k => k = kb) w w2 := (Turns.of_below b1).trans (Turns.of_grown gq rfl)
  have HK2 := hid kq; have HT2 := hid (HT.out.turns t2 (by omega) (by omega) (by omega)); have B2 := hid (t2.below (Nat.le_refl _) (fun k e => by omega)); clear t2 kq gq b1 K1
  refine wmk h73 rfl rfl rfl rfl 46 rfl (fun _ => rfl) fun a76 h75 => ?_
  have h77 := h75.subs (l' := [(13, _), (12, _), (11, _), (10, _), (0, _), (1, _), (2, _), (3, _), (4, _)]) rfl
  clear h75
  iterate 5 go_step
  refine wmk h77 rfl rfl rfl rfl 13 rfl (fun _ => rfl) fun a79 h78 => ?_
  refine wmk h78 rfl rfl rfl rfl 47 rfl (fun _ => rfl) fun a81 h80 => ?_
  refine wpk_val h80 (by rw [wanted_of (g := 1) (want := true) (b := true) rfl (h80.yields (prev := 48) rfl (by simp))]; rfl) rfl (by decide) (fr rfl) (.pointer (some ⟨kb, 0, none⟩)) (by unfold execOp; simp only [h80.ev 12 rfl]; exact run_v (fa_70_0_0 (kb) _)) fun a83 h82 => ?_
  refine wpk_val h82 (by rw [wanted_of (g := 1) (want := true) (b := true) rfl (h82.yields (prev := 48) rfl (by simp))]; rfl) rfl (by decide) (fr rfl) (.int .i64 cl) (by unfold execOp; simp only [h82.ev 49 rfl]; exact run_v (loadIP (HK2.out.cell (i := 0) (by show 0 < 2; omega)))) fun a85 h84 => ?_
  refine wpk_val h84 (by rw [wanted_of (g := 1) (want := true) (b := true) rfl (h84.yields (prev := 48) rfl (by simp))]; rfl) rfl (by decide) (fr rfl) (.int .i64 c) (by unfold execOp; simp only [h84.ev 2 rfl]; rfl) fun a87 h86 => ?_
  refine wpk_val h86 (by rw [wanted_of (g := 1) (want := true) (b := true) rfl (h86.yields (prev := 48) rfl (by simp))]; rfl) rfl (by decide) (fr rfl) (.bool false) (by unfold execOp; simp only [h86.ev 50 rfl, h86.ev 51 rfl]; exact run_v (neqIP _ _ _ _ _ (bne_eq_false_iff_eq.2 (by omega)))) fun a89 h88 => ?_
  refine wv h88 rfl rfl rfl rfl (.bool false) (run_pick rfl (h88.ev 48 rfl) (by rw [if_pos rfl]; exact h88.ev 52 rfl)) fun a91 h90 => ?_
  refine wmk h90 rfl rfl rfl rfl 53 rfl (fun _ => rfl) fun a93 h92 => ?_
  refine wpk_skip h92 (by rw [wanted_of (g := 7) (want := true) (b := false) rfl (h92.yields (prev := 54) rfl (by simp))]; rfl) rfl (by decide) (fr rfl) fun a95 h94 => ?_
  refine wpk_skip h94 (by rw [wanted_of (g := 7) (want := true) (b := false) rfl (h94.yields (prev := 54) rfl (by simp))]; rfl) rfl (by decide) (fr rfl) fun a97 h96 => ?_
  refine wpk_skip h96 (by rw [wanted_of (g := 7) (want := true) (b := false) rfl (h96.yields (prev := 54) rfl (by simp))]; rfl) rfl (by decide) (fr rfl) fun a99 h98 => ?_
  refine wpk_skip h98 (by rw [wanted_of (g := 7) (want := true) (b := false) rfl (h98.yields (prev := 54) rfl (by simp))]; rfl) rfl (by decide) (fr rfl) fun a101 h100 => ?_
  refine wv h100 rfl rfl rfl rfl (.bool false) (run_pick rfl (h100.ev 54 rfl) rfl) fun a103 h102 => ?_
  refine wmk h102 rfl rfl rfl rfl 59 rfl (fun _ => rfl) fun a105 h104 => ?_
  have h106 := h104.subs (l' := [(14, _), (13, _), (12, _), (11, _), (10, _), (0, _), (1, _), (2, _), (3, _), (4, _)]) rfl
  clear h104
  iterate 6 go_step
  refine wmk h106 rfl rfl rfl rfl 0 rfl (fun _ => rfl) fun a108 h107 => ?_
  refine wmk h107 rfl rfl rfl rfl 2 rfl (fun _ => rfl) fun a110 h109 => ?_
  refine wmk h109 rfl rfl rfl rfl 3 rfl (fun _ => rfl) fun a112 h111 => ?_
  refine wmk h111 rfl rfl rfl rfl 4 rfl (fun _ => rfl) fun a114 h113 => ?_
  refine wpk_call h113 (wanted_none rfl) rfl (by decide) (fr rfl) (fun args => callP_31 args _) rfl #[.pointer (some ⟨tg, 0, none⟩), .int .i64 c, .int .i64 i, .bool own] (by simp only [List.map_toArray, List.map_cons, List.map_nil, h113.ev 60 rfl, h113.ev 61 rfl, h113.ev 62 rfl, h113.ev 63 rfl]) (R := fun v' w' => ∃ la lc, v' = .slice la (agL g c i own).length lc ∧ OwnI w' w2.heap.size la lc (agL g c i own) ∧ TabP w' tg gm wm n m g wt ∧ Below w2.heap.size w2 w') ((against_any HT2.out hgok c i own hwi).mono fun e w' q => by obtain ⟨la, lc, q1, q2⟩ := q; exact ⟨_, q1, la, lc, rfl, q2⟩) fun a116 va wa ra h115 => ?_
  obtain ⟨la, lc, rfl, oa, ta, ba⟩ := ra; have HOA := hid (own_weak oa B2.out.size); have HTA := hid ta; have HKA := hid (HK2.out.mono ba); have BA := hid (kept_trans B2.out ba); clear oa ta ba
  refine wmk h115 rfl rfl rfl rfl 64 rfl (fun _ => rfl) fun a118 h117 => ?_
  have h119 := h117.subs (l' := [(15, _), (14, _), (13, _), (12, _), (11, _), (10, _), (0, _), (1, _), (2, _), (3, _), (4, _)]) rfl
  clear h117
  iterate 5 go_step
  refine wmk h119 rfl rfl rfl rfl 15 rfl (fun _ => rfl) fun a121 h120 => ?_
  refine wv h120 rfl rfl rfl rfl (.int .i64 ((agL g c i own).length : Int)) (run_lenIL rfl (h120.ev 65 rfl) _) fun a123 h122 => ?_
  refine wv h122 rfl rfl rfl rfl (.bool false) (by unfold execOp; simp only [h122.ev 66 rfl]; exact run_v (gtIP _ _ _ _ _ (decide_eq_false (by omega)))) fun a125 h124 => ?_
  have h126 := h124.subs (l' := [(67, _), (15, _), (14, _), (13, _), (12, _), (11, _), (10, _), (0, _), (1, _), (2, _), (3, _), (4, _)]) rfl
  clear h124
  iterate 3 go_step
  refine wp_cond (t := false) (h126.ev 67 rfl) ?_
  simp only [Bool.false_eq_true, if_false]
  have h127 := h126.subs (l' := [(15, _), (14, _), (13, _), (12, _), (11, _), (10, _), (0, _), (1, _), (2, _), (3, _), (4, _)]) rfl
  clear h126
  iterate 6 go_step
  refine wmk h127 rfl rfl rfl rfl 14 rfl (fun _ => rfl) fun a129 h128 => ?_
  iterate 3 go_step
  refine wp_cond (t := false) (h128.ev 80 rfl) ?_
  simp only [Bool.false_eq_true, if_false]
  have h130 := h128.subs (l' := [(15, _), (14, _), (13, _), (12, _), (11, _), (10, _), (0, _), (1, _), (2, _), (3, _), (4, _)]) rfl
  clear h128
  iterate 6 go_step
  refine wmk h130 rfl rfl rfl rfl 13 rfl (fun _ => rfl) fun a132 h131 => ?_
  refine wmk h131 rfl rfl rfl rfl 81 rfl (fun _ => rfl) fun a134 h133 => ?_
  refine wpk_val h133 (by rw [wanted_of (g := 1) (want := true) (b := true) rfl (h133.yields (prev := 82) rfl (by simp))]; rfl) rfl (by decide) (fr rfl) (.pointer (some ⟨kb, 0, none⟩)) (by unfold execOp; simp only [h133.ev 12 rfl]; exact run_v (fa_70_0_0 (kb) _)) fun a136 h135 => ?_
  refine wpk_val h135 (by rw [wanted_of (g := 1) (want := true) (b := true) rfl (h135.yields (prev := 82) rfl (by simp))]; rfl) rfl (by decide) (fr rfl) (.int .i64 cl) (by unfold execOp; simp only [h135.ev 83 rfl]; exact run_v (loadIP (HKA.out.cell (i := 0) (by show 0 < 2; omega)))) fun a138 h137 => ?_
  refine wpk_val h137 (by rw [wanted_of (g := 1) (want := true) (b := true) rfl (h137.yields (prev := 82) rfl (by simp))]; rfl) rfl (by decide) (fr rfl) (.int .i64 c) (by unfold execOp; simp only [h137.ev 2 rfl]; rfl) fun a140 h139 => ?_
  refine wpk_val h139 (by rw [wanted_of (g := 1) (want := true) (b := true) rfl (h139.yields (prev := 82) rfl (by simp))]; rfl) rfl (by decide) (fr rfl) (.bool true) (by unfold execOp; simp only [h139.ev 84 rfl, h139.ev 85 rfl]; exact run_v (eqIP _ _ _ _ _ (beq_iff_eq.2 (by omega)))) fun a142 h141 => ?_
  refine wv h141 rfl rfl rfl rfl (.bool true) (run_pick rfl (h141.ev 82 rfl) (by rw [if_pos rfl]; exact h141.ev 86 rfl)) fun a144 h143 => ?_
  have h145 := h143.subs (l' := [(87, _), (15, _), (14, _), (13, _), (12, _), (11, _), (10, _), (0, _), (1, _), (2, _), (3, _), (4, _)]) rfl
  clear h143
  iterate 3 go_step
  refine wp_cond (t := true) (h145.ev 87 rfl) ?_
  simp only [if_true]
  have h146 := h145.subs (l' := [(15, _), (14, _), (13, _), (12, _), (11, _), (10, _), (0, _), (1, _), (2, _), (3, _), (4, _)]) rfl
  clear h145
  go_step
  refine wmk h146 rfl rfl rfl rfl 0 rfl (fun _ => rfl) fun a148 h147 => ?_
  refine wv h147 rfl rfl rfl rfl (.pointer (some ⟨tg, 0, none⟩)) (by unfold execOp; simp only [h147.ev 88 rfl]; exact rfl) fun a150 h149 => ?_
  refine wv h149 rfl rfl rfl rfl (.pointer (some ⟨tg, 1, none⟩)) (by unfold execOp; simp only [h149.ev 89 rfl]; exact run_v (fa_54_0_1 (tg) _)) fun a152 h151 => ?_
  refine wv h151 rfl rfl rfl rfl (.map (some wm)) (by unfold execOp; simp only [h151.ev 90 rfl]; exact run_v (loadWM (HTA.out.t.cell (i := 1) (by show 1 < 2; omega)))) fun a154 h153 => ?_
  refine wmk h153 rfl rfl rfl rfl 3 rfl (fun _ => rfl) fun a156 h155 => ?_
  refine wpk_dropWL h155 rfl rfl HTA.out.w hwi rfl (h155.ev 91 rfl) (h155.ev 92 rfl) fun a158 wd h157 md td => ?_
  have HTD := hid (HTA.out.setW td md); have TD := hid td; clear md td
  have h159 := h157.subs (l' := [(15, _), (14, _), (13, _), (12, _), (11, _), (10, _), (0, _), (1, _), (2, _), (3, _), (4, _)]) rfl
  clear h157
  iterate 5 go_step
  refine wmk h159 rfl rfl rfl rfl 0 rfl (fun _ => rfl) fun a161 h160 => ?_
  refine wv h160 rfl rfl rfl rfl (.pointer (some ⟨tg, 0, none⟩)) (by unfold execOp; simp only [h160.ev 93 rfl]; exact rfl) fun a163 h162 => ?_
  refine wv h162 rfl rfl rfl rfl (.pointer (some ⟨tg, 0, none⟩)) (by unfold execOp; simp only [h162.ev 94 rfl]; exact run_v (fa_54_0_0 (tg) _)) fun a165 h164 => ?_
  refine wv h164 rfl rfl rfl rfl (.map (some gm)) (by unfold execOp; simp only [h164.ev 95 rfl]; exact run_v (loadGM (HTD.out.t.cell (i := 0) (by show 0 < 2; omega)))) fun a167 h166 => ?_
  refine wmk h166 rfl rfl rfl rfl 2 rfl (fun _ => rfl) fun a169 h168 => ?_
  refine wmk h168 rfl rfl rfl rfl 3 rfl (fun _ => rfl) fun a171 h170 => ?_
  refine wv h170 rfl rfl rfl rfl (.agg (kC c i).toArray) (by unfold execOp; simp only [List.map_toArray, List.map_cons, List.map_nil, h170.ev 97 rfl, h170.ev 98 rfl]; exact run_v (buildKL _ _ _)) fun a173 h172 => ?_
  refine wmk h172 rfl rfl rfl rfl 4 rfl (fun _ => rfl) fun a175 h174 => ?_
  refine wmk h174 rfl rfl rfl rfl 1 rfl (fun _ => rfl) fun a177 h176 => ?_
  refine wv h176 rfl rfl rfl rfl (.int .i64 (now + 64)) (by unfold execOp; simp only [h176.ev 101 rfl]; exact run_v (addNP _ _ _ _ _ (by omega) (by omega) (by omega) _)) fun a179 h178 => ?_
  refine wv h178 rfl rfl rfl rfl (.agg (gC own (now + 64)).toArray) (by unfold execOp; simp only [List.map_toArray, List.map_cons, List.map_nil, h178.ev 100 rfl, h178.ev 102 rfl]; exact run_v (buildGL _ _ _)) fun a181 h180 => ?_
  obtain ⟨wg, hrg, mg, tg_⟩ := storeGL HTD.out.g hn ⟨hwc, hwi⟩ own (now + 64)
  refine wpk_skipvP h180 (wanted_none rfl) rfl (w' := wg) (by unfold execOp; simp only [h180.ev 96 rfl, h180.ev 99 rfl, h180.ev 103 rfl]; exact run_uP hrg) fun a183 h182 => ?_
  have HTG := hid (HTD.out.setG tg_ mg); have TG := hid tg_; clear mg tg_
  have h184 := h182.subs (l' := [(15, _), (14, _), (13, _), (12, _), (11, _), (10, _), (0, _), (1, _), (2, _), (3, _), (4, _)]) rfl
  clear h182
  iterate 5 go_step
  have h185 := h184.subs (l' := [(15, _), (14, _), (13, _), (12, _), (11, _), (0, _), (1, _), (2, _), (3, _), (4, _)]) rfl
  clear h184
  refine wv h185 rfl rfl rfl rfl (.slice none 0 0) rfl fun a187 h186 => ?_
  have h188 := h186.subs (l' := [(10, _), (15, _), (14, _), (13, _), (12, _), (0, _), (1, _), (2, _), (3, _), (4, _)]) rfl
  clear h186
  refine wv h188 rfl rfl rfl rfl (.int .i64 0) rfl fun a190 h189 => ?_
  iterate 4 go_step
  exact bodyPost_ret (results_tmp2 rfl (h189.known (10, .slice none 0 0) (by simp)) (h189.known (11, .int .i64 0) (by simp))) h189.defs ⟨rfl, ⟨n + 1, by omega, HTG.out⟩, ((Turns.of_below BA.out).trans (TD.out.mono (fun k e => .inr e))).trans (TG.out.mono (fun k e => .inl e))⟩

set_option maxHeartbeats 4000000 in
theorem ask_old1 {w : World} {tg gm wm n m : Nat} {g : GrF} {wt : WtF} (h : TabP w tg gm wm n m g wt) (hgok : GrOk g) (hn : n < 1000000) (hm : m < 1000000) {now c i : Int} (own : Bool) (hok : askOk now c i) {cl un : Int} (hwt : wt i = some (cl, un)) (hcl : cl ≠ c) (hun : ¬ now < un) (hag : 0 < (agL g c i own).length) :
    Calls Try.prog 17 #[.pointer (some ⟨tg, 0, none⟩), .int .i64 now, .int .i64 c, .int .i64 i, .bool own] w fun e w' => ∃ la lc, e = .returned (.tuple #[.slice la (agL g c i own).length lc, .int .i64 32]) ∧ OwnI w' w.heap.size la lc (agL g c i own) ∧ (∃ m', m' ≤ m + 1 ∧ TabP w' tg gm wm n m' g (updG wt i (some (c, now + 64)))) ∧ Turns (fun k => k = wm) w w' := by
  obtain ⟨⟨n1, n2⟩, ⟨c1, c2⟩, ⟨i1, i2⟩⟩ := hok
  have hwi : (Lit.int .i64 i).wf = true := WalkArith.wf_i64 (by omega)
  have hwc : (Lit.int .i64 c).wf = true := WalkArith.wf_i64 (by omega)
  have HT := hid h; clear h
  go_enter Try.func17, Try.ntmps17
  iterate 3 go_step
  refine wpk_enter (N := 104) (l := [(0, .pointer (some ⟨tg, 0, none⟩)), (1, .int .i64 now), (2, .int .i64 c), (3, .int .i64 i), (4, .bool own)]) ⟨rfl, (by intro x hx; simp only [List.mem_cons, List.not_mem_nil, or_false] at hx; rcases hx with rfl | rfl | rfl | rfl | rfl <;> rfl), rfl⟩ fun a2 h1 => ?_
  refine wv h1 rfl rfl rfl rfl (.slice none 0 0) rfl fun a4 h3 => ?_
  refine wv h3 rfl rfl rfl rfl (.int .i64 0) rfl fun a6 h5 => ?_
  iterate 6 go_step
  refine wmk h5 rfl rfl rfl rfl 1 rfl (fun _ => rfl) fun a8 h7 => ?_
  refine wv h7 rfl rfl rfl rfl (.bool false) (by unfold execOp; simp only [h7.ev 16 rfl]; exact run_v (ltIP _ _ _ _ _ (decide_eq_false (by omega)))) fun a10 h9 => ?_
  refine wmk h9 rfl rfl rfl rfl 17 rfl (fun _ => rfl) fun a12 h11 => ?_
  refine wpk_val h11 (by rw [wanted_of (g := 2) (want := false) (b := false) rfl (h11.yields (prev := 18) rfl (by simp))]; rfl) rfl (by decide) (fr rfl) (.int .i64 now) (by unfold execOp; simp only [h11.ev 1 rfl]; rfl) fun a14 h13 => ?_
  refine wpk_val h13 (by rw [wanted_of (g := 2) (want := false) (b := false) rfl (h13.yields (prev := 18) rfl (by simp))]; rfl) rfl (by decide) (fr rfl) (.bool false) (by unfold execOp; simp only [h13.ev 19 rfl]; exact run_v (gtIP _ _ _ _ _ (decide_eq_false (by omega)))) fun a16 h15 => ?_
  refine wv h15 rfl rfl rfl rfl (.bool false) (run_pick rfl (h15.ev 18 rfl) (by rw [if_neg (by simp)]; exact h15.ev 20 rfl)) fun a18 h17 => ?_
  refine wmk h17 rfl rfl rfl rfl 21 rfl (fun _ => rfl) fun a20 h19 => ?_
  refine wpk_val h19 (by rw [wanted_of (g := 6) (want := false) (b := false) rfl (h19.yields (prev := 22) rfl (by simp))]; rfl) rfl (by decide) (fr rfl) (.int .i64 c) (by unfold execOp; simp only [h19.ev 2 rfl]; rfl) fun a22 h21 => ?_
  refine wpk_val h21 (by rw [wanted_of (g := 6) (want := false) (b := false) rfl (h21.yields (prev := 22) rfl (by simp))]; rfl) rfl (by decide) (fr rfl) (.bool false) (by unfold execOp; simp only [h21.ev 23 rfl]; exact run_v (ltIP _ _ _ _ _ (decide_eq_false (by omega)))) fun a24 h23 => ?_
  refine wv h23 rfl rfl rfl rfl (.bool false) (run_pick rfl (h23.ev 22 rfl) (by rw [if_neg (by simp)]; exact h23.ev 24 rfl)) fun a26 h25 => ?_
  refine wmk h25 rfl rfl rfl rfl 25 rfl (fun _ => rfl) fun a28 h27 => ?_
  refine wpk_val h27 (by rw [wanted_of (g := 10) (want := false) (b := false) rfl (h27.yields (prev := 26) rfl (by simp))]; rfl) rfl (by decide) (fr rfl) (.int .i64 c) (by unfold execOp; simp only [h27.ev 2 rfl]; rfl) fun a30 h29 => ?_
  refine wpk_val h29 (by rw [wanted_of (g := 10) (want := false) (b := false) rfl (h29.yields (prev := 26) rfl (by simp))]; rfl) rfl (by decide) (fr rfl) (.bool false) (by unfold execOp; simp only [h29.ev 27 rfl]; exact run_v (gtIP _ _ _ _ _ (decide_eq_false (by omega)))) fun a32 h31 => ?_
  refine wv h31 rfl rfl rfl rfl (.bool false) (run_pick rfl (h31.ev 26 rfl) (by rw [if_neg (by simp)]; exact h31.ev 28 rfl)) fun a34 h33 => ?_
  refine wmk h33 rfl rfl rfl rfl 29 rfl (fun _ => rfl) fun a36 h35 => ?_
  refine wpk_val h35 (by rw [wanted_of (g := 14) (want := false) (b := false) rfl (h35.yields (prev := 30) rfl (by simp))]; rfl) rfl (by decide) (fr rfl) (.int .i64 i) (by unfold execOp; simp only [h35.ev 3 rfl]; rfl) fun a38 h37 => ?_
  refine wpk_val h37 (by rw [wanted_of (g := 14) (want := false) (b := false) rfl (h37.yields (prev := 30) rfl (by simp))]; rfl) rfl (by decide) (fr rfl) (.bool false) (by unfold execOp; simp only [h37.ev 31 rfl]; exact run_v (ltIP _ _ _ _ _ (decide_eq_false (by omega)))) fun a40 h39 => ?_
  refine wv h39 rfl rfl rfl rfl (.bool false) (run_pick rfl (h39.ev 30 rfl) (by rw [if_neg (by simp)]; exact h39.ev 32 rfl)) fun a42 h41 => ?_
  refine wmk h41 rfl rfl rfl rfl 33 rfl (fun _ => rfl) fun a44 h43 => ?_
  refine wpk_val h43 (by rw [wanted_of (g := 18) (want := false) (b := false) rfl (h43.yields (prev := 34) rfl (by simp))]; rfl) rfl (by decide) (fr rfl) (.int .i64 i) (by unfold execOp; simp only [h43.ev 3 rfl]; rfl) fun a46 h45 => ?_
  refine wpk_val h45 (by rw [wanted_of (g := 18) (want := false) (b := false) rfl (h45.yields (prev := 34) rfl (by simp))]; rfl) rfl (by decide) (fr rfl) (.bool false) (by unfold execOp; simp only [h45.ev 35 rfl]; exact run_v (gtIP _ _ _ _ _ (decide_eq_false (by omega)))) fun a48 h47 => ?_
  refine wv h47 rfl rfl rfl rfl (.bool false) (run_pick rfl (h47.ev 34 rfl) (by rw [if_neg (by simp)]; exact h47.ev 36 rfl)) fun a50 h49 => ?_
  have h51 := h49.subs (l' := [(37, _), (11, _), (10, _), (0, _), (1, _), (2, _), (3, _), (4, _)]) rfl
  clear h49
  iterate 3 go_step
  refine wp_cond (t := false) (h51.ev 37 rfl) ?_
  simp only [Bool.false_eq_true, if_false]
  have h52 := h51.subs (l' := [(11, _), (10, _), (0, _), (1, _), (2, _), (3, _), (4, _)]) rfl
  clear h51
  iterate 5 go_step
  refine wmk h52 rfl rfl rfl rfl 0 rfl (fun _ => rfl) fun a54 h53 => ?_
  refine wv h53 rfl rfl rfl rfl (.pointer (some ⟨tg, 0, none⟩)) (by unfold execOp; simp only [h53.ev 39 rfl]; exact rfl) fun a56 h55 => ?_
  refine wv h55 rfl rfl rfl rfl (.pointer (some ⟨tg, 1, none⟩)) (by unfold execOp; simp only [h55.ev 40 rfl]; exact run_v (fa_54_0_1 (tg) _)) fun a58 h57 => ?_
  refine wv h57 rfl rfl rfl rfl (.map (some wm)) (by unfold execOp; simp only [h57.ev 41 rfl]; exact run_v (loadWM (HT.out.t.cell (i := 1) (by show 1 < 2; omega)))) fun a60 h59 => ?_
  refine wmk h59 rfl rfl rfl rfl 3 rfl (fun _ => rfl) fun a62 h61 => ?_
  refine wv h61 rfl rfl rfl rfl (.tuple #[.agg (kC cl un).toArray, .bool true]) (by unfold execOp; simp only [h61.ev 42 rfl, h61.ev 43 rfl]; exact run_v (lookWL HT.out.w hwi hwt)) fun a64 h63 => ?_
  refine wmk h63 rfl rfl rfl rfl 44 rfl (fun _ => rfl) fun a66 h65 => ?_
  refine wv h65 rfl rfl rfl rfl (.agg (kC cl un).toArray) (by unfold execOp; simp only [h65.ev 38 rfl]; exact rfl) fun a68 h67 => ?_
  refine wv h67 rfl rfl rfl rfl (.bool true) (by unfold execOp; simp only [h67.ev 38 rfl]; exact rfl) fun a70 h69 => ?_
  refine wv h69 rfl rfl rfl rfl (.pointer (some ⟨w.heap.size, 0, none⟩)) (run_allocWL rfl _ w) fun a72 h71 => ?_
  obtain ⟨w1, hw1⟩ : ∃ y, y = w.alloc (.cells (kC 0 0).toArray 70) := ⟨_, rfl⟩
  obtain ⟨kb, hkb⟩ : ∃ y, y = w.heap.size := ⟨_, rfl⟩
  have K1 : Blk w1 kb 70 (kC 0 0) := by rw [hw1, hkb]; exact blk_newO rfl _ _
  have b1 : Below w.heap.size w w1 := by rw [hw1]; exact albO _ _
  rw [← hkb] at h71; rw [← hw1]; clear hw1
  refine wpk_storeP h71 rfl rfl rfl kb 0 (h71.ev 12 rfl) (kC cl un) (h71.ev 45 rfl) (by rw [infoWL]; rfl) (kC_one _ _) K1 (by show 0 + 2 ≤ 2; omega) fun a74 w2 h73 kq gq => ?_
  rw [splice_all (by rfl)] at kq
  have hlt := HT.out.lt; have t2 : Turns (fun k => k = kb) w w2 := (Turns.of_below b1).trans (Turns.of_grown gq rfl)
  have HK2 := hid kq; have HT2 := hid (HT.out.turns t2 (by omega) (by omega) (by omega)); have B2 := hid (t2.below (Nat.le_refl _) (fun k e => by omega)); clear t2 kq gq b1 K1
  refine wmk h73 rfl rfl rfl rfl 46 rfl (fun _ => rfl) fun a76 h75 => ?_
  have h77 := h75.subs (l' := [(13, _), (12, _), (11, _), (10, _), (0, _), (1, _), (2, _), (3, _), (4, _)]) rfl
  clear h75
  iterate 5 go_step
  refine wmk h77 rfl rfl rfl rfl 13 rfl (fun _ => rfl) fun a79 h78 => ?_
  refine wmk h78 rfl rfl rfl rfl 47 rfl (fun _ => rfl) fun a81 h80 => ?_
  refine wpk_val h80 (by rw [wanted_of (g := 1) (want := true) (b := true) rfl (h80.yields (prev := 48) rfl (by simp))]; rfl) rfl (by decide) (fr rfl) (.pointer (some ⟨kb, 0, none⟩)) (by unfold execOp; simp only [h80.ev 12 rfl]; exact run_v (fa_70_0_0 (kb) _)) fun a83 h82 => ?_
  refine wpk_val h82 (by rw [wanted_of (g := 1) (want := true) (b := true) rfl (h82.yields (prev := 48) rfl (by simp))]; rfl) rfl (by decide) (fr rfl) (.int .i64 cl) (by unfold execOp; simp only [h82.ev 49 rfl]; exact run_v (loadIP (HK2.out.cell (i := 0) (by show 0 < 2; omega)))) fun a85 h84 => ?_
  refine wpk_val h84 (by rw [wanted_of (g := 1) (want := true) (b := true) rfl (h84.yields (prev := 48) rfl (by simp))]; rfl) rfl (by decide) (fr rfl) (.int .i64 c) (by unfold execOp; simp only [h84.ev 2 rfl]; rfl) fun a87 h86 => ?_
  refine wpk_val h86 (by rw [wanted_of (g := 1) (want := true) (b := true) rfl (h86.yields (prev := 48) rfl (by simp))]; rfl) rfl (by decide) (fr rfl) (.bool true) (by unfold execOp; simp only [h86.ev 50 rfl, h86.ev 51 rfl]; exact run_v (neqIP _ _ _ _ _ (bne_iff_ne.2 (by omega)))) fun a89 h88 => ?_
  refine wv h88 rfl rfl rfl rfl (.bool true) (run_pick rfl (h88.ev 48 rfl) (by rw [if_pos rfl]; exact h88.ev 52 rfl)) fun a91 h90 => ?_
  refine wmk h90 rfl rfl rfl rfl 53 rfl (fun _ => rfl) fun a93 h92 => ?_
  refine wpk_val h92 (by rw [wanted_of (g := 7) (want := true) (b := true) rfl (h92.yields (prev := 54) rfl (by simp))]; rfl) rfl (by decide) (fr rfl) (.int .i64 now) (by unfold execOp; simp only [h92.ev 1 rfl]; rfl) fun a95 h94 => ?_
  refine wpk_val h94 (by rw [wanted_of (g := 7) (want := true) (b := true) rfl (h94.yields (prev := 54) rfl (by simp))]; rfl) rfl (by decide) (fr rfl) (.pointer (some ⟨kb, 1, none⟩)) (by unfold execOp; simp only [h94.ev 12 rfl]; exact run_v (fa_70_0_1 (kb) _)) fun a97 h96 => ?_
  refine wpk_val h96 (by rw [wanted_of (g := 7) (want := true) (b := true) rfl (h96.yields (prev := 54) rfl (by simp))]; rfl) rfl (by decide) (fr rfl) (.int .i64 un) (by unfold execOp; simp only [h96.ev 56 rfl]; exact run_v (loadIP (HK2.out.cell (i := 1) (by show 1 < 2; omega)))) fun a99 h98 => ?_
  refine wpk_val h98 (by rw [wanted_of (g := 7) (want := true) (b := true) rfl (h98.yields (prev := 54) rfl (by simp))]; rfl) rfl (by decide) (fr rfl) (.bool false) (by unfold execOp; simp only [h98.ev 55 rfl, h98.ev 57 rfl]; exact run_v (ltIP _ _ _ _ _ (decide_eq_false (by omega)))) fun a101 h100 => ?_
  refine wv h100 rfl rfl rfl rfl (.bool false) (run_pick rfl (h100.ev 54 rfl) (by rw [if_pos rfl]; exact h100.ev 58 rfl)) fun a103 h102 => ?_
  refine wmk h102 rfl rfl rfl rfl 59 rfl (fun _ => rfl) fun a105 h104 => ?_
  have h106 := h104.subs (l' := [(14, _), (13, _), (12, _), (11, _), (10, _), (0, _), (1, _), (2, _), (3, _), (4, _)]) rfl
  clear h104
  iterate 6 go_step
  refine wmk h106 rfl rfl rfl rfl 0 rfl (fun _ => rfl) fun a108 h107 => ?_
  refine wmk h107 rfl rfl rfl rfl 2 rfl (fun _ => rfl) fun a110 h109 => ?_
  refine wmk h109 rfl rfl rfl rfl 3 rfl (fun _ => rfl) fun a112 h111 => ?_
  refine wmk h111 rfl rfl rfl rfl 4 rfl (fun _ => rfl) fun a114 h113 => ?_
  refine wpk_call h113 (wanted_none rfl) rfl (by decide) (fr rfl) (fun args => callP_31 args _) rfl #[.pointer (some ⟨tg, 0, none⟩), .int .i64 c, .int .i64 i, .bool own] (by simp only [List.map_toArray, List.map_cons, List.map_nil, h113.ev 60 rfl, h113.ev 61 rfl, h113.ev 62 rfl, h113.ev 63 rfl]) (R := fun v' w' => ∃ la lc, v' = .slice la (agL g c i own).length lc ∧ OwnI w' w2.heap.size la lc (agL g c i own) ∧ TabP w' tg gm wm n m g wt ∧ Below w2.heap.size w2 w') ((against_any HT2.out hgok c i own hwi).mono fun e w' q => by obtain ⟨la, lc, q1, q2⟩ := q; exact ⟨_, q1, la, lc, rfl, q2⟩) fun a116 va wa ra h115 => ?_
  obtain ⟨la, lc, rfl, oa, ta, ba⟩ := ra; have HOA := hid (own_weak oa B2.out.size); have HTA := hid ta; have HKA := hid (HK2.out.mono ba); have BA := hid (kept_trans B2.out ba); clear oa ta ba
  refine wmk h115 rfl rfl rfl rfl 64 rfl (fun _ => rfl) fun a118 h117 => ?_
  have h119 := h117.subs (l' := [(15, _), (14, _), (13, _), (12, _), (11, _), (10, _), (0, _), (1, _), (2, _), (3, _), (4, _)]) rfl
  clear h117
  iterate 5 go_step
  refine wmk h119 rfl rfl rfl rfl 15 rfl (fun _ => rfl) fun a121 h120 => ?_
  refine wv h120 rfl rfl rfl rfl (.int .i64 ((agL g c i own).length : Int)) (run_lenIL rfl (h120.ev 65 rfl) _) fun a123 h122 => ?_
  refine wv h122 rfl rfl rfl rfl (.bool true) (by unfold execOp; simp only [h122.ev 66 rfl]; exact run_v (gtIP _ _ _ _ _ (decide_eq_true (by omega)))) fun a125 h124 => ?_
  have h126 := h124.subs (l' := [(67, _), (15, _), (14, _), (13, _), (12, _), (11, _), (10, _), (0, _), (1, _), (2, _), (3, _), (4, _)]) rfl
  clear h124
  iterate 3 go_step
  refine wp_cond (t := true) (h126.ev 67 rfl) ?_
  simp only [if_true]
  have h127 := h126.subs (l' := [(15, _), (14, _), (13, _), (12, _), (11, _), (10, _), (0, _), (1, _), (2, _), (3, _), (4, _)]) rfl
  clear h126
  iterate 3 go_step
  refine wmk h127 rfl rfl rfl rfl 14 rfl (fun _ => rfl) fun a129 h128 => ?_
  refine wv h128 rfl rfl rfl rfl (.bool true) (run_not rfl (h128.ev 68 rfl)) fun a131 h130 => ?_
  have h132 := h130.subs (l' := [(69, _), (15, _), (14, _), (13, _), (12, _), (11, _), (10, _), (0, _), (1, _), (2, _), (3, _), (4, _)]) rfl
  clear h130
  iterate 3 go_step
  refine wp_cond (t := true) (h132.ev 69 rfl) ?_
  simp only [if_true]
  have h133 := h132.subs (l' := [(15, _), (14, _), (13, _), (12, _), (11, _), (10, _), (0, _), (1, _), (2, _), (3, _), (4, _)]) rfl
  clear h132
  go_step
  refine wmk h133 rfl rfl rfl rfl 0 rfl (fun _ => rfl) fun a135 h134 => ?_
  refine wv h134 rfl rfl rfl rfl (.pointer (some ⟨tg, 0, none⟩)) (by unfold execOp; simp only [h134.ev 70 rfl]; exact rfl) fun a137 h136 => ?_
  refine wv h136 rfl rfl rfl rfl (.pointer (some ⟨tg, 1, none⟩)) (by unfold execOp; simp only [h136.ev 71 rfl]; exact run_v (fa_54_0_1 (tg) _)) fun a139 h138 => ?_
  refine wv h138 rfl rfl rfl rfl (.map (some wm)) (by unfold execOp; simp only [h138.ev 72 rfl]; exact run_v (loadWM (HTA.out.t.cell (i := 1) (by show 1 < 2; omega)))) fun a141 h140 => ?_
  refine wmk h140 rfl rfl rfl rfl 3 rfl (fun _ => rfl) fun a143 h142 => ?_
  refine wmk h142 rfl rfl rfl rfl 2 rfl (fun _ => rfl) fun a145 h144 => ?_
  refine wmk h144 rfl rfl rfl rfl 1 rfl (fun _ => rfl) fun a147 h146 => ?_
  refine wv h146 rfl rfl rfl rfl (.int .i64 (now + 64)) (by unfold execOp; simp only [h146.ev 76 rfl]; exact run_v (addNP _ _ _ _ _ (by omega) (by omega) (by omega) _)) fun a149 h148 => ?_
  refine wv h148 rfl rfl rfl rfl (.agg (kC c (now + 64)).toArray) (by unfold execOp; simp only [List.map_toArray, List.map_cons, List.map_nil, h148.ev 75 rfl, h148.ev 77 rfl]; exact run_v (buildWL _ _ _)) fun a151 h150 => ?_
  obtain ⟨wu, hru, mu, tu⟩ := storeWL HTA.out.w hm hwi c (now + 64)
  refine wpk_skipvP h150 (wanted_none rfl) rfl (w' := wu) (by unfold execOp; simp only [h150.ev 73 rfl, h150.ev 74 rfl, h150.ev 78 rfl]; exact run_uP hru) fun a153 h152 => ?_
  have HTU := hid (HTA.out.setW tu mu); have TU := hid tu; have HOU := hid (own_turnsL HOA.out tu (fun k e => .inl (by have := HT.out.lt; omega))); clear mu tu
  have h154 := h152.subs (l' := [(15, _), (14, _), (13, _), (12, _), (11, _), (10, _), (0, _), (1, _), (2, _), (3, _), (4, _)]) rfl
  clear h152
  iterate 5 go_step
  refine wmk h154 rfl rfl rfl rfl 15 rfl (fun _ => rfl) fun a156 h155 => ?_
  have h157 := h155.subs (l' := [(79, _), (15, _), (14, _), (13, _), (12, _), (11, _), (0, _), (1, _), (2, _), (3, _), (4, _)]) rfl
  clear h155
  refine wmk h157 rfl rfl rfl rfl 79 rfl (fun _ => rfl) fun a159 h158 => ?_
  have h160 := h158.subs (l' := [(10, _), (79, _), (15, _), (14, _), (13, _), (12, _), (0, _), (1, _), (2, _), (3, _), (4, _)]) rfl
  clear h158
  refine wv h160 rfl rfl rfl rfl (.int .i64 32) rfl fun a162 h161 => ?_
  have h163 := h161.subs (l' := [(11, _), (10, _), (15, _), (14, _), (13, _), (12, _), (0, _), (1, _), (2, _), (3, _), (4, _)]) rfl
  clear h161
  iterate 4 go_step
  simp only [Exit.then, Exit.inBlock]
  exact bodyPost_ret (results_tmp2 rfl (h163.known (10, .slice la (agL g c i own).length lc) (by simp)) (h163.known (11, .int .i64 32) (by simp))) h163.defs ⟨la, lc, rfl, HOU.out, ⟨m + 1, by omega, HTU.out⟩, (Turns.of_below BA.out).trans TU.out⟩

set_option maxHeartbeats 4000000 in
theorem ask_old0 {w : World} {tg gm wm n m : Nat} {g : GrF} {wt : WtF} (h : TabP w tg gm wm n m g wt) (hgok : GrOk g) (hn : n < 1000000) (hm : m < 1000000) {now c i : Int} (own : Bool) (hok : askOk now c i) {cl un : Int} (hwt : wt i = some (cl, un)) (hcl : cl ≠ c) (hun : ¬ now < un) (hag : (agL g c i own).length = 0) :
    Calls Try.prog 17 #[.pointer (some ⟨tg, 0, none⟩), .int .i64 now, .int .i64 c, .int .i64 i, .bool own] w fun e w' => e = .returned (.tuple #[.slice none 0 0, .int .i64 0]) ∧ (∃ n', n' ≤ n + 1 ∧ TabP w' tg gm wm n' m (updG g (c, i) (some (own, now + 64))) (wt)) ∧ Turns (fun k => k = gm ∨ k = wm) w w' := by
  obtain ⟨⟨n1, n2⟩, ⟨c1, c2⟩, ⟨i1, i2⟩⟩ := hok
  have hwi : (Lit.int .i64 i).wf = true := WalkArith.wf_i64 (by omega)
  have hwc : (Lit.int .i64 c).wf = true := WalkArith.wf_i64 (by omega)
  have HT := hid h; clear h
  go_enter Try.func17, Try.ntmps17
  iterate 3 go_step
  refine wpk_enter (N := 104) (l := [(0, .pointer (some ⟨tg, 0, none⟩)), (1, .int .i64 now), (2, .int .i64 c), (3, .int .i64 i), (4, .bool own)]) ⟨rfl, (by intro x hx; simp only [List.mem_cons, List.not_mem_nil, or_false] at hx; rcases hx with rfl | rfl | rfl | rfl | rfl <;> rfl), rfl⟩ fun a2 h1 => ?_
  refine wv h1 rfl rfl rfl rfl (.slice none 0 0) rfl fun a4 h3 => ?_
  refine wv h3 rfl rfl rfl rfl (.int .i64 0) rfl fun a6 h5 => ?_
  iterate 6 go_step
  refine wmk h5 rfl rfl rfl rfl 1 rfl (fun _ => rfl) fun a8 h7 => ?_
  refine wv h7 rfl rfl rfl rfl (.bool false) (by unfold execOp; simp only [h7.ev 16 rfl]; exact run_v (ltIP _ _ _ _ _ (decide_eq_false (by omega)))) fun a10 h9 => ?_
  refine wmk h9 rfl rfl rfl rfl 17 rfl (fun _ => rfl) fun a12 h11 => ?_
  refine wpk_val h11 (by rw [wanted_of (g := 2) (want := false) (b := false) rfl (h11.yields (prev := 18) rfl (by simp))]; rfl) rfl (by decide) (fr rfl) (.int .i64 now) (by unfold execOp; simp only [h11.ev 1 rfl]; rfl) fun a14 h13 => ?_
  refine wpk_val h13 (by rw [wanted_of (g := 2) (want := false) (b := false) rfl (h13.yields (prev := 18) rfl (by simp))]; rfl) rfl (by decide) (fr rfl) (.bool false) (by unfold execOp; simp only [h13.ev 19 rfl]; exact run_v (gtIP _ _ _ _ _ (decide_eq_false (by omega)))) fun a16 h15 => ?_
  refine wv h15 rfl rfl rfl rfl (.bool false) (run_pick rfl (h15.ev 18 rfl) (by rw [if_neg (by simp)]; exact h15.ev 20 rfl)) fun a18 h17 => ?_
  refine wmk h17 rfl rfl rfl rfl 21 rfl (fun _ => rfl) fun a20 h19 => ?_
  refine wpk_val h19 (by rw [wanted_of (g := 6) (want := false) (b := false) rfl (h19.yields (prev := 22) rfl (by simp))]; rfl) rfl (by decide) (fr rfl) (.int .i64 c) (by unfold execOp; simp only [h19.ev 2 rfl]; rfl) fun a22 h21 => ?_
  refine wpk_val h21 (by rw [wanted_of (g := 6) (want := false) (b := false) rfl (h21.yields (prev := 22) rfl (by simp))]; rfl) rfl (by decide) (fr rfl) (.bool false) (by unfold execOp; simp only [h21.ev 23 rfl]; exact run_v (ltIP _ _ _ _ _ (decide_eq_false (by omega)))) fun a24 h23 => ?_
  refine wv h23 rfl rfl rfl rfl (.bool false) (run_pick rfl (h23.ev 22 rfl) (by rw [if_neg (by simp)]; exact h23.ev 24 rfl)) fun a26 h25 => ?_
  refine wmk h25 rfl rfl rfl rfl 25 rfl (fun _ => rfl) fun a28 h27 => ?_
  refine wpk_val h27 (by rw [wanted_of (g := 10) (want := false) (b := false) rfl (h27.yields (prev := 26) rfl (by simp))]; rfl) rfl (by decide) (fr rfl) (.int .i64 c) (by unfold execOp; simp only [h27.ev 2 rfl]; rfl) fun a30 h29 => ?_
  refine wpk_val h29 (by rw [wanted_of (g := 10) (want := false) (b := false) rfl (h29.yields (prev := 26) rfl (by simp))]; rfl) rfl (by decide) (fr rfl) (.bool false) (by unfold execOp; simp only [h29.ev 27 rfl]; exact run_v (gtIP _ _ _ _ _ (decide_eq_false (by omega)))) fun a32 h31 => ?_
  refine wv h31 rfl rfl rfl rfl (.bool false) (run_pick rfl (h31.ev 26 rfl) (by rw [if_neg (by simp)]; exact h31.ev 28 rfl)) fun a34 h33 => ?_
  refine wmk h33 rfl rfl rfl rfl 29 rfl (fun _ => rfl) fun a36 h35 => ?_
  refine wpk_val h35 (by rw [wanted_of (g := 14) (want := false) (b := false) rfl (h35.yields (prev := 30) rfl (by simp))]; rfl) rfl (by decide) (fr rfl) (.int .i64 i) (by unfold execOp; simp only [h35.ev 3 rfl]; rfl) fun a38 h37 => ?_
  refine wpk_val h37 (by rw [wanted_of (g := 14) (want := false) (b := false) rfl (h37.yields (prev := 30) rfl (by simp))]; rfl) rfl (by decide) (fr rfl) (.bool false) (by unfold execOp; simp only [h37.ev 31 rfl]; exact run_v (ltIP _ _ _ _ _ (decide_eq_false (by omega)))) fun a40 h39 => ?_
  refine wv h39 rfl rfl rfl rfl (.bool false) (run_pick rfl (h39.ev 30 rfl) (by rw [if_neg (by simp)]; exact h39.ev 32 rfl)) fun a42 h41 => ?_
  refine wmk h41 rfl rfl rfl rfl 33 rfl (fun _ => rfl) fun a44 h43 => ?_
  refine wpk_val h43 (by rw [wanted_of (g := 18) (want := false) (b := false) rfl (h43.yields (prev := 34) rfl (by simp))]; rfl) rfl (by decide) (fr rfl) (.int .i64 i) (by unfold execOp; simp only [h43.ev 3 rfl]; rfl) fun a46 h45 => ?_
  refine wpk_val h45 (by rw [wanted_of (g := 18) (want := false) (b := false) rfl (h45.yields (prev := 34) rfl (by simp))]; rfl) rfl (by decide) (fr rfl) (.bool false) (by unfold execOp; simp only [h45.ev 35 rfl]; exact run_v (gtIP _ _ _ _ _ (decide_eq_false (by omega)))) fun a48 h47 => ?_
  refine wv h47 rfl rfl rfl rfl (.bool false) (run_pick rfl (h47.ev 34 rfl) (by rw [if_neg (by simp)]; exact h47.ev 36 rfl)) fun a50 h49 => ?_
  have h51 := h49.subs (l' := [(37, _), (11, _), (10, _), (0, _), (1, _), (2, _), (3, _), (4, _)]) rfl
  clear h49
  iterate 3 go_step
  refine wp_cond (t := false) (h51.ev 37 rfl) ?_
  simp only [Bool.false_eq_true, if_false]
  have h52 := h51.subs (l' := [(11, _), (10, _), (0, _), (1, _), (2, _), (3, _), (4, _)]) rfl
  clear h51
  iterate 5 go_step
  refine wmk h52 rfl rfl rfl rfl 0 rfl (fun _ => rfl) fun a54 h53 => ?_
  refine wv h53 rfl rfl rfl rfl (.pointer (some ⟨tg, 0, none⟩)) (by unfold execOp; simp only [h53.ev 39 rfl]; exact rfl) fun a56 h55 => ?_
  refine wv h55 rfl rfl rfl rfl (.pointer (some ⟨tg, 1, none⟩)) (by unfold execOp; simp only [h55.ev 40 rfl]; exact run_v (fa_54_0_1 (tg) _)) fun a58 h57 => ?_
  refine wv h57 rfl rfl rfl rfl (.map (some wm)) (by unfold execOp; simp only [h57.ev 41 rfl]; exact run_v (loadWM (HT.out.t.cell (i := 1) (by show 1 < 2; omega)))) fun a60 h59 => ?_
  refine wmk h59 rfl rfl rfl rfl 3 rfl (fun _ => rfl) fun a62 h61 => ?_
  refine wv h61 rfl rfl rfl rfl (.tuple #[.agg (kC cl un).toArray, .bool true]) (by unfold execOp; simp only [h61.ev 42 rfl, h61.ev 43 rfl]; exact run_v (lookWL HT.out.w hwi hwt)) fun a64 h63 => ?_
  refine wmk h63 rfl rfl rfl rfl 44 rfl (fun _ => rfl) fun a66 h65 => ?_
  refine wv h65 rfl rfl rfl rfl (.agg (kC cl un).toArray) (by unfold execOp; simp only [h65.ev 38 rfl]; exact rfl) fun a68 h67 => ?_
  refine wv h67 rfl rfl rfl rfl (.bool true) (by unfold execOp; simp only [h67.ev 38 rfl]; exact rfl) fun a70 h69 => ?_
  refine wv h69 rfl rfl rfl rfl (.pointer (some ⟨w.heap.size, 0, none⟩)) (run_allocWL rfl _ w) fun a72 h71 => ?_
  obtain ⟨w1, hw1⟩ : ∃ y, y = w.alloc (.cells (kC 0 0).toArray 70) := ⟨_, rfl⟩
  obtain ⟨kb, hkb⟩ : ∃ y, y = w.heap.size := ⟨_, rfl⟩
  have K1 : Blk w1 kb 70 (kC 0 0) := by rw [hw1, hkb]; exact blk_newO rfl _ _
  have b1 : Below w.heap.size w w1 := by rw [hw1]; exact albO _ _
  rw [← hkb] at h71; rw [← hw1]; clear hw1
  refine wpk_storeP h71 rfl rfl rfl kb 0 (h71.ev 12 rfl) (kC cl un) (h71.ev 45 rfl) (by rw [infoWL]; rfl) (kC_one _ _) K1 (by show 0 + 2 ≤ 2; omega) fun a74 w2 h73 kq gq => ?_
  rw [splice_all (by rfl)] at kq
  have hlt := HT.out.lt; have t2 : Turns (fun k => k = kb) w w2 := (Turns.of_below b1).trans (Turns.of_grown gq rfl)
  have HK2 := hid kq; have HT2 := hid (HT.out.turns t2 (by omega) (by omega) (by omega)); have B2 := hid (t2.below (Nat.le_refl _) (fun k e => by omega)); clear t2 kq gq b1 K1
  refine wmk h73 rfl rfl rfl rfl 46 rfl (fun _ => rfl) fun a76 h75 => ?_
  have h77 := h75.subs (l' := [(13, _), (12, _), (11, _), (10, _), (0, _), (1, _), (2, _), (3, _), (4, _)]) rfl
  clear h75
  iterate 5 go_step
  refine wmk h77 rfl rfl rfl rfl 13 rfl (fun _ => rfl) fun a79 h78 => ?_
  refine wmk h78 rfl rfl rfl rfl 47 rfl (fun _ => rfl) fun a81 h80 => ?_
  refine wpk_val h80 (by rw [wanted_of (g := 1) (want := true) (b := true) rfl (h80.yields (prev := 48) rfl (by simp))]; rfl) rfl (by decide) (fr rfl) (.pointer (some ⟨kb, 0, none⟩)) (by unfold execOp; simp only [h80.ev 12 rfl]; exact run_v (fa_70_0_0 (kb) _)) fun a83 h82 => ?_
  refine wpk_val h82 (by rw [wanted_of (g := 1) (want := true) (b := true) rfl (h82.yields (prev := 48) rfl (by simp))]; rfl) rfl (by decide) (fr rfl) (.int .i64 cl) (by unfold execOp; simp only [h82.ev 49 rfl]; exact run_v (loadIP (HK2.out.cell (i := 0) (by show 0 < 2; omega)))) fun a85 h84 => ?_
  refine wpk_val h84 (by rw [wanted_of (g := 1) (want := true) (b := true) rfl (h84.yields (prev := 48) rfl (by simp))]; rfl) rfl (by decide) (fr rfl) (.int .i64 c) (by unfold execOp; simp only [h84.ev 2 rfl]; rfl) fun a87 h86 => ?_
  refine wpk_val h86 (by rw [wanted_of (g := 1) (want := true) (b := true) rfl (h86.yields (prev := 48) rfl (by simp))]; rfl) rfl (by decide) (fr rfl) (.bool true) (by unfold execOp; simp only [h86.ev 50 rfl, h86.ev 51 rfl]; exact run_v (neqIP _ _ _ _ _ (bne_iff_ne.2 (by omega)))) fun a89 h88 => ?_
  refine wv h88 rfl rfl rfl rfl (.bool true) (run_pick rfl (h88.ev 48 rfl) (by rw [if_pos rfl]; exact h88.ev 52 rfl)) fun a91 h90 => ?_
  refine wmk h90 rfl rfl rfl rfl 53 rfl (fun _ => rfl) fun a93 h92 => ?_
  refine wpk_val h92 (by rw [wanted_of (g := 7) (want := true) (b := true) rfl (h92.yields (prev := 54) rfl (by simp))]; rfl) rfl (by decide) (fr rfl) (.int .i64 now) (by unfold execOp; simp only [h92.ev 1 rfl]; rfl) fun a95 h94 => ?_
  refine wpk_val h94 (by rw [wanted_of (g := 7) (want := true) (b := true) rfl (h94.yields (prev := 54) rfl (by simp))]; rfl) rfl (by decide) (fr rfl) (.pointer (some ⟨kb, 1, none⟩)) (by unfold execOp; simp only [h94.ev 12 rfl]; exact run_v (fa_70_0_1 (kb) _)) fun a97 h96 => ?_
  refine wpk_val h96 (by rw [wanted_of (g := 7) (want := true) (b := true) rfl (h96.yields (prev := 54) rfl (by simp))]; rfl) rfl (by decide) (fr rfl) (.int .i64 un) (by unfold execOp; simp only [h96.ev 56 rfl]; exact run_v (loadIP (HK2.out.cell (i := 1) (by show 1 < 2; omega)))) fun a99 h98 => ?_
  refine wpk_val h98 (by rw [wanted_of (g := 7) (want := true) (b := true) rfl (h98.yields (prev := 54) rfl (by simp))]; rfl) rfl (by decide) (fr rfl) (.bool false) (by unfold execOp; simp only [h98.ev 55 rfl, h98.ev 57 rfl]; exact run_v (ltIP _ _ _ _ _ (decide_eq_false (by omega)))) fun a101 h100 => ?_
  refine wv h100 rfl rfl rfl rfl (.bool false) (run_pick rfl (h100.ev 54 rfl) (by rw [if_pos rfl]; exact h100.ev 58 rfl)) fun a103 h102 => ?_
  refine wmk h102 rfl rfl rfl rfl 59 rfl (fun _ => rfl) fun a105 h104 => ?_
  have h106 := h104.subs (l' := [(14, _), (13, _), (12, _), (11, _), (10, _), (0, _), (1, _), (2, _), (3, _), (4, _)]) rfl
  clear h104
  iterate 6 go_step
  refine wmk h106 rfl rfl rfl rfl 0 rfl (fun _ => rfl) fun a108 h107 => ?_
  refine wmk h107 rfl rfl rfl rfl 2 rfl (fun _ => rfl) fun a110 h109 => ?_
  refine wmk h109 rfl rfl rfl rfl 3 rfl (fun _ => rfl) fun a112 h111 => ?_
  refine wmk h111 rfl rfl rfl rfl 4 rfl (fun _ => rfl) fun a114 h113 => ?_
  refine wpk_call h113 (wanted_none rfl) rfl (by decide) (fr rfl) (fun args => callP_31 args _) rfl #[.pointer (some ⟨tg, 0, none⟩), .int .i64 c, .int .i64 i, .bool own] (by simp only [List.map_toArray, List.map_cons, List.map_nil, h113.ev 60 rfl, h113.ev 61 rfl, h113.ev 62 rfl, h113.ev 63 rfl]) (R := fun v' w' => ∃ la lc, v' = .slice la (agL g c i own).length lc ∧ OwnI w' w2.heap.size la lc (agL g c i own) ∧ TabP w' tg gm wm n m g wt ∧ Below w2.heap.size w2 w') ((against_any HT2.out hgok c i own hwi).mono fun e w' q => by obtain ⟨la, lc, q1, q2⟩ := q; exact ⟨_, q1, la, lc, rfl, q2⟩) fun a116 va wa ra h115 => ?_
  obtain ⟨la, lc, rfl, oa, ta, ba⟩ := ra; have HOA := hid (own_weak oa B2.out.size); have HTA := hid ta; have HKA := hid (HK2.out.mono ba); have BA := hid (kept_trans B2.out ba); clear oa ta ba
  refine wmk h115 rfl rfl rfl rfl 64 rfl (fun _ => rfl) fun a118 h117 => ?_
  have h119 := h117.subs (l' := [(15, _), (14, _), (13, _), (12, _), (11, _), (10, _), (0, _), (1, _), (2, _), (3, _), (4, _)]) rfl
  clear h117
  iterate 5 go_step
  refine wmk h119 rfl rfl rfl rfl 15 rfl (fun _ => rfl) fun a121 h120 => ?_
  refine wv h120 rfl rfl rfl rfl (.int .i64 ((agL g c i own).length : Int)) (run_lenIL rfl (h120.ev 65 rfl) _) fun a123 h122 => ?_
  refine wv h122 rfl rfl rfl rfl (.bool false) (by unfold execOp; simp only [h122.ev 66 rfl]; exact run_v (gtIP _ _ _ _ _ (decide_eq_false (by omega)))) fun a125 h124 => ?_
  have h126 := h124.subs (l' := [(67, _), (15, _), (14, _), (13, _), (12, _), (11, _), (10, _), (0, _), (1, _), (2, _), (3, _), (4, _)]) rfl
  clear h124
  iterate 3 go_step
  refine wp_cond (t := false) (h126.ev 67 rfl) ?_
  simp only [Bool.false_eq_true, if_false]
  have h127 := h126.subs (l' := [(15, _), (14, _), (13, _), (12, _), (11, _), (10, _), (0, _), (1, _), (2, _), (3, _), (4, _)]) rfl
  clear h126
  iterate 6 go_step
  refine wmk h127 rfl rfl rfl rfl 14 rfl (fun _ => rfl) fun a129 h128 => ?_
  iterate 3 go_step
  refine wp_cond (t := false) (h128.ev 80 rfl) ?_
  simp only [Bool.false_eq_true, if_false]
  have h130 := h128.subs (l' := [(15, _), (14, _), (13, _), (12, _), (11, _), (10, _), (0, _), (1, _), (2, _), (3, _), (4, _)]) rfl
  clear h128
  iterate 6 go_step
  refine wmk h130 rfl rfl rfl rfl 13 rfl (fun _ => rfl) fun a132 h131 => ?_
  refine wmk h131 rfl rfl rfl rfl 81 rfl (fun _ => rfl) fun a134 h133 => ?_
  refine wpk_val h133 (by rw [wanted_of (g := 1) (want := true) (b := true) rfl (h133.yields (prev := 82) rfl (by simp))]; rfl) rfl (by decide) (fr rfl) (.pointer (some ⟨kb, 0, none⟩)) (by unfold execOp; simp only [h133.ev 12 rfl]; exact run_v (fa_70_0_0 (kb) _)) fun a136 h135 => ?_
  refine wpk_val h135 (by rw [wanted_of (g := 1) (want := true) (b := true) rfl (h135.yields (prev := 82) rfl (by simp))]; rfl) rfl (by decide) (fr rfl) (.int .i64 cl) (by unfold execOp; simp only [h135.ev 83 rfl]; exact run_v (loadIP (HKA.out.cell (i := 0) (by show 0 < 2; omega)))) fun a138 h137 => ?_
  refine wpk_val h137 (by rw [wanted_of (g := 1) (want := true) (b := true) rfl (h137.yields (prev := 82) rfl (by simp))]; rfl) rfl (by decide) (fr rfl) (.int .i64 c) (by unfold execOp; simp only [h137.ev 2 rfl]; rfl) fun a140 h139 => ?_
  refine wpk_val h139 (by rw [wanted_of (g := 1) (want := true) (b := true) rfl (h139.yields (prev := 82) rfl (by simp))]; rfl) rfl (by decide) (fr rfl) (.bool false) (by unfold execOp; simp only [h139.ev 84 rfl, h139.ev 85 rfl]; exact run_v (eqIP _ _ _ _ _ (beq_eq_false_iff_ne.2 (by omega)))) fun a142 h141 => ?_
  refine wv h141 rfl rfl rfl rfl (.bool false) (run_pick rfl (h141.ev 82 rfl) (by rw [if_pos rfl]; exact h141.ev 86 rfl)) fun a144 h143 => ?_
  have h145 := h143.subs (l' := [(87, _), (15, _), (14, _), (13, _), (12, _), (11, _), (10, _), (0, _), (1, _), (2, _), (3, _), (4, _)]) rfl
  clear h143
  iterate 3 go_step
  refine wp_cond (t := false) (h145.ev 87 rfl) ?_
  simp only [Bool.false_eq_true, if_false]
  have h146 := h145.subs (l' := [(15, _), (14, _), (13, _), (12, _), (11, _), (10, _), (0, _), (1, _), (2, _), (3, _), (4, _)]) rfl
  clear h145
  iterate 5 go_step
  refine wmk h146 rfl rfl rfl rfl 0 rfl (fun _ => rfl) fun a148 h147 => ?_
  refine wv h147 rfl rfl rfl rfl (.pointer (some ⟨tg, 0, none⟩)) (by unfold execOp; simp only [h147.ev 93 rfl]; exact rfl) fun a150 h149 => ?_
  refine wv h149 rfl rfl rfl rfl (.pointer (some ⟨tg, 0, none⟩)) (by unfold execOp; simp only [h149.ev 94 rfl]; exact run_v (fa_54_0_0 (tg) _)) fun a152 h151 => ?_
  refine wv h151 rfl rfl rfl rfl (.map (some gm)) (by unfold execOp; simp only [h151.ev 95 rfl]; exact run_v (loadGM (HTA.out.t.cell (i := 0) (by show 0 < 2; omega)))) fun a154 h153 => ?_
  refine wmk h153 rfl rfl rfl rfl 2 rfl (fun _ => rfl) fun a156 h155 => ?_
  refine wmk h155 rfl rfl rfl rfl 3 rfl (fun _ => rfl) fun a158 h157 => ?_
  refine wv h157 rfl rfl rfl rfl (.agg (kC c i).toArray) (by unfold execOp; simp only [List.map_toArray, List.map_cons, List.map_nil, h157.ev 97 rfl, h157.ev 98 rfl]; exact run_v (buildKL _ _ _)) fun a160 h159 => ?_
  refine wmk h159 rfl rfl rfl rfl 4 rfl (fun _ => rfl) fun a162 h161 => ?_
  refine wmk h161 rfl rfl rfl rfl 1 rfl (fun _ => rfl) fun a164 h163 => ?_
  refine wv h163 rfl rfl rfl rfl (.int .i64 (now + 64)) (by unfold execOp; simp only [h163.ev 101 rfl]; exact run_v (addNP _ _ _ _ _ (by omega) (by omega) (by omega) _)) fun a166 h165 => ?_
  refine wv h165 rfl rfl rfl rfl (.agg (gC own (now + 64)).toArray) (by unfold execOp; simp only [List.map_toArray, List.map_cons, List.map_nil, h165.ev 100 rfl, h165.ev 102 rfl]; exact run_v (buildGL _ _ _)) fun a168 h167 => ?_
  obtain ⟨wg, hrg, mg, tg_⟩ := storeGL HTA.out.g hn ⟨hwc, hwi⟩ own (now + 64)
  refine wpk_skipvP h167 (wanted_none rfl) rfl (w' := wg) (by unfold execOp; simp only [h167.ev 96 rfl, h167.ev 99 rfl, h167.ev 103 rfl]; exact run_uP hrg) fun a170 h169 => ?_
  have HTG := hid (HTA.out.setG tg_ mg); have TG := hid tg_; clear mg tg_
  have h171 := h169.subs (l' := [(15, _), (14, _), (13, _), (12, _), (11, _), (10, _), (0, _), (1, _), (2, _), (3, _), (4, _)]) rfl
  clear h169
  iterate 5 go_step
  have h172 := h171.subs (l' := [(15, _), (14, _), (13, _), (12, _), (11, _), (0, _), (1, _), (2, _), (3, _), (4, _)]) rfl
  clear h171
  refine wv h172 rfl rfl rfl rfl (.slice none 0 0) rfl fun a174 h173 => ?_
  have h175 := h173.subs (l' := [(10, _), (15, _), (14, _), (13, _), (12, _), (0, _), (1, _), (2, _), (3, _), (4, _)]) rfl
  clear h173
  refine wv h175 rfl rfl rfl rfl (.int .i64 0) rfl fun a177 h176 => ?_
  iterate 4 go_step
  exact bodyPost_ret (results_tmp2 rfl (h176.known (10, .slice none 0 0) (by simp)) (h176.known (11, .int .i64 0) (by simp))) h176.defs ⟨rfl, ⟨n + 1, by omega, HTG.out⟩, (Turns.of_below BA.out).trans (TG.out.mono (fun k e => .inl e))⟩

set_option maxHeartbeats 4000000 in
theorem ask_other1 {w : World} {tg gm wm n m : Nat} {g : GrF} {wt : WtF} (h : TabP w tg gm wm n m g wt) (hgok : GrOk g) (hn : n < 1000000) (hm : m < 1000000) {now c i : Int} (own : Bool) (hok : askOk now c i) {cl un : Int} (hwt : wt i = some (cl, un)) (hcl : cl ≠ c) (hun : now < un) (hag : 0 < (agL g c i own).length) :
    Calls Try.prog 17 #[.pointer (some ⟨tg, 0, none⟩), .int .i64 now, .int .i64 c, .int .i64 i, .bool own] w fun e w' => ∃ la lc, e = .returned (.tuple #[.slice la (agL g c i own).length lc, .int .i64 32]) ∧ OwnI w' w.heap.size la lc (agL g c i own) ∧ (∃ m', m' ≤ m + 1 ∧ TabP w' tg gm wm n m' g (wt)) ∧ Turns (fun k => k = wm) w w' := by
  obtain ⟨⟨n1, n2⟩, ⟨c1, c2⟩, ⟨i1, i2⟩⟩ := hok
  have hwi : (Lit.int .i64 i).wf = true := WalkArith.wf_i64 (by omega)
  have hwc : (Lit.int .i64 c).wf = true := WalkArith.wf_i64 (by omega)
  have HT := hid h; clear h
  go_enter Try.func17, Try.ntmps17
  iterate 3 go_step
  refine wpk_enter (N := 104) (l := [(0, .pointer (some ⟨tg, 0, none⟩)), (1, .int .i64 now), (2, .int .i64 c), (3, .int .i64 i), (4, .bool own)]) ⟨rfl, (by intro x hx; simp only [List.mem_cons, List.not_mem_nil, or_false] at hx; rcases hx with rfl | rfl | rfl | rfl | rfl <;> rfl), rfl⟩ fun a2 h1 => ?_
  refine wv h1 rfl rfl rfl rfl (.slice none 0 0) rfl fun a4 h3 => ?_
  refine wv h3 rfl rfl rfl rfl (.int .i64 0) rfl fun a6 h5 => ?_
  iterate 6 go_step
  refine wmk h5 rfl rfl rfl rfl 1 rfl (fun _ => rfl) fun a8 h7 => ?_
  refine wv h7 rfl rfl rfl rfl (.bool false) (by unfold execOp; simp only [h7.ev 16 rfl]; exact run_v (ltIP _ _ _ _ _ (decide_eq_false (by omega)))) fun a10 h9 => ?_
  refine wmk h9 rfl rfl rfl rfl 17 rfl (fun _ => rfl) fun a12 h11 => ?_
  refine wpk_val h11 (by rw [wanted_of (g := 2) (want := false) (b := false) rfl (h11.yields (prev := 18) rfl (by simp))]; rfl) rfl (by decide) (fr rfl) (.int .i64 now) (by unfold execOp; simp only [h11.ev 1 rfl]; rfl) fun a14 h13 => ?_
  refine wpk_val h13 (by rw [wanted_of (g := 2) (want := false) (b := false) rfl (h13.yields (prev := 18) rfl (by simp))]; rfl) rfl (by decide) (fr rfl) (.bool false) (by unfold execOp; simp only [h13.ev 19 rfl]; exact run_v (gtIP _ _ _ _ _ (decide_eq_false (by omega)))) fun a16 h15 => ?_
  refine wv h15 rfl rfl rfl rfl (.bool false) (run_pick rfl (h15.ev 18 rfl) (by rw [if_neg (by simp)]; exact h15.ev 20 rfl)) fun a18 h17 => ?_
  refine wmk h17 rfl rfl rfl rfl 21 rfl (fun _ => rfl) fun a20 h19 => ?_
  refine wpk_val h19 (by rw [wanted_of (g := 6) (want := false) (b := false) rfl (h19.yields (prev := 22) rfl (by simp))]; rfl) rfl (by decide) (fr rfl) (.int .i64 c) (by unfold execOp; simp only [h19.ev 2 rfl]; rfl) fun a22 h21 => ?_
  refine wpk_val h21 (by rw [wanted_of (g := 6) (want := false) (b := false) rfl (h21.yields (prev := 22) rfl (by simp))]; rfl) rfl (by decide) (fr rfl) (.bool false) (by unfold execOp; simp only [h21.ev 23 rfl]; exact run_v (ltIP _ _ _ _ _ (decide_eq_false (by omega)))) fun a24 h23 => ?_
  refine wv h23 rfl rfl rfl rfl (.bool false) (run_pick rfl (h23.ev 22 rfl) (by rw [if_neg (by simp)]; exact h23.ev 24 rfl)) fun a26 h25 => ?_
  refine wmk h25 rfl rfl rfl rfl 25 rfl (fun _ => rfl) fun a28 h27 => ?_
  refine wpk_val h27 (by rw [wanted_of (g := 10) (want := false) (b := false) rfl (h27.yields (prev := 26) rfl (by simp))]; rfl) rfl (by decide) (fr rfl) (.int .i64 c) (by unfold execOp; simp only [h27.ev 2 rfl]; rfl) fun a30 h29 => ?_
  refine wpk_val h29 (by rw [wanted_of (g := 10) (want := false) (b := false) rfl (h29.yields (prev := 26) rfl (by simp))]; rfl) rfl (by decide) (fr rfl) (.bool false) (by unfold execOp; simp only [h29.ev 27 rfl]; exact run_v (gtIP _ _ _ _ _ (decide_eq_false (by omega)))) fun a32 h31 => ?_
  refine wv h31 rfl rfl rfl rfl (.bool false) (run_pick rfl (h31.ev 26 rfl) (by rw [if_neg (by simp)]; exact h31.ev 28 rfl)) fun a34 h33 => ?_
  refine wmk h33 rfl rfl rfl rfl 29 rfl (fun _ => rfl) fun a36 h35 => ?_
  refine wpk_val h35 (by rw [wanted_of (g := 14) (want := false) (b := false) rfl (h35.yields (prev := 30) rfl (by simp))]; rfl) rfl (by decide) (fr rfl) (.int .i64 i) (by unfold execOp; simp only [h35.ev 3 rfl]; rfl) fun a38 h37 => ?_
  refine wpk_val h37 (by rw [wanted_of (g := 14) (want := false) (b := false) rfl (h37.yields (prev := 30) rfl (by simp))]; rfl) rfl (by decide) (fr rfl) (.bool false) (by unfold execOp; simp only [h37.ev 31 rfl]; exact run_v (ltIP _ _ _ _ _ (decide_eq_false (by omega)))) fun a40 h39 => ?_
  refine wv h39 rfl rfl rfl rfl (.bool false) (run_pick rfl (h39.ev 30 rfl) (by rw [if_neg (by simp)]; exact h39.ev 32 rfl)) fun a42 h41 => ?_
  refine wmk h41 rfl rfl rfl rfl 33 rfl (fun _ => rfl) fun a44 h43 => ?_
  refine wpk_val h43 (by rw [wanted_of (g := 18) (want := false) (b := false) rfl (h43.yields (prev := 34) rfl (by simp))]; rfl) rfl (by decide) (fr rfl) (.int .i64 i) (by unfold execOp; simp only [h43.ev 3 rfl]; rfl) fun a46 h45 => ?_
  refine wpk_val h45 (by rw [wanted_of (g := 18) (want := false) (b := false) rfl (h45.yields (prev := 34) rfl (by simp))]; rfl) rfl (by decide) (fr rfl) (.bool false) (by unfold execOp; simp only [h45.ev 35 rfl]; exact run_v (gtIP _ _ _ _ _ (decide_eq_false (by omega)))) fun a48 h47 => ?_
  refine wv h47 rfl rfl rfl rfl (.bool false) (run_pick rfl (h47.ev 34 rfl) (by rw [if_neg (by simp)]; exact h47.ev 36 rfl)) fun a50 h49 => ?_
  have h51 := h49.subs (l' := [(37, _), (11, _), (10, _), (0, _), (1, _), (2, _), (3, _), (4, _)]) rfl
  clear h49
  iterate 3 go_step
  refine wp_cond (t := false) (h51.ev 37 rfl) ?_
  simp only [Bool.false_eq_true, if_false]
  have h52 := h51.subs (l' := [(11, _), (10, _), (0, _), (1, _), (2, _), (3, _), (4, _)]) rfl
  clear h51
  iterate 5 go_step
  refine wmk h52 rfl rfl rfl rfl 0 rfl (fun _ => rfl) fun a54 h53 => ?_
  refine wv h53 rfl rfl rfl rfl (.pointer (some ⟨tg, 0, none⟩)) (by unfold execOp; simp only [h53.ev 39 rfl]; exact rfl) fun a56 h55 => ?_
  refine wv h55 rfl rfl rfl rfl (.pointer (some ⟨tg, 1, none⟩)) (by unfold execOp; simp only [h55.ev 40 rfl]; exact run_v (fa_54_0_1 (tg) _)) fun a58 h57 => ?_
  refine wv h57 rfl rfl rfl rfl (.map (some wm)) (by unfold execOp; simp only [h57.ev 41 rfl]; exact run_v (loadWM (HT.out.t.cell (i := 1) (by show 1 < 2; omega)))) fun a60 h59 => ?_
  refine wmk h59 rfl rfl rfl rfl 3 rfl (fun _ => rfl) fun a62 h61 => ?_
  refine wv h61 rfl rfl rfl rfl (.tuple #[.agg (kC cl un).toArray, .bool true]) (by unfold execOp; simp only [h61.ev 42 rfl, h61.ev 43 rfl]; exact run_v (lookWL HT.out.w hwi hwt)) fun a64 h63 => ?_
  refine wmk h63 rfl rfl rfl rfl 44 rfl (fun _ => rfl) fun a66 h65 => ?_
  refine wv h65 rfl rfl rfl rfl (.agg (kC cl un).toArray) (by unfold execOp; simp only [h65.ev 38 rfl]; exact rfl) fun a68 h67 => ?_
  refine wv h67 rfl rfl rfl rfl (.bool true) (by unfold execOp; simp only [h67.ev 38 rfl]; exact rfl) fun a70 h69 => ?_
  refine wv h69 rfl rfl rfl rfl (.pointer (some ⟨w.heap.size, 0, none⟩)) (run_allocWL rfl _ w) fun a72 h71 => ?_
  obtain ⟨w1, hw1⟩ : ∃ y, y = w.alloc (.cells (kC 0 0).toArray 70) := ⟨_, rfl⟩
  obtain ⟨kb, hkb⟩ : ∃ y, y = w.heap.size := ⟨_, rfl⟩
  have K1 : Blk w1 kb 70 (kC 0 0) := by rw [hw1, hkb]; exact blk_newO rfl _ _
  have b1 : Below w.heap.size w w1 := by rw [hw1]; exact albO _ _
  rw [← hkb] at h71; rw [← hw1]; clear hw1
  refine wpk_storeP h71 rfl rfl rfl kb 0 (h71.ev 12 rfl) (kC cl un) (h71.ev 45 rfl) (by rw [infoWL]; rfl) (kC_one _ _) K1 (by show 0 + 2 ≤ 2; omega) fun a74 w2 h73 kq gq => ?_
  rw [splice_all (by rfl)] at kq
  have hlt := HT.out.lt; have t2 : Turns (fun k => k = kb) w w2 := (Turns.of_below b1).trans (Turns.of_grown gq rfl)
  have HK2 := hid kq; have HT2 := hid (HT.out.turns t2 (by omega) (by omega) (by omega)); have B2 := hid (t2.below (Nat.le_refl _) (fun k e => by omega)); clear t2 kq gq b1 K1
  refine wmk h73 rfl rfl rfl rfl 46 rfl (fun _ => rfl) fun a76 h75 => ?_
  have h77 := h75.subs (l' := [(13, _), (12, _), (11, _), (10, _), (0, _), (1, _), (2, _), (3, _), (4, _)]) rfl
  clear h75
  iterate 5 go_step
  refine wmk h77 rfl rfl rfl rfl 13 rfl (fun _ => rfl) fun a79 h78 => ?_
  refine wmk h78 rfl rfl rfl rfl 47 rfl (fun _ => rfl) fun a81 h80 => ?_
  refine wpk_val h80 (by rw [wanted_of (g := 1) (want := true) (b := true) rfl (h80.yields (prev := 48) rfl (by simp))]; rfl) rfl (by decide) (fr rfl) (.pointer (some ⟨kb, 0, none⟩)) (by unfold execOp; simp only [h80.ev 12 rfl]; exact run_v (fa_70_0_0 (kb) _)) fun a83 h82 => ?_
  refine wpk_val h82 (by rw [wanted_of (g := 1) (want := true) (b := true) rfl (h82.yields (prev := 48) rfl (by simp))]; rfl) rfl (by decide) (fr rfl) (.int .i64 cl) (by unfold execOp; simp only [h82.ev 49 rfl]; exact run_v (loadIP (HK2.out.cell (i := 0) (by show 0 < 2; omega)))) fun a85 h84 => ?_
  refine wpk_val h84 (by rw [wanted_of (g := 1) (want := true) (b := true) rfl (h84.yields (prev := 48) rfl (by simp))]; rfl) rfl (by decide) (fr rfl) (.int .i64 c) (by unfold execOp; simp only [h84.ev 2 rfl]; rfl) fun a87 h86 => ?_
  refine wpk_val h86 (by rw [wanted_of (g := 1) (want := true) (b := true) rfl (h86.yields (prev := 48) rfl (by simp))]; rfl) rfl (by decide) (fr rfl) (.bool true) (by unfold execOp; simp only [h86.ev 50 rfl, h86.ev 51 rfl]; exact run_v (neqIP _ _ _ _ _ (bne_iff_ne.2 (by omega)))) fun a89 h88 => ?_
  refine wv h88 rfl rfl rfl rfl (.bool true) (run_pick rfl (h88.ev 48 rfl) (by rw [if_pos rfl]; exact h88.ev 52 rfl)) fun a91 h90 => ?_
  refine wmk h90 rfl rfl rfl rfl 53 rfl (fun _ => rfl) fun a93 h92 => ?_
  refine wpk_val h92 (by rw [wanted_of (g := 7) (want := true) (b := true) rfl (h92.yields (prev := 54) rfl (by simp))]; rfl) rfl (by decide) (fr rfl) (.int .i64 now) (by unfold execOp; simp only [h92.ev 1 rfl]; rfl) fun a95 h94 => ?_
  refine wpk_val h94 (by rw [wanted_of (g := 7) (want := true) (b := true) rfl (h94.yields (prev := 54) rfl (by simp))]; rfl) rfl (by decide) (fr rfl) (.pointer (some ⟨kb, 1, none⟩)) (by unfold execOp; simp only [h94.ev 12 rfl]; exact run_v (fa_70_0_1 (kb) _)) fun a97 h96 => ?_
  refine wpk_val h96 (by rw [wanted_of (g := 7) (want := true) (b := true) rfl (h96.yields (prev := 54) rfl (by simp))]; rfl) rfl (by decide) (fr rfl) (.int .i64 un) (by unfold execOp; simp only [h96.ev 56 rfl]; exact run_v (loadIP (HK2.out.cell (i := 1) (by show 1 < 2; omega)))) fun a99 h98 => ?_
  refine wpk_val h98 (by rw [wanted_of (g := 7) (want := true) (b := true) rfl (h98.yields (prev := 54) rfl (by simp))]; rfl) rfl (by decide) (fr rfl) (.bool true) (by unfold execOp; simp only [h98.ev 55 rfl, h98.ev 57 rfl]; exact run_v (ltIP _ _ _ _ _ (decide_eq_true (by omega)))) fun a101 h100 => ?_
  refine wv h100 rfl rfl rfl rfl (.bool true) (run_pick rfl (h100.ev 54 rfl) (by rw [if_pos rfl]; exact h100.ev 58 rfl)) fun a103 h102 => ?_
  refine wmk h102 rfl rfl rfl rfl 59 rfl (fun _ => rfl) fun a105 h104 => ?_
  have h106 := h104.subs (l' := [(14, _), (13, _), (12, _), (11, _), (10, _), (0, _), (1, _), (2, _), (3, _), (4, _)]) rfl
  clear h104
  iterate 6 go_step
  refine wmk h106 rfl rfl rfl rfl 0 rfl (fun _ => rfl) fun a108 h107 => ?_
  refine wmk h107 rfl rfl rfl rfl 2 rfl (fun _ => rfl) fun a110 h109 => ?_
  refine wmk h109 rfl rfl rfl rfl 3 rfl (fun _ => rfl) fun a112 h111 => ?_
  refine wmk h111 rfl rfl rfl rfl 4 rfl (fun _ => rfl) fun a114 h113 => ?_
  refine wpk_call h113 (wanted_none rfl) rfl (by decide) (fr rfl) (fun args => callP_31 args _) rfl #[.pointer (some ⟨tg, 0, none⟩), .int .i64 c, .int .i64 i, .bool own] (by simp only [List.map_toArray, List.map_cons, List.map_nil, h113.ev 60 rfl, h113.ev 61 rfl, h113.ev 62 rfl, h113.ev 63 rfl]) (R := fun v' w' => ∃ la lc, v' = .slice la (agL g c i own).length lc ∧ OwnI w' w2.heap.size la lc (agL g c i own) ∧ TabP w' tg gm wm n m g wt ∧ Below w2.heap.size w2 w') ((against_any HT2.out hgok c i own hwi).mono fun e w' q => by obtain ⟨la, lc, q1, q2⟩ := q; exact ⟨_, q1, la, lc, rfl, q2⟩) fun a116 va wa ra h115 => ?_
  obtain ⟨la, lc, rfl, oa, ta, ba⟩ := ra; have HOA := hid (own_weak oa B2.out.size); have HTA := hid ta; have HKA := hid (HK2.out.mono ba); have BA := hid (kept_trans B2.out ba); clear oa ta ba
  refine wmk h115 rfl rfl rfl rfl 64 rfl (fun _ => rfl) fun a118 h117 => ?_
  have h119 := h117.subs (l' := [(15, _), (14, _), (13, _), (12, _), (11, _), (10, _), (0, _), (1, _), (2, _), (3, _), (4, _)]) rfl
  clear h117
  iterate 5 go_step
  refine wmk h119 rfl rfl rfl rfl 15 rfl (fun _ => rfl) fun a121 h120 => ?_
  refine wv h120 rfl rfl rfl rfl (.int .i64 ((agL g c i own).length : Int)) (run_lenIL rfl (h120.ev 65 rfl) _) fun a123 h122 => ?_
  refine wv h122 rfl rfl rfl rfl (.bool true) (by unfold execOp; simp only [h122.ev 66 rfl]; exact run_v (gtIP _ _ _ _ _ (decide_eq_true (by omega)))) fun a125 h124 => ?_
  have h126 := h124.subs (l' := [(67, _), (15, _), (14, _), (13, _), (12, _), (11, _), (10, _), (0, _), (1, _), (2, _), (3, _), (4, _)]) rfl
  clear h124
  iterate 3 go_step
  refine wp_cond (t := true) (h126.ev 67 rfl) ?_
  simp only [if_true]
  have h127 := h126.subs (l' := [(15, _), (14, _), (13, _), (12, _), (11, _), (10, _), (0, _), (1, _), (2, _), (3, _), (4, _)]) rfl
  clear h126
  iterate 3 go_step
  refine wmk h127 rfl rfl rfl rfl 14 rfl (fun _ => rfl) fun a129 h128 => ?_
  refine wv h128 rfl rfl rfl rfl (.bool false) (run_not rfl (h128.ev 68 rfl)) fun a131 h130 => ?_
  have h132 := h130.subs (l' := [(69, _), (15, _), (14, _), (13, _), (12, _), (11, _), (10, _), (0, _), (1, _), (2, _), (3, _), (4, _)]) rfl
  clear h130
  iterate 3 go_step
  refine wp_cond (t := false) (h132.ev 69 rfl) ?_
  simp only [Bool.false_eq_true, if_false]
  have h133 := h132.subs (l' := [(15, _), (14, _), (13, _), (12, _), (11, _), (10, _), (0, _), (1, _), (2, _), (3, _), (4, _)]) rfl
  clear h132
  iterate 5 go_step
  refine wmk h133 rfl rfl rfl rfl 15 rfl (fun _ => rfl) fun a135 h134 => ?_
  have h136 := h134.subs (l' := [(79, _), (15, _), (14, _), (13, _), (12, _), (11, _), (0, _), (1, _), (2, _), (3, _), (4, _)]) rfl
  clear h134
  refine wmk h136 rfl rfl rfl rfl 79 rfl (fun _ => rfl) fun a138 h137 => ?_
  have h139 := h137.subs (l' := [(10, _), (79, _), (15, _), (14, _), (13, _), (12, _), (0, _), (1, _), (2, _), (3, _), (4, _)]) rfl
  clear h137
  refine wv h139 rfl rfl rfl rfl (.int .i64 32) rfl fun a141 h140 => ?_
  have h142 := h140.subs (l' := [(11, _), (10, _), (15, _), (14, _), (13, _), (12, _), (0, _), (1, _), (2, _), (3, _), (4, _)]) rfl
  clear h140
  iterate 4 go_step
  simp only [Exit.then, Exit.inBlock]
  exact bodyPost_ret (results_tmp2 rfl (h142.known (10, .slice la (agL g c i own).length lc) (by simp)) (h142.known (11, .int .i64 32) (by simp))) h142.defs ⟨la, lc, rfl, HOA.out, ⟨m, by omega, HTA.out⟩, Turns.of_below BA.out⟩

set_option maxHeartbeats 4000000 in
theorem ask_other0 {w : World} {tg gm wm n m : Nat} {g : GrF} {wt : WtF} (h : TabP w tg gm wm n m g wt) (hgok : GrOk g) (hn : n < 1000000) (hm : m < 1000000) {now c i : Int} (own : Bool) (hok : askOk now c i) {cl un : Int} (hwt : wt i = some (cl, un)) (hcl : cl ≠ c) (hun : now < un) (hag : (agL g c i own).length = 0) :
    Calls Try.prog 17 #[.pointer (some ⟨tg, 0, none⟩), .int .i64 now, .int .i64 c, .int .i64 i, .bool own] w fun e w' => e = .returned (.tuple #[.slice none 0 0, .int .i64 32]) ∧ TabP w' tg gm wm n m g wt ∧ Below w.heap.size w w' := by
  obtain ⟨⟨n1, n2⟩, ⟨c1, c2⟩, ⟨i1, i2⟩⟩ := hok
  have hwi : (Lit.int .i64 i).wf = true := WalkArith.wf_i64 (by omega)
  have hwc : (Lit.int .i64 c).wf = true := WalkArith.wf_i64 (by omega)
  have HT := hid h; clear h
  go_enter Try.func17, Try.ntmps17
  iterate 3 go_step
  refine wpk_enter (N := 104) (l := [(0, .pointer (some ⟨tg, 0, none⟩)), (1, .int .i64 now), (2, .int .i64 c), (3, .int .i64 i), (4, .bool own)]) ⟨rfl, (by intro x hx; simp only [List.mem_cons, List.not_mem_nil, or_false] at hx; rcases hx with rfl | rfl | rfl | rfl | rfl <;> rfl), rfl⟩ fun a2 h1 => ?_
  refine wv h1 rfl rfl rfl rfl (.slice none 0 0) rfl fun a4 h3 => ?_
  refine wv h3 rfl rfl rfl rfl (.int .i64 0) rfl fun a6 h5 => ?_
  iterate 6 go_step
  refine wmk h5 rfl rfl rfl rfl 1 rfl (fun _ => rfl) fun a8 h7 => ?_
  refine wv h7 rfl rfl rfl rfl (.bool false) (by unfold execOp; simp only [h7.ev 16 rfl]; exact run_v (ltIP _ _ _ _ _ (decide_eq_false (by omega)))) fun a10 h9 => ?_
  refine wmk h9 rfl rfl rfl rfl 17 rfl (fun _ => rfl) fun a12 h11 => ?_
  refine wpk_val h11 (by rw [wanted_of (g := 2) (want := false) (b := false) rfl (h11.yields (prev := 18) rfl (by simp))]; rfl) rfl (by decide) (fr rfl) (.int .i64 now) (by unfold execOp; simp only [h11.ev 1 rfl]; rfl) fun a14 h13 => ?_
  refine wpk_val h13 (by rw [wanted_of (g := 2) (want := false) (b := false) rfl (h13.yields (prev := 18) rfl (by simp))]; rfl) rfl (by decide) (fr rfl) (.bool false) (by unfold execOp; simp only [h13.ev 19 rfl]; exact run_v (gtIP _ _ _ _ _ (decide_eq_false (by omega)))) fun a16 h15 => ?_
  refine wv h15 rfl rfl rfl rfl (.bool false) (run_pick rfl (h15.ev 18 rfl) (by rw [if_neg (by simp)]; exact h15.ev 20 rfl)) fun a18 h17 => ?_
  refine wmk h17 rfl rfl rfl rfl 21 rfl (fun _ => rfl) fun a20 h19 => ?_
  refine wpk_val h19 (by rw [wanted_of (g := 6) (want := false) (b := false) rfl (h19.yields (prev := 22) rfl (by simp))]; rfl) rfl (by decide) (fr rfl) (.int .i64 c) (by unfold execOp; simp only [h19.ev 2 rfl]; rfl) fun a22 h21 => ?_
  refine wpk_val h21 (by rw [wanted_of (g := 6) (want := false) (b := false) rfl (h21.yields (prev := 22) rfl (by simp))]; rfl) rfl (by decide) (fr rfl) (.bool false) (by unfold execOp; simp only [h21.ev 23 rfl]; exact run_v (ltIP _ _ _ _ _ (decide_eq_false (by omega)))) fun a24 h23 => ?_
  refine wv h23 rfl rfl rfl rfl (.bool false) (run_pick rfl (h23.ev 22 rfl) (by rw [if_neg (by simp)]; exact h23.ev 24 rfl)) fun a26 h25 => ?_
  refine wmk h25 rfl rfl rfl rfl 25 rfl (fun _ => rfl) fun a28 h27 => ?_
  refine wpk_val h27 (by rw [wanted_of (g := 10) (want := false) (b := false) rfl (h27.yields (prev := 26) rfl (by simp))]; rfl) rfl (by decide) (fr rfl) (.int .i64 c) (by unfold execOp; simp only [h27.ev 2 rfl]; rfl) fun a30 h29 => ?_
  refine wpk_val h29 (by rw [wanted_of (g := 10) (want := false) (b := false) rfl (h29.yields (prev := 26) rfl (by simp))]; rfl) rfl (by decide) (fr rfl) (.bool false) (by unfold execOp; simp only [h29.ev 27 rfl]; exact run_v (gtIP _ _ _ _ _ (decide_eq_false (by omega)))) fun a32 h31 => ?_
  refine wv h31 rfl rfl rfl rfl (.bool false) (run_pick rfl (h31.ev 26 rfl) (by rw [if_neg (by simp)]; exact h31.ev 28 rfl)) fun a34 h33 => ?_
  refine wmk h33 rfl rfl rfl rfl 29 rfl (fun _ => rfl) fun a36 h35 => ?_
  refine wpk_val h35 (by rw [wanted_of (g := 14) (want := false) (b := false) rfl (h35.yields (prev := 30) rfl (by simp))]; rfl) rfl (by decide) (fr rfl) (.int .i64 i) (by unfold execOp; simp only [h35.ev 3 rfl]; rfl) fun a38 h37 => ?_
  refine wpk_val h37 (by rw [wanted_of (g := 14) (want := false) (b := false) rfl (h37.yields (prev := 30) rfl (by simp))]; rfl) rfl (by decide) (fr rfl) (.bool false) (by unfold execOp; simp only [h37.ev 31 rfl]; exact run_v (ltIP _ _ _ _ _ (decide_eq_false (by omega)))) fun a40 h39 => ?_
  refine wv h39 rfl rfl rfl rfl (.bool false) (run_pick rfl (h39.ev 30 rfl) (by rw [if_neg (by simp)]; exact h39.ev 32 rfl)) fun a42 h41 => ?_
  refine wmk h41 rfl rfl rfl rfl 33 rfl (fun _ => rfl) fun a44 h43 => ?_
  refine wpk_val h43 (by rw [wanted_of (g := 18) (want := false) (b := false) rfl (h43.yields (prev := 34) rfl (by simp))]; rfl) rfl (by decide) (fr rfl) (.int .i64 i) (by unfold execOp; simp only [h43.ev 3 rfl]; rfl) fun a46 h45 => ?_
  refine wpk_val h45 (by rw [wanted_of (g := 18) (want := false) (b := false) rfl (h45.yields (prev := 34) rfl (by simp))]; rfl) rfl (by decide) (fr rfl) (.bool false) (by unfold execOp; simp only [h45.ev 35 rfl]; exact run_v (gtIP _ _ _ _ _ (decide_eq_false (by omega)))) fun a48 h47 => ?_
  refine wv h47 rfl rfl rfl rfl (.bool false) (run_pick rfl (h47.ev 34 rfl) (by rw [if_neg (by simp)]; exact h47.ev 36 rfl)) fun a50 h49 => ?_
  have h51 := h49.subs (l' := [(37, _), (11, _), (10, _), (0, _), (1, _), (2, _), (3, _), (4, _)]) rfl
  clear h49
  iterate 3 go_step
  refine wp_cond (t := false) (h51.ev 37 rfl) ?_
  simp only [Bool.false_eq_true, if_false]
  have h52 := h51.subs (l' := [(11, _), (10, _), (0, _), (1, _), (2, _), (3, _), (4, _)]) rfl
  clear h51
  iterate 5 go_step
  refine wmk h52 rfl rfl rfl rfl 0 rfl (fun _ => rfl) fun a54 h53 => ?_
  refine wv h53 rfl rfl rfl rfl (.pointer (some ⟨tg, 0, none⟩)) (by unfold execOp; simp only [h53.ev 39 rfl]; exact rfl) fun a56 h55 => ?_
  refine wv h55 rfl rfl rfl rfl (.pointer (some ⟨tg, 1, none⟩)) (by unfold execOp; simp only [h55.ev 40 rfl]; exact run_v (fa_54_0_1 (tg) _)) fun a58 h57 => ?_
  refine wv h57 rfl rfl rfl rfl (.map (some wm)) (by unfold execOp; simp only [h57.ev 41 rfl]; exact run_v (loadWM (HT.out.t.cell (i := 1) (by show 1 < 2; omega)))) fun a60 h59 => ?_
  refine wmk h59 rfl rfl rfl rfl 3 rfl (fun _ => rfl) fun a62 h61 => ?_
  refine wv h61 rfl rfl rfl rfl (.tuple #[.agg (kC cl un).toArray, .bool true]) (by unfold execOp; simp only [h61.ev 42 rfl, h61.ev 43 rfl]; exact run_v (lookWL HT.out.w hwi hwt)) fun a64 h63 => ?_
  refine wmk h63 rfl rfl rfl rfl 44 rfl (fun _ => rfl) fun a66 h65 => ?_
  refine wv h65 rfl rfl rfl rfl (.agg (kC cl un).toArray) (by unfold execOp; simp only [h65.ev 38 rfl]; exact rfl) fun a68 h67 => ?_
  refine wv h67 rfl rfl rfl rfl (.bool true) (by unfold execOp; simp only [h67.ev 38 rfl]; exact rfl) fun a70 h69 => ?_
  refine wv h69 rfl rfl rfl rfl (.pointer (some ⟨w.heap.size, 0, none⟩)) (run_allocWL rfl _ w) fun a72 h71 => ?_
  obtain ⟨w1, hw1⟩ : ∃ y, y = w.alloc (.cells (kC 0 0).toArray 70) := ⟨_, rfl⟩
  obtain ⟨kb, hkb⟩ : ∃ y, y = w.heap.size := ⟨_, rfl⟩
  have K1 : Blk w1 kb 70 (kC 0 0) := by rw [hw1, hkb]; exact blk_newO rfl _ _
  have b1 : Below w.heap.size w w1 := by rw [hw1]; exact albO _ _
  rw [← hkb] at h71; rw [← hw1]; clear hw1
  refine wpk_storeP h71 rfl rfl rfl kb 0 (h71.ev 12 rfl) (kC cl un) (h71.ev 45 rfl) (by rw [infoWL]; rfl) (kC_one _ _) K1 (by show 0 + 2 ≤ 2; omega) fun a74 w2 h73 kq gq => ?_
  rw [splice_all (by rfl)] at kq
  have hlt := HT.out.lt; have t2 : Turns (fun k => k = kb) w w2 := (Turns.of_below b1).trans (Turns.of_grown gq rfl)
  have HK2 := hid kq; have HT2 := hid (HT.out.turns t2 (by omega) (by omega) (by omega)); have B2 := hid (t2.below (Nat.le_refl _) (fun k e => by omega)); clear t2 kq gq b1 K1
  refine wmk h73 rfl rfl rfl rfl 46 rfl (fun _ => rfl) fun a76 h75 => ?_
  have h77 := h75.subs (l' := [(13, _), (12, _), (11, _), (10, _), (0, _), (1, _), (2, _), (3, _), (4, _)]) rfl
  clear h75
  iterate 5 go_step
  refine wmk h77 rfl rfl rfl rfl 13 rfl (fun _ => rfl) fun a79 h78 => ?_
  refine wmk h78 rfl rfl rfl rfl 47 rfl (fun _ => rfl) fun a81 h80 => ?_
  refine wpk_val h80 (by rw [wanted_of (g := 1) (want := true) (b := true) rfl (h80.yields (prev := 48) rfl (by simp))]; rfl) rfl (by decide) (fr rfl) (.pointer (some ⟨kb, 0, none⟩)) (by unfold execOp; simp only [h80.ev 12 rfl]; exact run_v (fa_70_0_0 (kb) _)) fun a83 h82 => ?_
  refine wpk_val h82 (by rw [wanted_of (g := 1) (want := true) (b := true) rfl (h82.yields (prev := 48) rfl (by simp))]; rfl) rfl (by decide) (fr rfl) (.int .i64 cl) (by unfold execOp; simp only [h82.ev 49 rfl]; exact run_v (loadIP (HK2.out.cell (i := 0) (by show 0 < 2; omega)))) fun a85 h84 => ?_
  refine wpk_val h84 (by rw [wanted_of (g := 1) (want := true) (b := true) rfl (h84.yields (prev := 48) rfl (by simp))]; rfl) rfl (by decide) (fr rfl) (.int .i64 c) (by unfold execOp; simp only [h84.ev 2 rfl]; rfl) fun a87 h86 => ?_
  refine wpk_val h86 (by rw [wanted_of (g := 1) (want := true) (b := true) rfl (h86.yields (prev := 48) rfl (by simp))]; rfl) rfl (by decide) (fr rfl) (.bool true) (by unfold execOp; simp only [h86.ev 50 rfl, h86.ev 51 rfl]; exact run_v (neqIP _ _ _ _ _ (bne_iff_ne.2 (by omega)))) fun a89 h88 => ?_
  refine wv h88 rfl rfl rfl rfl (.bool true) (run_pick rfl (h88.ev 48 rfl) (by rw [if_pos rfl]; exact h88.ev 52 rfl)) fun a91 h90 => ?_
  refine wmk h90 rfl rfl rfl rfl 53 rfl (fun _ => rfl) fun a93 h92 => ?_
  refine wpk_val h92 (by rw [wanted_of (g := 7) (want := true) (b := true) rfl (h92.yields (prev := 54) rfl (by simp))]; rfl) rfl (by decide) (fr rfl) (.int .i64 now) (by unfold execOp; simp only [h92.ev 1 rfl]; rfl) fun a95 h94 => ?_
  refine wpk_val h94 (by rw [wanted_of (g := 7) (want := true) (b := true) rfl (h94.yields (prev := 54) rfl (by simp))]; rfl) rfl (by decide) (fr rfl) (.pointer (some ⟨kb, 1, none⟩)) (by unfold execOp; simp only [h94.ev 12 rfl]; exact run_v (fa_70_0_1 (kb) _)) fun a97 h96 => ?_
  refine wpk_val h96 (by rw [wanted_of (g := 7) (want := true) (b := true) rfl (h96.yields (prev := 54) rfl (by simp))]; rfl) rfl (by decide) (fr rfl) (.int .i64 un) (by unfold execOp; simp only [h96.ev 56 rfl]; exact run_v (loadIP (HK2.out.cell (i := 1) (by show 1 < 2; omega)))) fun a99 h98 => ?_
  refine wpk_val h98 (by rw [wanted_of (g := 7) (want := true) (b := true) rfl (h98.yields (prev := 54) rfl (by simp))]; rfl) rfl (by decide) (fr rfl) (.bool true) (by unfold execOp; simp only [h98.ev 55 rfl, h98.ev 57 rfl]; exact run_v (ltIP _ _ _ _ _ (decide_eq_true (by omega)))) fun a101 h100 => ?_
  refine wv h100 rfl rfl rfl rfl (.bool true) (run_pick rfl (h100.ev 54 rfl) (by rw [if_pos rfl]; exact h100.ev 58 rfl)) fun a103 h102 => ?_
  refine wmk h102 rfl rfl rfl rfl 59 rfl (fun _ => rfl) fun a105 h104 => ?_
  have h106 := h104.subs (l' := [(14, _), (13, _), (12, _), (11, _), (10, _), (0, _), (1, _), (2, _), (3, _), (4, _)]) rfl
  clear h104
  iterate 6 go_step
  refine wmk h106 rfl rfl rfl rfl 0 rfl (fun _ => rfl) fun a108 h107 => ?_
  refine wmk h107 rfl rfl rfl rfl 2 rfl (fun _ => rfl) fun a110 h109 => ?_
  refine wmk h109 rfl rfl rfl rfl 3 rfl (fun _ => rfl) fun a112 h111 => ?_
  refine wmk h111 rfl rfl rfl rfl 4 rfl (fun _ => rfl) fun a114 h113 => ?_
  refine wpk_call h113 (wanted_none rfl) rfl (by decide) (fr rfl) (fun args => callP_31 args _) rfl #[.pointer (some ⟨tg, 0, none⟩), .int .i64 c, .int .i64 i, .bool own] (by simp only [List.map_toArray, List.map_cons, List.map_nil, h113.ev 60 rfl, h113.ev 61 rfl, h113.ev 62 rfl, h113.ev 63 rfl]) (R := fun v' w' => ∃ la lc, v' = .slice la (agL g c i own).length lc ∧ OwnI w' w2.heap.size la lc (agL g c i own) ∧ TabP w' tg gm wm n m g wt ∧ Below w2.heap.size w2 w') ((against_any HT2.out hgok c i own hwi).mono fun e w' q => by obtain ⟨la, lc, q1, q2⟩ := q; exact ⟨_, q1, la, lc, rfl, q2⟩) fun a116 va wa ra h115 => ?_
  obtain ⟨la, lc, rfl, oa, ta, ba⟩ := ra; have HOA := hid (own_weak oa B2.out.size); have HTA := hid ta; have HKA := hid (HK2.out.mono ba); have BA := hid (kept_trans B2.out ba); clear oa ta ba
  refine wmk h115 rfl rfl rfl rfl 64 rfl (fun _ => rfl) fun a118 h117 => ?_
  have h119 := h117.subs (l' := [(15, _), (14, _), (13, _), (12, _), (11, _), (10, _), (0, _), (1, _), (2, _), (3, _), (4, _)]) rfl
  clear h117
  iterate 5 go_step
  refine wmk h119 rfl rfl rfl rfl 15 rfl (fun _ => rfl) fun a121 h120 => ?_
  refine wv h120 rfl rfl rfl rfl (.int .i64 ((agL g c i own).length : Int)) (run_lenIL rfl (h120.ev 65 rfl) _) fun a123 h122 => ?_
  refine wv h122 rfl rfl rfl rfl (.bool false) (by unfold execOp; simp only [h122.ev 66 rfl]; exact run_v (gtIP _ _ _ _ _ (decide_eq_false (by omega)))) fun a125 h124 => ?_
  have h126 := h124.subs (l' := [(67, _), (15, _), (14, _), (13, _), (12, _), (11, _), (10, _), (0, _), (1, _), (2, _), (3, _), (4, _)]) rfl
  clear h124
  iterate 3 go_step
  refine wp_cond (t := false) (h126.ev 67 rfl) ?_
  simp only [Bool.false_eq_true, if_false]
  have h127 := h126.subs (l' := [(15, _), (14, _), (13, _), (12, _), (11, _), (10, _), (0, _), (1, _), (2, _), (3, _), (4, _)]) rfl
  clear h126
  iterate 6 go_step
  refine wmk h127 rfl rfl rfl rfl 14 rfl (fun _ => rfl) fun a129 h128 => ?_
  iterate 3 go_step
  refine wp_cond (t := true) (h128.ev 80 rfl) ?_
  simp only [if_true]
  have h130 := h128.subs (l' := [(15, _), (14, _), (13, _), (12, _), (11, _), (10, _), (0, _), (1, _), (2, _), (3, _), (4, _)]) rfl
  clear h128
  iterate 2 go_step
  have h131 := h130.subs (l' := [(15, _), (14, _), (13, _), (12, _), (11, _), (0, _), (1, _), (2, _), (3, _), (4, _)]) rfl
  clear h130
  refine wv h131 rfl rfl rfl rfl (.slice none 0 0) rfl fun a133 h132 => ?_
  have h134 := h132.subs (l' := [(10, _), (15, _), (14, _), (13, _), (12, _), (0, _), (1, _), (2, _), (3, _), (4, _)]) rfl
  clear h132
  refine wv h134 rfl rfl rfl rfl (.int .i64 32) rfl fun a136 h135 => ?_
  iterate 4 go_step
  simp only [Exit.then, Exit.inBlock]
  exact bodyPost_ret (results_tmp2 rfl (h135.known (10, .slice none 0 0) (by simp)) (h135.known (11, .int .i64 32) (by simp))) h135.defs ⟨rfl, HTA.out, BA.out⟩
end Go.Proofs.Ytpalgffmdinfpaa
end
section
namespace Go.Proofs.Ytpalgffmdinfpaa
open Go.RowKit
set_option linter.unusedSimpArgs false
set_option linter.unusedVariables false
set_option maxRecDepth 100000

def askOkB (now c i : Int) : Bool := decide ((0 ≤ now ∧ now ≤ 1099511627776) ∧ (1 ≤ c ∧ c ≤ 8) ∧ (1 ≤ i ∧ i ≤ 32))
theorem askOkB_iff {now c i : Int} : askOkB now c i = true ↔ askOk now c i := by unfold askOkB askOk; rw [decide_eq_true_eq]
/-- what Ask tells, and what it makes of the table -/
def askLst (g : GrF) (now c i : Int) (own : Bool) : List Int := if askOkB now c i = true then agL g c i own else []
def askE (g : GrF) (wt : WtF) (now c i : Int) (own : Bool) : Int := if askOkB now c i = true then (if (agL g c i own).length = 0 then (if askO wt now c i = true then 32 else 0) else 32) else 1
def askG (g : GrF) (wt : WtF) (now c i : Int) (own : Bool) : GrF := if askOkB now c i = true then (if (agL g c i own).length = 0 then (if askO wt now c i = true then g else updG g (c, i) (some (own, now + 64))) else g) else g
def askW (g : GrF) (wt : WtF) (now c i : Int) (own : Bool) : WtF := if askOkB now c i = true then (if (agL g c i own).length = 0 then (if askO wt now c i = true then wt else ownW wt c i) else (if askO wt now c i = true then wt else updG wt i (some (c, now + 64)))) else wt
def AskP (w : World) (tg gm wm n m : Nat) (g : GrF) (wt : WtF) (now c i : Int) (own : Bool) (e : Ending) (w' : World) : Prop :=
  ∃ la lc, e = .returned (.tuple #[.slice la (askLst g now c i own).length lc, .int .i64 (askE g wt now c i own)]) ∧ OwnI w' w.heap.size la lc (askLst g now c i own) ∧
    (∃ n' m', n' ≤ n + 1 ∧ m' ≤ m + 1 ∧ TabP w' tg gm wm n' m' (askG g wt now c i own) (askW g wt now c i own)) ∧ Turns (fun k => k = gm ∨ k = wm) w w'
theorem askT_any {w : World} {tg gm wm n m : Nat} {g : GrF} {wt : WtF} (h : TabP w tg gm wm n m g wt) (hgok : GrOk g) (hn : n < 1000000) (hm : m < 1000000) (now c i : Int) (own : Bool) :
    Calls Try.prog 17 #[.pointer (some ⟨tg, 0, none⟩), .int .i64 now, .int .i64 c, .int .i64 i, .bool own] w (AskP w tg gm wm n m g wt now c i own) := by
  by_cases hok : askOk now c i
  case neg =>
    refine (ask_bad h hgok hn hm own hok).mono ?_
    rintro e w' ⟨rfl, rfl⟩
    have hb : ¬ askOkB now c i = true := fun q => hok (askOkB_iff.1 q)
    unfold AskP askLst askE askG askW
    simp only [if_neg hb]
    exact ⟨none, 0, rfl, Own.nil _ _ _ _, ⟨n, m, by omega, by omega, h⟩, Turns.refl _ _⟩
  have hb : askOkB now c i = true := askOkB_iff.2 hok
  by_cases hag : (agL g c i own).length = 0
  · have hnil := List.eq_nil_of_length_eq_zero hag
    have fin0 : ∀ {W' : WtF} {e : Ending} {w' : World}, askO wt now c i = false → ownW wt c i = W' → (e = .returned (.tuple #[.slice none 0 0, .int .i64 0]) ∧ (∃ n', n' ≤ n + 1 ∧ TabP w' tg gm wm n' m (updG g (c, i) (some (own, now + 64))) W') ∧ Turns (fun k => k = gm ∨ k = wm) w w') → AskP w tg gm wm n m g wt now c i own e w' := by
      rintro W' e w' ho hW ⟨rfl, ⟨n', h1, h2⟩, h3⟩
      have ho' : ¬ askO wt now c i = true := by rw [ho]; simp
      unfold AskP askLst askE askG askW
      simp only [if_pos hb, if_pos hag, if_neg ho', hW]
      rw [hnil]
      exact ⟨none, 0, rfl, Own.nil _ _ _ _, ⟨n', m, h1, by omega, h2⟩, h3⟩
    cases hwt : wt i with
    | none => exact (ask_none0 h hgok hn hm own hok hwt hag).mono fun e w' q => fin0 (by unfold askO; rw [hwt]) (by unfold ownW; rw [hwt]) q
    | some a =>
      obtain ⟨cl, un⟩ := a
      by_cases hcl : cl = c
      · exact (ask_own0 h hgok hn hm own hok hwt hcl hag).mono fun e w' q => fin0 (by unfold askO; rw [hwt]; simp [hcl]) (by unfold ownW; rw [hwt]; simp [hcl]) q
      by_cases hun : now < un
      · refine (ask_other0 h hgok hn hm own hok hwt hcl hun hag).mono ?_
        rintro e w' ⟨rfl, h1, h2⟩
        have ho : askO wt now c i = true := by unfold askO; rw [hwt]; simp [hcl, hun]
        unfold AskP askLst askE askG askW
        simp only [if_pos hb, if_pos hag, if_pos ho]
        rw [hnil]
        exact ⟨none, 0, rfl, Own.nil _ _ _ _, ⟨n, m, by omega, by omega, h1⟩, Turns.of_below h2⟩
      · exact (ask_old0 h hgok hn hm own hok hwt hcl hun hag).mono fun e w' q => fin0 (by unfold askO; rw [hwt]; simp [hun]) (by unfold ownW; rw [hwt]; simp [hcl]) q
  · have hag' : 0 < (agL g c i own).length := by omega
    have fin1 : ∀ {W' : WtF} {e : Ending} {w' : World}, (if askO wt now c i = true then wt else updG wt i (some (c, now + 64))) = W' → (∃ la lc, e = .returned (.tuple #[.slice la (agL g c i own).length lc, .int .i64 32]) ∧ OwnI w' w.heap.size la lc (agL g c i own) ∧ (∃ m', m' ≤ m + 1 ∧ TabP w' tg gm wm n m' g W') ∧ Turns (fun k => k = wm) w w') → AskP w tg gm wm n m g wt now c i own e w' := by
      rintro W' e w' hW ⟨la, lc, rfl, h1, ⟨m', h2, h3⟩, h4⟩
      unfold AskP askLst askE askG askW
      simp only [if_pos hb, if_neg hag, hW]
      exact ⟨la, lc, rfl, h1, ⟨n, m', by omega, h2, h3⟩, h4.mono (fun k e => .inr e)⟩
    cases hwt : wt i with
    | none => exact (ask_none1 h hgok hn hm own hok hwt hag').mono fun e w' q => fin1 (by unfold askO; rw [hwt]; simp) q
    | some a =>
      obtain ⟨cl, un⟩ := a
      by_cases hcl : cl = c
      · exact (ask_own1 h hgok hn hm own hok hwt hcl hag').mono fun e w' q => fin1 (by unfold askO; rw [hwt]; simp [hcl]) q
      by_cases hun : now < un
      · exact (ask_other1 h hgok hn hm own hok hwt hcl hun hag').mono fun e w' q => fin1 (by unfold askO; rw [hwt]; simp [hcl, hun]) q
      · exact (ask_old1 h hgok hn hm own hok hwt hcl hun hag').mono fun e w' q => fin1 (by unfold askO; rw [hwt]; simp [hun]) q
theorem GrOk.empty : GrOk (fun _ => none) := fun p a h => by cases h
theorem GrOk.upd {g : GrF} (h : GrOk g) {p : Int × Int} (a : Option (Bool × Int)) (hp : a ≠ none → 1 ≤ p.1 ∧ p.1 ≤ 8 ∧ 1 ≤ p.2 ∧ p.2 ≤ 32) : GrOk (updG g p a) := fun q b hq => by
  by_cases e : q = p
  · subst e; rw [updG_same] at hq; exact hp (by rw [hq]; simp)
  · rw [updG_ne _ _ e] at hq; exact h q b hq
theorem GrOk.give {g : GrF} (h : GrOk g) (p : Int × Int) : GrOk (updG g p none) := h.upd none (fun q => absurd rfl q)
theorem GrOk.drop {g : GrF} (h : GrOk g) (c : Int) : GrOk (dropG c g) := fun q b hq => by
  unfold dropG at hq
  split at hq
  · cases hq
  · exact h q b hq
theorem GrOk.ask {g : GrF} (h : GrOk g) (wt : WtF) (now c i : Int) (own : Bool) : GrOk (askG g wt now c i own) := by
  unfold askG
  split
  · rename_i hb
    have hok := askOkB_iff.1 hb
    split
    · split
      · exact h
      · exact h.upd _ (fun _ => ⟨hok.2.1.1, hok.2.1.2, hok.2.2.1, hok.2.2.2⟩)
    · exact h
  · exact h
end Go.Proofs.Ytpalgffmdinfpaa
end
