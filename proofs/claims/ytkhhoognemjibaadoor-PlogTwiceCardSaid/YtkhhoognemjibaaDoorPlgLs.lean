/- Records compared; the document's Append. (genPlgLs.py) -/
import Derived.Test.YtkhhoognemjibaaDoorPlgLr
namespace Go.Proofs.YtkhhoognemjibaaDoor
open Go.RowKit
set_option linter.unusedSimpArgs false
set_option linter.unusedVariables false
set_option maxRecDepth 100000

theorem recs_at {w : World} {B : Nat} {ra : Option Addr} {rc : Nat} {rs : List (Option Addr × Nat × List PtM)} (h : RecsP w B ra rc rs) {j : Nat} (hj : j < rs.length) :
    ∃ pb po ad c L, ra = some ⟨pb, po, none⟩ ∧ w.cell? ⟨pb, po + j, none⟩ = some (.slice ad L.length c) ∧ RowPt w ad c L ∧ (rs.map (·.2.2))[j]? = some L := by
  obtain ⟨b, off, e, _, hc⟩ := h.o.row.2.2.2.2 (by omega)
  refine ⟨b, off, rs[j].1, rs[j].2.1, rs[j].2.2, e, ?_, (h.i _ (List.getElem_mem hj)).row, ?_⟩
  · exact hc j _ (by rw [List.getElem?_map, List.getElem?_eq_getElem hj]; rfl)
  · rw [List.getElem?_map, List.getElem?_eq_getElem hj]; rfl
theorem cell_mono {w w' : World} (b : Below w.heap.size w w') {x : Addr} {v : Value} (h : w.cell? x = some v) : w'.cell? x = some v := by
  have hb := b.block x.block (World.block_lt_of_cell? w _ h)
  unfold World.cell? at *
  rw [hb]
  exact h
theorem own_ge {w : World} {B : Nat} {e : TypeId} {sz : Nat} {a : Option Addr} {n c : Nat} {cs : List Value} {k off : Nat} (h : Own w B e sz a n c cs) (ha : a = some ⟨k, off, none⟩) : B ≤ k := by
  rcases h.2 with ⟨hv, _⟩ | ⟨b, cap, cur, hv, hB, hh, rest⟩
  · rw [ha] at hv; cases hv
  · rw [ha] at hv; cases hv; exact hB
theorem callP_11 (args : Array Value) (w : World) : (callFunc 11 args).run Tryd.prog w = .ok (.enter 11 args) w := by
  have h := Tryd.func11
  go_simp
theorem callP_16 (args : Array Value) (w : World) : (callFunc 16 args).run Tryd.prog w = .ok (.enter 16 args) w := by
  have h := Tryd.func16
  go_simp
theorem callP_56 (args : Array Value) (w : World) : (callFunc 56 args).run Tryd.prog w = .ok (.enter 56 args) w := by
  have h := Tryd.func56
  go_simp
theorem callP_57 (args : Array Value) (w : World) : (callFunc 57 args).run Tryd.prog w = .ok (.enter 57 args) w := by
  have h := Tryd.func57
  go_simp

set_option maxHeartbeats 4000000 in
theorem sameRecs_eq {w : World} {B1 B2 : Nat} {ra rb : Option Addr} {rc rd : Nat} {rs rs' : List (Option Addr × Nat × List PtM)} (hA : RecsP w B1 ra rc rs) (hBR : RecsP w B2 rb rd rs') (heq : rs.map (·.2.2) = rs'.map (·.2.2)) (hl : rs.length ≤ 1000000) (hk : ∀ L ∈ rs.map (·.2.2), L.length ≤ 1000000) :
    Calls Tryd.prog 58 #[.slice ra rs.length rc, .slice rb rs.length rd] w fun e w' => e = .returned (.bool true) ∧ Below w.heap.size w w' := by
  have HA := hid hA; have HBR := hid hBR; have HEQ := hid heq
  have hlen : rs'.length = rs.length := by have := congrArg List.length heq; simpa using this.symm
  clear hA hBR heq
  go_enter Tryd.func58, Tryd.ntmps58
  iterate 3 go_step
  refine wpk_enter (N := 29) (l := [(0, .slice ra rs.length rc), (1, .slice rb rs.length rd)]) ⟨rfl, (by intro x hx; simp only [List.mem_cons, List.not_mem_nil, or_false] at hx; rcases hx with rfl | rfl <;> rfl), rfl⟩ fun a2 h1 => ?_
  refine wv h1 rfl rfl rfl rfl (.bool false) rfl fun a4 h3 => ?_
  iterate 4 go_step
  have hne : ((rs.length : Int) != (rs.length : Int)) = false := by simp
  iterate 2 go_step
  refine wmk h3 rfl rfl rfl rfl 0 rfl (fun _ => rfl) fun a6 h5 => ?_
  refine wv h5 rfl rfl rfl rfl (.int .i64 (rs.length : Int)) (run_lenRP rfl (h5.ev 7 rfl) _) fun a8 h7 => ?_
  refine wmk h7 rfl rfl rfl rfl 1 rfl (fun _ => rfl) fun a10 h9 => ?_
  refine wv h9 rfl rfl rfl rfl (.int .i64 (rs.length : Int)) (run_lenRP rfl (h9.ev 9 rfl) _) fun a12 h11 => ?_
  refine wv h11 rfl rfl rfl rfl (.bool false) (by unfold execOp; simp only [h11.ev 8 rfl, h11.ev 10 rfl]; exact run_v (neqIP _ _ _ _ _ hne)) fun a14 h13 => ?_
  have h15 := h13.subs (l' := [(11, _), (4, _), (0, _), (1, _)]) rfl
  clear h13
  iterate 3 go_step
  refine wp_cond (t := false) (h15.ev 11 rfl) ?_
  simp only [Bool.false_eq_true, if_false]
  have h16 := h15.subs (l' := [(4, _), (0, _), (1, _)]) rfl
  clear h15
  iterate 6 go_step
  refine wv h16 rfl rfl rfl rfl (.int .i64 0) rfl fun a18 h17 => ?_
  iterate 4 go_step
  have h19 := h17.subs (l' := [(5, _), (0, _), (1, _)]) rfl
  clear h17
  refine wp_loop (I := fun a' w' => ∃ j : Nat, j ≤ rs.length ∧ Kn 29 [(5, .int .i64 (j : Int)), (0, .slice ra rs.length rc), (1, .slice rb rs.length rd)] a' ∧ Below w.heap.size w w') (μ := fun a' _ => rs.length - (intOf (a'.eval (.tmp 5))).toNat) ⟨0, by omega, h19, Below.refl _ _⟩ ?_
  clear h19
  rintro aL aw ⟨j, hj, hK, hb⟩
  have HB := hid hb; clear hb
  by_cases hlt : j < rs.length
  · have hd0 : decide ((j : Int) < (rs.length : Int)) = true := decide_eq_true (by omega)
    iterate 4 go_step
    refine wmk hK rfl rfl rfl rfl 5 rfl (fun _ => rfl) fun a21 h20 => ?_
    refine wmk h20 rfl rfl rfl rfl 0 rfl (fun _ => rfl) fun a23 h22 => ?_
    refine wv h22 rfl rfl rfl rfl (.int .i64 (rs.length : Int)) (run_lenRP rfl (h22.ev 13 rfl) _) fun a25 h24 => ?_
    refine wv h24 rfl rfl rfl rfl (.bool true) (by unfold execOp; simp only [h24.ev 12 rfl, h24.ev 14 rfl]; exact run_v (ltIP _ _ _ _ _ hd0)) fun a27 h26 => ?_
    have h28 := h26.subs (l' := [(15, _), (5, _), (0, _), (1, _)]) rfl
    clear h26
    iterate 3 go_step
    refine wp_cond (t := true) (h28.ev 15 rfl) ?_
    simp only [if_true]
    have h29 := h28.subs (l' := [(5, _), (0, _), (1, _)]) rfl
    clear h28
    iterate 6 go_step
    have HA1 := HA.out.mono (HB.out.drew); have HR1 := HBR.out.mono (HB.out.drew)
    obtain ⟨pa, oa, ad1, c1, L1, ha0, hc1, hr1, hl1⟩ := recs_at HA1 hlt; obtain ⟨pb, ob, ad2, c2, L2, hb0, hc2, hr2, hl2⟩ := recs_at HR1 (by omega : j < rs'.length)
    have hLL : L1 = L2 := by rw [HEQ.out] at hl1; rw [hl1] at hl2; injection hl2
    subst hLL
    have hLn : L1.length ≤ 1000000 := hk _ (by obtain ⟨hj', e'⟩ := List.getElem?_eq_some_iff.1 hl1; rw [← e']; exact List.getElem_mem hj')
    refine wp_region_held_drew (S := fun w' => w'.cell? ⟨pa, oa + j, none⟩ = some (.slice ad1 L1.length c1) ∧ w'.cell? ⟨pb, ob + j, none⟩ = some (.slice ad2 L1.length c2)) (by kernel_rfl) ⟨hc1, hc2⟩ (fun hS1 => ?_)
    refine wpk_take hS1 h29 0 rfl rfl (by decide) (fr rfl) (by kernel_rfl) (by kernel_rfl) (by kernel_rfl) (fun _ _ _ _ h => h) (.slice ra rs.length rc) (Or.inl ⟨Eq.refl true, fun w1 hSw => (by show (execOp _ (⟨_, .move (.tmp 0), _, _, _, _⟩ : Oper)).run _ _ = _; exact (by unfold execOp; simp only [h29.ev 0 rfl]; exact rfl))⟩) fun a31 h30 => ?_
    refine wpk_take hS1 h30 1 rfl rfl (by decide) (fr rfl) (by kernel_rfl) (by kernel_rfl) (by kernel_rfl) (fun _ _ _ _ h => h) (.int .i64 (j : Int)) (Or.inl ⟨Eq.refl true, fun w1 hSw => (by show (execOp _ (⟨_, .move (.tmp 5), _, _, _, _⟩ : Oper)).run _ _ = _; exact (by unfold execOp; simp only [h30.ev 5 rfl]; exact rfl))⟩) fun a33 h32 => ?_
    refine wpk_take hS1 h32 2 rfl rfl (by decide) (fr rfl) (by kernel_rfl) (by kernel_rfl) (by kernel_rfl) (fun _ _ _ _ h => h) (.pointer (some ⟨pa, oa + j, none⟩)) (Or.inl ⟨Eq.refl true, fun w1 hSw => (by show (execOp _ (⟨_, .indexAddr 41 (.tmp 18) (.tmp 19), _, _, _, _⟩ : Oper)).run _ _ = _; exact (by unfold execOp; simp only [h32.ev 18 rfl, h32.ev 19 rfl]; exact run_v (by rw [ha0]; exact ixRP _ _ _ _ j hlt _)))⟩) fun a35 h34 => ?_
    refine wpk_take hS1 h34 3 rfl rfl (by decide) (fr rfl) (by kernel_rfl) (by kernel_rfl) (by kernel_rfl) (fun _ _ _ _ h => h) (.slice ad1 L1.length c1) (Or.inl ⟨Eq.refl true, fun w1 hSw => (by show (execOp _ (⟨_, .load 22 (.tmp 20), _, _, _, _⟩ : Oper)).run _ _ = _; exact (by unfold execOp; simp only [h34.ev 20 rfl]; exact run_v (loadRP hSw.1)))⟩) fun a37 h36 => ?_
    refine wpk_take hS1 h36 4 rfl rfl (by decide) (fr rfl) (by kernel_rfl) (by kernel_rfl) (by kernel_rfl) (fun _ _ _ _ h => h) (.slice rb rs.length rd) (Or.inl ⟨Eq.refl true, fun w1 hSw => (by show (execOp _ (⟨_, .move (.tmp 1), _, _, _, _⟩ : Oper)).run _ _ = _; exact (by unfold execOp; simp only [h36.ev 1 rfl]; exact rfl))⟩) fun a39 h38 => ?_
    refine wpk_take hS1 h38 5 rfl rfl (by decide) (fr rfl) (by kernel_rfl) (by kernel_rfl) (by kernel_rfl) (fun _ _ _ _ h => h) (.int .i64 (j : Int)) (Or.inl ⟨Eq.refl true, fun w1 hSw => (by show (execOp _ (⟨_, .move (.tmp 5), _, _, _, _⟩ : Oper)).run _ _ = _; exact (by unfold execOp; simp only [h38.ev 5 rfl]; exact rfl))⟩) fun a41 h40 => ?_
    refine wpk_take hS1 h40 6 rfl rfl (by decide) (fr rfl) (by kernel_rfl) (by kernel_rfl) (by kernel_rfl) (fun _ _ _ _ h => h) (.pointer (some ⟨pb, ob + j, none⟩)) (Or.inl ⟨Eq.refl true, fun w1 hSw => (by show (execOp _ (⟨_, .indexAddr 41 (.tmp 22) (.tmp 23), _, _, _, _⟩ : Oper)).run _ _ = _; exact (by unfold execOp; simp only [h40.ev 22 rfl, h40.ev 23 rfl]; exact run_v (by rw [hb0]; exact ixRP _ _ _ _ j hlt _)))⟩) fun a43 h42 => ?_
    refine wpk_take hS1 h42 7 rfl rfl (by decide) (fr rfl) (by kernel_rfl) (by kernel_rfl) (by kernel_rfl) (fun _ _ _ _ h => h) (.slice ad2 L1.length c2) (Or.inl ⟨Eq.refl true, fun w1 hSw => (by show (execOp _ (⟨_, .load 22 (.tmp 24), _, _, _, _⟩ : Oper)).run _ _ = _; exact (by unfold execOp; simp only [h42.ev 24 rfl]; exact run_v (loadRP hSw.2)))⟩) fun a45 h44 => ?_
    refine wpk_only 8 rfl rfl (by kernel_rfl) fun K hK => op_call h44 rfl (by decide) (fr rfl) (fun args => callP_16 args _) rfl #[.slice ad1 L1.length c1, .slice ad2 L1.length c2] (by simp only [List.map_toArray, List.map_cons, List.map_nil, h44.ev 21 rfl, h44.ev 25 rfl]) (R := fun v' w' => v' = .bool true ∧ Below aw.drew.heap.size aw.drew w') ((samePts_eq hr1 hr2 hLn).mono fun e w' q => ⟨_, q.1, rfl, q.2⟩) fun a47 v2 w2 r2 h46 => hK _ _ (⟨cell_mono r2.2 hS1.1, cell_mono r2.2 hS1.2⟩) fun hS2 => ?_
    clear hK K
    obtain ⟨rfl, b2⟩ := r2
    refine wpk_take hS2 h46 9 rfl rfl (by decide) (fr rfl) (by kernel_rfl) (by kernel_rfl) (by kernel_rfl) (fun _ _ _ _ h => h) (.bool true) (Or.inl ⟨Eq.refl true, fun w1 hSw => (by show (execOp _ (⟨_, .assign (.tmp 26), _, _, _, _⟩ : Oper)).run _ _ = _; exact (by unfold execOp; simp only [h46.ev 26 rfl]; exact rfl))⟩) fun a49 h48 => ?_
    refine wpAnyH_done (by kernel_rfl) ?_ _
    have h50 := h48.subs (l' := [(6, _), (5, _), (0, _), (1, _)]) rfl
    clear h48
    iterate 4 go_step
    refine wmk h50 rfl rfl rfl rfl 6 rfl (fun _ => rfl) fun a52 h51 => ?_
    refine wv h51 rfl rfl rfl rfl (.bool false) (run_not rfl (h51.ev 27 rfl)) fun a54 h53 => ?_
    have h55 := h53.subs (l' := [(28, _), (6, _), (5, _), (0, _), (1, _)]) rfl
    clear h53
    iterate 3 go_step
    refine wp_cond (t := false) (h55.ev 28 rfl) ?_
    simp only [Bool.false_eq_true, if_false]
    have h56 := h55.subs (l' := [(6, _), (5, _), (0, _), (1, _)]) rfl
    clear h55
    iterate 4 go_step
    refine wmk h56 rfl rfl rfl rfl 5 rfl (fun _ => rfl) fun a58 h57 => ?_
    refine wv h57 rfl rfl rfl rfl (.int .i64 ((j + 1 : Nat) : Int)) (by unfold execOp; simp only [h57.ev 16 rfl]; exact run_v (addIP _ _ j (by omega) _)) fun a60 h59 => ?_
    have h61 := h59.subs (l' := [(17, _), (16, _), (6, _), (0, _), (1, _)]) rfl
    clear h59
    refine wmk h61 rfl rfl rfl rfl 17 rfl (fun _ => rfl) fun a63 h62 => ?_
    have h64 := h62.subs (l' := [(5, _), (6, _), (0, _), (1, _)]) rfl
    clear h62
    iterate 2 go_step
    refine ⟨⟨j + 1, by omega, h64.subs rfl, kept_trans HB.out.drew b2⟩, ?_⟩
    rw [h64.ev 5 rfl, hK.ev 5 rfl]; simp [intOf]; omega
  · have hd0 : decide ((j : Int) < (rs.length : Int)) = false := decide_eq_false (by omega)
    iterate 4 go_step
    refine wmk hK rfl rfl rfl rfl 5 rfl (fun _ => rfl) fun a66 h65 => ?_
    refine wmk h65 rfl rfl rfl rfl 0 rfl (fun _ => rfl) fun a68 h67 => ?_
    refine wv h67 rfl rfl rfl rfl (.int .i64 (rs.length : Int)) (run_lenRP rfl (h67.ev 13 rfl) _) fun a70 h69 => ?_
    refine wv h69 rfl rfl rfl rfl (.bool false) (by unfold execOp; simp only [h69.ev 12 rfl, h69.ev 14 rfl]; exact run_v (ltIP _ _ _ _ _ hd0)) fun a72 h71 => ?_
    have h73 := h71.subs (l' := [(15, _), (5, _), (0, _), (1, _)]) rfl
    clear h71
    iterate 3 go_step
    refine wp_cond (t := false) (h73.ev 15 rfl) ?_
    simp only [Bool.false_eq_true, if_false]
    have h74 := h73.subs (l' := [(5, _), (0, _), (1, _)]) rfl
    clear h73
    iterate 7 go_step
    refine wv h74 rfl rfl rfl rfl (.bool true) rfl fun a76 h75 => ?_
    iterate 4 go_step
    exact bodyPost_ret (results_tmp1 rfl (h75.known (4, .bool true) (by simp))) h75.defs ⟨rfl, HB.out⟩

set_option maxHeartbeats 4000000 in
theorem sameRecs_ne {w : World} {ra rb : Option Addr} {rc rd n m : Nat} (h : n ≠ m) :
    Calls Tryd.prog 58 #[.slice ra n rc, .slice rb m rd] w fun e w' => e = .returned (.bool false) ∧ w = w' := by
  go_enter Tryd.func58, Tryd.ntmps58
  iterate 3 go_step
  refine wpk_enter (N := 29) (l := [(0, .slice ra n rc), (1, .slice rb m rd)]) ⟨rfl, (by intro x hx; simp only [List.mem_cons, List.not_mem_nil, or_false] at hx; rcases hx with rfl | rfl <;> rfl), rfl⟩ fun a2 h1 => ?_
  refine wv h1 rfl rfl rfl rfl (.bool false) rfl fun a4 h3 => ?_
  iterate 4 go_step
  have hne : ((n : Int) != (m : Int)) = true := by simp only [bne_iff_ne, ne_eq]; omega
  iterate 2 go_step
  refine wmk h3 rfl rfl rfl rfl 0 rfl (fun _ => rfl) fun a6 h5 => ?_
  refine wv h5 rfl rfl rfl rfl (.int .i64 (n : Int)) (run_lenRP rfl (h5.ev 7 rfl) _) fun a8 h7 => ?_
  refine wmk h7 rfl rfl rfl rfl 1 rfl (fun _ => rfl) fun a10 h9 => ?_
  refine wv h9 rfl rfl rfl rfl (.int .i64 (m : Int)) (run_lenRP rfl (h9.ev 9 rfl) _) fun a12 h11 => ?_
  refine wv h11 rfl rfl rfl rfl (.bool true) (by unfold execOp; simp only [h11.ev 8 rfl, h11.ev 10 rfl]; exact run_v (neqIP _ _ _ _ _ hne)) fun a14 h13 => ?_
  have h15 := h13.subs (l' := [(11, _), (4, _), (0, _), (1, _)]) rfl
  clear h13
  iterate 3 go_step
  refine wp_cond (t := true) (h15.ev 11 rfl) ?_
  simp only [if_true]
  have h16 := h15.subs (l' := [(4, _), (0, _), (1, _)]) rfl
  clear h15
  iterate 2 go_step
  have h17 := h16.subs (l' := [(0, _), (1, _)]) rfl
  clear h16
  refine wv h17 rfl rfl rfl rfl (.bool false) rfl fun a19 h18 => ?_
  iterate 4 go_step
  simp only [Exit.then, Exit.inBlock]
  exact bodyPost_ret (results_tmp1 rfl (h18.known (4, .bool false) (by simp))) h18.defs ⟨rfl, rfl⟩

theorem retAr {w W : World} {lg g v d a at_ size : Nat} {M : MemM} {L : List PtM} {act : Act} {E : Int} (hd : act.defers = []) (h4 : act.tmps[4]? = some (.int .i64 E)) (hE : appE M at_ size L = E) (hG : LogRP W lg g v d a at_ size (appM M at_ size L)) (hT : Turns (XM v d a) w W) :
    bodyPost Tryd.prog Tryd.f28 (fun e w' => ∃ x, e = .returned x ∧ x = .int .i64 (appE M at_ size L) ∧ LogRP w' lg g v d a at_ size (appM M at_ size L) ∧ Turns (XM v d a) w w') .ret act W := by
  rw [hE]
  exact bodyPost_ret (results_tmp1 rfl h4) hd ⟨_, rfl, rfl, hG, hT⟩
set_option maxHeartbeats 4000000 in
theorem appendR_any {w : World} {lg g v d a at_ size : Nat} {M : MemM} {sa : Option Addr} {sc : Nat} {L : List PtM} (hg0 : LogRP w lg g v d a at_ size M) (hok : LogOk at_ size M) (hrow : RowPt w sa sc L) (okP : okPts L) (hl : L.length ≤ 1000000) :
    Calls Tryd.prog 28 #[.pointer (some ⟨lg, 0, none⟩), .slice sa L.length sc] w fun e w' => ∃ x, e = .returned x ∧ x = .int .i64 (appE M at_ size L) ∧ LogRP w' lg g v d a at_ size (appM M at_ size L) ∧ Turns (XM v d a) w w' := by
  have HG0 := hid hg0
  have hok2 := hok
  obtain ⟨s1, s2, s3, s4⟩ := hok2
  obtain ⟨eb, heb⟩ : ∃ x, encL L = x := ⟨_, rfl⟩
  obtain ⟨ee, hee⟩ : ∃ x, encE L = x := ⟨_, rfl⟩
  obtain ⟨u, hu⟩ : ∃ x, (logR M.V at_ size).2 = x := ⟨_, rfl⟩
  have hel : eb.length ≤ 20000 := by rw [← heb]; exact encL_len
  have hul := logR_u M.V at_ size
  rw [hu] at hul
  have HEB := hid heb; have HEE := hid hee; have HU := hid hu
  clear hg0 heb hee hu
  go_enter Tryd.func28, Tryd.ntmps28
  iterate 3 go_step
  refine wpk_enter (N := 53) (l := [(0, .pointer (some ⟨lg, 0, none⟩)), (1, .slice sa L.length sc)]) ⟨rfl, (by intro x hx; simp only [List.mem_cons, List.not_mem_nil, or_false] at hx; rcases hx with rfl | rfl <;> rfl), rfl⟩ fun a2 h1 => ?_
  refine wv h1 rfl rfl rfl rfl (.int .i64 0) rfl fun a4 h3 => ?_
  iterate 5 go_step
  refine wmk h3 rfl rfl rfl rfl 1 rfl (fun _ => rfl) fun a6 h5 => ?_
  refine wpk_call h5 (wanted_none rfl) rfl (by decide) (fr rfl) (fun args => callP_11 args _) rfl #[.slice sa L.length sc] (by simp only [List.map_toArray, List.map_cons, List.map_nil, h5.ev 10 rfl]) (R := fun xv w' => ∃ ba bc, xv = .tuple #[.slice ba (encL L).length bc, .int .i64 (encE L)] ∧ OwnB w' w.heap.size ba bc (encL L) ∧ Below w.heap.size w w') ((encodeR_any hrow okP (by omega)).mono fun e w' q => by obtain ⟨x, y, q1, q2, q3⟩ := q; exact ⟨_, q1, x, y, rfl, q2, q3⟩) fun a8 v2 w2 r2 h7 => ?_
  obtain ⟨ba, bc, rfl, o2, b2⟩ := r2
  rw [HEB.out] at o2 h7; rw [HEE.out] at h7
  have HG2 := hid (HG0.out.mono b2); have HO2 := hid o2; have HT2 : Hid (Turns (XM v d a) w w2) := hid (Turns.of_below b2); have HB2 := hid b2; clear o2 b2
  refine wmk h7 rfl rfl rfl rfl 11 rfl (fun _ => rfl) fun a10 h9 => ?_
  refine wv h9 rfl rfl rfl rfl (.slice ba eb.length bc) (by unfold execOp; simp only [h9.ev 9 rfl]; exact rfl) fun a12 h11 => ?_
  refine wv h11 rfl rfl rfl rfl (.int .i64 ee) (by unfold execOp; simp only [h11.ev 9 rfl]; exact rfl) fun a14 h13 => ?_
  refine wmk h13 rfl rfl rfl rfl 12 rfl (fun _ => rfl) fun a16 h15 => ?_
  refine wmk h15 rfl rfl rfl rfl 13 rfl (fun _ => rfl) fun a18 h17 => ?_
  have h19 := h17.subs (l' := [(6, _), (5, _), (4, _), (0, _), (1, _)]) rfl
  clear h17
  iterate 4 go_step
  by_cases he : ee = 0
  case neg =>
    have hbad : (ee != 0) = true := by simp [bne, he]
    iterate 2 go_step
    refine wmk h19 rfl rfl rfl rfl 6 rfl (fun _ => rfl) fun a21 h20 => ?_
    refine wv h20 rfl rfl rfl rfl (.bool true) (by unfold execOp; simp only [h20.ev 14 rfl]; exact run_v (neEP _ _ _ _ _ hbad)) fun a23 h22 => ?_
    have h24 := h22.subs (l' := [(15, _), (6, _), (5, _), (4, _), (0, _), (1, _)]) rfl
    clear h22
    iterate 3 go_step
    refine wp_cond (t := true) (h24.ev 15 rfl) ?_
    simp only [if_true]
    have h25 := h24.subs (l' := [(6, _), (5, _), (4, _), (0, _), (1, _)]) rfl
    clear h24
    iterate 2 go_step
    refine wmk h25 rfl rfl rfl rfl 6 rfl (fun _ => rfl) fun a27 h26 => ?_
    have h28 := h26.subs (l' := [(16, _), (6, _), (5, _), (0, _), (1, _)]) rfl
    clear h26
    refine wmk h28 rfl rfl rfl rfl 16 rfl (fun _ => rfl) fun a30 h29 => ?_
    have h31 := h29.subs (l' := [(4, _), (6, _), (5, _), (0, _), (1, _)]) rfl
    clear h29
    iterate 4 go_step
    simp only [Exit.then, Exit.inBlock]
    exact retAr h31.defs (h31.known (4, .int .i64 ee) (by simp)) (by unfold appE; rw [HEE.out, if_neg he]) (by have z := HG2.out; unfold appM; rw [HEE.out, if_neg (fun q => he q.1)]; exact z) HT2.out
  have hbad : (ee != 0) = false := by rw [he]; rfl
  iterate 2 go_step
  refine wmk h19 rfl rfl rfl rfl 6 rfl (fun _ => rfl) fun a33 h32 => ?_
  refine wv h32 rfl rfl rfl rfl (.bool false) (by unfold execOp; simp only [h32.ev 14 rfl]; exact run_v (neEP _ _ _ _ _ hbad)) fun a35 h34 => ?_
  have h36 := h34.subs (l' := [(15, _), (6, _), (5, _), (4, _), (0, _), (1, _)]) rfl
  clear h34
  iterate 3 go_step
  refine wp_cond (t := false) (h36.ev 15 rfl) ?_
  simp only [Bool.false_eq_true, if_false]
  have h37 := h36.subs (l' := [(6, _), (5, _), (4, _), (0, _), (1, _)]) rfl
  clear h36
  iterate 5 go_step
  refine wmk h37 rfl rfl rfl rfl 0 rfl (fun _ => rfl) fun a39 h38 => ?_
  refine wpk_call h38 (wanted_none rfl) rfl (by decide) (fr rfl) (fun args => callP_56 args _) rfl #[.pointer (some ⟨lg, 0, none⟩)] (by simp only [List.map_toArray, List.map_cons, List.map_nil, h38.ev 18 rfl]) (R := fun xv w' => ∃ ra rc rs, xv = .tuple #[.slice ra rs.length rc, .int .i64 ((logR M.V at_ size).2 : Int)] ∧ rs.map (·.2.2) = (logR M.V at_ size).1 ∧ RecsP w' w2.heap.size ra rc rs ∧ Below w2.heap.size w2 w') (readR_any HG2.out hok) fun a41 v3 w3 r3 h40 => ?_
  obtain ⟨ra, rc, rs, rfl, _, _, b3⟩ := r3
  rw [HU.out] at h40
  have HG3 := hid (HG2.out.mono b3); have HO3 := hid (Own.mono HO2.out b3); have HT3 : Hid (Turns (XM v d a) w w3) := hid (HT2.out.trans (Turns.of_below b3)); have HB3 := hid (kept_trans HB2.out b3); clear b3
  refine wmk h40 rfl rfl rfl rfl 19 rfl (fun _ => rfl) fun a43 h42 => ?_
  refine wv h42 rfl rfl rfl rfl (.slice ra rs.length rc) (by unfold execOp; simp only [h42.ev 17 rfl]; exact rfl) fun a45 h44 => ?_
  refine wv h44 rfl rfl rfl rfl (.int .i64 (u : Int)) (by unfold execOp; simp only [h44.ev 17 rfl]; exact rfl) fun a47 h46 => ?_
  refine wmk h46 rfl rfl rfl rfl 20 rfl (fun _ => rfl) fun a49 h48 => ?_
  refine wmk h48 rfl rfl rfl rfl 21 rfl (fun _ => rfl) fun a51 h50 => ?_
  have h52 := h50.subs (l' := [(8, _), (6, _), (5, _), (4, _), (0, _), (1, _)]) rfl
  clear h50
  iterate 4 go_step
  by_cases hf : size - 8 < u + eb.length
  case pos =>
    have hfull : decide (((size - 8 : Nat) : Int) < ((u + eb.length : Nat) : Int)) = true := decide_eq_true (by omega)
    iterate 2 go_step
    refine wmk h52 rfl rfl rfl rfl 8 rfl (fun _ => rfl) fun a54 h53 => ?_
    refine wmk h53 rfl rfl rfl rfl 5 rfl (fun _ => rfl) fun a56 h55 => ?_
    refine wv h55 rfl rfl rfl rfl (.int .i64 (eb.length : Int)) (run_lenBP rfl (h55.ev 23 rfl) _) fun a58 h57 => ?_
    refine wv h57 rfl rfl rfl rfl (.int .i64 ((u + eb.length : Nat) : Int)) (by unfold execOp; simp only [h57.ev 22 rfl, h57.ev 24 rfl]; exact run_v (addNP _ _ _ _ _ (by omega) (by omega) (by omega) _)) fun a60 h59 => ?_
    refine wmk h59 rfl rfl rfl rfl 0 rfl (fun _ => rfl) fun a62 h61 => ?_
    refine wv h61 rfl rfl rfl rfl (.pointer (some ⟨lg, 0, none⟩)) (by unfold execOp; simp only [h61.ev 26 rfl]; exact rfl) fun a64 h63 => ?_
    refine wv h63 rfl rfl rfl rfl (.pointer (some ⟨lg, 2, none⟩)) (by unfold execOp; simp only [h63.ev 27 rfl]; exact run_v (fa_76_0_2 (lg) _)) fun a66 h65 => ?_
    refine wv h65 rfl rfl rfl rfl (.int .i64 (size : Int)) (by unfold execOp; simp only [h65.ev 28 rfl]; exact run_v (loadIP (HG3.out.l.cell (i := 2) (by show 2 < 3; omega)))) fun a68 h67 => ?_
    refine wv h67 rfl rfl rfl rfl (.int .i64 ((size - 8 : Nat) : Int)) (by unfold execOp; simp only [h67.ev 29 rfl]; exact run_v (subIP _ _ _ _ _ (by omega) (by omega) (by omega) _)) fun a70 h69 => ?_
    refine wv h69 rfl rfl rfl rfl (.bool true) (by unfold execOp; simp only [h69.ev 25 rfl, h69.ev 30 rfl]; exact run_v (gtIP _ _ _ _ _ hfull)) fun a72 h71 => ?_
    have h73 := h71.subs (l' := [(31, _), (8, _), (6, _), (5, _), (4, _), (0, _), (1, _)]) rfl
    clear h71
    iterate 3 go_step
    refine wp_cond (t := true) (h73.ev 31 rfl) ?_
    simp only [if_true]
    have h74 := h73.subs (l' := [(8, _), (6, _), (5, _), (4, _), (0, _), (1, _)]) rfl
    clear h73
    iterate 2 go_step
    have h75 := h74.subs (l' := [(8, _), (6, _), (5, _), (0, _), (1, _)]) rfl
    clear h74
    refine wv h75 rfl rfl rfl rfl (.int .i64 5) rfl fun a77 h76 => ?_
    iterate 4 go_step
    simp only [Exit.then, Exit.inBlock]
    exact retAr h76.defs (h76.known (4, .int .i64 5) (by simp)) (by unfold appE; rw [HEE.out, if_pos he, HU.out, HEB.out, if_pos hf]) (by have z := HG3.out; unfold appM; rw [HU.out, HEB.out, if_neg (fun q => q.2 hf)]; exact z) HT3.out
  have hfull : decide (((size - 8 : Nat) : Int) < ((u + eb.length : Nat) : Int)) = false := decide_eq_false (by omega)
  have hlt0 := HG0.out.lt
  iterate 2 go_step
  refine wmk h52 rfl rfl rfl rfl 8 rfl (fun _ => rfl) fun a79 h78 => ?_
  refine wmk h78 rfl rfl rfl rfl 5 rfl (fun _ => rfl) fun a81 h80 => ?_
  refine wv h80 rfl rfl rfl rfl (.int .i64 (eb.length : Int)) (run_lenBP rfl (h80.ev 23 rfl) _) fun a83 h82 => ?_
  refine wv h82 rfl rfl rfl rfl (.int .i64 ((u + eb.length : Nat) : Int)) (by unfold execOp; simp only [h82.ev 22 rfl, h82.ev 24 rfl]; exact run_v (addNP _ _ _ _ _ (by omega) (by omega) (by omega) _)) fun a85 h84 => ?_
  refine wmk h84 rfl rfl rfl rfl 0 rfl (fun _ => rfl) fun a87 h86 => ?_
  refine wv h86 rfl rfl rfl rfl (.pointer (some ⟨lg, 0, none⟩)) (by unfold execOp; simp only [h86.ev 26 rfl]; exact rfl) fun a89 h88 => ?_
  refine wv h88 rfl rfl rfl rfl (.pointer (some ⟨lg, 2, none⟩)) (by unfold execOp; simp only [h88.ev 27 rfl]; exact run_v (fa_76_0_2 (lg) _)) fun a91 h90 => ?_
  refine wv h90 rfl rfl rfl rfl (.int .i64 (size : Int)) (by unfold execOp; simp only [h90.ev 28 rfl]; exact run_v (loadIP (HG3.out.l.cell (i := 2) (by show 2 < 3; omega)))) fun a93 h92 => ?_
  refine wv h92 rfl rfl rfl rfl (.int .i64 ((size - 8 : Nat) : Int)) (by unfold execOp; simp only [h92.ev 29 rfl]; exact run_v (subIP _ _ _ _ _ (by omega) (by omega) (by omega) _)) fun a95 h94 => ?_
  refine wv h94 rfl rfl rfl rfl (.bool false) (by unfold execOp; simp only [h94.ev 25 rfl, h94.ev 30 rfl]; exact run_v (gtIP _ _ _ _ _ hfull)) fun a97 h96 => ?_
  have h98 := h96.subs (l' := [(31, _), (8, _), (6, _), (5, _), (4, _), (0, _), (1, _)]) rfl
  clear h96
  iterate 3 go_step
  refine wp_cond (t := false) (h98.ev 31 rfl) ?_
  simp only [Bool.false_eq_true, if_false]
  have h99 := h98.subs (l' := [(8, _), (6, _), (5, _), (4, _), (0, _), (1, _)]) rfl
  clear h98
  iterate 5 go_step
  refine wmk h99 rfl rfl rfl rfl 0 rfl (fun _ => rfl) fun a101 h100 => ?_
  refine wmk h100 rfl rfl rfl rfl 0 rfl (fun _ => rfl) fun a103 h102 => ?_
  refine wv h102 rfl rfl rfl rfl (.pointer (some ⟨lg, 0, none⟩)) (by unfold execOp; simp only [h102.ev 33 rfl]; exact rfl) fun a105 h104 => ?_
  refine wv h104 rfl rfl rfl rfl (.pointer (some ⟨lg, 1, none⟩)) (by unfold execOp; simp only [h104.ev 34 rfl]; exact run_v (fa_76_0_1 (lg) _)) fun a107 h106 => ?_
  refine wv h106 rfl rfl rfl rfl (.int .i64 (at_ : Int)) (by unfold execOp; simp only [h106.ev 35 rfl]; exact run_v (loadIP (HG3.out.l.cell (i := 1) (by show 1 < 3; omega)))) fun a109 h108 => ?_
  refine wv h108 rfl rfl rfl rfl (.int .i64 ((at_ + 8 : Nat) : Int)) (by unfold execOp; simp only [h108.ev 36 rfl]; exact run_v (addNP _ _ _ _ _ (by omega) (by omega) (by omega) _)) fun a111 h110 => ?_
  refine wmk h110 rfl rfl rfl rfl 8 rfl (fun _ => rfl) fun a113 h112 => ?_
  refine wv h112 rfl rfl rfl rfl (.int .i64 ((at_ + 8 + u : Nat) : Int)) (by unfold execOp; simp only [h112.ev 37 rfl, h112.ev 38 rfl]; exact run_v (addNP _ _ _ _ _ (by omega) (by omega) (by omega) _)) fun a115 h114 => ?_
  refine wmk h114 rfl rfl rfl rfl 5 rfl (fun _ => rfl) fun a117 h116 => ?_
  refine wpk_call h116 (wanted_none rfl) rfl (by decide) (fr rfl) (fun args => callP_57 args _) rfl #[.pointer (some ⟨lg, 0, none⟩), .int .i64 ((at_ + 8 + u : Nat) : Int), .slice ba eb.length bc] (by simp only [List.map_toArray, List.map_cons, List.map_nil, h116.ev 32 rfl, h116.ev 39 rfl, h116.ev 40 rfl]) (R := fun xv w' => LogRP w' lg g v d a at_ size (writeM M [⟨((at_ + 8 + u : Nat) : Int), eb⟩]) ∧ Turns (XM v d a) w3 w') ((logKeepR_any HG3.out (at_ + 8 + u) ba bc eb HO3.out.row (fun _ k hk => by obtain ⟨off, e⟩ := hk; have := own_ge HO3.out e; omega) (by omega)).mono fun e w' q => by obtain ⟨⟨x, q1⟩, q2⟩ := q; exact ⟨x, q1, q2⟩) fun a119 v4 w4 r4 h118 => ?_
  have HG4 := hid r4.1; have HT4 : Hid (Turns (XM v d a) w w4) := hid (HT3.out.trans r4.2); clear r4
  have h120 := h118.subs (l' := [(8, _), (6, _), (5, _), (4, _), (0, _), (1, _)]) rfl
  clear h118
  iterate 4 go_step
  have HG5 := hid (HG4.out.mono (Below.refl _ _).drew); have HT5 : Hid (Turns (XM v d a) w w4.drew) := hid HT4.out.drew
  refine wp_region_held_drew (S := fun w' => Blk w' lg 76 (logC g at_ size)) (by kernel_rfl) HG5.out.l (fun hS1 => ?_)
  refine wpk_take hS1 h120 0 rfl rfl (by decide) (fr rfl) (by kernel_rfl) (by kernel_rfl) (by kernel_rfl) (fun _ _ _ _ h => h) (.pointer (some ⟨lg, 0, none⟩)) (Or.inl ⟨Eq.refl true, fun w1 hSw => (by show (execOp _ (⟨_, .move (.tmp 0), _, _, _, _⟩ : Oper)).run _ _ = _; exact (by unfold execOp; simp only [h120.ev 0 rfl]; exact rfl))⟩) fun a122 h121 => ?_
  refine wpk_take hS1 h121 1 rfl rfl (by decide) (fr rfl) (by kernel_rfl) (by kernel_rfl) (by kernel_rfl) (fun _ _ _ _ h => h) (.pointer (some ⟨lg, 0, none⟩)) (Or.inl ⟨Eq.refl true, fun w1 hSw => (by show (execOp _ (⟨_, .move (.tmp 0), _, _, _, _⟩ : Oper)).run _ _ = _; exact (by unfold execOp; simp only [h121.ev 0 rfl]; exact rfl))⟩) fun a124 h123 => ?_
  refine wpk_take hS1 h123 2 rfl rfl (by decide) (fr rfl) (by kernel_rfl) (by kernel_rfl) (by kernel_rfl) (fun _ _ _ _ h => h) (.pointer (some ⟨lg, 0, none⟩)) (Or.inl ⟨Eq.refl true, fun w1 hSw => (by show (execOp _ (⟨_, .nilCheck (.tmp 43), _, _, _, _⟩ : Oper)).run _ _ = _; exact (by unfold execOp; simp only [h123.ev 43 rfl]; exact rfl))⟩) fun a126 h125 => ?_
  refine wpk_take hS1 h125 3 rfl rfl (by decide) (fr rfl) (by kernel_rfl) (by kernel_rfl) (by kernel_rfl) (fun _ _ _ _ h => h) (.pointer (some ⟨lg, 1, none⟩)) (Or.inl ⟨Eq.refl true, fun w1 hSw => (by show (execOp _ (⟨_, .fieldAddr 76 (.tmp 44) 1, _, _, _, _⟩ : Oper)).run _ _ = _; exact (by unfold execOp; simp only [h125.ev 44 rfl]; exact run_v (fa_76_0_1 (lg) _)))⟩) fun a128 h127 => ?_
  refine wpk_take hS1 h127 4 rfl rfl (by decide) (fr rfl) (by kernel_rfl) (by kernel_rfl) (by kernel_rfl) (fun _ _ _ _ h => h) (.int .i64 (at_ : Int)) (Or.inl ⟨Eq.refl true, fun w1 hSw => (by show (execOp _ (⟨_, .load 3 (.tmp 45), _, _, _, _⟩ : Oper)).run _ _ = _; exact (by unfold execOp; simp only [h127.ev 45 rfl]; exact run_v (loadIP (hSw.cell (i := 1) (by show 1 < 3; omega)))))⟩) fun a130 h129 => ?_
  refine wpk_take hS1 h129 5 rfl rfl (by decide) (fr rfl) (by kernel_rfl) (by kernel_rfl) (by kernel_rfl) (fun _ _ _ _ h => h) (.int .i64 (u : Int)) (Or.inl ⟨Eq.refl true, fun w1 hSw => (by show (execOp _ (⟨_, .move (.tmp 8), _, _, _, _⟩ : Oper)).run _ _ = _; exact (by unfold execOp; simp only [h129.ev 8 rfl]; exact rfl))⟩) fun a132 h131 => ?_
  refine wpk_take hS1 h131 6 rfl rfl (by decide) (fr rfl) (by kernel_rfl) (by kernel_rfl) (by kernel_rfl) (fun _ _ _ _ h => h) (.slice ba eb.length bc) (Or.inl ⟨Eq.refl true, fun w1 hSw => (by show (execOp _ (⟨_, .move (.tmp 5), _, _, _, _⟩ : Oper)).run _ _ = _; exact (by unfold execOp; simp only [h131.ev 5 rfl]; exact rfl))⟩) fun a134 h133 => ?_
  refine wpk_take hS1 h133 7 rfl rfl (by decide) (fr rfl) (by kernel_rfl) (by kernel_rfl) (by kernel_rfl) (fun _ _ _ _ h => h) (.int .i64 (eb.length : Int)) (Or.inl ⟨Eq.refl true, fun w1 hSw => (by show (execOp _ (⟨_, .call { callee := .builtin .len, args := #[(.tmp 48)], argTypes := #[24] }, _, _, _, _⟩ : Oper)).run _ _ = _; exact (run_lenBP rfl (h133.ev 48 rfl) _))⟩) fun a136 h135 => ?_
  refine wpk_take hS1 h135 8 rfl rfl (by decide) (fr rfl) (by kernel_rfl) (by kernel_rfl) (by kernel_rfl) (fun _ _ _ _ h => h) (.int .i64 ((u + eb.length : Nat) : Int)) (Or.inl ⟨Eq.refl true, fun w1 hSw => (by show (execOp _ (⟨_, .binOp .add 3 (.tmp 47) (.tmp 49) 3, _, _, _, _⟩ : Oper)).run _ _ = _; exact (by unfold execOp; simp only [h135.ev 47 rfl, h135.ev 49 rfl]; exact run_v (addNP _ _ _ _ _ (by omega) (by omega) (by omega) _)))⟩) fun a138 h137 => ?_
  refine wpk_only 9 rfl rfl (by kernel_rfl) fun K hK => op_call h137 rfl (by decide) (fr rfl) (fun args => callP_35 args _) rfl #[.slice none 0 0, .int .i64 ((u + eb.length : Nat) : Int), .int .i64 8] (by simp only [List.map_toArray, List.map_cons, List.map_nil, h137.ev 50 rfl]; rfl) (R := fun v' w' => ∃ x y, v' = .slice x (putF [] ((u + eb.length : Nat) : Int) 8).length y ∧ OwnB w' w4.drew.heap.size x y (putF [] ((u + eb.length : Nat) : Int) 8) ∧ Below w4.drew.heap.size w4.drew w') ((putRef_any none 0 [] ((u + eb.length : Nat) : Int) 8 w4.drew (Row.nil _ _) (by simp) (by omega)).mono fun e w' q => by obtain ⟨x, y, q1, q2, q3⟩ := q; exact ⟨_, q1, x, y, rfl, q2, q3⟩) fun a140 v6 w6 r6 h139 => hK _ _ (by obtain ⟨x, y, _, _, q⟩ := r6; exact HG5.out.l.mono q) fun hS2 => ?_
  clear hK K
  obtain ⟨pa, pc, rfl, o6, b6⟩ := r6
  have HG6 := hid (HG5.out.mono b6); have HT6 : Hid (Turns (XM v d a) w w6) := hid (HT5.out.trans (Turns.of_below b6)); have hlt5 := HG5.out.lt
  have h8 := putF8_len ((u + eb.length : Nat) : Int)
  refine wpk_only 10 rfl rfl (by kernel_rfl) fun K hK => op_call h139 rfl (by decide) (fr rfl) (fun args => callP_57 args _) rfl #[.pointer (some ⟨lg, 0, none⟩), .int .i64 (at_ : Int), .slice pa (putF [] ((u + eb.length : Nat) : Int) 8).length pc] (by simp only [List.map_toArray, List.map_cons, List.map_nil, h139.ev 42 rfl, h139.ev 46 rfl, h139.ev 51 rfl]) (R := fun xv w' => LogRP w' lg g v d a at_ size (setM (writeM M [⟨((at_ + 8 + u : Nat) : Int), eb⟩]) at_ ((u + eb.length : Nat) : Int)) ∧ Turns (XM v d a) w6 w') ((logKeepR_any HG6.out at_ pa pc (putF [] ((u + eb.length : Nat) : Int) 8) o6.row (fun _ k hk => by obtain ⟨off, e⟩ := hk; have := own_ge o6 e; omega) (by rw [writeM_len]; omega)).mono fun e w' q => by obtain ⟨⟨x, q1⟩, q2⟩ := q; exact ⟨x, q1, q2⟩) fun a142 v7 w7 r7 h141 => hK _ _ (r7.1.l) fun hS3 => ?_
  clear hK K
  refine wpAnyH_done (by kernel_rfl) ?_ _
  have h143 := h141.subs (l' := [(8, _), (6, _), (5, _), (4, _), (0, _), (1, _)]) rfl
  clear h141
  iterate 4 go_step
  have h144 := h143.subs (l' := [(8, _), (6, _), (5, _), (0, _), (1, _)]) rfl
  clear h143
  refine wv h144 rfl rfl rfl rfl (.int .i64 0) rfl fun a146 h145 => ?_
  iterate 4 go_step
  exact retAr h145.defs (h145.known (4, .int .i64 0) (by simp)) (by unfold appE; rw [HEE.out, if_pos he, HU.out, HEB.out, if_neg hf]) (by unfold appM; rw [HEE.out, HU.out, HEB.out, if_pos ⟨he, hf⟩]; exact r7.1) (HT6.out.trans r7.2)
end Go.Proofs.YtkhhoognemjibaaDoor
