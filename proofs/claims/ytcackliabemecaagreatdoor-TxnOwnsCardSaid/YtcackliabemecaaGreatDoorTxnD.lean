/- txn.Commit. (genTxnM.py) -/
import Derived.Test.YtcackliabemecaaGreatDoorTxnC
namespace Go.Proofs.YtcackliabemecaaGreatDoor
open Go.RowKit
set_option linter.unusedSimpArgs false
set_option linter.unusedVariables false
set_option maxRecDepth 100000

theorem logP_turns {X : Nat → Prop} {w w' : World} {lg g v d p at_ size : Nat} {M : MemM} (h : LogP w lg g v d p at_ size M) (t : Turns X w w') (hl : ¬ X lg) (hg : ¬ X g) (hv : ¬ X v) (hd : ¬ X d) (hp : ¬ X p) : LogP w' lg g v d p at_ size M := ⟨t.blk h.l hl, h.m.turns t hg hv hd hp⟩
theorem appM_err {M : MemM} {at_ size : Nat} {P : List PtM} (h : appE M at_ size P ≠ 0) : appM M at_ size P = M := by
  unfold appE at h
  unfold appM
  by_cases c1 : encE P = 0
  · rw [if_pos c1] at h
    by_cases c2 : size - 8 < (logR M.V at_ size).2 + (encL P).length
    · rw [if_neg (fun q => q.2 c2)]
    · rw [if_neg c2] at h; exact absurd rfl h
  · rw [if_neg (fun q => c1 q.1)]
theorem callT_19 (args : Array Value) (w : World) : (callFunc 33 args).run Tryz.prog w = .ok (.enter 33 args) w := by
  have h := Tryz.func33
  go_simp
theorem callT_33 (args : Array Value) (w : World) : (callFunc 32 args).run Tryz.prog w = .ok (.enter 32 args) w := by
  have h := Tryz.func32
  go_simp
theorem callT_34 (args : Array Value) (w : World) : (callFunc 12 args).run Tryz.prog w = .ok (.enter 12 args) w := by
  have h := Tryz.func12
  go_simp
theorem faT_61_0_1 (g : Nat) (w : World) : (Instr.fieldAt 69 (.pointer (some ⟨g, 0, none⟩)) 1).run Tryz.prog w = .ok (.pointer (some ⟨g, 1, none⟩)) w := rfl
set_option maxHeartbeats 4000000 in
theorem commitT_nil {w : World} {tg g lg tc : Nat} {ta : Option Addr} {P : List PtM} (hb : Blk w tg 69 (txC g lg ta P.length tc)) (h0 : P = []) : Calls Tryz.prog 13 #[.pointer (some ⟨tg, 0, none⟩)] w fun e w' => e = .returned (.int .i64 0) ∧ Blk w' tg 69 (txC g lg ta P.length tc) ∧ Turns (fun k => k = tg) w w' := by
  have HB := hid hb
  have n1 := hid (show ((P.length : Int) == (0 : Int)) = true by rw [h0]; rfl)
  clear hb
  go_enter Tryz.func13, Tryz.ntmps13
  iterate 3 go_step
  refine wpk_enter (N := 29) (l := [(0, .pointer (some ⟨tg, 0, none⟩))]) ⟨rfl, (by intro x hx; simp only [List.mem_cons, List.not_mem_nil, or_false] at hx; rcases hx with rfl <;> rfl), rfl⟩ fun a2 h1 => ?_
  refine wv h1 rfl rfl rfl rfl (.int .i64 0) rfl fun a4 h3 => ?_
  iterate 6 go_step
  refine wmk h3 rfl rfl rfl rfl 0 rfl (fun _ => rfl) fun a6 h5 => ?_
  refine wv h5 rfl rfl rfl rfl (.pointer (some ⟨tg, 0, none⟩)) (by unfold execOp; simp only [h5.ev 4 rfl]; exact rfl) fun a8 h7 => ?_
  refine wv h7 rfl rfl rfl rfl (.pointer (some ⟨tg, 2, none⟩)) (by unfold execOp; simp only [h7.ev 5 rfl]; exact run_v (faT_61_0_2 (tg) _)) fun a10 h9 => ?_
  refine wv h9 rfl rfl rfl rfl (.slice ta P.length tc) (by unfold execOp; simp only [h9.ev 6 rfl]; exact run_v (loadPtsP (HB.out.cell (i := 2) (by show 2 < 3; omega)))) fun a12 h11 => ?_
  refine wv h11 rfl rfl rfl rfl (.int .i64 (P.length : Int)) (run_lenP rfl (h11.ev 7 rfl) _) fun a14 h13 => ?_
  refine wv h13 rfl rfl rfl rfl (.bool true) (by unfold execOp; simp only [h13.ev 8 rfl]; exact run_v (eqIP _ _ _ _ _ n1.out)) fun a16 h15 => ?_
  have h17 := h15.subs (l' := [(9, _), (2, _), (0, _)]) rfl
  clear h15
  iterate 3 go_step
  refine wp_cond (t := true) (h17.ev 9 rfl) ?_
  simp only [if_true]
  have h18 := h17.subs (l' := [(2, _), (0, _)]) rfl
  clear h17
  iterate 2 go_step
  have h19 := h18.subs (l' := [(0, _)]) rfl
  clear h18
  refine wv h19 rfl rfl rfl rfl (.int .i64 0) rfl fun a21 h20 => ?_
  iterate 4 go_step
  simp only [Exit.then, Exit.inBlock]
  exact bodyPost_ret (results_tmp1 rfl (h20.known (2, .int .i64 0) (by simp))) h20.defs ⟨rfl, HB.out, Turns.refl _ _⟩
set_option maxHeartbeats 4000000 in
theorem commitT_err {w : World} {tg g lg v d p tc B : Nat} {ta : Option Addr} {M : MemM} {P : List PtM} (hl : LogP w lg g v d p 512 512 M) (hok : LogOk 512 512 M) (hb : Blk w tg 69 (txC g lg ta P.length tc)) (hr : RowPt w ta tc P) (k1 : tg ≠ lg) (k2 : tg ≠ g) (k3 : tg ≠ v) (k4 : tg ≠ d) (k5 : tg ≠ p) (hn : P.length ≤ 64) (okp : okPts P) (h0 : P ≠ []) (hE : appE M 512 512 P ≠ 0) : Calls Tryz.prog 13 #[.pointer (some ⟨tg, 0, none⟩)] w fun e w' => e = .returned (.int .i64 (appE M 512 512 P)) ∧ LogP w' lg g v d p 512 512 (appM M 512 512 P) ∧ Blk w' tg 69 (txC g lg ta P.length tc) ∧ Turns (XM v d p) w w' := by
  have n1 := hid (show ((P.length : Int) == (0 : Int)) = false by have z := List.length_pos_iff.2 h0; simpa using (show P.length ≠ 0 by omega))
  have n2 := hid (show (appE M 512 512 P != 0) = true by simpa using hE)
  have ht : ¬ XM v d p tg := by rintro (e | e | e) <;> omega
  have HB := hid hb; have HL := hid hl; have HR := hid hr
  clear hb hl hr
  go_enter Tryz.func13, Tryz.ntmps13
  iterate 3 go_step
  refine wpk_enter (N := 29) (l := [(0, .pointer (some ⟨tg, 0, none⟩))]) ⟨rfl, (by intro x hx; simp only [List.mem_cons, List.not_mem_nil, or_false] at hx; rcases hx with rfl <;> rfl), rfl⟩ fun a2 h1 => ?_
  refine wv h1 rfl rfl rfl rfl (.int .i64 0) rfl fun a4 h3 => ?_
  iterate 6 go_step
  refine wmk h3 rfl rfl rfl rfl 0 rfl (fun _ => rfl) fun a6 h5 => ?_
  refine wv h5 rfl rfl rfl rfl (.pointer (some ⟨tg, 0, none⟩)) (by unfold execOp; simp only [h5.ev 4 rfl]; exact rfl) fun a8 h7 => ?_
  refine wv h7 rfl rfl rfl rfl (.pointer (some ⟨tg, 2, none⟩)) (by unfold execOp; simp only [h7.ev 5 rfl]; exact run_v (faT_61_0_2 (tg) _)) fun a10 h9 => ?_
  refine wv h9 rfl rfl rfl rfl (.slice ta P.length tc) (by unfold execOp; simp only [h9.ev 6 rfl]; exact run_v (loadPtsP (HB.out.cell (i := 2) (by show 2 < 3; omega)))) fun a12 h11 => ?_
  refine wv h11 rfl rfl rfl rfl (.int .i64 (P.length : Int)) (run_lenP rfl (h11.ev 7 rfl) _) fun a14 h13 => ?_
  refine wv h13 rfl rfl rfl rfl (.bool false) (by unfold execOp; simp only [h13.ev 8 rfl]; exact run_v (eqIP _ _ _ _ _ n1.out)) fun a16 h15 => ?_
  have h17 := h15.subs (l' := [(9, _), (2, _), (0, _)]) rfl
  clear h15
  iterate 3 go_step
  refine wp_cond (t := false) (h17.ev 9 rfl) ?_
  simp only [Bool.false_eq_true, if_false]
  have h18 := h17.subs (l' := [(2, _), (0, _)]) rfl
  clear h17
  iterate 5 go_step
  have HBd := hid (HB.out.mono (Below.refl _ _).drew); have HLd := hid (HL.out.mono (Below.refl _ _).drew); have HRd := hid (HR.out.mono (Below.refl _ _).drew)
  refine wp_region_held_drew (S := fun w' => Blk w' tg 69 (txC g lg ta P.length tc)) (by kernel_rfl) HBd.out (fun hS1 => ?_)
  refine tkm hS1 h18 0 0 rfl rfl rfl rfl (by kernel_rfl) (fun _ _ _ _ h => h) rfl (fun _ => rfl) rfl fun a20 h19 => ?_
  refine tkn hS1 h19 1 10 rfl rfl rfl rfl (by kernel_rfl) (fun _ _ _ _ h => h) rfl rfl rfl fun a22 h21 => ?_
  refine tkf hS1 h21 2 11 rfl rfl rfl rfl (by kernel_rfl) (fun _ _ _ _ h => h) rfl rfl rfl (fun w => faT_61_0_1 _ w) fun a24 h23 => ?_
  refine tkl hS1 h23 3 12 rfl rfl rfl rfl (by kernel_rfl) (fun _ _ _ _ h => h) rfl rfl rfl (fun _ hSw => (loadLPT (hSw.cell (i := 1) (by show 1 < 3; omega)))) fun a26 h25 => ?_
  refine tkm hS1 h25 4 0 rfl rfl rfl rfl (by kernel_rfl) (fun _ _ _ _ h => h) rfl (fun _ => rfl) rfl fun a28 h27 => ?_
  refine tkn hS1 h27 5 14 rfl rfl rfl rfl (by kernel_rfl) (fun _ _ _ _ h => h) rfl rfl rfl fun a30 h29 => ?_
  refine tkf hS1 h29 6 15 rfl rfl rfl rfl (by kernel_rfl) (fun _ _ _ _ h => h) rfl rfl rfl (fun w => faT_61_0_2 _ w) fun a32 h31 => ?_
  refine tkl hS1 h31 7 16 rfl rfl rfl rfl (by kernel_rfl) (fun _ _ _ _ h => h) rfl rfl rfl (fun _ hSw => (loadPtsP (hSw.cell (i := 2) (by show 2 < 3; omega)))) fun a34 h33 => ?_
  refine wpk_only 8 rfl rfl (by kernel_rfl) fun KK hK => op_call h33 rfl (by decide) (fr rfl) (fun args => callT_33 args _) rfl #[.pointer (some ⟨lg, 0, none⟩), .slice ta P.length tc] (by simp only [List.map_toArray, List.map_cons, List.map_nil, h33.ev 13 rfl, h33.ev 17 rfl]) (R := fun v' w' => v' = .int .i64 (appE M 512 512 P) ∧ LogP w' lg g v d p 512 512 (appM M 512 512 P) ∧ Turns (XM v d p) w.drew w') (append_any HLd.out hok HRd.out okp (by omega)) fun a36 v2 w2 r2 h35 => hK _ _ (r2.2.2.blk HBd.out ht) fun hS2 => ?_
  clear hK KK
  obtain ⟨rfl, l2, t2⟩ := r2
  have HL2 := hid l2; have HB2 : Hid (Blk w2 tg 69 (txC g lg ta P.length tc)) := hid (t2.blk HBd.out ht); have HT2 : Hid (Turns (XM v d p) w w2) := hid ((Turns.refl _ w).drew.trans t2); clear l2 t2
  refine tkm hS2 h35 9 18 rfl rfl rfl rfl (by kernel_rfl) (fun _ _ _ _ h => h) rfl (fun _ => rfl) rfl fun a38 h37 => ?_
  refine wpAnyH_done (by kernel_rfl) ?_ _
  have h39 := h37.subs (l' := [(3, _), (2, _), (0, _)]) rfl
  clear h37
  iterate 4 go_step
  refine wmk h39 rfl rfl rfl rfl 3 rfl (fun _ => rfl) fun a41 h40 => ?_
  refine wv h40 rfl rfl rfl rfl (.bool true) (by unfold execOp; simp only [h40.ev 19 rfl]; exact run_v (neEP _ _ _ _ _ n2.out)) fun a43 h42 => ?_
  have h44 := h42.subs (l' := [(20, _), (3, _), (2, _), (0, _)]) rfl
  clear h42
  iterate 3 go_step
  refine wp_cond (t := true) (h44.ev 20 rfl) ?_
  simp only [if_true]
  have h45 := h44.subs (l' := [(3, _), (2, _), (0, _)]) rfl
  clear h44
  iterate 2 go_step
  refine wmk h45 rfl rfl rfl rfl 3 rfl (fun _ => rfl) fun a47 h46 => ?_
  have h48 := h46.subs (l' := [(21, _), (3, _), (0, _)]) rfl
  clear h46
  refine wmk h48 rfl rfl rfl rfl 21 rfl (fun _ => rfl) fun a50 h49 => ?_
  have h51 := h49.subs (l' := [(2, _), (3, _), (0, _)]) rfl
  clear h49
  iterate 4 go_step
  simp only [Exit.then, Exit.inBlock]
  exact bodyPost_ret (results_tmp1 rfl (h51.known (2, .int .i64 (appE M 512 512 P)) (by simp))) h51.defs ⟨rfl, HL2.out, HB2.out, HT2.out⟩
set_option maxHeartbeats 4000000 in
theorem commitT_ok {w : World} {tg g lg v d p tc B : Nat} {ta : Option Addr} {M : MemM} {P : List PtM} (hl : LogP w lg g v d p 512 512 M) (hok : LogOk 512 512 M) (hb : Blk w tg 69 (txC g lg ta P.length tc)) (hr : RowPt w ta tc P) (k1 : tg ≠ lg) (k2 : tg ≠ g) (k3 : tg ≠ v) (k4 : tg ≠ d) (k5 : tg ≠ p) (hn : P.length ≤ 64) (okp : okPts P) (h0 : P ≠ []) (hE : appE M 512 512 P = 0) : Calls Tryz.prog 13 #[.pointer (some ⟨tg, 0, none⟩)] w fun e w' => e = .returned (.int .i64 0) ∧ LogP w' lg g v d p 512 512 (redoM (appM M 512 512 P) 512 512) ∧ Blk w' tg 69 (txC g lg none 0 0) ∧ Turns (fun k => XM v d p k ∨ k = tg) w w' := by
  have n1 := hid (show ((P.length : Int) == (0 : Int)) = false by have z := List.length_pos_iff.2 h0; simpa using (show P.length ≠ 0 by omega))
  have n2 := hid (show (appE M 512 512 P != 0) = false by rw [hE]; rfl)
  have ht : ¬ XM v d p tg := by rintro (e | e | e) <;> omega
  have HB := hid hb; have HL := hid hl; have HR := hid hr
  clear hb hl hr
  go_enter Tryz.func13, Tryz.ntmps13
  iterate 3 go_step
  refine wpk_enter (N := 29) (l := [(0, .pointer (some ⟨tg, 0, none⟩))]) ⟨rfl, (by intro x hx; simp only [List.mem_cons, List.not_mem_nil, or_false] at hx; rcases hx with rfl <;> rfl), rfl⟩ fun a2 h1 => ?_
  refine wv h1 rfl rfl rfl rfl (.int .i64 0) rfl fun a4 h3 => ?_
  iterate 6 go_step
  refine wmk h3 rfl rfl rfl rfl 0 rfl (fun _ => rfl) fun a6 h5 => ?_
  refine wv h5 rfl rfl rfl rfl (.pointer (some ⟨tg, 0, none⟩)) (by unfold execOp; simp only [h5.ev 4 rfl]; exact rfl) fun a8 h7 => ?_
  refine wv h7 rfl rfl rfl rfl (.pointer (some ⟨tg, 2, none⟩)) (by unfold execOp; simp only [h7.ev 5 rfl]; exact run_v (faT_61_0_2 (tg) _)) fun a10 h9 => ?_
  refine wv h9 rfl rfl rfl rfl (.slice ta P.length tc) (by unfold execOp; simp only [h9.ev 6 rfl]; exact run_v (loadPtsP (HB.out.cell (i := 2) (by show 2 < 3; omega)))) fun a12 h11 => ?_
  refine wv h11 rfl rfl rfl rfl (.int .i64 (P.length : Int)) (run_lenP rfl (h11.ev 7 rfl) _) fun a14 h13 => ?_
  refine wv h13 rfl rfl rfl rfl (.bool false) (by unfold execOp; simp only [h13.ev 8 rfl]; exact run_v (eqIP _ _ _ _ _ n1.out)) fun a16 h15 => ?_
  have h17 := h15.subs (l' := [(9, _), (2, _), (0, _)]) rfl
  clear h15
  iterate 3 go_step
  refine wp_cond (t := false) (h17.ev 9 rfl) ?_
  simp only [Bool.false_eq_true, if_false]
  have h18 := h17.subs (l' := [(2, _), (0, _)]) rfl
  clear h17
  iterate 5 go_step
  have HBd := hid (HB.out.mono (Below.refl _ _).drew); have HLd := hid (HL.out.mono (Below.refl _ _).drew); have HRd := hid (HR.out.mono (Below.refl _ _).drew)
  refine wp_region_held_drew (S := fun w' => Blk w' tg 69 (txC g lg ta P.length tc)) (by kernel_rfl) HBd.out (fun hS1 => ?_)
  refine tkm hS1 h18 0 0 rfl rfl rfl rfl (by kernel_rfl) (fun _ _ _ _ h => h) rfl (fun _ => rfl) rfl fun a20 h19 => ?_
  refine tkn hS1 h19 1 10 rfl rfl rfl rfl (by kernel_rfl) (fun _ _ _ _ h => h) rfl rfl rfl fun a22 h21 => ?_
  refine tkf hS1 h21 2 11 rfl rfl rfl rfl (by kernel_rfl) (fun _ _ _ _ h => h) rfl rfl rfl (fun w => faT_61_0_1 _ w) fun a24 h23 => ?_
  refine tkl hS1 h23 3 12 rfl rfl rfl rfl (by kernel_rfl) (fun _ _ _ _ h => h) rfl rfl rfl (fun _ hSw => (loadLPT (hSw.cell (i := 1) (by show 1 < 3; omega)))) fun a26 h25 => ?_
  refine tkm hS1 h25 4 0 rfl rfl rfl rfl (by kernel_rfl) (fun _ _ _ _ h => h) rfl (fun _ => rfl) rfl fun a28 h27 => ?_
  refine tkn hS1 h27 5 14 rfl rfl rfl rfl (by kernel_rfl) (fun _ _ _ _ h => h) rfl rfl rfl fun a30 h29 => ?_
  refine tkf hS1 h29 6 15 rfl rfl rfl rfl (by kernel_rfl) (fun _ _ _ _ h => h) rfl rfl rfl (fun w => faT_61_0_2 _ w) fun a32 h31 => ?_
  refine tkl hS1 h31 7 16 rfl rfl rfl rfl (by kernel_rfl) (fun _ _ _ _ h => h) rfl rfl rfl (fun _ hSw => (loadPtsP (hSw.cell (i := 2) (by show 2 < 3; omega)))) fun a34 h33 => ?_
  refine wpk_only 8 rfl rfl (by kernel_rfl) fun KK hK => op_call h33 rfl (by decide) (fr rfl) (fun args => callT_33 args _) rfl #[.pointer (some ⟨lg, 0, none⟩), .slice ta P.length tc] (by simp only [List.map_toArray, List.map_cons, List.map_nil, h33.ev 13 rfl, h33.ev 17 rfl]) (R := fun v' w' => v' = .int .i64 (appE M 512 512 P) ∧ LogP w' lg g v d p 512 512 (appM M 512 512 P) ∧ Turns (XM v d p) w.drew w') (append_any HLd.out hok HRd.out okp (by omega)) fun a36 v2 w2 r2 h35 => hK _ _ (r2.2.2.blk HBd.out ht) fun hS2 => ?_
  clear hK KK
  obtain ⟨rfl, l2, t2⟩ := r2
  have HL2 := hid l2; have HB2 : Hid (Blk w2 tg 69 (txC g lg ta P.length tc)) := hid (t2.blk HBd.out ht); have HT2 : Hid (Turns (XM v d p) w w2) := hid ((Turns.refl _ w).drew.trans t2); clear l2 t2
  refine tkm hS2 h35 9 18 rfl rfl rfl rfl (by kernel_rfl) (fun _ _ _ _ h => h) rfl (fun _ => rfl) rfl fun a38 h37 => ?_
  refine wpAnyH_done (by kernel_rfl) ?_ _
  have h39 := h37.subs (l' := [(3, _), (2, _), (0, _)]) rfl
  clear h37
  iterate 4 go_step
  refine wmk h39 rfl rfl rfl rfl 3 rfl (fun _ => rfl) fun a41 h40 => ?_
  refine wv h40 rfl rfl rfl rfl (.bool false) (by unfold execOp; simp only [h40.ev 19 rfl]; exact run_v (neEP _ _ _ _ _ n2.out)) fun a43 h42 => ?_
  have h44 := h42.subs (l' := [(20, _), (3, _), (2, _), (0, _)]) rfl
  clear h42
  iterate 3 go_step
  refine wp_cond (t := false) (h44.ev 20 rfl) ?_
  simp only [Bool.false_eq_true, if_false]
  have h45 := h44.subs (l' := [(3, _), (2, _), (0, _)]) rfl
  clear h44
  iterate 5 go_step
  refine wmk h45 rfl rfl rfl rfl 0 rfl (fun _ => rfl) fun a47 h46 => ?_
  refine wv h46 rfl rfl rfl rfl (.pointer (some ⟨tg, 0, none⟩)) (by unfold execOp; simp only [h46.ev 22 rfl]; exact rfl) fun a49 h48 => ?_
  refine wv h48 rfl rfl rfl rfl (.pointer (some ⟨tg, 1, none⟩)) (by unfold execOp; simp only [h48.ev 23 rfl]; exact run_v (faT_61_0_1 (tg) _)) fun a51 h50 => ?_
  refine wv h50 rfl rfl rfl rfl (.pointer (some ⟨lg, 0, none⟩)) (by unfold execOp; simp only [h50.ev 24 rfl]; exact run_v (loadLPT (HB2.out.cell (i := 1) (by show 1 < 3; omega)))) fun a53 h52 => ?_
  refine wpk_call h52 (wanted_none rfl) rfl (by decide) (fr rfl) (fun args => callT_19 args _) rfl #[.pointer (some ⟨lg, 0, none⟩)] (by simp only [List.map_toArray, List.map_cons, List.map_nil, h52.ev 25 rfl]) (R := fun v' w' => v' = .int .i64 ((logR (appM M 512 512 P).V 512 512).1.length : Int) ∧ LogP w' lg g v d p 512 512 (redoM (appM M 512 512 P) 512 512) ∧ Turns (XM v d p) w2 w') (redo_any HL2.out (logOk_app hok P)) fun a55 v3 w3 r3 h54 => ?_
  obtain ⟨rfl, l3, t3⟩ := r3
  have HL3 := hid l3; have HB3 : Hid (Blk w3 tg 69 (txC g lg ta P.length tc)) := hid (t3.blk HB2.out ht); have HT3 := hid (HT2.out.trans t3); clear l3 t3
  have h56 := h54.subs (l' := [(3, _), (2, _), (0, _)]) rfl
  clear h54
  iterate 5 go_step
  refine wmk h56 rfl rfl rfl rfl 0 rfl (fun _ => rfl) fun a58 h57 => ?_
  have HD := hid (drop_any HB3.out)
  refine wpk_call h57 (wanted_none rfl) rfl (by decide) (fr rfl) (fun args => callT_34 args _) rfl #[.pointer (some ⟨tg, 0, none⟩)] (by simp only [List.map_toArray, List.map_cons, List.map_nil, h57.ev 27 rfl]) (R := fun v' w' => Blk w' tg 69 (txC g lg none 0 0) ∧ Turns (fun k => k = tg) w3 w') (HD.out.mono fun e w' q => by obtain ⟨⟨x, rfl⟩, q2, q3⟩ := q; exact ⟨x, rfl, q2, q3⟩) fun a60 v4 w4 r4 h59 => ?_
  have HB4 := hid r4.1; have HL4 : Hid (LogP w4 lg g v d p 512 512 (redoM (appM M 512 512 P) 512 512)) := hid (logP_turns HL3.out r4.2 (fun e => k1 e.symm) (fun e => k2 e.symm) (fun e => k3 e.symm) (fun e => k4 e.symm) (fun e => k5 e.symm)); have HT4 : Hid (Turns (fun k => XM v d p k ∨ k = tg) w w4) := hid ((HT3.out.mono (fun k e => .inl e)).trans (r4.2.mono (fun k e => .inr e))); clear r4
  have h61 := h59.subs (l' := [(3, _), (2, _), (0, _)]) rfl
  clear h59
  iterate 5 go_step
  have h62 := h61.subs (l' := [(3, _), (0, _)]) rfl
  clear h61
  refine wv h62 rfl rfl rfl rfl (.int .i64 0) rfl fun a64 h63 => ?_
  iterate 4 go_step
  exact bodyPost_ret (results_tmp1 rfl (h63.known (2, .int .i64 0) (by simp))) h63.defs ⟨rfl, HL4.out, HB4.out, HT4.out⟩
/-- what Commit says and leaves -/
theorem commitT_any {w : World} {tg g lg v d p tc B : Nat} {ta : Option Addr} {M : MemM} {P : List PtM} (hl : LogP w lg g v d p 512 512 M) (hok : LogOk 512 512 M) (hb : Blk w tg 69 (txC g lg ta P.length tc)) (hr : RowPt w ta tc P) (k1 : tg ≠ lg) (k2 : tg ≠ g) (k3 : tg ≠ v) (k4 : tg ≠ d) (k5 : tg ≠ p) (hn : P.length ≤ 64) (okp : okPts P) (ho : OwnPt w B ta tc P) (hX : tg < B ∧ v < B ∧ d < B ∧ p < B) : Calls Tryz.prog 13 #[.pointer (some ⟨tg, 0, none⟩)] w fun e w' => e = .returned (.int .i64 (comE M P)) ∧ ∃ ta2 tc2, LogP w' lg g v d p 512 512 (comM M P) ∧ Blk w' tg 69 (txC g lg ta2 (comP M P).length tc2) ∧ OwnPt w' B ta2 tc2 (comP M P) ∧ Turns (fun k => XM v d p k ∨ k = tg) w w' := by
  by_cases h0 : P = []
  · refine (commitT_nil hb h0).mono fun e w' q => ?_
    unfold comE comM comP
    rw [if_pos h0, if_pos h0, if_pos h0]
    refine ⟨q.1, ta, tc, logP_turns hl q.2.2 (fun e => k1 e.symm) (fun e => k2 e.symm) (fun e => k3 e.symm) (fun e => k4 e.symm) (fun e => k5 e.symm), ?_, ?_, q.2.2.mono (fun k e => .inr e)⟩
    · have z := q.2.1; rw [h0] at z; exact z
    · have z := q.2.2.own ho (fun k e => by have := hX.1; omega); rw [h0] at z; exact z
  by_cases hE : appE M 512 512 P = 0
  · refine (commitT_ok (B := B) hl hok hb hr k1 k2 k3 k4 k5 hn okp h0 hE).mono fun e w' q => ?_
    unfold comE comM comP
    rw [if_neg h0, if_neg h0, if_neg h0, if_pos hE, if_pos hE, hE]
    exact ⟨q.1, none, 0, q.2.1, q.2.2.1, Own.nil _ _ _ _, q.2.2.2⟩
  · refine (commitT_err (B := B) hl hok hb hr k1 k2 k3 k4 k5 hn okp h0 hE).mono fun e w' q => ?_
    unfold comE comM comP
    rw [if_neg h0, if_neg h0, if_neg h0, if_neg hE, if_neg hE]
    refine ⟨q.1, ta, tc, ?_, q.2.2.1, q.2.2.2.own ho (fun k e => by obtain ⟨_, h1, h2, h3⟩ := hX; rcases e with e | e | e <;> omega), q.2.2.2.mono (fun k e => .inl e)⟩
    have z := q.2.1
    rw [appM_err hE] at z
    exact z
end Go.Proofs.YtcackliabemecaaGreatDoor
