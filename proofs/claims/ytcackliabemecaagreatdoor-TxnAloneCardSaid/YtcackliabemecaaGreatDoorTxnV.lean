/- does, like. (genTxnV.py) -/
import Derived.Test.YtcackliabemecaaGreatDoorTxnQ
namespace Go.Proofs.YtcackliabemecaaGreatDoor
open Go.RowKit
set_option linter.unusedSimpArgs false
set_option linter.unusedVariables false
set_option maxRecDepth 100000

theorem storeX {v d p : Nat} : ∀ k, (k = v ∨ k = p) → XM v d p k := fun k hk => hk.elim .inl (fun e => .inr (.inr e))
theorem logOk_of {M : MemM} (h : M.V.length = 1024) : LogOk 512 512 M := ⟨by omega, by omega, by omega, by omega⟩
section
variable {w w1 w2 w3 : World} {B : Nat} {K : TK} {ta ra : Option Addr} {tc rc : Nat} {M N : MemM} {P R : List PtM}
theorem ppL (h : SideT w B K ta tc ra rc M P N R) : ¬ XL K ta K.pp := fun hk => by
  obtain ⟨o1, o2, o3, o4, o5, o6, o7, o8, o9, o10, o11, o12⟩ := h.k
  rcases (h.xl _ hk).2 with e | e <;> omega
theorem ppR (h : SideT w B K ta tc ra rc M P N R) : ¬ XR K ra K.pp := fun hk => by
  obtain ⟨o1, o2, o3, o4, o5, o6, o7, o8, o9, o10, o11, o12⟩ := h.k
  rcases (h.xr _ hk).2 with e | e | e <;> omega
theorem turns2 (b : Below w.heap.size w w1) (t : Turns (XL K ta) w1.drew w2) (r : Turns (XR K ra) w2 w3) : Turns (XT K ta ra) w w3 :=
  ((Turns.of_below b).drew.trans (t.mono (fun k hk => .inl hk))).trans (r.mono (fun k hk => .inr hk))
theorem turns2' (b : Below w.heap.size w w1) (t : Turns (XL K ta) w1 w2) (r : Turns (XR K ra) w2 w3) : Turns (XT K ta ra) w w3 :=
  ((Turns.of_below b).trans (t.mono (fun k hk => .inl hk))).trans (r.mono (fun k hk => .inr hk))
end
theorem load1024 {w : World} {g v d p : Nat} {M : MemM} (h : MemP w g v d p M) (hl : M.V.length = 1024) :
    Calls Tryz.prog 10 #[.pointer (some ⟨g, 0, none⟩), .int .i64 0, .int .i64 1024] w fun e w' => ∃ a c, e = .returned (.tuple #[.slice a M.V.length c, .int .i64 0]) ∧ RowB w' a c M.V ∧ Below w.heap.size w w' := by
  refine (load_any h 0 1024 (by omega) (by omega)).mono ?_
  intro e w' z
  unfold LoadP at z
  have hi : inM M 0 1024 = true := (inM_iff M 0 1024).2 (by omega)
  rw [if_pos hi] at z
  obtain ⟨a, c, rfl, o, b⟩ := z
  have hr := o.row
  rw [show ((0 : Int)).toNat = 0 from rfl, show ((1024 : Int)).toNat = 1024 from rfl, List.drop_zero, List.take_of_length_le (by omega)] at hr
  exact ⟨a, c, by rw [hl]; rfl, hr, b⟩
theorem callZ_10 (args : Array Value) (w : World) : (callFunc 10 args).run Tryz.prog w = .ok (.enter 10 args) w := by
  have h := Tryz.func10
  go_simp
theorem callZ_11 (args : Array Value) (w : World) : (callFunc 11 args).run Tryz.prog w = .ok (.enter 11 args) w := by
  have h := Tryz.func11
  go_simp
theorem callZ_12 (args : Array Value) (w : World) : (callFunc 12 args).run Tryz.prog w = .ok (.enter 12 args) w := by
  have h := Tryz.func12
  go_simp
theorem callZ_13 (args : Array Value) (w : World) : (callFunc 13 args).run Tryz.prog w = .ok (.enter 13 args) w := by
  have h := Tryz.func13
  go_simp
theorem callZ_14 (args : Array Value) (w : World) : (callFunc 14 args).run Tryz.prog w = .ok (.enter 14 args) w := by
  have h := Tryz.func14
  go_simp
theorem callZ_20 (args : Array Value) (w : World) : (callFunc 20 args).run Tryz.prog w = .ok (.enter 20 args) w := by
  have h := Tryz.func20
  go_simp
theorem callZ_21 (args : Array Value) (w : World) : (callFunc 21 args).run Tryz.prog w = .ok (.enter 21 args) w := by
  have h := Tryz.func21
  go_simp
theorem callZ_22 (args : Array Value) (w : World) : (callFunc 22 args).run Tryz.prog w = .ok (.enter 22 args) w := by
  have h := Tryz.func22
  go_simp
theorem callZ_23 (args : Array Value) (w : World) : (callFunc 23 args).run Tryz.prog w = .ok (.enter 23 args) w := by
  have h := Tryz.func23
  go_simp
theorem callZ_24 (args : Array Value) (w : World) : (callFunc 24 args).run Tryz.prog w = .ok (.enter 24 args) w := by
  have h := Tryz.func24
  go_simp
theorem callZ_25 (args : Array Value) (w : World) : (callFunc 25 args).run Tryz.prog w = .ok (.enter 25 args) w := by
  have h := Tryz.func25
  go_simp
theorem callZ_26 (args : Array Value) (w : World) : (callFunc 26 args).run Tryz.prog w = .ok (.enter 26 args) w := by
  have h := Tryz.func26
  go_simp
theorem callZ_27 (args : Array Value) (w : World) : (callFunc 27 args).run Tryz.prog w = .ok (.enter 27 args) w := by
  have h := Tryz.func27
  go_simp
theorem faZ_29_0_0 (g : Nat) (w : World) : (Instr.fieldAt 29 (.pointer (some ⟨g, 0, none⟩)) 0).run Tryz.prog w = .ok (.pointer (some ⟨g, 0, none⟩)) w := rfl
theorem faZ_29_0_1 (g : Nat) (w : World) : (Instr.fieldAt 29 (.pointer (some ⟨g, 0, none⟩)) 1).run Tryz.prog w = .ok (.pointer (some ⟨g, 1, none⟩)) w := rfl
theorem faZ_29_0_2 (g : Nat) (w : World) : (Instr.fieldAt 29 (.pointer (some ⟨g, 0, none⟩)) 2).run Tryz.prog w = .ok (.pointer (some ⟨g, 2, none⟩)) w := rfl
theorem faZ_29_0_3 (g : Nat) (w : World) : (Instr.fieldAt 29 (.pointer (some ⟨g, 0, none⟩)) 3).run Tryz.prog w = .ok (.pointer (some ⟨g, 3, none⟩)) w := rfl
theorem faZ_29_0_4 (g : Nat) (w : World) : (Instr.fieldAt 29 (.pointer (some ⟨g, 0, none⟩)) 4).run Tryz.prog w = .ok (.pointer (some ⟨g, 4, none⟩)) w := rfl
theorem faZ_40_0_0 (g : Nat) (w : World) : (Instr.fieldAt 40 (.pointer (some ⟨g, 0, none⟩)) 0).run Tryz.prog w = .ok (.pointer (some ⟨g, 0, none⟩)) w := rfl
theorem faZ_40_0_2 (g : Nat) (w : World) : (Instr.fieldAt 40 (.pointer (some ⟨g, 0, none⟩)) 2).run Tryz.prog w = .ok (.pointer (some ⟨g, 2, none⟩)) w := rfl
theorem faZ_40_0_3 (g : Nat) (w : World) : (Instr.fieldAt 40 (.pointer (some ⟨g, 0, none⟩)) 3).run Tryz.prog w = .ok (.pointer (some ⟨g, 3, none⟩)) w := rfl
theorem faZ_40_0_4 (g : Nat) (w : World) : (Instr.fieldAt 40 (.pointer (some ⟨g, 0, none⟩)) 4).run Tryz.prog w = .ok (.pointer (some ⟨g, 4, none⟩)) w := rfl
set_option maxHeartbeats 16000000 in
theorem does9_any {w0 w : World} {B : Nat} {K : TK} {ta ra : Option Addr} {tc rc : Nat} {M : MemM} {P : List PtM} (h : SideT w B K ta tc ra rc M P M P) (hb0 : Below w0.heap.size w0 w) (hA : K.ord w0.heap.size B) (hl : M.V.length = 1024) (htx : TxOk M P) (x : DeedT) (hx : DeedIn w0 x) :
    Calls Tryz.prog 7 #[.pointer (some ⟨K.pp, 0, none⟩), .agg (deedC x).toArray] w fun e w' => e = .returned (.bool true) ∧ ∃ ta2 tc2 ra2 rc2, SideT w' B K ta2 tc2 ra2 rc2 (doM x M P) (doP x M P) (doM x M P) (doP x M P) ∧ Turns (XT K ta ra) w w' ∧ Below w0.heap.size w0 w' ∧ (x.kind = 4 → ta2 = ta ∧ tc2 = tc ∧ ra2 = ra ∧ rc2 = rc) := by
  have HX := hid hx
  obtain ⟨x1, hx1⟩ : ∃ y : DeedT, y = { x with D := x.D.take 260 } := ⟨_, rfl⟩
  obtain ⟨x2, hx2⟩ : ∃ y : DeedT, y = { x1 with I := x1.I.take 200 } := ⟨_, rfl⟩
  have HX1 : Hid (DeedIn w0 x1) := hid (by rw [hx1]; exact ⟨rowB_take hx.d 260, hx.i, hx.ok, hx.a, hx.n⟩)
  have HX2 : Hid (DeedIn w0 x2) := hid (by rw [hx2]; exact ⟨HX1.out.d, rowI_take HX1.out.i 200, fun y hy => HX1.out.ok y (List.mem_of_mem_take hy), HX1.out.a, HX1.out.n⟩)
  clear hx
  go_enter Tryz.func7, Tryz.ntmps7
  iterate 3 go_step
  refine wpl_boxD9 rfl rfl x rfl ?_
  rintro gb wb ⟨hgb, kb⟩ bb
  have HDb := hid kb; have BJb := hid bb; clear kb bb
  refine wpk_enter (N := 147) (l := [(3, .pointer (some ⟨gb, 0, none⟩)), (0, .pointer (some ⟨K.pp, 0, none⟩))]) ⟨rfl, (by intro x hx; simp only [List.mem_cons, List.not_mem_nil, or_false] at hx; rcases hx with rfl | rfl <;> rfl), rfl⟩ fun a2 h1 => ?_
  refine wv h1 rfl rfl rfl rfl (.bool false) rfl fun a4 h3 => ?_
  iterate 3 go_step
  have h5 := h3.subs (l' := [(3, _), (0, _)]) rfl
  clear h3
  refine wp_join (J := fun a' w' => Kn 147 [(3, .pointer (some ⟨gb, 0, none⟩)), (0, .pointer (some ⟨K.pp, 0, none⟩))] a' ∧ Blk w' gb 29 (deedC x1) ∧ Below w.heap.size w w') ?_ ?_
  case refine_1 =>
    by_cases hlen : 260 < x.D.length
    case pos =>
      iterate 3 go_step
      refine wv h5 rfl rfl rfl rfl (.pointer (some ⟨gb, 3, none⟩)) (by unfold execOp; simp only [h5.ev 3 rfl]; exact run_v (faZ_29_0_3 (gb) _)) fun a7 h6 => ?_
      refine wv h6 rfl rfl rfl rfl (.slice x.da x.D.length x.dc) (by unfold execOp; simp only [h6.ev 10 rfl]; exact run_v (loadYP (HDb.out.cell (i := 3) (by show 3 < 5; omega)))) fun a9 h8 => ?_
      refine wv h8 rfl rfl rfl rfl (.int .i64 (x.D.length : Int)) (run_lenBP rfl (h8.ev 11 rfl) _) fun a11 h10 => ?_
      refine wv h10 rfl rfl rfl rfl (.bool true) (by unfold execOp; simp only [h10.ev 12 rfl]; exact run_v (gtIP _ _ _ _ _ (decide_eq_true (by omega)))) fun a13 h12 => ?_
      have h14 := h12.subs (l' := [(13, _), (3, _), (0, _)]) rfl
      clear h12
      iterate 3 go_step
      refine wp_cond (t := true) (h14.ev 13 rfl) ?_
      simp only [if_true]
      have h15 := h14.subs (l' := [(3, _), (0, _)]) rfl
      clear h14
      go_step
      refine wv h15 rfl rfl rfl rfl (.pointer (some ⟨gb, 3, none⟩)) (by unfold execOp; simp only [h15.ev 3 rfl]; exact run_v (faZ_29_0_3 (gb) _)) fun a17 h16 => ?_
      refine wv h16 rfl rfl rfl rfl (.slice x.da x.D.length x.dc) (by unfold execOp; simp only [h16.ev 14 rfl]; exact run_v (loadYP (HDb.out.cell (i := 3) (by show 3 < 5; omega)))) fun a19 h18 => ?_
      refine wv h18 rfl rfl rfl rfl (.slice x.da 260 x.dc) (by unfold execOp; simp only [Option.map_some, Option.map_none, h18.ev 15 rfl]; exact run_v ((sliceH (HX.out.d) 260 (by omega)).1 _)) fun a21 h20 => ?_
      refine wv h20 rfl rfl rfl rfl (.pointer (some ⟨gb, 3, none⟩)) (by unfold execOp; simp only [h20.ev 3 rfl]; exact run_v (faZ_29_0_3 (gb) _)) fun a23 h22 => ?_
      obtain ⟨ws, hws⟩ : ∃ y, y = wb.setCell ⟨gb, 3, none⟩ (.slice x.da 260 x.dc) := ⟨_, rfl⟩
      refine wpk_skipvP h22 (wanted_none rfl) rfl (w' := ws) (by rw [hws]; unfold execOp; simp only [h22.ev 17 rfl, h22.ev 16 rfl]; exact run_uP (storeYP (HDb.out.cell (i := 3) (by show 3 < 5; omega)) (HDb.out.frozen 3) _ _ _)) fun a25 h24 => ?_
      have h26 := h24.subs (l' := [(3, _), (0, _)]) rfl
      clear h24
      iterate 2 go_step
      have gs : wb.grownBy ws (some gb) := by rw [hws]; exact sg_set (sg_refl wb (some gb)) _ _
      have e : deedC x1 = (deedC x).set 3 (.slice x.da 260 x.dc) := by rw [hx1]; exact deed_cut3 x (by omega)
      exact ⟨h26.subs rfl, (by rw [e, hws]; exact HDb.out.set _ _), below_grownS BJb.out gs (by rw [hgb]; exact Nat.le_refl _) BJb.out.size⟩
    case neg =>
      iterate 3 go_step
      refine wv h5 rfl rfl rfl rfl (.pointer (some ⟨gb, 3, none⟩)) (by unfold execOp; simp only [h5.ev 3 rfl]; exact run_v (faZ_29_0_3 (gb) _)) fun a28 h27 => ?_
      refine wv h27 rfl rfl rfl rfl (.slice x.da x.D.length x.dc) (by unfold execOp; simp only [h27.ev 10 rfl]; exact run_v (loadYP (HDb.out.cell (i := 3) (by show 3 < 5; omega)))) fun a30 h29 => ?_
      refine wv h29 rfl rfl rfl rfl (.int .i64 (x.D.length : Int)) (run_lenBP rfl (h29.ev 11 rfl) _) fun a32 h31 => ?_
      refine wv h31 rfl rfl rfl rfl (.bool false) (by unfold execOp; simp only [h31.ev 12 rfl]; exact run_v (gtIP _ _ _ _ _ (decide_eq_false (by omega)))) fun a34 h33 => ?_
      have h35 := h33.subs (l' := [(13, _), (3, _), (0, _)]) rfl
      clear h33
      iterate 3 go_step
      refine wp_cond (t := false) (h35.ev 13 rfl) ?_
      simp only [Bool.false_eq_true, if_false]
      have h36 := h35.subs (l' := [(3, _), (0, _)]) rfl
      clear h35
      iterate 2 go_step
      have e : x1 = x := by rw [hx1]; exact deed_keep3 x (by omega)
      exact ⟨h36.subs rfl, (by rw [e]; exact HDb.out), BJb.out⟩
  rintro aJ1 wJ1 ⟨hJ1, kd, kb⟩
  have HDJ1 := hid kd; have BJJ1 := hid kb; clear kd kb
  refine wp_join (J := fun a' w' => Kn 147 [(3, .pointer (some ⟨gb, 0, none⟩)), (0, .pointer (some ⟨K.pp, 0, none⟩))] a' ∧ Blk w' gb 29 (deedC x2) ∧ Below w.heap.size w w') ?_ ?_
  case refine_1 =>
    by_cases hlen : 200 < x1.I.length
    case pos =>
      iterate 3 go_step
      refine wv hJ1 rfl rfl rfl rfl (.pointer (some ⟨gb, 4, none⟩)) (by unfold execOp; simp only [hJ1.ev 3 rfl]; exact run_v (faZ_29_0_4 (gb) _)) fun a38 h37 => ?_
      refine wv h37 rfl rfl rfl rfl (.slice x1.ia x1.I.length x1.ic) (by unfold execOp; simp only [h37.ev 18 rfl]; exact run_v (loadIS (HDJ1.out.cell (i := 4) (by show 4 < 5; omega)))) fun a40 h39 => ?_
      refine wv h39 rfl rfl rfl rfl (.int .i64 (x1.I.length : Int)) (run_lenIS rfl (h39.ev 19 rfl) _) fun a42 h41 => ?_
      refine wv h41 rfl rfl rfl rfl (.bool true) (by unfold execOp; simp only [h41.ev 20 rfl]; exact run_v (gtIP _ _ _ _ _ (decide_eq_true (by omega)))) fun a44 h43 => ?_
      have h45 := h43.subs (l' := [(21, _), (3, _), (0, _)]) rfl
      clear h43
      iterate 3 go_step
      refine wp_cond (t := true) (h45.ev 21 rfl) ?_
      simp only [if_true]
      have h46 := h45.subs (l' := [(3, _), (0, _)]) rfl
      clear h45
      go_step
      refine wv h46 rfl rfl rfl rfl (.pointer (some ⟨gb, 4, none⟩)) (by unfold execOp; simp only [h46.ev 3 rfl]; exact run_v (faZ_29_0_4 (gb) _)) fun a48 h47 => ?_
      refine wv h47 rfl rfl rfl rfl (.slice x1.ia x1.I.length x1.ic) (by unfold execOp; simp only [h47.ev 22 rfl]; exact run_v (loadIS (HDJ1.out.cell (i := 4) (by show 4 < 5; omega)))) fun a50 h49 => ?_
      refine wv h49 rfl rfl rfl rfl (.slice x1.ia 200 x1.ic) (by unfold execOp; simp only [Option.map_some, Option.map_none, h49.ev 23 rfl]; exact run_v (sliceHI (HX1.out.i) 200 (by omega) _)) fun a52 h51 => ?_
      refine wv h51 rfl rfl rfl rfl (.pointer (some ⟨gb, 4, none⟩)) (by unfold execOp; simp only [h51.ev 3 rfl]; exact run_v (faZ_29_0_4 (gb) _)) fun a54 h53 => ?_
      obtain ⟨ws, hws⟩ : ∃ y, y = wJ1.setCell ⟨gb, 4, none⟩ (.slice x1.ia 200 x1.ic) := ⟨_, rfl⟩
      refine wpk_skipvP h53 (wanted_none rfl) rfl (w' := ws) (by rw [hws]; unfold execOp; simp only [h53.ev 25 rfl, h53.ev 24 rfl]; exact run_uP (storeIS (HDJ1.out.cell (i := 4) (by show 4 < 5; omega)) (HDJ1.out.frozen 4) _ _ _)) fun a56 h55 => ?_
      have h57 := h55.subs (l' := [(3, _), (0, _)]) rfl
      clear h55
      iterate 2 go_step
      have gs : wJ1.grownBy ws (some gb) := by rw [hws]; exact sg_set (sg_refl wJ1 (some gb)) _ _
      have e : deedC x2 = (deedC x1).set 4 (.slice x1.ia 200 x1.ic) := by rw [hx2]; exact deed_cut4 x1 (by omega)
      exact ⟨h57.subs rfl, (by rw [e, hws]; exact HDJ1.out.set _ _), below_grownS BJJ1.out gs (by rw [hgb]; exact Nat.le_refl _) BJJ1.out.size⟩
    case neg =>
      iterate 3 go_step
      refine wv hJ1 rfl rfl rfl rfl (.pointer (some ⟨gb, 4, none⟩)) (by unfold execOp; simp only [hJ1.ev 3 rfl]; exact run_v (faZ_29_0_4 (gb) _)) fun a59 h58 => ?_
      refine wv h58 rfl rfl rfl rfl (.slice x1.ia x1.I.length x1.ic) (by unfold execOp; simp only [h58.ev 18 rfl]; exact run_v (loadIS (HDJ1.out.cell (i := 4) (by show 4 < 5; omega)))) fun a61 h60 => ?_
      refine wv h60 rfl rfl rfl rfl (.int .i64 (x1.I.length : Int)) (run_lenIS rfl (h60.ev 19 rfl) _) fun a63 h62 => ?_
      refine wv h62 rfl rfl rfl rfl (.bool false) (by unfold execOp; simp only [h62.ev 20 rfl]; exact run_v (gtIP _ _ _ _ _ (decide_eq_false (by omega)))) fun a65 h64 => ?_
      have h66 := h64.subs (l' := [(21, _), (3, _), (0, _)]) rfl
      clear h64
      iterate 3 go_step
      refine wp_cond (t := false) (h66.ev 21 rfl) ?_
      simp only [Bool.false_eq_true, if_false]
      have h67 := h66.subs (l' := [(3, _), (0, _)]) rfl
      clear h66
      iterate 2 go_step
      have e : x2 = x1 := by rw [hx2]; exact deed_keep4 x1 (by omega)
      exact ⟨h67.subs rfl, (by rw [e]; exact HDJ1.out), BJJ1.out⟩
  rintro aJ2 wJ2 ⟨hJ2, kd, kb⟩
  have HDJ2 := hid kd; have BJJ2 := hid kb; clear kd kb
  have HSJ2 := hid (h.mono BJJ2.out)
  have hkd : x2.kind = x.kind := by rw [hx2, hx1]
  have hat : x2.at_ = x.at_ := by rw [hx2, hx1]
  have hD2 : x2.D = x.D.take 260 := by rw [hx2, hx1]
  have hI2 : x2.I = x.I.take 200 := by rw [hx2, hx1]
  have hDl : x2.D.length ≤ 260 := by rw [hD2, List.length_take]; omega
  have hXT := h.lt; have hXA := h.high hA; have hlog := logOk_of hl
  go_step
  by_cases e0 : x.kind = 0
  case pos =>
    have hk0 : (x2.kind == 0) = true := by rw [hkd, e0]; rfl
    iterate 2 go_step
    refine wv hJ2 rfl rfl rfl rfl (.pointer (some ⟨gb, 0, none⟩)) (by unfold execOp; simp only [hJ2.ev 3 rfl]; exact run_v (faZ_29_0_0 (gb) _)) fun a69 h68 => ?_
    refine wv h68 rfl rfl rfl rfl (.int .i64 x2.kind) (by unfold execOp; simp only [h68.ev 26 rfl]; exact run_v (loadIP (HDJ2.out.cell (i := 0) (by show 0 < 5; omega)))) fun a71 h70 => ?_
    have h72 := h70.subs (l' := [(27, _), (3, _), (0, _)]) rfl
    clear h70
    iterate 6 go_step
    refine wv h72 rfl rfl rfl rfl (.bool true) (by unfold execOp; simp only [h72.ev 27 rfl]; exact run_v (eqIP _ _ _ _ _ hk0)) fun a74 h73 => ?_
    refine wmk h73 rfl rfl rfl rfl 29 rfl (fun _ => rfl) fun a76 h75 => ?_
    have h77 := h75.subs (l' := [(28, _), (27, _), (3, _), (0, _)]) rfl
    clear h75
    iterate 3 go_step
    refine wp_cond (t := true) (h77.ev 28 rfl) ?_
    simp only [if_true]
    have h78 := h77.subs (l' := [(27, _), (3, _), (0, _)]) rfl
    clear h77
    go_step
    have HBq := hid (kept_trans hb0 BJJ2.out)
    have HSd := hid (HSJ2.out.mono (Below.refl _ _).drew); have HDd := hid (HDJ2.out.mono (Below.refl _ _).drew)
    refine wp_region_held_drew (S := fun w' => Blk w' K.pp 40 [.pointer (some ⟨K.g, 0, none⟩), .pointer (some ⟨K.lg, 0, none⟩), .pointer (some ⟨K.tg, 0, none⟩), .pointer (some ⟨K.gr, 0, none⟩), .pointer (some ⟨K.dt, 0, none⟩)] ∧ Blk w' gb 29 (deedC x2)) (by kernel_rfl) ⟨HSd.out.t.q, HDd.out⟩ (fun hS1 => ?_)
    refine tkm hS1 h78 0 0 rfl rfl rfl rfl (by kernel_rfl) (fun _ _ _ _ h => h) rfl (fun _ => rfl) rfl fun a80 h79 => ?_
    refine tkn hS1 h79 1 30 rfl rfl rfl rfl (by kernel_rfl) (fun _ _ _ _ h => h) rfl rfl rfl fun a82 h81 => ?_
    refine tkf hS1 h81 2 31 rfl rfl rfl rfl (by kernel_rfl) (fun _ _ _ _ h => h) rfl rfl rfl (fun w => faZ_40_0_2 _ w) fun a84 h83 => ?_
    refine tkl hS1 h83 3 32 rfl rfl rfl rfl (by kernel_rfl) (fun _ _ _ _ h => h) rfl rfl rfl (fun _ hSw => (loadTP (hSw.1.cell (i := 2) (by show 2 < 5; omega)))) fun a86 h85 => ?_
    refine tkf hS1 h85 4 3 rfl rfl rfl rfl (by kernel_rfl) (fun _ _ _ _ h => h) rfl rfl rfl (fun w => faZ_29_0_1 _ w) fun a88 h87 => ?_
    refine tkl hS1 h87 5 34 rfl rfl rfl rfl (by kernel_rfl) (fun _ _ _ _ h => h) rfl rfl rfl (fun _ hSw => (loadIP (hSw.2.cell (i := 1) (by show 1 < 5; omega)))) fun a90 h89 => ?_
    refine tkf hS1 h89 6 3 rfl rfl rfl rfl (by kernel_rfl) (fun _ _ _ _ h => h) rfl rfl rfl (fun w => faZ_29_0_3 _ w) fun a92 h91 => ?_
    refine tkl hS1 h91 7 36 rfl rfl rfl rfl (by kernel_rfl) (fun _ _ _ _ h => h) rfl rfl rfl (fun _ hSw => (loadYP (hSw.2.cell (i := 3) (by show 3 < 5; omega)))) fun a94 h93 => ?_
    refine tkm hS1 h93 9 0 rfl rfl rfl rfl (by kernel_rfl) (fun _ _ _ _ h => h) rfl (fun _ => rfl) rfl fun a96 h95 => ?_
    refine tkn hS1 h95 10 39 rfl rfl rfl rfl (by kernel_rfl) (fun _ _ _ _ h => h) rfl rfl rfl fun a98 h97 => ?_
    refine tkf hS1 h97 11 40 rfl rfl rfl rfl (by kernel_rfl) (fun _ _ _ _ h => h) rfl rfl rfl (fun w => faZ_40_0_4 _ w) fun a100 h99 => ?_
    refine tkl hS1 h99 12 41 rfl rfl rfl rfl (by kernel_rfl) (fun _ _ _ _ h => h) rfl rfl rfl (fun _ hSw => (loadTx9 (hSw.1.cell (i := 4) (by show 4 < 5; omega)))) fun a102 h101 => ?_
    refine tkf hS1 h101 13 3 rfl rfl rfl rfl (by kernel_rfl) (fun _ _ _ _ h => h) rfl rfl rfl (fun w => faZ_29_0_1 _ w) fun a104 h103 => ?_
    refine tkl hS1 h103 14 43 rfl rfl rfl rfl (by kernel_rfl) (fun _ _ _ _ h => h) rfl rfl rfl (fun _ hSw => (loadIP (hSw.2.cell (i := 1) (by show 1 < 5; omega)))) fun a106 h105 => ?_
    refine tkf hS1 h105 15 3 rfl rfl rfl rfl (by kernel_rfl) (fun _ _ _ _ h => h) rfl rfl rfl (fun w => faZ_29_0_3 _ w) fun a108 h107 => ?_
    refine tkl hS1 h107 16 45 rfl rfl rfl rfl (by kernel_rfl) (fun _ _ _ _ h => h) rfl rfl rfl (fun _ hSw => (loadYP (hSw.2.cell (i := 3) (by show 3 < 5; omega)))) fun a110 h109 => ?_
    refine wpk_only 8 rfl rfl (by kernel_rfl) fun KK hK => op_call h109 rfl (by decide) (fr rfl) (fun args => callZ_20 args _) rfl #[.pointer (some ⟨K.tg, 0, none⟩), .int .i64 x2.at_, .slice x2.da x2.D.length x2.dc] (by simp only [List.map_toArray, List.map_cons, List.map_nil, h109.ev 33 rfl, h109.ev 35 rfl, h109.ev 37 rfl]) (R := fun v' w' => v' = .int .i64 (errT M P x2.at_ x2.D.length) ∧ (∃ ta2 tc2, SideT w' B K ta2 tc2 ra rc M (putT M P x2.at_ x2.D) M P) ∧ Turns (XL K ta) wJ2.drew w') ((HSd.out.storeL (by omega) htx.n (HX2.out.d.below HBq.out.drew) (by omega) HX2.out.a).mono fun e w' q => by obtain ⟨q1, x1, y1, q2, q3⟩ := q; exact ⟨_, q1, rfl, ⟨x1, y1, q2⟩, q3⟩) fun a112 vl wl rl h111 => hK _ _ (by obtain ⟨p1, ⟨x1, y1, p2⟩, p3⟩ := rl; exact ⟨p3.blk hS1.1 (ppL HSd.out), p3.blk hS1.2 (fun e => by have := hXT _ (.inl e); omega)⟩) fun hS2 => ?_
    clear hK KK
    obtain ⟨rfl, ⟨ta2, tc2, sl⟩, tl⟩ := rl; have HSl := hid sl; have Tl := hid tl; clear sl tl; have HBl := hid (HBq.out.drew.trans (Tl.out.below HBq.out.size (fun k hk => hXA k (.inl hk))))
    refine wpk_only 17 rfl rfl (by kernel_rfl) fun KK hK => op_call h111 rfl (by decide) (fr rfl) (fun args => callZ_21 args _) rfl #[.pointer (some ⟨K.dt, 0, none⟩), .int .i64 x2.at_, .slice x2.da x2.D.length x2.dc] (by simp only [List.map_toArray, List.map_cons, List.map_nil, h111.ev 42 rfl, h111.ev 44 rfl, h111.ev 46 rfl]) (R := fun v' w' => v' = .int .i64 (errT M P x2.at_ x2.D.length) ∧ (∃ ra2 rc2, SideT w' B K ta2 tc2 ra2 rc2 M (putT M P x2.at_ x2.D) M (putT M P x2.at_ x2.D)) ∧ Turns (XR K ra) wl w') ((HSl.out.storeR (by omega) htx.n (HX2.out.d.below HBl.out) (by omega) HX2.out.a).mono fun e w' q => by obtain ⟨q1, x1, y1, q2, q3⟩ := q; exact ⟨_, q1, rfl, ⟨x1, y1, q2⟩, q3⟩) fun a114 vr_ wr_ rr_ h113 => hK _ _ (by obtain ⟨p1, ⟨x1, y1, p2⟩, p3⟩ := rr_; exact ⟨p3.blk hS2.1 (ppR HSl.out), p3.blk hS2.2 (fun e => by have := hXT _ (.inr e); omega)⟩) fun hS3 => ?_
    clear hK KK
    obtain ⟨rfl, ⟨ra2, rc2, sr⟩, tr⟩ := rr_; have HSr := hid sr; have Tr := hid tr; clear sr tr
    refine wpk_take hS3 h113 18 rfl rfl (by decide) (fr rfl) (by kernel_rfl) (by kernel_rfl) (by kernel_rfl) (fun _ _ _ _ h => h) (.bool true) (Or.inl ⟨Eq.refl true, fun w1 hSw => (by show (execOp _ (⟨_, .binOp .eql 32 (.tmp 38) (.tmp 47) 32, _, _, _, _⟩ : Oper)).run _ _ = _; exact (by unfold execOp; simp only [h113.ev 38 rfl, h113.ev 47 rfl]; exact run_v (eqEP _ _ _ _ _ (by simp))))⟩) fun a116 h115 => ?_
    refine tkm hS3 h115 19 48 rfl rfl rfl rfl (by kernel_rfl) (fun _ _ _ _ h => h) rfl (fun _ => rfl) rfl fun a118 h117 => ?_
    refine wpAnyH_done (by kernel_rfl) ?_ _
    have h119 := h117.subs (l' := [(4, _), (27, _), (3, _), (0, _)]) rfl
    clear h117
    iterate 3 go_step
    simp only [Exit.then, Exit.inBlock]
    have hDM : doM x M P = M := by unfold doM; rw [if_neg (by omega), if_neg (by omega), if_neg (by omega)]
    have hDP : doP x M P = putT M P x2.at_ x2.D := by unfold doP; rw [if_pos (by omega), hat, hD2]
    have hTT : Turns (XT K ta ra) w wr_ := turns2 BJJ2.out Tl.out Tr.out
    exact bodyPost_ret (results_tmp1 rfl (h119.known (4, .bool true) (by simp))) h119.defs ⟨rfl, ta2, tc2, ra2, rc2, (by rw [hDM, hDP]; exact HSr.out), hTT, hb0.trans (hTT.below hb0.size hXA), fun q => absurd q (by omega)⟩
  by_cases e1 : x.kind = 1
  case pos =>
    have hk0 : (x2.kind == 0) = false := by rw [hkd, e1]; rfl
    have hk1 : (x2.kind == 1) = true := by rw [hkd, e1]; rfl
    iterate 2 go_step
    refine wv hJ2 rfl rfl rfl rfl (.pointer (some ⟨gb, 0, none⟩)) (by unfold execOp; simp only [hJ2.ev 3 rfl]; exact run_v (faZ_29_0_0 (gb) _)) fun a121 h120 => ?_
    refine wv h120 rfl rfl rfl rfl (.int .i64 x2.kind) (by unfold execOp; simp only [h120.ev 26 rfl]; exact run_v (loadIP (HDJ2.out.cell (i := 0) (by show 0 < 5; omega)))) fun a123 h122 => ?_
    have h124 := h122.subs (l' := [(27, _), (3, _), (0, _)]) rfl
    clear h122
    iterate 6 go_step
    refine wv h124 rfl rfl rfl rfl (.bool false) (by unfold execOp; simp only [h124.ev 27 rfl]; exact run_v (eqIP _ _ _ _ _ hk0)) fun a126 h125 => ?_
    refine wmk h125 rfl rfl rfl rfl 29 rfl (fun _ => rfl) fun a128 h127 => ?_
    have h129 := h127.subs (l' := [(28, _), (27, _), (3, _), (0, _)]) rfl
    clear h127
    iterate 3 go_step
    refine wp_cond (t := false) (h129.ev 28 rfl) ?_
    simp only [Bool.false_eq_true, if_false]
    have h130 := h129.subs (l' := [(27, _), (3, _), (0, _)]) rfl
    clear h129
    iterate 2 go_step
    refine wv h130 rfl rfl rfl rfl (.bool true) (by unfold execOp; simp only [h130.ev 27 rfl]; exact run_v (eqIP _ _ _ _ _ hk1)) fun a132 h131 => ?_
    refine wmk h131 rfl rfl rfl rfl 50 rfl (fun _ => rfl) fun a134 h133 => ?_
    have h135 := h133.subs (l' := [(49, _), (27, _), (3, _), (0, _)]) rfl
    clear h133
    iterate 3 go_step
    refine wp_cond (t := true) (h135.ev 49 rfl) ?_
    simp only [if_true]
    have h136 := h135.subs (l' := [(27, _), (3, _), (0, _)]) rfl
    clear h135
    go_step
    have HBq := hid (kept_trans hb0 BJJ2.out)
    have HSd := hid (HSJ2.out.mono (Below.refl _ _).drew); have HDd := hid (HDJ2.out.mono (Below.refl _ _).drew)
    refine wp_region_held_drew (S := fun w' => Blk w' K.pp 40 [.pointer (some ⟨K.g, 0, none⟩), .pointer (some ⟨K.lg, 0, none⟩), .pointer (some ⟨K.tg, 0, none⟩), .pointer (some ⟨K.gr, 0, none⟩), .pointer (some ⟨K.dt, 0, none⟩)] ∧ Blk w' gb 29 (deedC x2)) (by kernel_rfl) ⟨HSd.out.t.q, HDd.out⟩ (fun hS1 => ?_)
    refine tkm hS1 h136 0 0 rfl rfl rfl rfl (by kernel_rfl) (fun _ _ _ _ h => h) rfl (fun _ => rfl) rfl fun a138 h137 => ?_
    refine tkn hS1 h137 1 51 rfl rfl rfl rfl (by kernel_rfl) (fun _ _ _ _ h => h) rfl rfl rfl fun a140 h139 => ?_
    refine tkf hS1 h139 2 52 rfl rfl rfl rfl (by kernel_rfl) (fun _ _ _ _ h => h) rfl rfl rfl (fun w => faZ_40_0_2 _ w) fun a142 h141 => ?_
    refine tkl hS1 h141 3 53 rfl rfl rfl rfl (by kernel_rfl) (fun _ _ _ _ h => h) rfl rfl rfl (fun _ hSw => (loadTP (hSw.1.cell (i := 2) (by show 2 < 5; omega)))) fun a144 h143 => ?_
    refine tkm hS1 h143 5 0 rfl rfl rfl rfl (by kernel_rfl) (fun _ _ _ _ h => h) rfl (fun _ => rfl) rfl fun a146 h145 => ?_
    refine tkn hS1 h145 6 56 rfl rfl rfl rfl (by kernel_rfl) (fun _ _ _ _ h => h) rfl rfl rfl fun a148 h147 => ?_
    refine tkf hS1 h147 7 57 rfl rfl rfl rfl (by kernel_rfl) (fun _ _ _ _ h => h) rfl rfl rfl (fun w => faZ_40_0_4 _ w) fun a150 h149 => ?_
    refine tkl hS1 h149 8 58 rfl rfl rfl rfl (by kernel_rfl) (fun _ _ _ _ h => h) rfl rfl rfl (fun _ hSw => (loadTx9 (hSw.1.cell (i := 4) (by show 4 < 5; omega)))) fun a152 h151 => ?_
    refine wpk_only 4 rfl rfl (by kernel_rfl) fun KK hK => op_call h151 rfl (by decide) (fr rfl) (fun args => callZ_13 args _) rfl #[.pointer (some ⟨K.tg, 0, none⟩)] (by simp only [List.map_toArray, List.map_cons, List.map_nil, h151.ev 54 rfl]) (R := fun v' w' => v' = .int .i64 (comE M P) ∧ (∃ ta2 tc2, SideT w' B K ta2 tc2 ra rc (comM M P) (comP M P) M P) ∧ Turns (XL K ta) wJ2.drew w') ((HSd.out.commitL hlog htx).mono fun e w' q => by obtain ⟨q1, x1, y1, q2, q3⟩ := q; exact ⟨_, q1, rfl, ⟨x1, y1, q2⟩, q3⟩) fun a154 vl wl rl h153 => hK _ _ (by obtain ⟨p1, ⟨x1, y1, p2⟩, p3⟩ := rl; exact ⟨p3.blk hS1.1 (ppL HSd.out), p3.blk hS1.2 (fun e => by have := hXT _ (.inl e); omega)⟩) fun hS2 => ?_
    clear hK KK
    obtain ⟨rfl, ⟨ta2, tc2, sl⟩, tl⟩ := rl; have HSl := hid sl; have Tl := hid tl; clear sl tl; have HBl := hid (HBq.out.drew.trans (Tl.out.below HBq.out.size (fun k hk => hXA k (.inl hk))))
    refine wpk_only 9 rfl rfl (by kernel_rfl) fun KK hK => op_call h153 rfl (by decide) (fr rfl) (fun args => callZ_22 args _) rfl #[.pointer (some ⟨K.dt, 0, none⟩)] (by simp only [List.map_toArray, List.map_cons, List.map_nil, h153.ev 59 rfl]) (R := fun v' w' => v' = .int .i64 (comE M P) ∧ (∃ ra2 rc2, SideT w' B K ta2 tc2 ra2 rc2 (comM M P) (comP M P) (comM M P) (comP M P)) ∧ Turns (XR K ra) wl w') ((HSl.out.commitR hlog htx).mono fun e w' q => by obtain ⟨q1, x1, y1, q2, q3⟩ := q; exact ⟨_, q1, rfl, ⟨x1, y1, q2⟩, q3⟩) fun a156 vr_ wr_ rr_ h155 => hK _ _ (by obtain ⟨p1, ⟨x1, y1, p2⟩, p3⟩ := rr_; exact ⟨p3.blk hS2.1 (ppR HSl.out), p3.blk hS2.2 (fun e => by have := hXT _ (.inr e); omega)⟩) fun hS3 => ?_
    clear hK KK
    obtain ⟨rfl, ⟨ra2, rc2, sr⟩, tr⟩ := rr_; have HSr := hid sr; have Tr := hid tr; clear sr tr
    refine wpk_take hS3 h155 10 rfl rfl (by decide) (fr rfl) (by kernel_rfl) (by kernel_rfl) (by kernel_rfl) (fun _ _ _ _ h => h) (.bool true) (Or.inl ⟨Eq.refl true, fun w1 hSw => (by show (execOp _ (⟨_, .binOp .eql 32 (.tmp 55) (.tmp 60) 32, _, _, _, _⟩ : Oper)).run _ _ = _; exact (by unfold execOp; simp only [h155.ev 55 rfl, h155.ev 60 rfl]; exact run_v (eqEP _ _ _ _ _ (by simp))))⟩) fun a158 h157 => ?_
    refine tkm hS3 h157 11 61 rfl rfl rfl rfl (by kernel_rfl) (fun _ _ _ _ h => h) rfl (fun _ => rfl) rfl fun a160 h159 => ?_
    refine wpAnyH_done (by kernel_rfl) ?_ _
    have h161 := h159.subs (l' := [(4, _), (27, _), (3, _), (0, _)]) rfl
    clear h159
    iterate 3 go_step
    simp only [Exit.then, Exit.inBlock]
    have hDM : doM x M P = comM M P := by unfold doM; rw [if_pos (by omega)]
    have hDP : doP x M P = comP M P := by unfold doP; rw [if_neg (by omega), if_pos (by omega)]
    have hTT : Turns (XT K ta ra) w wr_ := turns2 BJJ2.out Tl.out Tr.out
    exact bodyPost_ret (results_tmp1 rfl (h161.known (4, .bool true) (by simp))) h161.defs ⟨rfl, ta2, tc2, ra2, rc2, (by rw [hDM, hDP]; exact HSr.out), hTT, hb0.trans (hTT.below hb0.size hXA), fun q => absurd q (by omega)⟩
  by_cases e2 : x.kind = 2
  case pos =>
    have hk0 : (x2.kind == 0) = false := by rw [hkd, e2]; rfl
    have hk1 : (x2.kind == 1) = false := by rw [hkd, e2]; rfl
    have hk2 : (x2.kind == 2) = true := by rw [hkd, e2]; rfl
    iterate 2 go_step
    refine wv hJ2 rfl rfl rfl rfl (.pointer (some ⟨gb, 0, none⟩)) (by unfold execOp; simp only [hJ2.ev 3 rfl]; exact run_v (faZ_29_0_0 (gb) _)) fun a163 h162 => ?_
    refine wv h162 rfl rfl rfl rfl (.int .i64 x2.kind) (by unfold execOp; simp only [h162.ev 26 rfl]; exact run_v (loadIP (HDJ2.out.cell (i := 0) (by show 0 < 5; omega)))) fun a165 h164 => ?_
    have h166 := h164.subs (l' := [(27, _), (3, _), (0, _)]) rfl
    clear h164
    iterate 6 go_step
    refine wv h166 rfl rfl rfl rfl (.bool false) (by unfold execOp; simp only [h166.ev 27 rfl]; exact run_v (eqIP _ _ _ _ _ hk0)) fun a168 h167 => ?_
    refine wmk h167 rfl rfl rfl rfl 29 rfl (fun _ => rfl) fun a170 h169 => ?_
    have h171 := h169.subs (l' := [(28, _), (27, _), (3, _), (0, _)]) rfl
    clear h169
    iterate 3 go_step
    refine wp_cond (t := false) (h171.ev 28 rfl) ?_
    simp only [Bool.false_eq_true, if_false]
    have h172 := h171.subs (l' := [(27, _), (3, _), (0, _)]) rfl
    clear h171
    iterate 2 go_step
    refine wv h172 rfl rfl rfl rfl (.bool false) (by unfold execOp; simp only [h172.ev 27 rfl]; exact run_v (eqIP _ _ _ _ _ hk1)) fun a174 h173 => ?_
    refine wmk h173 rfl rfl rfl rfl 50 rfl (fun _ => rfl) fun a176 h175 => ?_
    have h177 := h175.subs (l' := [(49, _), (27, _), (3, _), (0, _)]) rfl
    clear h175
    iterate 3 go_step
    refine wp_cond (t := false) (h177.ev 49 rfl) ?_
    simp only [Bool.false_eq_true, if_false]
    have h178 := h177.subs (l' := [(27, _), (3, _), (0, _)]) rfl
    clear h177
    iterate 2 go_step
    refine wv h178 rfl rfl rfl rfl (.bool true) (by unfold execOp; simp only [h178.ev 27 rfl]; exact run_v (eqIP _ _ _ _ _ hk2)) fun a180 h179 => ?_
    refine wmk h179 rfl rfl rfl rfl 63 rfl (fun _ => rfl) fun a182 h181 => ?_
    have h183 := h181.subs (l' := [(62, _), (27, _), (3, _), (0, _)]) rfl
    clear h181
    iterate 3 go_step
    refine wp_cond (t := true) (h183.ev 62 rfl) ?_
    simp only [if_true]
    have h184 := h183.subs (l' := [(27, _), (3, _), (0, _)]) rfl
    clear h183
    iterate 2 go_step
    refine wmk h184 rfl rfl rfl rfl 0 rfl (fun _ => rfl) fun a186 h185 => ?_
    refine wv h185 rfl rfl rfl rfl (.pointer (some ⟨K.pp, 0, none⟩)) (by unfold execOp; simp only [h185.ev 64 rfl]; exact rfl) fun a188 h187 => ?_
    refine wv h187 rfl rfl rfl rfl (.pointer (some ⟨K.pp, 2, none⟩)) (by unfold execOp; simp only [h187.ev 65 rfl]; exact run_v (faZ_40_0_2 (K.pp) _)) fun a190 h189 => ?_
    refine wv h189 rfl rfl rfl rfl (.pointer (some ⟨K.tg, 0, none⟩)) (by unfold execOp; simp only [h189.ev 66 rfl]; exact run_v (loadTP (HSJ2.out.t.q.cell (i := 2) (by show 2 < 5; omega)))) fun a192 h191 => ?_
    refine wpk_call h191 (wanted_none rfl) rfl (by decide) (fr rfl) (fun args => callZ_12 args _) rfl #[.pointer (some ⟨K.tg, 0, none⟩)] (by simp only [List.map_toArray, List.map_cons, List.map_nil, h191.ev 67 rfl]) (R := fun v' w' => SideT w' B K none 0 ra rc M [] M P ∧ Turns (XL K ta) wJ2 w') (HSJ2.out.dropL) fun a194 vl wl rl h193 => ?_
    have HSl := hid rl.1; have Tl := hid rl.2; clear rl
    have h195 := h193.subs (l' := [(27, _), (3, _), (0, _)]) rfl
    clear h193
    iterate 4 go_step
    refine wmk h195 rfl rfl rfl rfl 0 rfl (fun _ => rfl) fun a197 h196 => ?_
    refine wv h196 rfl rfl rfl rfl (.pointer (some ⟨K.pp, 0, none⟩)) (by unfold execOp; simp only [h196.ev 69 rfl]; exact rfl) fun a199 h198 => ?_
    refine wv h198 rfl rfl rfl rfl (.pointer (some ⟨K.pp, 4, none⟩)) (by unfold execOp; simp only [h198.ev 70 rfl]; exact run_v (faZ_40_0_4 (K.pp) _)) fun a201 h200 => ?_
    refine wv h200 rfl rfl rfl rfl (.pointer (some ⟨K.dt, 0, none⟩)) (by unfold execOp; simp only [h200.ev 71 rfl]; exact run_v (loadTx9 (HSl.out.t.q.cell (i := 4) (by show 4 < 5; omega)))) fun a203 h202 => ?_
    refine wv h202 rfl rfl rfl rfl (.pointer (some ⟨K.dt, 0, none⟩)) (by unfold execOp; simp only [h202.ev 72 rfl]; exact rfl) fun a205 h204 => ?_
    refine wv h204 rfl rfl rfl rfl (.pointer (some ⟨K.dt, 2, none⟩)) (by unfold execOp; simp only [h204.ev 73 rfl]; exact run_v (faZ_56_0_2 (K.dt) _)) fun a207 h206 => ?_
    obtain ⟨wd, hwd⟩ : ∃ y, y = wl.setCell ⟨K.dt, 2, none⟩ (.slice none 0 0) := ⟨_, rfl⟩
    refine wpk_skipvP h206 (wanted_none rfl) rfl (w' := wd) (by rw [hwd]; unfold execOp; simp only [h206.ev 74 rfl]; exact run_uP (storeTP (HSl.out.d.cell (i := 2) (by show 2 < 3; omega)) (HSl.out.d.frozen 2) _ _ _)) fun a209 h208 => ?_
    obtain ⟨sd, td⟩ := HSl.out.dropR hwd; have HSr := hid sd; have Tr := hid td; clear sd td hwd
    have h210 := h208.subs (l' := [(27, _), (3, _), (0, _)]) rfl
    clear h208
    iterate 5 go_step
    refine wv h210 rfl rfl rfl rfl (.bool true) rfl fun a212 h211 => ?_
    iterate 4 go_step
    have hDM : doM x M P = M := by unfold doM; rw [if_neg (by omega), if_neg (by omega), if_neg (by omega)]
    have hDP : doP x M P = [] := by unfold doP; rw [if_neg (by omega), if_neg (by omega), if_pos (by omega)]
    have hTT : Turns (XT K ta ra) w wd := turns2' BJJ2.out Tl.out Tr.out
    exact bodyPost_ret (results_tmp1 rfl (h211.known (4, .bool true) (by simp))) h211.defs ⟨rfl, none, 0, none, 0, (by rw [hDM, hDP]; exact HSr.out), hTT, hb0.trans (hTT.below hb0.size hXA), fun q => absurd q (by omega)⟩
  by_cases e3 : x.kind = 3
  case pos =>
    have hk0 : (x2.kind == 0) = false := by rw [hkd, e3]; rfl
    have hk1 : (x2.kind == 1) = false := by rw [hkd, e3]; rfl
    have hk2 : (x2.kind == 2) = false := by rw [hkd, e3]; rfl
    have hk3 : (x2.kind == 3) = true := by rw [hkd, e3]; rfl
    iterate 2 go_step
    refine wv hJ2 rfl rfl rfl rfl (.pointer (some ⟨gb, 0, none⟩)) (by unfold execOp; simp only [hJ2.ev 3 rfl]; exact run_v (faZ_29_0_0 (gb) _)) fun a214 h213 => ?_
    refine wv h213 rfl rfl rfl rfl (.int .i64 x2.kind) (by unfold execOp; simp only [h213.ev 26 rfl]; exact run_v (loadIP (HDJ2.out.cell (i := 0) (by show 0 < 5; omega)))) fun a216 h215 => ?_
    have h217 := h215.subs (l' := [(27, _), (3, _), (0, _)]) rfl
    clear h215
    iterate 6 go_step
    refine wv h217 rfl rfl rfl rfl (.bool false) (by unfold execOp; simp only [h217.ev 27 rfl]; exact run_v (eqIP _ _ _ _ _ hk0)) fun a219 h218 => ?_
    refine wmk h218 rfl rfl rfl rfl 29 rfl (fun _ => rfl) fun a221 h220 => ?_
    have h222 := h220.subs (l' := [(28, _), (27, _), (3, _), (0, _)]) rfl
    clear h220
    iterate 3 go_step
    refine wp_cond (t := false) (h222.ev 28 rfl) ?_
    simp only [Bool.false_eq_true, if_false]
    have h223 := h222.subs (l' := [(27, _), (3, _), (0, _)]) rfl
    clear h222
    iterate 2 go_step
    refine wv h223 rfl rfl rfl rfl (.bool false) (by unfold execOp; simp only [h223.ev 27 rfl]; exact run_v (eqIP _ _ _ _ _ hk1)) fun a225 h224 => ?_
    refine wmk h224 rfl rfl rfl rfl 50 rfl (fun _ => rfl) fun a227 h226 => ?_
    have h228 := h226.subs (l' := [(49, _), (27, _), (3, _), (0, _)]) rfl
    clear h226
    iterate 3 go_step
    refine wp_cond (t := false) (h228.ev 49 rfl) ?_
    simp only [Bool.false_eq_true, if_false]
    have h229 := h228.subs (l' := [(27, _), (3, _), (0, _)]) rfl
    clear h228
    iterate 2 go_step
    refine wv h229 rfl rfl rfl rfl (.bool false) (by unfold execOp; simp only [h229.ev 27 rfl]; exact run_v (eqIP _ _ _ _ _ hk2)) fun a231 h230 => ?_
    refine wmk h230 rfl rfl rfl rfl 63 rfl (fun _ => rfl) fun a233 h232 => ?_
    have h234 := h232.subs (l' := [(62, _), (27, _), (3, _), (0, _)]) rfl
    clear h232
    iterate 3 go_step
    refine wp_cond (t := false) (h234.ev 62 rfl) ?_
    simp only [Bool.false_eq_true, if_false]
    have h235 := h234.subs (l' := [(27, _), (3, _), (0, _)]) rfl
    clear h234
    iterate 2 go_step
    refine wv h235 rfl rfl rfl rfl (.bool true) (by unfold execOp; simp only [h235.ev 27 rfl]; exact run_v (eqIP _ _ _ _ _ hk3)) fun a237 h236 => ?_
    refine wmk h236 rfl rfl rfl rfl 76 rfl (fun _ => rfl) fun a239 h238 => ?_
    have h240 := h238.subs (l' := [(75, _), (27, _), (3, _), (0, _)]) rfl
    clear h238
    iterate 3 go_step
    refine wp_cond (t := true) (h240.ev 75 rfl) ?_
    simp only [if_true]
    have h241 := h240.subs (l' := [(27, _), (3, _), (0, _)]) rfl
    clear h240
    go_step
    have HBq := hid (kept_trans hb0 BJJ2.out)
    have HSd := hid (HSJ2.out.mono (Below.refl _ _).drew); have HDd := hid (HDJ2.out.mono (Below.refl _ _).drew)
    refine wp_region_held_drew (S := fun w' => Blk w' K.pp 40 [.pointer (some ⟨K.g, 0, none⟩), .pointer (some ⟨K.lg, 0, none⟩), .pointer (some ⟨K.tg, 0, none⟩), .pointer (some ⟨K.gr, 0, none⟩), .pointer (some ⟨K.dt, 0, none⟩)] ∧ Blk w' gb 29 (deedC x2)) (by kernel_rfl) ⟨HSd.out.t.q, HDd.out⟩ (fun hS1 => ?_)
    refine tkm hS1 h241 0 0 rfl rfl rfl rfl (by kernel_rfl) (fun _ _ _ _ h => h) rfl (fun _ => rfl) rfl fun a243 h242 => ?_
    refine tkn hS1 h242 1 77 rfl rfl rfl rfl (by kernel_rfl) (fun _ _ _ _ h => h) rfl rfl rfl fun a245 h244 => ?_
    refine tkf hS1 h244 2 78 rfl rfl rfl rfl (by kernel_rfl) (fun _ _ _ _ h => h) rfl rfl rfl (fun w => faZ_40_0_0 _ w) fun a247 h246 => ?_
    refine tkl hS1 h246 3 79 rfl rfl rfl rfl (by kernel_rfl) (fun _ _ _ _ h => h) rfl rfl rfl (fun _ hSw => (loadMP (hSw.1.cell (i := 0) (by show 0 < 5; omega)))) fun a249 h248 => ?_
    refine tkf hS1 h248 4 3 rfl rfl rfl rfl (by kernel_rfl) (fun _ _ _ _ h => h) rfl rfl rfl (fun w => faZ_29_0_4 _ w) fun a251 h250 => ?_
    refine tkl hS1 h250 5 81 rfl rfl rfl rfl (by kernel_rfl) (fun _ _ _ _ h => h) rfl rfl rfl (fun _ hSw => (loadIS (hSw.2.cell (i := 4) (by show 4 < 5; omega)))) fun a253 h252 => ?_
    refine wpk_only 6 rfl rfl (by kernel_rfl) fun KK hK => op_call h252 rfl (by decide) (fr rfl) (fun args => callZ_23 args _) rfl #[.pointer (some ⟨K.g, 0, none⟩), .slice x2.ia x2.I.length x2.ic] (by simp only [List.map_toArray, List.map_cons, List.map_nil, h252.ev 80 rfl, h252.ev 82 rfl]) (R := fun v' w' => SideT w' B K ta tc ra rc (crashM M x2.I) P M P ∧ Turns (XL K ta) wJ2.drew w') ((crash_any HSd.out.t.l.m x2.I x2.ia x2.ic (HX2.out.i.below HBq.out.drew) HX2.out.ok (fun hn k hk => by obtain ⟨off, e⟩ := hk; have z := rowLt HX2.out.i hn e; have y1 := hXA K.d (.inl (.inl (.inr (.inl rfl)))); omega)).mono fun e w' q => by obtain ⟨⟨y, q1⟩, q2, q3⟩ := q; exact ⟨y, q1, HSd.out.lm (HSd.out.t.l.next q2 q3 (fun k hk => hk)) q3, q3.mono (fun k hk => .inl hk)⟩) fun a255 vl wl rl h254 => hK _ _ (⟨rl.2.blk hS1.1 (ppL HSd.out), rl.2.blk hS1.2 (fun e => by have := hXT _ (.inl e); omega)⟩) fun hS2 => ?_
    clear hK KK
    have HSl := hid rl.1; have Tl := hid rl.2; clear rl; have HBl := hid (HBq.out.drew.trans (Tl.out.below HBq.out.size (fun k hk => hXA k (.inl hk)))); have HDl := hid hS2.2
    refine wpAnyH_done (by kernel_rfl) ?_ _
    have h256 := h254.subs (l' := [(27, _), (3, _), (0, _)]) rfl
    clear h254
    iterate 2 go_step
    have HBq := hid (HBl.out)
    have HSd := hid (HSl.out.mono (Below.refl _ _).drew); have HDd := hid (HDl.out.mono (Below.refl _ _).drew)
    refine wp_region_held_drew (S := fun w' => Blk w' K.pp 40 [.pointer (some ⟨K.g, 0, none⟩), .pointer (some ⟨K.lg, 0, none⟩), .pointer (some ⟨K.tg, 0, none⟩), .pointer (some ⟨K.gr, 0, none⟩), .pointer (some ⟨K.dt, 0, none⟩)] ∧ Blk w' gb 29 (deedC x2)) (by kernel_rfl) ⟨HSd.out.t.q, HDd.out⟩ (fun hS1 => ?_)
    refine tkm hS1 h256 0 0 rfl rfl rfl rfl (by kernel_rfl) (fun _ _ _ _ h => h) rfl (fun _ => rfl) rfl fun a258 h257 => ?_
    refine tkn hS1 h257 1 84 rfl rfl rfl rfl (by kernel_rfl) (fun _ _ _ _ h => h) rfl rfl rfl fun a260 h259 => ?_
    refine tkf hS1 h259 2 85 rfl rfl rfl rfl (by kernel_rfl) (fun _ _ _ _ h => h) rfl rfl rfl (fun w => faZ_40_0_3 _ w) fun a262 h261 => ?_
    refine tkl hS1 h261 3 86 rfl rfl rfl rfl (by kernel_rfl) (fun _ _ _ _ h => h) rfl rfl rfl (fun _ hSw => (loadMR (hSw.1.cell (i := 3) (by show 3 < 5; omega)))) fun a264 h263 => ?_
    refine tkf hS1 h263 4 3 rfl rfl rfl rfl (by kernel_rfl) (fun _ _ _ _ h => h) rfl rfl rfl (fun w => faZ_29_0_4 _ w) fun a266 h265 => ?_
    refine tkl hS1 h265 5 88 rfl rfl rfl rfl (by kernel_rfl) (fun _ _ _ _ h => h) rfl rfl rfl (fun _ hSw => (loadIS (hSw.2.cell (i := 4) (by show 4 < 5; omega)))) fun a268 h267 => ?_
    refine wpk_only 6 rfl rfl (by kernel_rfl) fun KK hK => op_call h267 rfl (by decide) (fr rfl) (fun args => callZ_24 args _) rfl #[.pointer (some ⟨K.gr, 0, none⟩), .slice x2.ia x2.I.length x2.ic] (by simp only [List.map_toArray, List.map_cons, List.map_nil, h267.ev 87 rfl, h267.ev 89 rfl]) (R := fun v' w' => SideT w' B K ta tc ra rc (crashM M x2.I) P (crashM M x2.I) P ∧ Turns (XR K ra) wl.drew w') ((crashR_any HSd.out.r.m x2.I x2.ia x2.ic (HX2.out.i.below HBq.out.drew) HX2.out.ok (fun hn k hk => by obtain ⟨off, e⟩ := hk; have z := rowLt HX2.out.i hn e; have y1 := hXA K.dr (.inr (.inl (.inr (.inl rfl)))); have y2 := hXA K.ar (.inr (.inl (.inr (.inr rfl)))); omega)).mono fun e w' q => by obtain ⟨⟨y, q1⟩, q2, q3⟩ := q; exact ⟨y, q1, HSd.out.rm (HSd.out.r.next q2 q3 (fun k hk => hk)) q3, q3.mono (fun k hk => .inl hk)⟩) fun a270 vr_ wr_ rr_ h269 => hK _ _ (⟨rr_.2.blk hS1.1 (ppR HSd.out), rr_.2.blk hS1.2 (fun e => by have := hXT _ (.inr e); omega)⟩) fun hS3 => ?_
    clear hK KK
    have HSr := hid rr_.1; have Tr := hid ((Turns.refl _ wl).drew.trans rr_.2); clear rr_
    refine wpAnyH_done (by kernel_rfl) ?_ _
    have h271 := h269.subs (l' := [(27, _), (3, _), (0, _)]) rfl
    clear h269
    iterate 4 go_step
    refine wv h271 rfl rfl rfl rfl (.bool true) rfl fun a273 h272 => ?_
    iterate 4 go_step
    have hDM : doM x M P = crashM M x2.I := by unfold doM; rw [if_neg (by omega), if_pos (by omega), hI2]
    have hDP : doP x M P = P := by unfold doP; rw [if_neg (by omega), if_neg (by omega), if_neg (by omega)]
    have hTT : Turns (XT K ta ra) w wr_ := turns2 BJJ2.out Tl.out Tr.out
    exact bodyPost_ret (results_tmp1 rfl (h272.known (4, .bool true) (by simp))) h272.defs ⟨rfl, ta, tc, ra, rc, (by rw [hDM, hDP]; exact HSr.out), hTT, hb0.trans (hTT.below hb0.size hXA), fun _ => ⟨rfl, rfl, rfl, rfl⟩⟩
  by_cases e4 : x.kind = 4
  case pos =>
    have hk0 : (x2.kind == 0) = false := by rw [hkd, e4]; rfl
    have hk1 : (x2.kind == 1) = false := by rw [hkd, e4]; rfl
    have hk2 : (x2.kind == 2) = false := by rw [hkd, e4]; rfl
    have hk3 : (x2.kind == 3) = false := by rw [hkd, e4]; rfl
    have hk4 : (x2.kind == 4) = true := by rw [hkd, e4]; rfl
    iterate 2 go_step
    refine wv hJ2 rfl rfl rfl rfl (.pointer (some ⟨gb, 0, none⟩)) (by unfold execOp; simp only [hJ2.ev 3 rfl]; exact run_v (faZ_29_0_0 (gb) _)) fun a275 h274 => ?_
    refine wv h274 rfl rfl rfl rfl (.int .i64 x2.kind) (by unfold execOp; simp only [h274.ev 26 rfl]; exact run_v (loadIP (HDJ2.out.cell (i := 0) (by show 0 < 5; omega)))) fun a277 h276 => ?_
    have h278 := h276.subs (l' := [(27, _), (3, _), (0, _)]) rfl
    clear h276
    iterate 6 go_step
    refine wv h278 rfl rfl rfl rfl (.bool false) (by unfold execOp; simp only [h278.ev 27 rfl]; exact run_v (eqIP _ _ _ _ _ hk0)) fun a280 h279 => ?_
    refine wmk h279 rfl rfl rfl rfl 29 rfl (fun _ => rfl) fun a282 h281 => ?_
    have h283 := h281.subs (l' := [(28, _), (27, _), (3, _), (0, _)]) rfl
    clear h281
    iterate 3 go_step
    refine wp_cond (t := false) (h283.ev 28 rfl) ?_
    simp only [Bool.false_eq_true, if_false]
    have h284 := h283.subs (l' := [(27, _), (3, _), (0, _)]) rfl
    clear h283
    iterate 2 go_step
    refine wv h284 rfl rfl rfl rfl (.bool false) (by unfold execOp; simp only [h284.ev 27 rfl]; exact run_v (eqIP _ _ _ _ _ hk1)) fun a286 h285 => ?_
    refine wmk h285 rfl rfl rfl rfl 50 rfl (fun _ => rfl) fun a288 h287 => ?_
    have h289 := h287.subs (l' := [(49, _), (27, _), (3, _), (0, _)]) rfl
    clear h287
    iterate 3 go_step
    refine wp_cond (t := false) (h289.ev 49 rfl) ?_
    simp only [Bool.false_eq_true, if_false]
    have h290 := h289.subs (l' := [(27, _), (3, _), (0, _)]) rfl
    clear h289
    iterate 2 go_step
    refine wv h290 rfl rfl rfl rfl (.bool false) (by unfold execOp; simp only [h290.ev 27 rfl]; exact run_v (eqIP _ _ _ _ _ hk2)) fun a292 h291 => ?_
    refine wmk h291 rfl rfl rfl rfl 63 rfl (fun _ => rfl) fun a294 h293 => ?_
    have h295 := h293.subs (l' := [(62, _), (27, _), (3, _), (0, _)]) rfl
    clear h293
    iterate 3 go_step
    refine wp_cond (t := false) (h295.ev 62 rfl) ?_
    simp only [Bool.false_eq_true, if_false]
    have h296 := h295.subs (l' := [(27, _), (3, _), (0, _)]) rfl
    clear h295
    iterate 2 go_step
    refine wv h296 rfl rfl rfl rfl (.bool false) (by unfold execOp; simp only [h296.ev 27 rfl]; exact run_v (eqIP _ _ _ _ _ hk3)) fun a298 h297 => ?_
    refine wmk h297 rfl rfl rfl rfl 76 rfl (fun _ => rfl) fun a300 h299 => ?_
    have h301 := h299.subs (l' := [(75, _), (27, _), (3, _), (0, _)]) rfl
    clear h299
    iterate 3 go_step
    refine wp_cond (t := false) (h301.ev 75 rfl) ?_
    simp only [Bool.false_eq_true, if_false]
    have h302 := h301.subs (l' := [(27, _), (3, _), (0, _)]) rfl
    clear h301
    iterate 2 go_step
    refine wv h302 rfl rfl rfl rfl (.bool true) (by unfold execOp; simp only [h302.ev 27 rfl]; exact run_v (eqIP _ _ _ _ _ hk4)) fun a304 h303 => ?_
    refine wmk h303 rfl rfl rfl rfl 92 rfl (fun _ => rfl) fun a306 h305 => ?_
    have h307 := h305.subs (l' := [(91, _), (27, _), (3, _), (0, _)]) rfl
    clear h305
    iterate 3 go_step
    refine wp_cond (t := true) (h307.ev 91 rfl) ?_
    simp only [if_true]
    have h308 := h307.subs (l' := [(27, _), (3, _), (0, _)]) rfl
    clear h307
    go_step
    have HBq := hid (kept_trans hb0 BJJ2.out)
    have HSd := hid (HSJ2.out.mono (Below.refl _ _).drew); have HDd := hid (HDJ2.out.mono (Below.refl _ _).drew)
    refine wp_region_held_drew (S := fun w' => Blk w' K.pp 40 [.pointer (some ⟨K.g, 0, none⟩), .pointer (some ⟨K.lg, 0, none⟩), .pointer (some ⟨K.tg, 0, none⟩), .pointer (some ⟨K.gr, 0, none⟩), .pointer (some ⟨K.dt, 0, none⟩)] ∧ Blk w' gb 29 (deedC x2)) (by kernel_rfl) ⟨HSd.out.t.q, HDd.out⟩ (fun hS1 => ?_)
    refine tkm hS1 h308 0 0 rfl rfl rfl rfl (by kernel_rfl) (fun _ _ _ _ h => h) rfl (fun _ => rfl) rfl fun a310 h309 => ?_
    refine tkn hS1 h309 1 93 rfl rfl rfl rfl (by kernel_rfl) (fun _ _ _ _ h => h) rfl rfl rfl fun a312 h311 => ?_
    refine tkf hS1 h311 2 94 rfl rfl rfl rfl (by kernel_rfl) (fun _ _ _ _ h => h) rfl rfl rfl (fun w => faZ_40_0_0 _ w) fun a314 h313 => ?_
    refine tkl hS1 h313 3 95 rfl rfl rfl rfl (by kernel_rfl) (fun _ _ _ _ h => h) rfl rfl rfl (fun _ hSw => (loadMP (hSw.1.cell (i := 0) (by show 0 < 5; omega)))) fun a316 h315 => ?_
    refine tkf hS1 h315 4 3 rfl rfl rfl rfl (by kernel_rfl) (fun _ _ _ _ h => h) rfl rfl rfl (fun w => faZ_29_0_1 _ w) fun a318 h317 => ?_
    refine tkl hS1 h317 5 97 rfl rfl rfl rfl (by kernel_rfl) (fun _ _ _ _ h => h) rfl rfl rfl (fun _ hSw => (loadIP (hSw.2.cell (i := 1) (by show 1 < 5; omega)))) fun a320 h319 => ?_
    refine tkf hS1 h319 6 3 rfl rfl rfl rfl (by kernel_rfl) (fun _ _ _ _ h => h) rfl rfl rfl (fun w => faZ_29_0_3 _ w) fun a322 h321 => ?_
    refine tkl hS1 h321 7 99 rfl rfl rfl rfl (by kernel_rfl) (fun _ _ _ _ h => h) rfl rfl rfl (fun _ hSw => (loadYP (hSw.2.cell (i := 3) (by show 3 < 5; omega)))) fun a324 h323 => ?_
    refine tkm hS1 h323 9 0 rfl rfl rfl rfl (by kernel_rfl) (fun _ _ _ _ h => h) rfl (fun _ => rfl) rfl fun a326 h325 => ?_
    refine tkn hS1 h325 10 102 rfl rfl rfl rfl (by kernel_rfl) (fun _ _ _ _ h => h) rfl rfl rfl fun a328 h327 => ?_
    refine tkf hS1 h327 11 103 rfl rfl rfl rfl (by kernel_rfl) (fun _ _ _ _ h => h) rfl rfl rfl (fun w => faZ_40_0_3 _ w) fun a330 h329 => ?_
    refine tkl hS1 h329 12 104 rfl rfl rfl rfl (by kernel_rfl) (fun _ _ _ _ h => h) rfl rfl rfl (fun _ hSw => (loadMR (hSw.1.cell (i := 3) (by show 3 < 5; omega)))) fun a332 h331 => ?_
    refine tkf hS1 h331 13 3 rfl rfl rfl rfl (by kernel_rfl) (fun _ _ _ _ h => h) rfl rfl rfl (fun w => faZ_29_0_1 _ w) fun a334 h333 => ?_
    refine tkl hS1 h333 14 106 rfl rfl rfl rfl (by kernel_rfl) (fun _ _ _ _ h => h) rfl rfl rfl (fun _ hSw => (loadIP (hSw.2.cell (i := 1) (by show 1 < 5; omega)))) fun a336 h335 => ?_
    refine tkf hS1 h335 15 3 rfl rfl rfl rfl (by kernel_rfl) (fun _ _ _ _ h => h) rfl rfl rfl (fun w => faZ_29_0_3 _ w) fun a338 h337 => ?_
    refine tkl hS1 h337 16 108 rfl rfl rfl rfl (by kernel_rfl) (fun _ _ _ _ h => h) rfl rfl rfl (fun _ hSw => (loadYP (hSw.2.cell (i := 3) (by show 3 < 5; omega)))) fun a340 h339 => ?_
    refine wpk_only 8 rfl rfl (by kernel_rfl) fun KK hK => op_call h339 rfl (by decide) (fr rfl) (fun args => callZ_25 args _) rfl #[.pointer (some ⟨K.g, 0, none⟩), .int .i64 x2.at_, .slice x2.da x2.D.length x2.dc] (by simp only [List.map_toArray, List.map_cons, List.map_nil, h339.ev 96 rfl, h339.ev 98 rfl, h339.ev 100 rfl]) (R := fun v' w' => v' = .int .i64 (errM M x2.at_ x2.D.length) ∧ (SideT w' B K ta tc ra rc (storeU M x2.at_ x2.D) P M P) ∧ Turns (XL K ta) wJ2.drew w') ((store_u HSd.out.t.l.m x2.at_ HX2.out.a x2.da x2.dc x2.D (HX2.out.d.below HBq.out.drew)).mono fun e w' q => ⟨_, q.1, rfl, (HSd.out.lm (HSd.out.t.l.next q.2.1 q.2.2 storeX) (q.2.2.mono storeX)), q.2.2.mono (fun k hk => .inl (storeX k hk))⟩) fun a342 vl wl rl h341 => hK _ _ (by obtain ⟨p1, p2, p3⟩ := rl; exact ⟨p3.blk hS1.1 (ppL HSd.out), p3.blk hS1.2 (fun e => by have := hXT _ (.inl e); omega)⟩) fun hS2 => ?_
    clear hK KK
    obtain ⟨rfl, sl, tl⟩ := rl; have HSl := hid sl; have Tl := hid tl; clear sl tl; have HBl := hid (HBq.out.drew.trans (Tl.out.below HBq.out.size (fun k hk => hXA k (.inl hk))))
    refine wpk_only 17 rfl rfl (by kernel_rfl) fun KK hK => op_call h341 rfl (by decide) (fr rfl) (fun args => callZ_26 args _) rfl #[.pointer (some ⟨K.gr, 0, none⟩), .int .i64 x2.at_, .slice x2.da x2.D.length x2.dc] (by simp only [List.map_toArray, List.map_cons, List.map_nil, h341.ev 105 rfl, h341.ev 107 rfl, h341.ev 109 rfl]) (R := fun v' w' => v' = .int .i64 (errM M x2.at_ x2.D.length) ∧ (SideT w' B K ta tc ra rc (storeU M x2.at_ x2.D) P (storeU M x2.at_ x2.D) P) ∧ Turns (XR K ra) wl w') ((storeR_u HSl.out.r.m x2.at_ HX2.out.a x2.da x2.dc x2.D (HX2.out.d.below HBl.out) (fun hn k hk => by obtain ⟨off, e⟩ := hk; have z := rowLt HX2.out.d hn e; have y1 := hXA K.vr (.inr (.inl (.inl rfl))); have y2 := hXA K.ar (.inr (.inl (.inr (.inr rfl)))); omega)).mono fun e w' q => ⟨_, q.1, rfl, (HSl.out.rm (HSl.out.r.next q.2.1 q.2.2 storeX) (q.2.2.mono storeX)), q.2.2.mono (fun k hk => .inl (storeX k hk))⟩) fun a344 vr_ wr_ rr_ h343 => hK _ _ (by obtain ⟨p1, p2, p3⟩ := rr_; exact ⟨p3.blk hS2.1 (ppR HSl.out), p3.blk hS2.2 (fun e => by have := hXT _ (.inr e); omega)⟩) fun hS3 => ?_
    clear hK KK
    obtain ⟨rfl, sr, tr⟩ := rr_; have HSr := hid sr; have Tr := hid tr; clear sr tr
    refine wpk_take hS3 h343 18 rfl rfl (by decide) (fr rfl) (by kernel_rfl) (by kernel_rfl) (by kernel_rfl) (fun _ _ _ _ h => h) (.bool true) (Or.inl ⟨Eq.refl true, fun w1 hSw => (by show (execOp _ (⟨_, .binOp .eql 32 (.tmp 101) (.tmp 110) 32, _, _, _, _⟩ : Oper)).run _ _ = _; exact (by unfold execOp; simp only [h343.ev 101 rfl, h343.ev 110 rfl]; exact run_v (eqEP _ _ _ _ _ (by simp))))⟩) fun a346 h345 => ?_
    refine tkm hS3 h345 19 111 rfl rfl rfl rfl (by kernel_rfl) (fun _ _ _ _ h => h) rfl (fun _ => rfl) rfl fun a348 h347 => ?_
    refine wpAnyH_done (by kernel_rfl) ?_ _
    have h349 := h347.subs (l' := [(4, _), (27, _), (3, _), (0, _)]) rfl
    clear h347
    iterate 3 go_step
    simp only [Exit.then, Exit.inBlock]
    have hDM : doM x M P = storeU M x2.at_ x2.D := by unfold doM; rw [if_neg (by omega), if_neg (by omega), if_pos (by omega), hat, hD2]
    have hDP : doP x M P = P := by unfold doP; rw [if_neg (by omega), if_neg (by omega), if_neg (by omega)]
    have hTT : Turns (XT K ta ra) w wr_ := turns2 BJJ2.out Tl.out Tr.out
    exact bodyPost_ret (results_tmp1 rfl (h349.known (4, .bool true) (by simp))) h349.defs ⟨rfl, ta, tc, ra, rc, (by rw [hDM, hDP]; exact HSr.out), hTT, hb0.trans (hTT.below hb0.size hXA), fun _ => ⟨rfl, rfl, rfl, rfl⟩⟩
  by_cases e5 : x.kind = 5
  case pos =>
    have hk0 : (x2.kind == 0) = false := by rw [hkd, e5]; rfl
    have hk1 : (x2.kind == 1) = false := by rw [hkd, e5]; rfl
    have hk2 : (x2.kind == 2) = false := by rw [hkd, e5]; rfl
    have hk3 : (x2.kind == 3) = false := by rw [hkd, e5]; rfl
    have hk4 : (x2.kind == 4) = false := by rw [hkd, e5]; rfl
    have hk5 : (x2.kind == 5) = true := by rw [hkd, e5]; rfl
    iterate 2 go_step
    refine wv hJ2 rfl rfl rfl rfl (.pointer (some ⟨gb, 0, none⟩)) (by unfold execOp; simp only [hJ2.ev 3 rfl]; exact run_v (faZ_29_0_0 (gb) _)) fun a351 h350 => ?_
    refine wv h350 rfl rfl rfl rfl (.int .i64 x2.kind) (by unfold execOp; simp only [h350.ev 26 rfl]; exact run_v (loadIP (HDJ2.out.cell (i := 0) (by show 0 < 5; omega)))) fun a353 h352 => ?_
    have h354 := h352.subs (l' := [(27, _), (3, _), (0, _)]) rfl
    clear h352
    iterate 6 go_step
    refine wv h354 rfl rfl rfl rfl (.bool false) (by unfold execOp; simp only [h354.ev 27 rfl]; exact run_v (eqIP _ _ _ _ _ hk0)) fun a356 h355 => ?_
    refine wmk h355 rfl rfl rfl rfl 29 rfl (fun _ => rfl) fun a358 h357 => ?_
    have h359 := h357.subs (l' := [(28, _), (27, _), (3, _), (0, _)]) rfl
    clear h357
    iterate 3 go_step
    refine wp_cond (t := false) (h359.ev 28 rfl) ?_
    simp only [Bool.false_eq_true, if_false]
    have h360 := h359.subs (l' := [(27, _), (3, _), (0, _)]) rfl
    clear h359
    iterate 2 go_step
    refine wv h360 rfl rfl rfl rfl (.bool false) (by unfold execOp; simp only [h360.ev 27 rfl]; exact run_v (eqIP _ _ _ _ _ hk1)) fun a362 h361 => ?_
    refine wmk h361 rfl rfl rfl rfl 50 rfl (fun _ => rfl) fun a364 h363 => ?_
    have h365 := h363.subs (l' := [(49, _), (27, _), (3, _), (0, _)]) rfl
    clear h363
    iterate 3 go_step
    refine wp_cond (t := false) (h365.ev 49 rfl) ?_
    simp only [Bool.false_eq_true, if_false]
    have h366 := h365.subs (l' := [(27, _), (3, _), (0, _)]) rfl
    clear h365
    iterate 2 go_step
    refine wv h366 rfl rfl rfl rfl (.bool false) (by unfold execOp; simp only [h366.ev 27 rfl]; exact run_v (eqIP _ _ _ _ _ hk2)) fun a368 h367 => ?_
    refine wmk h367 rfl rfl rfl rfl 63 rfl (fun _ => rfl) fun a370 h369 => ?_
    have h371 := h369.subs (l' := [(62, _), (27, _), (3, _), (0, _)]) rfl
    clear h369
    iterate 3 go_step
    refine wp_cond (t := false) (h371.ev 62 rfl) ?_
    simp only [Bool.false_eq_true, if_false]
    have h372 := h371.subs (l' := [(27, _), (3, _), (0, _)]) rfl
    clear h371
    iterate 2 go_step
    refine wv h372 rfl rfl rfl rfl (.bool false) (by unfold execOp; simp only [h372.ev 27 rfl]; exact run_v (eqIP _ _ _ _ _ hk3)) fun a374 h373 => ?_
    refine wmk h373 rfl rfl rfl rfl 76 rfl (fun _ => rfl) fun a376 h375 => ?_
    have h377 := h375.subs (l' := [(75, _), (27, _), (3, _), (0, _)]) rfl
    clear h375
    iterate 3 go_step
    refine wp_cond (t := false) (h377.ev 75 rfl) ?_
    simp only [Bool.false_eq_true, if_false]
    have h378 := h377.subs (l' := [(27, _), (3, _), (0, _)]) rfl
    clear h377
    iterate 2 go_step
    refine wv h378 rfl rfl rfl rfl (.bool false) (by unfold execOp; simp only [h378.ev 27 rfl]; exact run_v (eqIP _ _ _ _ _ hk4)) fun a380 h379 => ?_
    refine wmk h379 rfl rfl rfl rfl 92 rfl (fun _ => rfl) fun a382 h381 => ?_
    have h383 := h381.subs (l' := [(91, _), (27, _), (3, _), (0, _)]) rfl
    clear h381
    iterate 3 go_step
    refine wp_cond (t := false) (h383.ev 91 rfl) ?_
    simp only [Bool.false_eq_true, if_false]
    have h384 := h383.subs (l' := [(27, _), (3, _), (0, _)]) rfl
    clear h383
    iterate 2 go_step
    refine wv h384 rfl rfl rfl rfl (.bool true) (by unfold execOp; simp only [h384.ev 27 rfl]; exact run_v (eqIP _ _ _ _ _ hk5)) fun a386 h385 => ?_
    refine wmk h385 rfl rfl rfl rfl 113 rfl (fun _ => rfl) fun a388 h387 => ?_
    have h389 := h387.subs (l' := [(112, _), (27, _), (3, _), (0, _)]) rfl
    clear h387
    iterate 3 go_step
    refine wp_cond (t := true) (h389.ev 112 rfl) ?_
    simp only [if_true]
    have h390 := h389.subs (l' := [(27, _), (3, _), (0, _)]) rfl
    clear h389
    go_step
    have HBq := hid (kept_trans hb0 BJJ2.out)
    have HSd := hid (HSJ2.out.mono (Below.refl _ _).drew); have HDd := hid (HDJ2.out.mono (Below.refl _ _).drew)
    refine wp_region_held_drew (S := fun w' => Blk w' K.pp 40 [.pointer (some ⟨K.g, 0, none⟩), .pointer (some ⟨K.lg, 0, none⟩), .pointer (some ⟨K.tg, 0, none⟩), .pointer (some ⟨K.gr, 0, none⟩), .pointer (some ⟨K.dt, 0, none⟩)] ∧ Blk w' gb 29 (deedC x2)) (by kernel_rfl) ⟨HSd.out.t.q, HDd.out⟩ (fun hS1 => ?_)
    refine tkm hS1 h390 0 0 rfl rfl rfl rfl (by kernel_rfl) (fun _ _ _ _ h => h) rfl (fun _ => rfl) rfl fun a392 h391 => ?_
    refine tkn hS1 h391 1 115 rfl rfl rfl rfl (by kernel_rfl) (fun _ _ _ _ h => h) rfl rfl rfl fun a394 h393 => ?_
    refine tkf hS1 h393 2 116 rfl rfl rfl rfl (by kernel_rfl) (fun _ _ _ _ h => h) rfl rfl rfl (fun w => faZ_40_0_2 _ w) fun a396 h395 => ?_
    refine tkl hS1 h395 3 117 rfl rfl rfl rfl (by kernel_rfl) (fun _ _ _ _ h => h) rfl rfl rfl (fun _ hSw => (loadTP (hSw.1.cell (i := 2) (by show 2 < 5; omega)))) fun a398 h397 => ?_
    refine tkf hS1 h397 4 3 rfl rfl rfl rfl (by kernel_rfl) (fun _ _ _ _ h => h) rfl rfl rfl (fun w => faZ_29_0_1 _ w) fun a400 h399 => ?_
    refine tkl hS1 h399 5 119 rfl rfl rfl rfl (by kernel_rfl) (fun _ _ _ _ h => h) rfl rfl rfl (fun _ hSw => (loadIP (hSw.2.cell (i := 1) (by show 1 < 5; omega)))) fun a402 h401 => ?_
    refine tkf hS1 h401 6 3 rfl rfl rfl rfl (by kernel_rfl) (fun _ _ _ _ h => h) rfl rfl rfl (fun w => faZ_29_0_2 _ w) fun a404 h403 => ?_
    refine tkl hS1 h403 7 121 rfl rfl rfl rfl (by kernel_rfl) (fun _ _ _ _ h => h) rfl rfl rfl (fun _ hSw => (loadIP (hSw.2.cell (i := 2) (by show 2 < 5; omega)))) fun a406 h405 => ?_
    refine wpk_only 8 rfl rfl (by kernel_rfl) fun KK hK => op_call h405 rfl (by decide) (fr rfl) (fun args => callZ_14 args _) rfl #[.pointer (some ⟨K.tg, 0, none⟩), .int .i64 x2.at_, .int .i64 x2.n] (by simp only [List.map_toArray, List.map_cons, List.map_nil, h405.ev 118 rfl, h405.ev 120 rfl, h405.ev 122 rfl]) (R := fun v' w' => (∃ x1 y1, v' = .tuple #[.slice x1 (loadT M.V M P x2.at_ x2.n).length y1, .int .i64 (errM M x2.at_ x2.n)] ∧ OwnB w' wJ2.drew.heap.size x1 y1 (loadT M.V M P x2.at_ x2.n)) ∧ Below wJ2.drew.heap.size wJ2.drew w') ((HSd.out.loadL htx (by omega) x2.at_ x2.n HX2.out.a HX2.out.n).mono fun e w' q => by obtain ⟨x1, y1, q1, q2, q3⟩ := q; exact ⟨_, q1, ⟨x1, y1, rfl, q2⟩, q3⟩) fun a408 vA wA rA h407 => hK _ _ (⟨hS1.1.mono rA.2, hS1.2.mono rA.2⟩) fun hSA => ?_
    clear hK KK
    obtain ⟨⟨lA, cA, rfl, oA⟩, bA⟩ := rA; have HSA := hid (HSd.out.mono bA); have HDA := hid (HDd.out.mono bA); have BJA := hid (kept_trans (BJJ2.out.drew) bA); have HRA := hid oA.row
    clear oA bA
    refine tkm hSA h407 9 123 rfl rfl rfl rfl (by kernel_rfl) (fun _ _ _ _ h => h) rfl (fun _ => rfl) rfl fun a410 h409 => ?_
    refine wpk_take hSA h409 10 rfl rfl (by decide) (fr rfl) (by kernel_rfl) (by kernel_rfl) (by kernel_rfl) (fun _ _ _ _ h => h) (.slice lA (loadT M.V M P x2.at_ x2.n).length cA) (Or.inl ⟨Eq.refl true, fun w1 hSw => (by show (execOp _ (⟨_, .extract (.tmp 114) 0, _, _, _, _⟩ : Oper)).run _ _ = _; exact (by unfold execOp; simp only [h409.ev 114 rfl]; exact rfl))⟩) fun a412 h411 => ?_
    refine wpk_take hSA h411 11 rfl rfl (by decide) (fr rfl) (by kernel_rfl) (by kernel_rfl) (by kernel_rfl) (fun _ _ _ _ h => h) (.int .i64 (errM M x2.at_ x2.n)) (Or.inl ⟨Eq.refl true, fun w1 hSw => (by show (execOp _ (⟨_, .extract (.tmp 114) 1, _, _, _, _⟩ : Oper)).run _ _ = _; exact (by unfold execOp; simp only [h411.ev 114 rfl]; exact rfl))⟩) fun a414 h413 => ?_
    refine tkm hSA h413 12 124 rfl rfl rfl rfl (by kernel_rfl) (fun _ _ _ _ h => h) rfl (fun _ => rfl) rfl fun a416 h415 => ?_
    refine tkm hSA h415 13 125 rfl rfl rfl rfl (by kernel_rfl) (fun _ _ _ _ h => h) rfl (fun _ => rfl) rfl fun a418 h417 => ?_
    refine wpAnyH_done (by kernel_rfl) ?_ _
    have h419 := h417.subs (l' := [(6, _), (5, _), (27, _), (3, _), (0, _)]) rfl
    clear h417
    iterate 3 go_step
    have HBq := hid (kept_trans hb0 BJA.out)
    have HSd := hid (HSA.out.mono (Below.refl _ _).drew); have HDd := hid (HDA.out.mono (Below.refl _ _).drew)
    refine wp_region_held_drew (S := fun w' => Blk w' K.pp 40 [.pointer (some ⟨K.g, 0, none⟩), .pointer (some ⟨K.lg, 0, none⟩), .pointer (some ⟨K.tg, 0, none⟩), .pointer (some ⟨K.gr, 0, none⟩), .pointer (some ⟨K.dt, 0, none⟩)] ∧ Blk w' gb 29 (deedC x2)) (by kernel_rfl) ⟨HSd.out.t.q, HDd.out⟩ (fun hS1 => ?_)
    refine tkm hS1 h419 0 0 rfl rfl rfl rfl (by kernel_rfl) (fun _ _ _ _ h => h) rfl (fun _ => rfl) rfl fun a421 h420 => ?_
    refine tkn hS1 h420 1 127 rfl rfl rfl rfl (by kernel_rfl) (fun _ _ _ _ h => h) rfl rfl rfl fun a423 h422 => ?_
    refine tkf hS1 h422 2 128 rfl rfl rfl rfl (by kernel_rfl) (fun _ _ _ _ h => h) rfl rfl rfl (fun w => faZ_40_0_4 _ w) fun a425 h424 => ?_
    refine tkl hS1 h424 3 129 rfl rfl rfl rfl (by kernel_rfl) (fun _ _ _ _ h => h) rfl rfl rfl (fun _ hSw => (loadTx9 (hSw.1.cell (i := 4) (by show 4 < 5; omega)))) fun a427 h426 => ?_
    refine tkf hS1 h426 4 3 rfl rfl rfl rfl (by kernel_rfl) (fun _ _ _ _ h => h) rfl rfl rfl (fun w => faZ_29_0_1 _ w) fun a429 h428 => ?_
    refine tkl hS1 h428 5 131 rfl rfl rfl rfl (by kernel_rfl) (fun _ _ _ _ h => h) rfl rfl rfl (fun _ hSw => (loadIP (hSw.2.cell (i := 1) (by show 1 < 5; omega)))) fun a431 h430 => ?_
    refine tkf hS1 h430 6 3 rfl rfl rfl rfl (by kernel_rfl) (fun _ _ _ _ h => h) rfl rfl rfl (fun w => faZ_29_0_2 _ w) fun a433 h432 => ?_
    refine tkl hS1 h432 7 133 rfl rfl rfl rfl (by kernel_rfl) (fun _ _ _ _ h => h) rfl rfl rfl (fun _ hSw => (loadIP (hSw.2.cell (i := 2) (by show 2 < 5; omega)))) fun a435 h434 => ?_
    refine wpk_only 8 rfl rfl (by kernel_rfl) fun KK hK => op_call h434 rfl (by decide) (fr rfl) (fun args => callZ_27 args _) rfl #[.pointer (some ⟨K.dt, 0, none⟩), .int .i64 x2.at_, .int .i64 x2.n] (by simp only [List.map_toArray, List.map_cons, List.map_nil, h434.ev 130 rfl, h434.ev 132 rfl, h434.ev 134 rfl]) (R := fun v' w' => (∃ x1 y1, v' = .tuple #[.slice x1 (loadT M.V M P x2.at_ x2.n).length y1, .int .i64 (errM M x2.at_ x2.n)] ∧ OwnB w' wA.drew.heap.size x1 y1 (loadT M.V M P x2.at_ x2.n)) ∧ Below wA.drew.heap.size wA.drew w') ((HSd.out.loadR htx (by omega) x2.at_ x2.n HX2.out.a HX2.out.n).mono fun e w' q => by obtain ⟨x1, y1, q1, q2, q3⟩ := q; exact ⟨_, q1, ⟨x1, y1, rfl, q2⟩, q3⟩) fun a437 vB wB rB h436 => hK _ _ (⟨hS1.1.mono rB.2, hS1.2.mono rB.2⟩) fun hSB => ?_
    clear hK KK
    obtain ⟨⟨lB, cB, rfl, oB⟩, bB⟩ := rB; have HSB := hid (HSd.out.mono bB); have HDB := hid (HDd.out.mono bB); have BJB := hid (kept_trans (BJA.out.drew) bB); have HRB := hid oB.row
    have HRA2 := hid (HRA.out.below (Below.refl _ _).drew); have HRA3 := hid (HRA2.out.below bB)
    clear oB bB
    refine tkm hSB h436 9 135 rfl rfl rfl rfl (by kernel_rfl) (fun _ _ _ _ h => h) rfl (fun _ => rfl) rfl fun a439 h438 => ?_
    refine wpk_take hSB h438 10 rfl rfl (by decide) (fr rfl) (by kernel_rfl) (by kernel_rfl) (by kernel_rfl) (fun _ _ _ _ h => h) (.slice lB (loadT M.V M P x2.at_ x2.n).length cB) (Or.inl ⟨Eq.refl true, fun w1 hSw => (by show (execOp _ (⟨_, .extract (.tmp 126) 0, _, _, _, _⟩ : Oper)).run _ _ = _; exact (by unfold execOp; simp only [h438.ev 126 rfl]; exact rfl))⟩) fun a441 h440 => ?_
    refine wpk_take hSB h440 11 rfl rfl (by decide) (fr rfl) (by kernel_rfl) (by kernel_rfl) (by kernel_rfl) (fun _ _ _ _ h => h) (.int .i64 (errM M x2.at_ x2.n)) (Or.inl ⟨Eq.refl true, fun w1 hSw => (by show (execOp _ (⟨_, .extract (.tmp 126) 1, _, _, _, _⟩ : Oper)).run _ _ = _; exact (by unfold execOp; simp only [h440.ev 126 rfl]; exact rfl))⟩) fun a443 h442 => ?_
    refine tkm hSB h442 12 136 rfl rfl rfl rfl (by kernel_rfl) (fun _ _ _ _ h => h) rfl (fun _ => rfl) rfl fun a445 h444 => ?_
    refine tkm hSB h444 13 137 rfl rfl rfl rfl (by kernel_rfl) (fun _ _ _ _ h => h) rfl (fun _ => rfl) rfl fun a447 h446 => ?_
    refine wpAnyH_done (by kernel_rfl) ?_ _
    have h448 := h446.subs (l' := [(8, _), (7, _), (6, _), (5, _), (27, _), (3, _), (0, _)]) rfl
    clear h446
    iterate 4 go_step
    refine wmk h448 rfl rfl rfl rfl 5 rfl (fun _ => rfl) fun a450 h449 => ?_
    refine wmk h449 rfl rfl rfl rfl 7 rfl (fun _ => rfl) fun a452 h451 => ?_
    refine wpk_call h451 (wanted_none rfl) rfl (by decide) (fr rfl) (fun args => callZ_11 args _) rfl #[.slice lA (loadT M.V M P x2.at_ x2.n).length cA, .slice lB (loadT M.V M P x2.at_ x2.n).length cB] (by simp only [List.map_toArray, List.map_cons, List.map_nil, h451.ev 138 rfl, h451.ev 139 rfl]) (R := fun v' w' => v' = .bool true ∧ Below wB.heap.size wB w') ((same9T HRA3.out HRB.out (Nat.le_trans (loadT_le hl) (by omega))).mono fun e w' q => ⟨_, q.1, rfl, q.2⟩) fun a454 vs ws rs h453 => ?_
    obtain ⟨rfl, bs9⟩ := rs; have BJs := hid (kept_trans BJB.out bs9); clear bs9
    refine wmk h453 rfl rfl rfl rfl 140 rfl (fun _ => rfl) fun a456 h455 => ?_
    have h457 := h455.subs (l' := [(9, _), (8, _), (7, _), (6, _), (5, _), (27, _), (3, _), (0, _)]) rfl
    clear h455
    iterate 5 go_step
    refine wmk h457 rfl rfl rfl rfl 9 rfl (fun _ => rfl) fun a459 h458 => ?_
    refine wmk h458 rfl rfl rfl rfl 141 rfl (fun _ => rfl) fun a461 h460 => ?_
    refine wpk_val h460 (by rw [wanted_of (g := 1) (want := true) (b := true) rfl (h460.yields (prev := 142) rfl (by simp))]; rfl) rfl (by decide) (fr rfl) (.int .i64 (errM M x2.at_ x2.n)) (by unfold execOp; simp only [h460.ev 6 rfl]; rfl) fun a463 h462 => ?_
    refine wpk_val h462 (by rw [wanted_of (g := 1) (want := true) (b := true) rfl (h462.yields (prev := 142) rfl (by simp))]; rfl) rfl (by decide) (fr rfl) (.int .i64 (errM M x2.at_ x2.n)) (by unfold execOp; simp only [h462.ev 8 rfl]; rfl) fun a465 h464 => ?_
    refine wpk_val h464 (by rw [wanted_of (g := 1) (want := true) (b := true) rfl (h464.yields (prev := 142) rfl (by simp))]; rfl) rfl (by decide) (fr rfl) (.bool true) (by unfold execOp; simp only [h464.ev 143 rfl, h464.ev 144 rfl]; exact run_v (eqEP _ _ _ _ _ (by simp))) fun a467 h466 => ?_
    refine wv h466 rfl rfl rfl rfl (.bool true) (run_pick rfl (h466.ev 142 rfl) (by rw [if_pos rfl]; exact h466.ev 145 rfl)) fun a469 h468 => ?_
    refine wmk h468 rfl rfl rfl rfl 146 rfl (fun _ => rfl) fun a471 h470 => ?_
    have h472 := h470.subs (l' := [(4, _), (9, _), (8, _), (7, _), (6, _), (5, _), (27, _), (3, _), (0, _)]) rfl
    clear h470
    iterate 4 go_step
    simp only [Exit.then, Exit.inBlock]
    have hDM : doM x M P = M := by unfold doM; rw [if_neg (by omega), if_neg (by omega), if_neg (by omega)]
    have hDP : doP x M P = P := by unfold doP; rw [if_neg (by omega), if_neg (by omega), if_neg (by omega)]
    have hTT : Turns (XT K ta ra) w ws := Turns.of_below BJs.out
    exact bodyPost_ret (results_tmp1 rfl (h472.known (4, .bool true) (by simp))) h472.defs ⟨rfl, ta, tc, ra, rc, (by rw [hDM, hDP]; exact h.mono BJs.out), hTT, hb0.trans (hTT.below hb0.size hXA), fun _ => ⟨rfl, rfl, rfl, rfl⟩⟩
  have hk0 : (x2.kind == 0) = false := by rw [hkd]; simpa using e0
  have hk1 : (x2.kind == 1) = false := by rw [hkd]; simpa using e1
  have hk2 : (x2.kind == 2) = false := by rw [hkd]; simpa using e2
  have hk3 : (x2.kind == 3) = false := by rw [hkd]; simpa using e3
  have hk4 : (x2.kind == 4) = false := by rw [hkd]; simpa using e4
  have hk5 : (x2.kind == 5) = false := by rw [hkd]; simpa using e5
  iterate 2 go_step
  refine wv hJ2 rfl rfl rfl rfl (.pointer (some ⟨gb, 0, none⟩)) (by unfold execOp; simp only [hJ2.ev 3 rfl]; exact run_v (faZ_29_0_0 (gb) _)) fun a474 h473 => ?_
  refine wv h473 rfl rfl rfl rfl (.int .i64 x2.kind) (by unfold execOp; simp only [h473.ev 26 rfl]; exact run_v (loadIP (HDJ2.out.cell (i := 0) (by show 0 < 5; omega)))) fun a476 h475 => ?_
  have h477 := h475.subs (l' := [(27, _), (3, _), (0, _)]) rfl
  clear h475
  iterate 6 go_step
  refine wv h477 rfl rfl rfl rfl (.bool false) (by unfold execOp; simp only [h477.ev 27 rfl]; exact run_v (eqIP _ _ _ _ _ hk0)) fun a479 h478 => ?_
  refine wmk h478 rfl rfl rfl rfl 29 rfl (fun _ => rfl) fun a481 h480 => ?_
  have h482 := h480.subs (l' := [(28, _), (27, _), (3, _), (0, _)]) rfl
  clear h480
  iterate 3 go_step
  refine wp_cond (t := false) (h482.ev 28 rfl) ?_
  simp only [Bool.false_eq_true, if_false]
  have h483 := h482.subs (l' := [(27, _), (3, _), (0, _)]) rfl
  clear h482
  iterate 2 go_step
  refine wv h483 rfl rfl rfl rfl (.bool false) (by unfold execOp; simp only [h483.ev 27 rfl]; exact run_v (eqIP _ _ _ _ _ hk1)) fun a485 h484 => ?_
  refine wmk h484 rfl rfl rfl rfl 50 rfl (fun _ => rfl) fun a487 h486 => ?_
  have h488 := h486.subs (l' := [(49, _), (27, _), (3, _), (0, _)]) rfl
  clear h486
  iterate 3 go_step
  refine wp_cond (t := false) (h488.ev 49 rfl) ?_
  simp only [Bool.false_eq_true, if_false]
  have h489 := h488.subs (l' := [(27, _), (3, _), (0, _)]) rfl
  clear h488
  iterate 2 go_step
  refine wv h489 rfl rfl rfl rfl (.bool false) (by unfold execOp; simp only [h489.ev 27 rfl]; exact run_v (eqIP _ _ _ _ _ hk2)) fun a491 h490 => ?_
  refine wmk h490 rfl rfl rfl rfl 63 rfl (fun _ => rfl) fun a493 h492 => ?_
  have h494 := h492.subs (l' := [(62, _), (27, _), (3, _), (0, _)]) rfl
  clear h492
  iterate 3 go_step
  refine wp_cond (t := false) (h494.ev 62 rfl) ?_
  simp only [Bool.false_eq_true, if_false]
  have h495 := h494.subs (l' := [(27, _), (3, _), (0, _)]) rfl
  clear h494
  iterate 2 go_step
  refine wv h495 rfl rfl rfl rfl (.bool false) (by unfold execOp; simp only [h495.ev 27 rfl]; exact run_v (eqIP _ _ _ _ _ hk3)) fun a497 h496 => ?_
  refine wmk h496 rfl rfl rfl rfl 76 rfl (fun _ => rfl) fun a499 h498 => ?_
  have h500 := h498.subs (l' := [(75, _), (27, _), (3, _), (0, _)]) rfl
  clear h498
  iterate 3 go_step
  refine wp_cond (t := false) (h500.ev 75 rfl) ?_
  simp only [Bool.false_eq_true, if_false]
  have h501 := h500.subs (l' := [(27, _), (3, _), (0, _)]) rfl
  clear h500
  iterate 2 go_step
  refine wv h501 rfl rfl rfl rfl (.bool false) (by unfold execOp; simp only [h501.ev 27 rfl]; exact run_v (eqIP _ _ _ _ _ hk4)) fun a503 h502 => ?_
  refine wmk h502 rfl rfl rfl rfl 92 rfl (fun _ => rfl) fun a505 h504 => ?_
  have h506 := h504.subs (l' := [(91, _), (27, _), (3, _), (0, _)]) rfl
  clear h504
  iterate 3 go_step
  refine wp_cond (t := false) (h506.ev 91 rfl) ?_
  simp only [Bool.false_eq_true, if_false]
  have h507 := h506.subs (l' := [(27, _), (3, _), (0, _)]) rfl
  clear h506
  iterate 2 go_step
  refine wv h507 rfl rfl rfl rfl (.bool false) (by unfold execOp; simp only [h507.ev 27 rfl]; exact run_v (eqIP _ _ _ _ _ hk5)) fun a509 h508 => ?_
  refine wmk h508 rfl rfl rfl rfl 113 rfl (fun _ => rfl) fun a511 h510 => ?_
  have h512 := h510.subs (l' := [(112, _), (27, _), (3, _), (0, _)]) rfl
  clear h510
  iterate 3 go_step
  refine wp_cond (t := false) (h512.ev 112 rfl) ?_
  simp only [Bool.false_eq_true, if_false]
  have h513 := h512.subs (l' := [(27, _), (3, _), (0, _)]) rfl
  clear h512
  iterate 5 go_step
  refine wv h513 rfl rfl rfl rfl (.bool true) rfl fun a515 h514 => ?_
  iterate 4 go_step
  have hDM : doM x M P = M := by unfold doM; rw [if_neg (by omega), if_neg (by omega), if_neg (by omega)]
  have hDP : doP x M P = P := by unfold doP; rw [if_neg (by omega), if_neg (by omega), if_neg (by omega)]
  have hTT : Turns (XT K ta ra) w wJ2 := Turns.of_below BJJ2.out
  exact bodyPost_ret (results_tmp1 rfl (h514.known (4, .bool true) (by simp))) h514.defs ⟨rfl, ta, tc, ra, rc, (by rw [hDM, hDP]; exact HSJ2.out), hTT, hb0.trans (hTT.below hb0.size hXA), fun _ => ⟨rfl, rfl, rfl, rfl⟩⟩

end Go.Proofs.YtcackliabemecaaGreatDoor
