/- does, like. (genTxnV.py) -/
import Derived.Test.YtcackliabemecaaGreatDoorTxnQ
namespace Go.Proofs.YtcackliabemecaaGreatDoor
open Go.RowKit
set_option linter.unusedSimpArgs false
set_option linter.unusedVariables false
set_option maxRecDepth 100000

/-- the only operation that is ready, under a guard maybe -/
theorem wpk_onlyW {P : Program} {ops : Array Oper} {Q : Exit → Act → World → Prop} {md : Region.Mode} {S : World → Prop} {oi : Oper} {fuel : Nat} {listed : Array Bool} {a : Act} {w : World} (i : Nat) (hi : ops[i]? = some oi) (hw : Region.wanted oi (yielded ops a.tmps) = true) (hr : Region.ready md ops listed = [i])
    (k : ∀ K : Act → World → Prop, (∀ a' w', S w' → (S w' → wpAnyH P md ops Q S fuel (listed.setIfInBounds i true) a' w') → K a' w') → Oper.wp P oi a w K Q) : wpAnyH P md ops Q S (fuel + 1) listed a w :=
  wpAnyH_ready hr (by simp) (AllReadyH.cons hi (fun K hK => by
    rw [if_pos hw]
    exact k K (Shut.out hK)) AllReadyH.nil)
theorem storeX {v d p : Nat} : ∀ k, (k = v ∨ k = p) → XM v d p k := fun k hk => hk.elim .inl (fun e => .inr (.inr e))
theorem logOk_of {M : MemM} (h : M.V.length = 1024) : LogOk 512 512 M := ⟨by omega, by omega, by omega, by omega⟩
section
variable {w w1 w2 w3 : World} {B : Nat} {K : TK} {ta ra : Option Addr} {tc rc : Nat} {M N : MemM} {P R : List PtM}
theorem ppL (h : SideT w B K ta tc ra rc M P N R) : ¬ XL K ta K.pp := fun hk => by
  obtain ⟨o1, o2, o3, o4, o5, o6, o7, o8, o9, o10, o11, o12⟩ := h.k
  rcases (h.xl _ hk).2 with e | e <;> omega
theorem ppR (h : SideT w B K ta tc ra rc M P N R) : ¬ XR K ra K.pp := fun hk => by
  obtain ⟨o1, o2, o3, o4, o5, o6, o7, o8, o9, o10, o11, o12⟩ := h.k
  rcases (h.xr _ hk).2 with e | e | e <;> omega
theorem turns2 (b : Below w.heap.size w w1) (t : Turns (XL K ta) w1.drew w2) (r : Turns (XR K ra) w2 w3) : Turns (XT K ta ra) w w3 :=
  ((Turns.of_below b).drew.trans (t.mono (fun k hk => .inl hk))).trans (r.mono (fun k hk => .inr hk))
theorem turns2' (b : Below w.heap.size w w1) (t : Turns (XL K ta) w1 w2) (r : Turns (XR K ra) w2 w3) : Turns (XT K ta ra) w w3 :=
  ((Turns.of_below b).trans (t.mono (fun k hk => .inl hk))).trans (r.mono (fun k hk => .inr hk))
end
theorem load1024 {w : World} {g v d p : Nat} {M : MemM} (h : MemP w g v d p M) (hl : M.V.length = 1024) :
    Calls Tryz.prog 10 #[.pointer (some ⟨g, 0, none⟩), .int .i64 0, .int .i64 1024] w fun e w' => ∃ a c, e = .returned (.tuple #[.slice a M.V.length c, .int .i64 0]) ∧ RowB w' a c M.V ∧ Below w.heap.size w w' := by
  refine (load_any h 0 1024 (by omega) (by omega)).mono ?_
  intro e w' z
  unfold LoadP at z
  have hi : inM M 0 1024 = true := (inM_iff M 0 1024).2 (by omega)
  rw [if_pos hi] at z
  obtain ⟨a, c, rfl, o, b⟩ := z
  have hr := o.row
  rw [show ((0 : Int)).toNat = 0 from rfl, show ((1024 : Int)).toNat = 1024 from rfl, List.drop_zero, List.take_of_length_le (by omega)] at hr
  exact ⟨a, c, by rw [hl]; rfl, hr, b⟩
theorem lasts1024 {w : World} {g v d p : Nat} {M : MemM} (h : MemP w g v d p M) (hl : M.V.length = 1024) :
    Calls Tryz.prog 28 #[.pointer (some ⟨g, 0, none⟩), .int .i64 0, .int .i64 1024] w fun e w' => ∃ a c, e = .returned (.tuple #[.slice a M.D.length c, .int .i64 0]) ∧ RowB w' a c M.D ∧ Below w.heap.size w w' := by
  refine (lasts_any h 0 1024 (by omega) (by omega)).mono ?_
  intro e w' z
  unfold LoadP at z
  have hi : inM M 0 1024 = true := (inM_iff M 0 1024).2 (by omega)
  have hd := h.1.1
  rw [if_pos hi] at z
  obtain ⟨a, c, rfl, o, b⟩ := z
  have hr := o.row
  rw [show ((0 : Int)).toNat = 0 from rfl, show ((1024 : Int)).toNat = 1024 from rfl, List.drop_zero, List.take_of_length_le (by omega)] at hr
  exact ⟨a, c, by rw [hd, hl]; rfl, hr, b⟩
theorem row_of_blk {w : World} {g : Nat} {xs : List UInt8} (h : Blk w g 5 (xs.map byteV)) (hl : xs.length ≤ 1000000) : RowB w (some ⟨g, 0, none⟩) xs.length xs := by
  refine ⟨by simp, Nat.le_refl _, by unfold maxLen; omega, fun e => (by cases e), fun _ => ⟨g, 0, rfl, h.lt, fun j u hu => ?_⟩⟩
  have hj : j < (xs.map byteV).length := (List.getElem?_eq_some_iff.1 hu).1
  rw [Nat.zero_add, h.cell hj]
  rw [List.getElem?_eq_getElem hj] at hu
  exact hu
theorem row_of_blkD {w : World} {g v d a : Nat} {M : MemM} (h : MemR w g v d a M) (hl : M.V.length ≤ 1000000) : RowB w (some ⟨d, 0, none⟩) M.V.length M.D := by
  have z := row_of_blk h.2.2.2.2.1 (by rw [h.1.1]; exact hl)
  rw [h.1.1] at z
  exact z
theorem same9D {w : World} {a b : Option Addr} {c d n : Nat} {xs : List UInt8} (e : xs.length = n) (h1 : RowB w a c xs) (h2 : RowB w b d xs) (hl : xs.length ≤ 1000000) :
    Calls Tryz.prog 11 #[.slice a xs.length c, .slice b n d] w fun e w' => e = .returned (.bool true) ∧ Below w.heap.size w w' := by
  subst e
  exact same9T h1 h2 hl
/-- a row lies apart from all that a deed may turn -/
def ApX (K : TK) (ta ra : Option Addr) (a : Option Addr) (n : Nat) : Prop := 0 < n → ∀ b, (∃ off, a = some ⟨b, off, none⟩) → ¬ XT K ta ra b
theorem ApX.le {K : TK} {ta ra a : Option Addr} {n m : Nat} (h : ApX K ta ra a n) (hm : m ≤ n) : ApX K ta ra a m := fun q => h (by omega)
theorem callZ_10 (args : Array Value) (w : World) : (callFunc 10 args).run Tryz.prog w = .ok (.enter 10 args) w := by
  have h := Tryz.func10
  go_simp
theorem callZ_11 (args : Array Value) (w : World) : (callFunc 11 args).run Tryz.prog w = .ok (.enter 11 args) w := by
  have h := Tryz.func11
  go_simp
theorem callZ_12 (args : Array Value) (w : World) : (callFunc 12 args).run Tryz.prog w = .ok (.enter 12 args) w := by
  have h := Tryz.func12
  go_simp
theorem callZ_13 (args : Array Value) (w : World) : (callFunc 13 args).run Tryz.prog w = .ok (.enter 13 args) w := by
  have h := Tryz.func13
  go_simp
theorem callZ_14 (args : Array Value) (w : World) : (callFunc 14 args).run Tryz.prog w = .ok (.enter 14 args) w := by
  have h := Tryz.func14
  go_simp
theorem callZ_15 (args : Array Value) (w : World) : (callFunc 15 args).run Tryz.prog w = .ok (.enter 15 args) w := by
  have h := Tryz.func15
  go_simp
theorem callZ_20 (args : Array Value) (w : World) : (callFunc 20 args).run Tryz.prog w = .ok (.enter 20 args) w := by
  have h := Tryz.func20
  go_simp
theorem callZ_21 (args : Array Value) (w : World) : (callFunc 21 args).run Tryz.prog w = .ok (.enter 21 args) w := by
  have h := Tryz.func21
  go_simp
theorem callZ_22 (args : Array Value) (w : World) : (callFunc 22 args).run Tryz.prog w = .ok (.enter 22 args) w := by
  have h := Tryz.func22
  go_simp
theorem callZ_23 (args : Array Value) (w : World) : (callFunc 23 args).run Tryz.prog w = .ok (.enter 23 args) w := by
  have h := Tryz.func23
  go_simp
theorem callZ_24 (args : Array Value) (w : World) : (callFunc 24 args).run Tryz.prog w = .ok (.enter 24 args) w := by
  have h := Tryz.func24
  go_simp
theorem callZ_25 (args : Array Value) (w : World) : (callFunc 25 args).run Tryz.prog w = .ok (.enter 25 args) w := by
  have h := Tryz.func25
  go_simp
theorem callZ_26 (args : Array Value) (w : World) : (callFunc 26 args).run Tryz.prog w = .ok (.enter 26 args) w := by
  have h := Tryz.func26
  go_simp
theorem callZ_27 (args : Array Value) (w : World) : (callFunc 27 args).run Tryz.prog w = .ok (.enter 27 args) w := by
  have h := Tryz.func27
  go_simp
theorem callZ_28 (args : Array Value) (w : World) : (callFunc 28 args).run Tryz.prog w = .ok (.enter 28 args) w := by
  have h := Tryz.func28
  go_simp
theorem callZ_29 (args : Array Value) (w : World) : (callFunc 29 args).run Tryz.prog w = .ok (.enter 29 args) w := by
  have h := Tryz.func29
  go_simp
theorem faZ_29_0_0 (g : Nat) (w : World) : (Instr.fieldAt 29 (.pointer (some ⟨g, 0, none⟩)) 0).run Tryz.prog w = .ok (.pointer (some ⟨g, 0, none⟩)) w := rfl
theorem faZ_29_0_1 (g : Nat) (w : World) : (Instr.fieldAt 29 (.pointer (some ⟨g, 0, none⟩)) 1).run Tryz.prog w = .ok (.pointer (some ⟨g, 1, none⟩)) w := rfl
theorem faZ_29_0_2 (g : Nat) (w : World) : (Instr.fieldAt 29 (.pointer (some ⟨g, 0, none⟩)) 2).run Tryz.prog w = .ok (.pointer (some ⟨g, 2, none⟩)) w := rfl
theorem faZ_29_0_3 (g : Nat) (w : World) : (Instr.fieldAt 29 (.pointer (some ⟨g, 0, none⟩)) 3).run Tryz.prog w = .ok (.pointer (some ⟨g, 3, none⟩)) w := rfl
theorem faZ_29_0_4 (g : Nat) (w : World) : (Instr.fieldAt 29 (.pointer (some ⟨g, 0, none⟩)) 4).run Tryz.prog w = .ok (.pointer (some ⟨g, 4, none⟩)) w := rfl
theorem faZ_40_0_0 (g : Nat) (w : World) : (Instr.fieldAt 40 (.pointer (some ⟨g, 0, none⟩)) 0).run Tryz.prog w = .ok (.pointer (some ⟨g, 0, none⟩)) w := rfl
theorem faZ_40_0_2 (g : Nat) (w : World) : (Instr.fieldAt 40 (.pointer (some ⟨g, 0, none⟩)) 2).run Tryz.prog w = .ok (.pointer (some ⟨g, 2, none⟩)) w := rfl
theorem faZ_40_0_3 (g : Nat) (w : World) : (Instr.fieldAt 40 (.pointer (some ⟨g, 0, none⟩)) 3).run Tryz.prog w = .ok (.pointer (some ⟨g, 3, none⟩)) w := rfl
theorem faZ_40_0_4 (g : Nat) (w : World) : (Instr.fieldAt 40 (.pointer (some ⟨g, 0, none⟩)) 4).run Tryz.prog w = .ok (.pointer (some ⟨g, 4, none⟩)) w := rfl
theorem faZ_61_0_0 (g : Nat) (w : World) : (Instr.fieldAt 61 (.pointer (some ⟨g, 0, none⟩)) 0).run Tryz.prog w = .ok (.pointer (some ⟨g, 0, none⟩)) w := rfl
theorem faZ_61_0_1 (g : Nat) (w : World) : (Instr.fieldAt 61 (.pointer (some ⟨g, 0, none⟩)) 1).run Tryz.prog w = .ok (.pointer (some ⟨g, 1, none⟩)) w := rfl

set_option maxHeartbeats 16000000 in
theorem does9_own {w : World} {B : Nat} {K : TK} {ta ra : Option Addr} {tc rc : Nat} {M : MemM} {P : List PtM} (h : SideT w B K ta tc ra rc M P M P) (hl : M.V.length = 1024) (htx : TxOk M P) (x : DeedT) (hx : DeedIn w x) (had : ApX K ta ra x.da x.D.length) (hai : ApX K ta ra x.ia x.I.length) :
    Calls Tryz.prog 7 #[.pointer (some ⟨K.pp, 0, none⟩), .agg (deedC x).toArray] w fun e w' => e = .returned (.bool true) ∧ ∃ ta2 tc2 ra2 rc2, SideT w' B K ta2 tc2 ra2 rc2 (doM x M P) (doP x M P) (doM x M P) (doP x M P) ∧ Turns (XT K ta ra) w w' ∧ (x.kind = 4 → ta2 = ta ∧ tc2 = tc ∧ ra2 = ra ∧ rc2 = rc) := by
  have HX := hid hx
  obtain ⟨x1, hx1⟩ : ∃ y : DeedT, y = { x with D := x.D.take 260 } := ⟨_, rfl⟩
  obtain ⟨x2, hx2⟩ : ∃ y : DeedT, y = { x1 with I := x1.I.take 200 } := ⟨_, rfl⟩
  have HX1 : Hid (DeedIn w x1) := hid (by rw [hx1]; exact ⟨rowB_take hx.d 260, hx.i, hx.ok, hx.a, hx.n⟩)
  have HX2 : Hid (DeedIn w x2) := hid (by rw [hx2]; exact ⟨HX1.out.d, rowI_take HX1.out.i 200, fun y hy => HX1.out.ok y (List.mem_of_mem_take hy), HX1.out.a, HX1.out.n⟩)
  have HAD : Hid (ApX K ta ra x2.da x2.D.length) := hid (by rw [hx2, hx1]; exact had.le (by show (x.D.take 260).length ≤ _; rw [List.length_take]; omega))
  have HAI : Hid (ApX K ta ra x2.ia x2.I.length) := hid (by rw [hx2, hx1]; exact hai.le (by show (x.I.take 200).length ≤ _; rw [List.length_take]; omega))
  clear had hai
  clear hx
  go_enter Tryz.func7, Tryz.ntmps7
  iterate 3 go_step
  refine wpl_boxD9 rfl rfl x rfl ?_
  rintro gb wb ⟨hgb, kb⟩ bb
  have HDb := hid kb; have BJb := hid bb; clear kb bb
  refine wpk_enter (N := 147) (l := [(3, .pointer (some ⟨gb, 0, none⟩)), (0, .pointer (some ⟨K.pp, 0, none⟩))]) ⟨rfl, (by intro x hx; simp only [List.mem_cons, List.not_mem_nil, or_false] at hx; rcases hx with rfl | rfl <;> rfl), rfl⟩ fun a2 h1 => ?_
  refine wv h1 rfl rfl rfl rfl (.bool false) rfl fun a4 h3 => ?_
  iterate 3 go_step
  have h5 := h3.subs (l' := [(3, _), (0, _)]) rfl
  clear h3
  refine wp_join (J := fun a' w' => Kn 147 [(3, .pointer (some ⟨gb, 0, none⟩)), (0, .pointer (some ⟨K.pp, 0, none⟩))] a' ∧ Blk w' gb 29 (deedC x1) ∧ Below w.heap.size w w') ?_ ?_
  case refine_1 =>
    by_cases hlen : 260 < x.D.length
    case pos =>
      iterate 3 go_step
      refine wv h5 rfl rfl rfl rfl (.pointer (some ⟨gb, 3, none⟩)) (by unfold execOp; simp only [h5.ev 3 rfl]; exact run_v (faZ_29_0_3 (gb) _)) fun a7 h6 => ?_
      refine wv h6 rfl rfl rfl rfl (.slice x.da x.D.length x.dc) (by unfold execOp; simp only [h6.ev 10 rfl]; exact run_v (loadYP (HDb.out.cell (i := 3) (by show 3 < 5; omega)))) fun a9 h8 => ?_
      refine wv h8 rfl rfl rfl rfl (.int .i64 (x.D.length : Int)) (run_lenBP rfl (h8.ev 11 rfl) _) fun a11 h10 => ?_
      refine wv h10 rfl rfl rfl rfl (.bool true) (by unfold execOp; simp only [h10.ev 12 rfl]; exact run_v (gtIP _ _ _ _ _ (decide_eq_true (by omega)))) fun a13 h12 => ?_
      have h14 := h12.subs (l' := [(13, _), (3, _), (0, _)]) rfl
      clear h12
      iterate 3 go_step
      refine wp_cond (t := true) (h14.ev 13 rfl) ?_
      simp only [if_true]
      have h15 := h14.subs (l' := [(3, _), (0, _)]) rfl
      clear h14
      go_step
      refine wv h15 rfl rfl rfl rfl (.pointer (some ⟨gb, 3, none⟩)) (by unfold execOp; simp only [h15.ev 3 rfl]; exact run_v (faZ_29_0_3 (gb) _)) fun a17 h16 => ?_
      refine wv h16 rfl rfl rfl rfl (.slice x.da x.D.length x.dc) (by unfold execOp; simp only [h16.ev 14 rfl]; exact run_v (loadYP (HDb.out.cell (i := 3) (by show 3 < 5; omega)))) fun a19 h18 => ?_
      refine wv h18 rfl rfl rfl rfl (.slice x.da 260 x.dc) (by unfold execOp; simp only [Option.map_some, Option.map_none, h18.ev 15 rfl]; exact run_v ((sliceH (HX.out.d) 260 (by omega)).1 _)) fun a21 h20 => ?_
      refine wv h20 rfl rfl rfl rfl (.pointer (some ⟨gb, 3, none⟩)) (by unfold execOp; simp only [h20.ev 3 rfl]; exact run_v (faZ_29_0_3 (gb) _)) fun a23 h22 => ?_
      obtain ⟨ws, hws⟩ : ∃ y, y = wb.setCell ⟨gb, 3, none⟩ (.slice x.da 260 x.dc) := ⟨_, rfl⟩
      refine wpk_skipvP h22 (wanted_none rfl) rfl (w' := ws) (by rw [hws]; unfold execOp; simp only [h22.ev 17 rfl, h22.ev 16 rfl]; exact run_uP (storeYP (HDb.out.cell (i := 3) (by show 3 < 5; omega)) (HDb.out.frozen 3) _ _ _)) fun a25 h24 => ?_
      have h26 := h24.subs (l' := [(3, _), (0, _)]) rfl
      clear h24
      iterate 2 go_step
      have gs : wb.grownBy ws (some gb) := by rw [hws]; exact sg_set (sg_refl wb (some gb)) _ _
      have e : deedC x1 = (deedC x).set 3 (.slice x.da 260 x.dc) := by rw [hx1]; exact deed_cut3 x (by omega)
      exact ⟨h26.subs rfl, (by rw [e, hws]; exact HDb.out.set _ _), below_grownS BJb.out gs (by rw [hgb]; exact Nat.le_refl _) BJb.out.size⟩
    case neg =>
      iterate 3 go_step
      refine wv h5 rfl rfl rfl rfl (.pointer (some ⟨gb, 3, none⟩)) (by unfold execOp; simp only [h5.ev 3 rfl]; exact run_v (faZ_29_0_3 (gb) _)) fun a28 h27 => ?_
      refine wv h27 rfl rfl rfl rfl (.slice x.da x.D.length x.dc) (by unfold execOp; simp only [h27.ev 10 rfl]; exact run_v (loadYP (HDb.out.cell (i := 3) (by show 3 < 5; omega)))) fun a30 h29 => ?_
      refine wv h29 rfl rfl rfl rfl (.int .i64 (x.D.length : Int)) (run_lenBP rfl (h29.ev 11 rfl) _) fun a32 h31 => ?_
      refine wv h31 rfl rfl rfl rfl (.bool false) (by unfold execOp; simp only [h31.ev 12 rfl]; exact run_v (gtIP _ _ _ _ _ (decide_eq_false (by omega)))) fun a34 h33 => ?_
      have h35 := h33.subs (l' := [(13, _), (3, _), (0, _)]) rfl
      clear h33
      iterate 3 go_step
      refine wp_cond (t := false) (h35.ev 13 rfl) ?_
      simp only [Bool.false_eq_true, if_false]
      have h36 := h35.subs (l' := [(3, _), (0, _)]) rfl
      clear h35
      iterate 2 go_step
      have e : x1 = x := by rw [hx1]; exact deed_keep3 x (by omega)
      exact ⟨h36.subs rfl, (by rw [e]; exact HDb.out), BJb.out⟩
  rintro aJ1 wJ1 ⟨hJ1, kd, kb⟩
  have HDJ1 := hid kd; have BJJ1 := hid kb; clear kd kb
  refine wp_join (J := fun a' w' => Kn 147 [(3, .pointer (some ⟨gb, 0, none⟩)), (0, .pointer (some ⟨K.pp, 0, none⟩))] a' ∧ Blk w' gb 29 (deedC x2) ∧ Below w.heap.size w w') ?_ ?_
  case refine_1 =>
    by_cases hlen : 200 < x1.I.length
    case pos =>
      iterate 3 go_step
      refine wv hJ1 rfl rfl rfl rfl (.pointer (some ⟨gb, 4, none⟩)) (by unfold execOp; simp only [hJ1.ev 3 rfl]; exact run_v (faZ_29_0_4 (gb) _)) fun a38 h37 => ?_
      refine wv h37 rfl rfl rfl rfl (.slice x1.ia x1.I.length x1.ic) (by unfold execOp; simp only [h37.ev 18 rfl]; exact run_v (loadIS (HDJ1.out.cell (i := 4) (by show 4 < 5; omega)))) fun a40 h39 => ?_
      refine wv h39 rfl rfl rfl rfl (.int .i64 (x1.I.length : Int)) (run_lenIS rfl (h39.ev 19 rfl) _) fun a42 h41 => ?_
      refine wv h41 rfl rfl rfl rfl (.bool true) (by unfold execOp; simp only [h41.ev 20 rfl]; exact run_v (gtIP _ _ _ _ _ (decide_eq_true (by omega)))) fun a44 h43 => ?_
      have h45 := h43.subs (l' := [(21, _), (3, _), (0, _)]) rfl
      clear h43
      iterate 3 go_step
      refine wp_cond (t := true) (h45.ev 21 rfl) ?_
      simp only [if_true]
      have h46 := h45.subs (l' := [(3, _), (0, _)]) rfl
      clear h45
      go_step
      refine wv h46 rfl rfl rfl rfl (.pointer (some ⟨gb, 4, none⟩)) (by unfold execOp; simp only [h46.ev 3 rfl]; exact run_v (faZ_29_0_4 (gb) _)) fun a48 h47 => ?_
      refine wv h47 rfl rfl rfl rfl (.slice x1.ia x1.I.length x1.ic) (by unfold execOp; simp only [h47.ev 22 rfl]; exact run_v (loadIS (HDJ1.out.cell (i := 4) (by show 4 < 5; omega)))) fun a50 h49 => ?_
      refine wv h49 rfl rfl rfl rfl (.slice x1.ia 200 x1.ic) (by unfold execOp; simp only [Option.map_some, Option.map_none, h49.ev 23 rfl]; exact run_v (sliceHI (HX1.out.i) 200 (by omega) _)) fun a52 h51 => ?_
      refine wv h51 rfl rfl rfl rfl (.pointer (some ⟨gb, 4, none⟩)) (by unfold execOp; simp only [h51.ev 3 rfl]; exact run_v (faZ_29_0_4 (gb) _)) fun a54 h53 => ?_
      obtain ⟨ws, hws⟩ : ∃ y, y = wJ1.setCell ⟨gb, 4, none⟩ (.slice x1.ia 200 x1.ic) := ⟨_, rfl⟩
      refine wpk_skipvP h53 (wanted_none rfl) rfl (w' := ws) (by rw [hws]; unfold execOp; simp only [h53.ev 25 rfl, h53.ev 24 rfl]; exact run_uP (storeIS (HDJ1.out.cell (i := 4) (by show 4 < 5; omega)) (HDJ1.out.frozen 4) _ _ _)) fun a56 h55 => ?_
      have h57 := h55.subs (l' := [(3, _), (0, _)]) rfl
      clear h55
      iterate 2 go_step
      have gs : wJ1.grownBy ws (some gb) := by rw [hws]; exact sg_set (sg_refl wJ1 (some gb)) _ _
      have e : deedC x2 = (deedC x1).set 4 (.slice x1.ia 200 x1.ic) := by rw [hx2]; exact deed_cut4 x1 (by omega)
      exact ⟨h57.subs rfl, (by rw [e, hws]; exact HDJ1.out.set _ _), below_grownS BJJ1.out gs (by rw [hgb]; exact Nat.le_refl _) BJJ1.out.size⟩
    case neg =>
      iterate 3 go_step
      refine wv hJ1 rfl rfl rfl rfl (.pointer (some ⟨gb, 4, none⟩)) (by unfold execOp; simp only [hJ1.ev 3 rfl]; exact run_v (faZ_29_0_4 (gb) _)) fun a59 h58 => ?_
      refine wv h58 rfl rfl rfl rfl (.slice x1.ia x1.I.length x1.ic) (by unfold execOp; simp only [h58.ev 18 rfl]; exact run_v (loadIS (HDJ1.out.cell (i := 4) (by show 4 < 5; omega)))) fun a61 h60 => ?_
      refine wv h60 rfl rfl rfl rfl (.int .i64 (x1.I.length : Int)) (run_lenIS rfl (h60.ev 19 rfl) _) fun a63 h62 => ?_
      refine wv h62 rfl rfl rfl rfl (.bool false) (by unfold execOp; simp only [h62.ev 20 rfl]; exact run_v (gtIP _ _ _ _ _ (decide_eq_false (by omega)))) fun a65 h64 => ?_
      have h66 := h64.subs (l' := [(21, _), (3, _), (0, _)]) rfl
      clear h64
      iterate 3 go_step
      refine wp_cond (t := false) (h66.ev 21 rfl) ?_
      simp only [Bool.false_eq_true, if_false]
      have h67 := h66.subs (l' := [(3, _), (0, _)]) rfl
      clear h66
      iterate 2 go_step
      have e : x2 = x1 := by rw [hx2]; exact deed_keep4 x1 (by omega)
      exact ⟨h67.subs rfl, (by rw [e]; exact HDJ1.out), BJJ1.out⟩
  rintro aJ2 wJ2 ⟨hJ2, kd, kb⟩
  have HDJ2 := hid kd; have BJJ2 := hid kb; clear kd kb
  have HSJ2 := hid (h.mono BJJ2.out)
  have hkd : x2.kind = x.kind := by rw [hx2, hx1]
  have hat : x2.at_ = x.at_ := by rw [hx2, hx1]
  have hD2 : x2.D = x.D.take 260 := by rw [hx2, hx1]
  have hI2 : x2.I = x.I.take 200 := by rw [hx2, hx1]
  have hDl : x2.D.length ≤ 260 := by rw [hD2, List.length_take]; omega
  have hXT := h.lt; have hlog := logOk_of hl
  go_step
  by_cases e0 : x.kind = 0
  case pos =>
    have hk0 : (x2.kind == 0) = true := by rw [hkd, e0]; rfl
    iterate 2 go_step
    refine wv hJ2 rfl rfl rfl rfl (.pointer (some ⟨gb, 0, none⟩)) (by unfold execOp; simp only [hJ2.ev 3 rfl]; exact run_v (faZ_29_0_0 (gb) _)) fun a69 h68 => ?_
    refine wv h68 rfl rfl rfl rfl (.int .i64 x2.kind) (by unfold execOp; simp only [h68.ev 26 rfl]; exact run_v (loadIP (HDJ2.out.cell (i := 0) (by show 0 < 5; omega)))) fun a71 h70 => ?_
    have h72 := h70.subs (l' := [(27, _), (3, _), (0, _)]) rfl
    clear h70
    iterate 6 go_step
    refine wv h72 rfl rfl rfl rfl (.bool true) (by unfold execOp; simp only [h72.ev 27 rfl]; exact run_v (eqIP _ _ _ _ _ hk0)) fun a74 h73 => ?_
    refine wmk h73 rfl rfl rfl rfl 29 rfl (fun _ => rfl) fun a76 h75 => ?_
    have h77 := h75.subs (l' := [(28, _), (27, _), (3, _), (0, _)]) rfl
    clear h75
    iterate 3 go_step
    refine wp_cond (t := true) (h77.ev 28 rfl) ?_
    simp only [if_true]
    have h78 := h77.subs (l' := [(27, _), (3, _), (0, _)]) rfl
    clear h77
    go_step
    have HSd := hid (HSJ2.out.mono (Below.refl _ _).drew); have HDd := hid (HDJ2.out.mono (Below.refl _ _).drew)
    refine wp_region_held_drew (S := fun w' => Blk w' K.pp 40 [.pointer (some ⟨K.g, 0, none⟩), .pointer (some ⟨K.lg, 0, none⟩), .pointer (some ⟨K.tg, 0, none⟩), .pointer (some ⟨K.gr, 0, none⟩), .pointer (some ⟨K.dt, 0, none⟩)] ∧ Blk w' gb 29 (deedC x2)) (by kernel_rfl) ⟨HSd.out.t.q, HDd.out⟩ (fun hS1 => ?_)
    refine tkm hS1 h78 0 0 rfl rfl rfl rfl (by kernel_rfl) (fun _ _ _ _ h => h) rfl (fun _ => rfl) rfl fun a80 h79 => ?_
    refine tkn hS1 h79 1 30 rfl rfl rfl rfl (by kernel_rfl) (fun _ _ _ _ h => h) rfl rfl rfl fun a82 h81 => ?_
    refine tkf hS1 h81 2 31 rfl rfl rfl rfl (by kernel_rfl) (fun _ _ _ _ h => h) rfl rfl rfl (fun w => faZ_40_0_2 _ w) fun a84 h83 => ?_
    refine tkl hS1 h83 3 32 rfl rfl rfl rfl (by kernel_rfl) (fun _ _ _ _ h => h) rfl rfl rfl (fun _ hSw => (loadTP (hSw.1.cell (i := 2) (by show 2 < 5; omega)))) fun a86 h85 => ?_
    refine tkf hS1 h85 4 3 rfl rfl rfl rfl (by kernel_rfl) (fun _ _ _ _ h => h) rfl rfl rfl (fun w => faZ_29_0_1 _ w) fun a88 h87 => ?_
    refine tkl hS1 h87 5 34 rfl rfl rfl rfl (by kernel_rfl) (fun _ _ _ _ h => h) rfl rfl rfl (fun _ hSw => (loadIP (hSw.2.cell (i := 1) (by show 1 < 5; omega)))) fun a90 h89 => ?_
    refine tkf hS1 h89 6 3 rfl rfl rfl rfl (by kernel_rfl) (fun _ _ _ _ h => h) rfl rfl rfl (fun w => faZ_29_0_3 _ w) fun a92 h91 => ?_
    refine tkl hS1 h91 7 36 rfl rfl rfl rfl (by kernel_rfl) (fun _ _ _ _ h => h) rfl rfl rfl (fun _ hSw => (loadYP (hSw.2.cell (i := 3) (by show 3 < 5; omega)))) fun a94 h93 => ?_
    refine tkm hS1 h93 9 0 rfl rfl rfl rfl (by kernel_rfl) (fun _ _ _ _ h => h) rfl (fun _ => rfl) rfl fun a96 h95 => ?_
    refine tkn hS1 h95 10 39 rfl rfl rfl rfl (by kernel_rfl) (fun _ _ _ _ h => h) rfl rfl rfl fun a98 h97 => ?_
    refine tkf hS1 h97 11 40 rfl rfl rfl rfl (by kernel_rfl) (fun _ _ _ _ h => h) rfl rfl rfl (fun w => faZ_40_0_4 _ w) fun a100 h99 => ?_
    refine tkl hS1 h99 12 41 rfl rfl rfl rfl (by kernel_rfl) (fun _ _ _ _ h => h) rfl rfl rfl (fun _ hSw => (loadTx9 (hSw.1.cell (i := 4) (by show 4 < 5; omega)))) fun a102 h101 => ?_
    refine tkf hS1 h101 13 3 rfl rfl rfl rfl (by kernel_rfl) (fun _ _ _ _ h => h) rfl rfl rfl (fun w => faZ_29_0_1 _ w) fun a104 h103 => ?_
    refine tkl hS1 h103 14 43 rfl rfl rfl rfl (by kernel_rfl) (fun _ _ _ _ h => h) rfl rfl rfl (fun _ hSw => (loadIP (hSw.2.cell (i := 1) (by show 1 < 5; omega)))) fun a106 h105 => ?_
    refine tkf hS1 h105 15 3 rfl rfl rfl rfl (by kernel_rfl) (fun _ _ _ _ h => h) rfl rfl rfl (fun w => faZ_29_0_3 _ w) fun a108 h107 => ?_
    refine tkl hS1 h107 16 45 rfl rfl rfl rfl (by kernel_rfl) (fun _ _ _ _ h => h) rfl rfl rfl (fun _ hSw => (loadYP (hSw.2.cell (i := 3) (by show 3 < 5; omega)))) fun a110 h109 => ?_
    refine wpk_only 8 rfl rfl (by kernel_rfl) fun KK hK => op_call h109 rfl (by decide) (fr rfl) (fun args => callZ_20 args _) rfl #[.pointer (some ⟨K.tg, 0, none⟩), .int .i64 x2.at_, .slice x2.da x2.D.length x2.dc] (by simp only [List.map_toArray, List.map_cons, List.map_nil, h109.ev 33 rfl, h109.ev 35 rfl, h109.ev 37 rfl]) (R := fun v' w' => v' = .int .i64 (errT M P x2.at_ x2.D.length) ∧ (∃ ta2 tc2, SideT w' B K ta2 tc2 ra rc M (putT M P x2.at_ x2.D) M P) ∧ Turns (XL K ta) wJ2.drew w') ((HSd.out.storeL (by omega) htx.n (HX2.out.d.below BJJ2.out.drew) (by omega) HX2.out.a).mono fun e w' q => by obtain ⟨q1, x1, y1, q2, q3⟩ := q; exact ⟨_, q1, rfl, ⟨x1, y1, q2⟩, q3⟩) fun a112 vl wl rl h111 => hK _ _ (by obtain ⟨p1, ⟨x1, y1, p2⟩, p3⟩ := rl; exact ⟨p3.blk hS1.1 (ppL HSd.out), p3.blk hS1.2 (fun e => by have := hXT _ (.inl e); omega)⟩) fun hS2 => ?_
    clear hK KK
    obtain ⟨rfl, ⟨ta2, tc2, sl⟩, tl⟩ := rl; have HSl := hid sl; have Tl := hid tl; clear sl tl
    refine wpk_only 17 rfl rfl (by kernel_rfl) fun KK hK => op_call h111 rfl (by decide) (fr rfl) (fun args => callZ_21 args _) rfl #[.pointer (some ⟨K.dt, 0, none⟩), .int .i64 x2.at_, .slice x2.da x2.D.length x2.dc] (by simp only [List.map_toArray, List.map_cons, List.map_nil, h111.ev 42 rfl, h111.ev 44 rfl, h111.ev 46 rfl]) (R := fun v' w' => v' = .int .i64 (errT M P x2.at_ x2.D.length) ∧ (∃ ra2 rc2, SideT w' B K ta2 tc2 ra2 rc2 M (putT M P x2.at_ x2.D) M (putT M P x2.at_ x2.D)) ∧ Turns (XR K ra) wl w') ((HSl.out.storeR (by omega) htx.n (Tl.out.row (HX2.out.d.below BJJ2.out.drew) (fun a b c d => HAD.out a b c (.inl d))) (by omega) HX2.out.a).mono fun e w' q => by obtain ⟨q1, x1, y1, q2, q3⟩ := q; exact ⟨_, q1, rfl, ⟨x1, y1, q2⟩, q3⟩) fun a114 vr_ wr_ rr_ h113 => hK _ _ (by obtain ⟨p1, ⟨x1, y1, p2⟩, p3⟩ := rr_; exact ⟨p3.blk hS2.1 (ppR HSl.out), p3.blk hS2.2 (fun e => by have := hXT _ (.inr e); omega)⟩) fun hS3 => ?_
    clear hK KK
    obtain ⟨rfl, ⟨ra2, rc2, sr⟩, tr⟩ := rr_; have HSr := hid sr; have Tr := hid tr; clear sr tr
    refine wpk_take hS3 h113 18 rfl rfl (by decide) (fr rfl) (by kernel_rfl) (by kernel_rfl) (by kernel_rfl) (fun _ _ _ _ h => h) (.bool true) (Or.inl ⟨Eq.refl true, fun w1 hSw => (by show (execOp _ (⟨_, .binOp .eql 32 (.tmp 38) (.tmp 47) 32, _, _, _, _⟩ : Oper)).run _ _ = _; exact (by unfold execOp; simp only [h113.ev 38 rfl, h113.ev 47 rfl]; exact run_v (eqEP _ _ _ _ _ (by simp))))⟩) fun a116 h115 => ?_
    refine tkm hS3 h115 19 48 rfl rfl rfl rfl (by kernel_rfl) (fun _ _ _ _ h => h) rfl (fun _ => rfl) rfl fun a118 h117 => ?_
    refine wpAnyH_done (by kernel_rfl) ?_ _
    have h119 := h117.subs (l' := [(4, _), (27, _), (3, _), (0, _)]) rfl
    clear h117
    iterate 3 go_step
    simp only [Exit.then, Exit.inBlock]
    have hDM : doM x M P = M := by unfold doM; rw [if_neg (by omega), if_neg (by omega), if_neg (by omega)]
    have hDP : doP x M P = putT M P x2.at_ x2.D := by unfold doP; rw [if_pos (by omega), hat, hD2]
    have hTT : Turns (XT K ta ra) w wr_ := turns2 BJJ2.out Tl.out Tr.out
    exact bodyPost_ret (results_tmp1 rfl (h119.known (4, .bool true) (by simp))) h119.defs ⟨rfl, ta2, tc2, ra2, rc2, (by rw [hDM, hDP]; exact HSr.out), hTT, fun q => absurd q (by omega)⟩
  by_cases e1 : x.kind = 1
  case pos =>
    have hk0 : (x2.kind == 0) = false := by rw [hkd, e1]; rfl
    have hk1 : (x2.kind == 1) = true := by rw [hkd, e1]; rfl
    iterate 2 go_step
    refine wv hJ2 rfl rfl rfl rfl (.pointer (some ⟨gb, 0, none⟩)) (by unfold execOp; simp only [hJ2.ev 3 rfl]; exact run_v (faZ_29_0_0 (gb) _)) fun a121 h120 => ?_
    refine wv h120 rfl rfl rfl rfl (.int .i64 x2.kind) (by unfold execOp; simp only [h120.ev 26 rfl]; exact run_v (loadIP (HDJ2.out.cell (i := 0) (by show 0 < 5; omega)))) fun a123 h122 => ?_
    have h124 := h122.subs (l' := [(27, _), (3, _), (0, _)]) rfl
    clear h122
    iterate 6 go_step
    refine wv h124 rfl rfl rfl rfl (.bool false) (by unfold execOp; simp only [h124.ev 27 rfl]; exact run_v (eqIP _ _ _ _ _ hk0)) fun a126 h125 => ?_
    refine wmk h125 rfl rfl rfl rfl 29 rfl (fun _ => rfl) fun a128 h127 => ?_
    have h129 := h127.subs (l' := [(28, _), (27, _), (3, _), (0, _)]) rfl
    clear h127
    iterate 3 go_step
    refine wp_cond (t := false) (h129.ev 28 rfl) ?_
    simp only [Bool.false_eq_true, if_false]
    have h130 := h129.subs (l' := [(27, _), (3, _), (0, _)]) rfl
    clear h129
    iterate 2 go_step
    refine wv h130 rfl rfl rfl rfl (.bool true) (by unfold execOp; simp only [h130.ev 27 rfl]; exact run_v (eqIP _ _ _ _ _ hk1)) fun a132 h131 => ?_
    refine wmk h131 rfl rfl rfl rfl 50 rfl (fun _ => rfl) fun a134 h133 => ?_
    have h135 := h133.subs (l' := [(49, _), (27, _), (3, _), (0, _)]) rfl
    clear h133
    iterate 3 go_step
    refine wp_cond (t := true) (h135.ev 49 rfl) ?_
    simp only [if_true]
    have h136 := h135.subs (l' := [(27, _), (3, _), (0, _)]) rfl
    clear h135
    go_step
    have HSd := hid (HSJ2.out.mono (Below.refl _ _).drew); have HDd := hid (HDJ2.out.mono (Below.refl _ _).drew)
    refine wp_region_held_drew (S := fun w' => Blk w' K.pp 40 [.pointer (some ⟨K.g, 0, none⟩), .pointer (some ⟨K.lg, 0, none⟩), .pointer (some ⟨K.tg, 0, none⟩), .pointer (some ⟨K.gr, 0, none⟩), .pointer (some ⟨K.dt, 0, none⟩)] ∧ Blk w' gb 29 (deedC x2)) (by kernel_rfl) ⟨HSd.out.t.q, HDd.out⟩ (fun hS1 => ?_)
    refine tkm hS1 h136 0 0 rfl rfl rfl rfl (by kernel_rfl) (fun _ _ _ _ h => h) rfl (fun _ => rfl) rfl fun a138 h137 => ?_
    refine tkn hS1 h137 1 51 rfl rfl rfl rfl (by kernel_rfl) (fun _ _ _ _ h => h) rfl rfl rfl fun a140 h139 => ?_
    refine tkf hS1 h139 2 52 rfl rfl rfl rfl (by kernel_rfl) (fun _ _ _ _ h => h) rfl rfl rfl (fun w => faZ_40_0_2 _ w) fun a142 h141 => ?_
    refine tkl hS1 h141 3 53 rfl rfl rfl rfl (by kernel_rfl) (fun _ _ _ _ h => h) rfl rfl rfl (fun _ hSw => (loadTP (hSw.1.cell (i := 2) (by show 2 < 5; omega)))) fun a144 h143 => ?_
    refine tkm hS1 h143 5 0 rfl rfl rfl rfl (by kernel_rfl) (fun _ _ _ _ h => h) rfl (fun _ => rfl) rfl fun a146 h145 => ?_
    refine tkn hS1 h145 6 56 rfl rfl rfl rfl (by kernel_rfl) (fun _ _ _ _ h => h) rfl rfl rfl fun a148 h147 => ?_
    refine tkf hS1 h147 7 57 rfl rfl rfl rfl (by kernel_rfl) (fun _ _ _ _ h => h) rfl rfl rfl (fun w => faZ_40_0_4 _ w) fun a150 h149 => ?_
    refine tkl hS1 h149 8 58 rfl rfl rfl rfl (by kernel_rfl) (fun _ _ _ _ h => h) rfl rfl rfl (fun _ hSw => (loadTx9 (hSw.1.cell (i := 4) (by show 4 < 5; omega)))) fun a152 h151 => ?_
    refine wpk_only 4 rfl rfl (by kernel_rfl) fun KK hK => op_call h151 rfl (by decide) (fr rfl) (fun args => callZ_13 args _) rfl #[.pointer (some ⟨K.tg, 0, none⟩)] (by simp only [List.map_toArray, List.map_cons, List.map_nil, h151.ev 54 rfl]) (R := fun v' w' => v' = .int .i64 (comE M P) ∧ (∃ ta2 tc2, SideT w' B K ta2 tc2 ra rc (comM M P) (comP M P) M P) ∧ Turns (XL K ta) wJ2.drew w') ((HSd.out.commitL hlog htx).mono fun e w' q => by obtain ⟨q1, x1, y1, q2, q3⟩ := q; exact ⟨_, q1, rfl, ⟨x1, y1, q2⟩, q3⟩) fun a154 vl wl rl h153 => hK _ _ (by obtain ⟨p1, ⟨x1, y1, p2⟩, p3⟩ := rl; exact ⟨p3.blk hS1.1 (ppL HSd.out), p3.blk hS1.2 (fun e => by have := hXT _ (.inl e); omega)⟩) fun hS2 => ?_
    clear hK KK
    obtain ⟨rfl, ⟨ta2, tc2, sl⟩, tl⟩ := rl; have HSl := hid sl; have Tl := hid tl; clear sl tl
    refine wpk_only 9 rfl rfl (by kernel_rfl) fun KK hK => op_call h153 rfl (by decide) (fr rfl) (fun args => callZ_22 args _) rfl #[.pointer (some ⟨K.dt, 0, none⟩)] (by simp only [List.map_toArray, List.map_cons, List.map_nil, h153.ev 59 rfl]) (R := fun v' w' => v' = .int .i64 (comE M P) ∧ (∃ ra2 rc2, SideT w' B K ta2 tc2 ra2 rc2 (comM M P) (comP M P) (comM M P) (comP M P)) ∧ Turns (XR K ra) wl w') ((HSl.out.commitR hlog htx).mono fun e w' q => by obtain ⟨q1, x1, y1, q2, q3⟩ := q; exact ⟨_, q1, rfl, ⟨x1, y1, q2⟩, q3⟩) fun a156 vr_ wr_ rr_ h155 => hK _ _ (by obtain ⟨p1, ⟨x1, y1, p2⟩, p3⟩ := rr_; exact ⟨p3.blk hS2.1 (ppR HSl.out), p3.blk hS2.2 (fun e => by have := hXT _ (.inr e); omega)⟩) fun hS3 => ?_
    clear hK KK
    obtain ⟨rfl, ⟨ra2, rc2, sr⟩, tr⟩ := rr_; have HSr := hid sr; have Tr := hid tr; clear sr tr
    refine wpk_take hS3 h155 10 rfl rfl (by decide) (fr rfl) (by kernel_rfl) (by kernel_rfl) (by kernel_rfl) (fun _ _ _ _ h => h) (.bool true) (Or.inl ⟨Eq.refl true, fun w1 hSw => (by show (execOp _ (⟨_, .binOp .eql 32 (.tmp 55) (.tmp 60) 32, _, _, _, _⟩ : Oper)).run _ _ = _; exact (by unfold execOp; simp only [h155.ev 55 rfl, h155.ev 60 rfl]; exact run_v (eqEP _ _ _ _ _ (by simp))))⟩) fun a158 h157 => ?_
    refine tkm hS3 h157 11 61 rfl rfl rfl rfl (by kernel_rfl) (fun _ _ _ _ h => h) rfl (fun _ => rfl) rfl fun a160 h159 => ?_
    refine wpAnyH_done (by kernel_rfl) ?_ _
    have h161 := h159.subs (l' := [(4, _), (27, _), (3, _), (0, _)]) rfl
    clear h159
    iterate 3 go_step
    simp only [Exit.then, Exit.inBlock]
    have hDM : doM x M P = comM M P := by unfold doM; rw [if_pos (by omega)]
    have hDP : doP x M P = comP M P := by unfold doP; rw [if_neg (by omega), if_pos (by omega)]
    have hTT : Turns (XT K ta ra) w wr_ := turns2 BJJ2.out Tl.out Tr.out
    exact bodyPost_ret (results_tmp1 rfl (h161.known (4, .bool true) (by simp))) h161.defs ⟨rfl, ta2, tc2, ra2, rc2, (by rw [hDM, hDP]; exact HSr.out), hTT, fun q => absurd q (by omega)⟩
  by_cases e2 : x.kind = 2
  case pos =>
    have hk0 : (x2.kind == 0) = false := by rw [hkd, e2]; rfl
    have hk1 : (x2.kind == 1) = false := by rw [hkd, e2]; rfl
    have hk2 : (x2.kind == 2) = true := by rw [hkd, e2]; rfl
    iterate 2 go_step
    refine wv hJ2 rfl rfl rfl rfl (.pointer (some ⟨gb, 0, none⟩)) (by unfold execOp; simp only [hJ2.ev 3 rfl]; exact run_v (faZ_29_0_0 (gb) _)) fun a163 h162 => ?_
    refine wv h162 rfl rfl rfl rfl (.int .i64 x2.kind) (by unfold execOp; simp only [h162.ev 26 rfl]; exact run_v (loadIP (HDJ2.out.cell (i := 0) (by show 0 < 5; omega)))) fun a165 h164 => ?_
    have h166 := h164.subs (l' := [(27, _), (3, _), (0, _)]) rfl
    clear h164
    iterate 6 go_step
    refine wv h166 rfl rfl rfl rfl (.bool false) (by unfold execOp; simp only [h166.ev 27 rfl]; exact run_v (eqIP _ _ _ _ _ hk0)) fun a168 h167 => ?_
    refine wmk h167 rfl rfl rfl rfl 29 rfl (fun _ => rfl) fun a170 h169 => ?_
    have h171 := h169.subs (l' := [(28, _), (27, _), (3, _), (0, _)]) rfl
    clear h169
    iterate 3 go_step
    refine wp_cond (t := false) (h171.ev 28 rfl) ?_
    simp only [Bool.false_eq_true, if_false]
    have h172 := h171.subs (l' := [(27, _), (3, _), (0, _)]) rfl
    clear h171
    iterate 2 go_step
    refine wv h172 rfl rfl rfl rfl (.bool false) (by unfold execOp; simp only [h172.ev 27 rfl]; exact run_v (eqIP _ _ _ _ _ hk1)) fun a174 h173 => ?_
    refine wmk h173 rfl rfl rfl rfl 50 rfl (fun _ => rfl) fun a176 h175 => ?_
    have h177 := h175.subs (l' := [(49, _), (27, _), (3, _), (0, _)]) rfl
    clear h175
    iterate 3 go_step
    refine wp_cond (t := false) (h177.ev 49 rfl) ?_
    simp only [Bool.false_eq_true, if_false]
    have h178 := h177.subs (l' := [(27, _), (3, _), (0, _)]) rfl
    clear h177
    iterate 2 go_step
    refine wv h178 rfl rfl rfl rfl (.bool true) (by unfold execOp; simp only [h178.ev 27 rfl]; exact run_v (eqIP _ _ _ _ _ hk2)) fun a180 h179 => ?_
    refine wmk h179 rfl rfl rfl rfl 63 rfl (fun _ => rfl) fun a182 h181 => ?_
    have h183 := h181.subs (l' := [(62, _), (27, _), (3, _), (0, _)]) rfl
    clear h181
    iterate 3 go_step
    refine wp_cond (t := true) (h183.ev 62 rfl) ?_
    simp only [if_true]
    have h184 := h183.subs (l' := [(27, _), (3, _), (0, _)]) rfl
    clear h183
    iterate 2 go_step
    refine wmk h184 rfl rfl rfl rfl 0 rfl (fun _ => rfl) fun a186 h185 => ?_
    refine wv h185 rfl rfl rfl rfl (.pointer (some ⟨K.pp, 0, none⟩)) (by unfold execOp; simp only [h185.ev 64 rfl]; exact rfl) fun a188 h187 => ?_
    refine wv h187 rfl rfl rfl rfl (.pointer (some ⟨K.pp, 2, none⟩)) (by unfold execOp; simp only [h187.ev 65 rfl]; exact run_v (faZ_40_0_2 (K.pp) _)) fun a190 h189 => ?_
    refine wv h189 rfl rfl rfl rfl (.pointer (some ⟨K.tg, 0, none⟩)) (by unfold execOp; simp only [h189.ev 66 rfl]; exact run_v (loadTP (HSJ2.out.t.q.cell (i := 2) (by show 2 < 5; omega)))) fun a192 h191 => ?_
    refine wpk_call h191 (wanted_none rfl) rfl (by decide) (fr rfl) (fun args => callZ_12 args _) rfl #[.pointer (some ⟨K.tg, 0, none⟩)] (by simp only [List.map_toArray, List.map_cons, List.map_nil, h191.ev 67 rfl]) (R := fun v' w' => SideT w' B K none 0 ra rc M [] M P ∧ Turns (XL K ta) wJ2 w') (HSJ2.out.dropL) fun a194 vl wl rl h193 => ?_
    have HSl := hid rl.1; have Tl := hid rl.2; clear rl
    have h195 := h193.subs (l' := [(27, _), (3, _), (0, _)]) rfl
    clear h193
    iterate 4 go_step
    refine wmk h195 rfl rfl rfl rfl 0 rfl (fun _ => rfl) fun a197 h196 => ?_
    refine wv h196 rfl rfl rfl rfl (.pointer (some ⟨K.pp, 0, none⟩)) (by unfold execOp; simp only [h196.ev 69 rfl]; exact rfl) fun a199 h198 => ?_
    refine wv h198 rfl rfl rfl rfl (.pointer (some ⟨K.pp, 4, none⟩)) (by unfold execOp; simp only [h198.ev 70 rfl]; exact run_v (faZ_40_0_4 (K.pp) _)) fun a201 h200 => ?_
    refine wv h200 rfl rfl rfl rfl (.pointer (some ⟨K.dt, 0, none⟩)) (by unfold execOp; simp only [h200.ev 71 rfl]; exact run_v (loadTx9 (HSl.out.t.q.cell (i := 4) (by show 4 < 5; omega)))) fun a203 h202 => ?_
    refine wv h202 rfl rfl rfl rfl (.pointer (some ⟨K.dt, 0, none⟩)) (by unfold execOp; simp only [h202.ev 72 rfl]; exact rfl) fun a205 h204 => ?_
    refine wv h204 rfl rfl rfl rfl (.pointer (some ⟨K.dt, 2, none⟩)) (by unfold execOp; simp only [h204.ev 73 rfl]; exact run_v (faZ_56_0_2 (K.dt) _)) fun a207 h206 => ?_
    obtain ⟨wd, hwd⟩ : ∃ y, y = wl.setCell ⟨K.dt, 2, none⟩ (.slice none 0 0) := ⟨_, rfl⟩
    refine wpk_skipvP h206 (wanted_none rfl) rfl (w' := wd) (by rw [hwd]; unfold execOp; simp only [h206.ev 74 rfl]; exact run_uP (storeTP (HSl.out.d.cell (i := 2) (by show 2 < 3; omega)) (HSl.out.d.frozen 2) _ _ _)) fun a209 h208 => ?_
    obtain ⟨sd, td⟩ := HSl.out.dropR hwd; have HSr := hid sd; have Tr := hid td; clear sd td hwd
    have h210 := h208.subs (l' := [(27, _), (3, _), (0, _)]) rfl
    clear h208
    iterate 5 go_step
    refine wv h210 rfl rfl rfl rfl (.bool true) rfl fun a212 h211 => ?_
    iterate 4 go_step
    have hDM : doM x M P = M := by unfold doM; rw [if_neg (by omega), if_neg (by omega), if_neg (by omega)]
    have hDP : doP x M P = [] := by unfold doP; rw [if_neg (by omega), if_neg (by omega), if_pos (by omega)]
    have hTT : Turns (XT K ta ra) w wd := turns2' BJJ2.out Tl.out Tr.out
    exact bodyPost_ret (results_tmp1 rfl (h211.known (4, .bool true) (by simp))) h211.defs ⟨rfl, none, 0, none, 0, (by rw [hDM, hDP]; exact HSr.out), hTT, fun q => absurd q (by omega)⟩
  by_cases e3 : x.kind = 3
  case pos =>
    have hk0 : (x2.kind == 0) = false := by rw [hkd, e3]; rfl
    have hk1 : (x2.kind == 1) = false := by rw [hkd, e3]; rfl
    have hk2 : (x2.kind == 2) = false := by rw [hkd, e3]; rfl
    have hk3 : (x2.kind == 3) = true := by rw [hkd, e3]; rfl
    iterate 2 go_step
    refine wv hJ2 rfl rfl rfl rfl (.pointer (some ⟨gb, 0, none⟩)) (by unfold execOp; simp only [hJ2.ev 3 rfl]; exact run_v (faZ_29_0_0 (gb) _)) fun a214 h213 => ?_
    refine wv h213 rfl rfl rfl rfl (.int .i64 x2.kind) (by unfold execOp; simp only [h213.ev 26 rfl]; exact run_v (loadIP (HDJ2.out.cell (i := 0) (by show 0 < 5; omega)))) fun a216 h215 => ?_
    have h217 := h215.subs (l' := [(27, _), (3, _), (0, _)]) rfl
    clear h215
    iterate 6 go_step
    refine wv h217 rfl rfl rfl rfl (.bool false) (by unfold execOp; simp only [h217.ev 27 rfl]; exact run_v (eqIP _ _ _ _ _ hk0)) fun a219 h218 => ?_
    refine wmk h218 rfl rfl rfl rfl 29 rfl (fun _ => rfl) fun a221 h220 => ?_
    have h222 := h220.subs (l' := [(28, _), (27, _), (3, _), (0, _)]) rfl
    clear h220
    iterate 3 go_step
    refine wp_cond (t := false) (h222.ev 28 rfl) ?_
    simp only [Bool.false_eq_true, if_false]
    have h223 := h222.subs (l' := [(27, _), (3, _), (0, _)]) rfl
    clear h222
    iterate 2 go_step
    refine wv h223 rfl rfl rfl rfl (.bool false) (by unfold execOp; simp only [h223.ev 27 rfl]; exact run_v (eqIP _ _ _ _ _ hk1)) fun a225 h224 => ?_
    refine wmk h224 rfl rfl rfl rfl 50 rfl (fun _ => rfl) fun a227 h226 => ?_
    have h228 := h226.subs (l' := [(49, _), (27, _), (3, _), (0, _)]) rfl
    clear h226
    iterate 3 go_step
    refine wp_cond (t := false) (h228.ev 49 rfl) ?_
    simp only [Bool.false_eq_true, if_false]
    have h229 := h228.subs (l' := [(27, _), (3, _), (0, _)]) rfl
    clear h228
    iterate 2 go_step
    refine wv h229 rfl rfl rfl rfl (.bool false) (by unfold execOp; simp only [h229.ev 27 rfl]; exact run_v (eqIP _ _ _ _ _ hk2)) fun a231 h230 => ?_
    refine wmk h230 rfl rfl rfl rfl 63 rfl (fun _ => rfl) fun a233 h232 => ?_
    have h234 := h232.subs (l' := [(62, _), (27, _), (3, _), (0, _)]) rfl
    clear h232
    iterate 3 go_step
    refine wp_cond (t := false) (h234.ev 62 rfl) ?_
    simp only [Bool.false_eq_true, if_false]
    have h235 := h234.subs (l' := [(27, _), (3, _), (0, _)]) rfl
    clear h234
    iterate 2 go_step
    refine wv h235 rfl rfl rfl rfl (.bool true) (by unfold execOp; simp only [h235.ev 27 rfl]; exact run_v (eqIP _ _ _ _ _ hk3)) fun a237 h236 => ?_
    refine wmk h236 rfl rfl rfl rfl 76 rfl (fun _ => rfl) fun a239 h238 => ?_
    have h240 := h238.subs (l' := [(75, _), (27, _), (3, _), (0, _)]) rfl
    clear h238
    iterate 3 go_step
    refine wp_cond (t := true) (h240.ev 75 rfl) ?_
    simp only [if_true]
    have h241 := h240.subs (l' := [(27, _), (3, _), (0, _)]) rfl
    clear h240
    go_step
    have HSd := hid (HSJ2.out.mono (Below.refl _ _).drew); have HDd := hid (HDJ2.out.mono (Below.refl _ _).drew)
    refine wp_region_held_drew (S := fun w' => Blk w' K.pp 40 [.pointer (some ⟨K.g, 0, none⟩), .pointer (some ⟨K.lg, 0, none⟩), .pointer (some ⟨K.tg, 0, none⟩), .pointer (some ⟨K.gr, 0, none⟩), .pointer (some ⟨K.dt, 0, none⟩)] ∧ Blk w' gb 29 (deedC x2)) (by kernel_rfl) ⟨HSd.out.t.q, HDd.out⟩ (fun hS1 => ?_)
    refine tkm hS1 h241 0 0 rfl rfl rfl rfl (by kernel_rfl) (fun _ _ _ _ h => h) rfl (fun _ => rfl) rfl fun a243 h242 => ?_
    refine tkn hS1 h242 1 77 rfl rfl rfl rfl (by kernel_rfl) (fun _ _ _ _ h => h) rfl rfl rfl fun a245 h244 => ?_
    refine tkf hS1 h244 2 78 rfl rfl rfl rfl (by kernel_rfl) (fun _ _ _ _ h => h) rfl rfl rfl (fun w => faZ_40_0_0 _ w) fun a247 h246 => ?_
    refine tkl hS1 h246 3 79 rfl rfl rfl rfl (by kernel_rfl) (fun _ _ _ _ h => h) rfl rfl rfl (fun _ hSw => (loadMP (hSw.1.cell (i := 0) (by show 0 < 5; omega)))) fun a249 h248 => ?_
    refine tkf hS1 h248 4 3 rfl rfl rfl rfl (by kernel_rfl) (fun _ _ _ _ h => h) rfl rfl rfl (fun w => faZ_29_0_4 _ w) fun a251 h250 => ?_
    refine tkl hS1 h250 5 81 rfl rfl rfl rfl (by kernel_rfl) (fun _ _ _ _ h => h) rfl rfl rfl (fun _ hSw => (loadIS (hSw.2.cell (i := 4) (by show 4 < 5; omega)))) fun a253 h252 => ?_
    refine wpk_only 6 rfl rfl (by kernel_rfl) fun KK hK => op_call h252 rfl (by decide) (fr rfl) (fun args => callZ_23 args _) rfl #[.pointer (some ⟨K.g, 0, none⟩), .slice x2.ia x2.I.length x2.ic] (by simp only [List.map_toArray, List.map_cons, List.map_nil, h252.ev 80 rfl, h252.ev 82 rfl]) (R := fun v' w' => SideT w' B K ta tc ra rc (crashM M x2.I) P M P ∧ Turns (XL K ta) wJ2.drew w') ((crash_any HSd.out.t.l.m x2.I x2.ia x2.ic (HX2.out.i.below BJJ2.out.drew) HX2.out.ok (fun hn k hk => by have z := HAI.out hn k hk; have y1 : k ≠ K.d := (fun q => z (by rw [q]; exact .inl (.inl (.inr (.inl rfl))))); omega)).mono fun e w' q => by obtain ⟨⟨y, q1⟩, q2, q3⟩ := q; exact ⟨y, q1, HSd.out.lm (HSd.out.t.l.next q2 q3 (fun k hk => hk)) q3, q3.mono (fun k hk => .inl hk)⟩) fun a255 vl wl rl h254 => hK _ _ (⟨rl.2.blk hS1.1 (ppL HSd.out), rl.2.blk hS1.2 (fun e => by have := hXT _ (.inl e); omega)⟩) fun hS2 => ?_
    clear hK KK
    have HSl := hid rl.1; have Tl := hid rl.2; clear rl; have HDl := hid hS2.2
    refine wpAnyH_done (by kernel_rfl) ?_ _
    have h256 := h254.subs (l' := [(27, _), (3, _), (0, _)]) rfl
    clear h254
    iterate 2 go_step
    have HSd := hid (HSl.out.mono (Below.refl _ _).drew); have HDd := hid (HDl.out.mono (Below.refl _ _).drew)
    refine wp_region_held_drew (S := fun w' => Blk w' K.pp 40 [.pointer (some ⟨K.g, 0, none⟩), .pointer (some ⟨K.lg, 0, none⟩), .pointer (some ⟨K.tg, 0, none⟩), .pointer (some ⟨K.gr, 0, none⟩), .pointer (some ⟨K.dt, 0, none⟩)] ∧ Blk w' gb 29 (deedC x2)) (by kernel_rfl) ⟨HSd.out.t.q, HDd.out⟩ (fun hS1 => ?_)
    refine tkm hS1 h256 0 0 rfl rfl rfl rfl (by kernel_rfl) (fun _ _ _ _ h => h) rfl (fun _ => rfl) rfl fun a258 h257 => ?_
    refine tkn hS1 h257 1 84 rfl rfl rfl rfl (by kernel_rfl) (fun _ _ _ _ h => h) rfl rfl rfl fun a260 h259 => ?_
    refine tkf hS1 h259 2 85 rfl rfl rfl rfl (by kernel_rfl) (fun _ _ _ _ h => h) rfl rfl rfl (fun w => faZ_40_0_3 _ w) fun a262 h261 => ?_
    refine tkl hS1 h261 3 86 rfl rfl rfl rfl (by kernel_rfl) (fun _ _ _ _ h => h) rfl rfl rfl (fun _ hSw => (loadMR (hSw.1.cell (i := 3) (by show 3 < 5; omega)))) fun a264 h263 => ?_
    refine tkf hS1 h263 4 3 rfl rfl rfl rfl (by kernel_rfl) (fun _ _ _ _ h => h) rfl rfl rfl (fun w => faZ_29_0_4 _ w) fun a266 h265 => ?_
    refine tkl hS1 h265 5 88 rfl rfl rfl rfl (by kernel_rfl) (fun _ _ _ _ h => h) rfl rfl rfl (fun _ hSw => (loadIS (hSw.2.cell (i := 4) (by show 4 < 5; omega)))) fun a268 h267 => ?_
    refine wpk_only 6 rfl rfl (by kernel_rfl) fun KK hK => op_call h267 rfl (by decide) (fr rfl) (fun args => callZ_24 args _) rfl #[.pointer (some ⟨K.gr, 0, none⟩), .slice x2.ia x2.I.length x2.ic] (by simp only [List.map_toArray, List.map_cons, List.map_nil, h267.ev 87 rfl, h267.ev 89 rfl]) (R := fun v' w' => SideT w' B K ta tc ra rc (crashM M x2.I) P (crashM M x2.I) P ∧ Turns (XR K ra) wl.drew w') ((crashR_any HSd.out.r.m x2.I x2.ia x2.ic ((Tl.out.row (HX2.out.i.below BJJ2.out.drew) (fun a b c d => HAI.out a b c (.inl d))).below (Below.refl _ _).drew) HX2.out.ok (fun hn k hk => by have z := HAI.out hn k hk; have y1 : k ≠ K.dr := (fun q => z (by rw [q]; exact .inr (.inl (.inr (.inl rfl))))); have y2 : k ≠ K.ar := (fun q => z (by rw [q]; exact .inr (.inl (.inr (.inr rfl))))); omega)).mono fun e w' q => by obtain ⟨⟨y, q1⟩, q2, q3⟩ := q; exact ⟨y, q1, HSd.out.rm (HSd.out.r.next q2 q3 (fun k hk => hk)) q3, q3.mono (fun k hk => .inl hk)⟩) fun a270 vr_ wr_ rr_ h269 => hK _ _ (⟨rr_.2.blk hS1.1 (ppR HSd.out), rr_.2.blk hS1.2 (fun e => by have := hXT _ (.inr e); omega)⟩) fun hS3 => ?_
    clear hK KK
    have HSr := hid rr_.1; have Tr := hid ((Turns.refl _ wl).drew.trans rr_.2); clear rr_
    refine wpAnyH_done (by kernel_rfl) ?_ _
    have h271 := h269.subs (l' := [(27, _), (3, _), (0, _)]) rfl
    clear h269
    iterate 4 go_step
    refine wv h271 rfl rfl rfl rfl (.bool true) rfl fun a273 h272 => ?_
    iterate 4 go_step
    have hDM : doM x M P = crashM M x2.I := by unfold doM; rw [if_neg (by omega), if_pos (by omega), hI2]
    have hDP : doP x M P = P := by unfold doP; rw [if_neg (by omega), if_neg (by omega), if_neg (by omega)]
    have hTT : Turns (XT K ta ra) w wr_ := turns2 BJJ2.out Tl.out Tr.out
    exact bodyPost_ret (results_tmp1 rfl (h272.known (4, .bool true) (by simp))) h272.defs ⟨rfl, ta, tc, ra, rc, (by rw [hDM, hDP]; exact HSr.out), hTT, fun _ => ⟨rfl, rfl, rfl, rfl⟩⟩
  by_cases e4 : x.kind = 4
  case pos =>
    have hk0 : (x2.kind == 0) = false := by rw [hkd, e4]; rfl
    have hk1 : (x2.kind == 1) = false := by rw [hkd, e4]; rfl
    have hk2 : (x2.kind == 2) = false := by rw [hkd, e4]; rfl
    have hk3 : (x2.kind == 3) = false := by rw [hkd, e4]; rfl
    have hk4 : (x2.kind == 4) = true := by rw [hkd, e4]; rfl
    iterate 2 go_step
    refine wv hJ2 rfl rfl rfl rfl (.pointer (some ⟨gb, 0, none⟩)) (by unfold execOp; simp only [hJ2.ev 3 rfl]; exact run_v (faZ_29_0_0 (gb) _)) fun a275 h274 => ?_
    refine wv h274 rfl rfl rfl rfl (.int .i64 x2.kind) (by unfold execOp; simp only [h274.ev 26 rfl]; exact run_v (loadIP (HDJ2.out.cell (i := 0) (by show 0 < 5; omega)))) fun a277 h276 => ?_
    have h278 := h276.subs (l' := [(27, _), (3, _), (0, _)]) rfl
    clear h276
    iterate 6 go_step
    refine wv h278 rfl rfl rfl rfl (.bool false) (by unfold execOp; simp only [h278.ev 27 rfl]; exact run_v (eqIP _ _ _ _ _ hk0)) fun a280 h279 => ?_
    refine wmk h279 rfl rfl rfl rfl 29 rfl (fun _ => rfl) fun a282 h281 => ?_
    have h283 := h281.subs (l' := [(28, _), (27, _), (3, _), (0, _)]) rfl
    clear h281
    iterate 3 go_step
    refine wp_cond (t := false) (h283.ev 28 rfl) ?_
    simp only [Bool.false_eq_true, if_false]
    have h284 := h283.subs (l' := [(27, _), (3, _), (0, _)]) rfl
    clear h283
    iterate 2 go_step
    refine wv h284 rfl rfl rfl rfl (.bool false) (by unfold execOp; simp only [h284.ev 27 rfl]; exact run_v (eqIP _ _ _ _ _ hk1)) fun a286 h285 => ?_
    refine wmk h285 rfl rfl rfl rfl 50 rfl (fun _ => rfl) fun a288 h287 => ?_
    have h289 := h287.subs (l' := [(49, _), (27, _), (3, _), (0, _)]) rfl
    clear h287
    iterate 3 go_step
    refine wp_cond (t := false) (h289.ev 49 rfl) ?_
    simp only [Bool.false_eq_true, if_false]
    have h290 := h289.subs (l' := [(27, _), (3, _), (0, _)]) rfl
    clear h289
    iterate 2 go_step
    refine wv h290 rfl rfl rfl rfl (.bool false) (by unfold execOp; simp only [h290.ev 27 rfl]; exact run_v (eqIP _ _ _ _ _ hk2)) fun a292 h291 => ?_
    refine wmk h291 rfl rfl rfl rfl 63 rfl (fun _ => rfl) fun a294 h293 => ?_
    have h295 := h293.subs (l' := [(62, _), (27, _), (3, _), (0, _)]) rfl
    clear h293
    iterate 3 go_step
    refine wp_cond (t := false) (h295.ev 62 rfl) ?_
    simp only [Bool.false_eq_true, if_false]
    have h296 := h295.subs (l' := [(27, _), (3, _), (0, _)]) rfl
    clear h295
    iterate 2 go_step
    refine wv h296 rfl rfl rfl rfl (.bool false) (by unfold execOp; simp only [h296.ev 27 rfl]; exact run_v (eqIP _ _ _ _ _ hk3)) fun a298 h297 => ?_
    refine wmk h297 rfl rfl rfl rfl 76 rfl (fun _ => rfl) fun a300 h299 => ?_
    have h301 := h299.subs (l' := [(75, _), (27, _), (3, _), (0, _)]) rfl
    clear h299
    iterate 3 go_step
    refine wp_cond (t := false) (h301.ev 75 rfl) ?_
    simp only [Bool.false_eq_true, if_false]
    have h302 := h301.subs (l' := [(27, _), (3, _), (0, _)]) rfl
    clear h301
    iterate 2 go_step
    refine wv h302 rfl rfl rfl rfl (.bool true) (by unfold execOp; simp only [h302.ev 27 rfl]; exact run_v (eqIP _ _ _ _ _ hk4)) fun a304 h303 => ?_
    refine wmk h303 rfl rfl rfl rfl 92 rfl (fun _ => rfl) fun a306 h305 => ?_
    have h307 := h305.subs (l' := [(91, _), (27, _), (3, _), (0, _)]) rfl
    clear h305
    iterate 3 go_step
    refine wp_cond (t := true) (h307.ev 91 rfl) ?_
    simp only [if_true]
    have h308 := h307.subs (l' := [(27, _), (3, _), (0, _)]) rfl
    clear h307
    go_step
    have HSd := hid (HSJ2.out.mono (Below.refl _ _).drew); have HDd := hid (HDJ2.out.mono (Below.refl _ _).drew)
    refine wp_region_held_drew (S := fun w' => Blk w' K.pp 40 [.pointer (some ⟨K.g, 0, none⟩), .pointer (some ⟨K.lg, 0, none⟩), .pointer (some ⟨K.tg, 0, none⟩), .pointer (some ⟨K.gr, 0, none⟩), .pointer (some ⟨K.dt, 0, none⟩)] ∧ Blk w' gb 29 (deedC x2)) (by kernel_rfl) ⟨HSd.out.t.q, HDd.out⟩ (fun hS1 => ?_)
    refine tkm hS1 h308 0 0 rfl rfl rfl rfl (by kernel_rfl) (fun _ _ _ _ h => h) rfl (fun _ => rfl) rfl fun a310 h309 => ?_
    refine tkn hS1 h309 1 93 rfl rfl rfl rfl (by kernel_rfl) (fun _ _ _ _ h => h) rfl rfl rfl fun a312 h311 => ?_
    refine tkf hS1 h311 2 94 rfl rfl rfl rfl (by kernel_rfl) (fun _ _ _ _ h => h) rfl rfl rfl (fun w => faZ_40_0_0 _ w) fun a314 h313 => ?_
    refine tkl hS1 h313 3 95 rfl rfl rfl rfl (by kernel_rfl) (fun _ _ _ _ h => h) rfl rfl rfl (fun _ hSw => (loadMP (hSw.1.cell (i := 0) (by show 0 < 5; omega)))) fun a316 h315 => ?_
    refine tkf hS1 h315 4 3 rfl rfl rfl rfl (by kernel_rfl) (fun _ _ _ _ h => h) rfl rfl rfl (fun w => faZ_29_0_1 _ w) fun a318 h317 => ?_
    refine tkl hS1 h317 5 97 rfl rfl rfl rfl (by kernel_rfl) (fun _ _ _ _ h => h) rfl rfl rfl (fun _ hSw => (loadIP (hSw.2.cell (i := 1) (by show 1 < 5; omega)))) fun a320 h319 => ?_
    refine tkf hS1 h319 6 3 rfl rfl rfl rfl (by kernel_rfl) (fun _ _ _ _ h => h) rfl rfl rfl (fun w => faZ_29_0_3 _ w) fun a322 h321 => ?_
    refine tkl hS1 h321 7 99 rfl rfl rfl rfl (by kernel_rfl) (fun _ _ _ _ h => h) rfl rfl rfl (fun _ hSw => (loadYP (hSw.2.cell (i := 3) (by show 3 < 5; omega)))) fun a324 h323 => ?_
    refine tkm hS1 h323 9 0 rfl rfl rfl rfl (by kernel_rfl) (fun _ _ _ _ h => h) rfl (fun _ => rfl) rfl fun a326 h325 => ?_
    refine tkn hS1 h325 10 102 rfl rfl rfl rfl (by kernel_rfl) (fun _ _ _ _ h => h) rfl rfl rfl fun a328 h327 => ?_
    refine tkf hS1 h327 11 103 rfl rfl rfl rfl (by kernel_rfl) (fun _ _ _ _ h => h) rfl rfl rfl (fun w => faZ_40_0_3 _ w) fun a330 h329 => ?_
    refine tkl hS1 h329 12 104 rfl rfl rfl rfl (by kernel_rfl) (fun _ _ _ _ h => h) rfl rfl rfl (fun _ hSw => (loadMR (hSw.1.cell (i := 3) (by show 3 < 5; omega)))) fun a332 h331 => ?_
    refine tkf hS1 h331 13 3 rfl rfl rfl rfl (by kernel_rfl) (fun _ _ _ _ h => h) rfl rfl rfl (fun w => faZ_29_0_1 _ w) fun a334 h333 => ?_
    refine tkl hS1 h333 14 106 rfl rfl rfl rfl (by kernel_rfl) (fun _ _ _ _ h => h) rfl rfl rfl (fun _ hSw => (loadIP (hSw.2.cell (i := 1) (by show 1 < 5; omega)))) fun a336 h335 => ?_
    refine tkf hS1 h335 15 3 rfl rfl rfl rfl (by kernel_rfl) (fun _ _ _ _ h => h) rfl rfl rfl (fun w => faZ_29_0_3 _ w) fun a338 h337 => ?_
    refine tkl hS1 h337 16 108 rfl rfl rfl rfl (by kernel_rfl) (fun _ _ _ _ h => h) rfl rfl rfl (fun _ hSw => (loadYP (hSw.2.cell (i := 3) (by show 3 < 5; omega)))) fun a340 h339 => ?_
    refine wpk_only 8 rfl rfl (by kernel_rfl) fun KK hK => op_call h339 rfl (by decide) (fr rfl) (fun args => callZ_25 args _) rfl #[.pointer (some ⟨K.g, 0, none⟩), .int .i64 x2.at_, .slice x2.da x2.D.length x2.dc] (by simp only [List.map_toArray, List.map_cons, List.map_nil, h339.ev 96 rfl, h339.ev 98 rfl, h339.ev 100 rfl]) (R := fun v' w' => v' = .int .i64 (errM M x2.at_ x2.D.length) ∧ (SideT w' B K ta tc ra rc (storeU M x2.at_ x2.D) P M P) ∧ Turns (XL K ta) wJ2.drew w') ((store_u HSd.out.t.l.m x2.at_ HX2.out.a x2.da x2.dc x2.D (HX2.out.d.below BJJ2.out.drew)).mono fun e w' q => ⟨_, q.1, rfl, (HSd.out.lm (HSd.out.t.l.next q.2.1 q.2.2 storeX) (q.2.2.mono storeX)), q.2.2.mono (fun k hk => .inl (storeX k hk))⟩) fun a342 vl wl rl h341 => hK _ _ (by obtain ⟨p1, p2, p3⟩ := rl; exact ⟨p3.blk hS1.1 (ppL HSd.out), p3.blk hS1.2 (fun e => by have := hXT _ (.inl e); omega)⟩) fun hS2 => ?_
    clear hK KK
    obtain ⟨rfl, sl, tl⟩ := rl; have HSl := hid sl; have Tl := hid tl; clear sl tl
    refine wpk_only 17 rfl rfl (by kernel_rfl) fun KK hK => op_call h341 rfl (by decide) (fr rfl) (fun args => callZ_26 args _) rfl #[.pointer (some ⟨K.gr, 0, none⟩), .int .i64 x2.at_, .slice x2.da x2.D.length x2.dc] (by simp only [List.map_toArray, List.map_cons, List.map_nil, h341.ev 105 rfl, h341.ev 107 rfl, h341.ev 109 rfl]) (R := fun v' w' => v' = .int .i64 (errM M x2.at_ x2.D.length) ∧ (SideT w' B K ta tc ra rc (storeU M x2.at_ x2.D) P (storeU M x2.at_ x2.D) P) ∧ Turns (XR K ra) wl w') ((storeR_u HSl.out.r.m x2.at_ HX2.out.a x2.da x2.dc x2.D (Tl.out.row (HX2.out.d.below BJJ2.out.drew) (fun a b c d => HAD.out a b c (.inl d))) (fun hn k hk => by have z := HAD.out hn k hk; have y1 : k ≠ K.vr := (fun q => z (by rw [q]; exact .inr (.inl (.inl rfl)))); have y2 : k ≠ K.ar := (fun q => z (by rw [q]; exact .inr (.inl (.inr (.inr rfl))))); omega)).mono fun e w' q => ⟨_, q.1, rfl, (HSl.out.rm (HSl.out.r.next q.2.1 q.2.2 storeX) (q.2.2.mono storeX)), q.2.2.mono (fun k hk => .inl (storeX k hk))⟩) fun a344 vr_ wr_ rr_ h343 => hK _ _ (by obtain ⟨p1, p2, p3⟩ := rr_; exact ⟨p3.blk hS2.1 (ppR HSl.out), p3.blk hS2.2 (fun e => by have := hXT _ (.inr e); omega)⟩) fun hS3 => ?_
    clear hK KK
    obtain ⟨rfl, sr, tr⟩ := rr_; have HSr := hid sr; have Tr := hid tr; clear sr tr
    refine wpk_take hS3 h343 18 rfl rfl (by decide) (fr rfl) (by kernel_rfl) (by kernel_rfl) (by kernel_rfl) (fun _ _ _ _ h => h) (.bool true) (Or.inl ⟨Eq.refl true, fun w1 hSw => (by show (execOp _ (⟨_, .binOp .eql 32 (.tmp 101) (.tmp 110) 32, _, _, _, _⟩ : Oper)).run _ _ = _; exact (by unfold execOp; simp only [h343.ev 101 rfl, h343.ev 110 rfl]; exact run_v (eqEP _ _ _ _ _ (by simp))))⟩) fun a346 h345 => ?_
    refine tkm hS3 h345 19 111 rfl rfl rfl rfl (by kernel_rfl) (fun _ _ _ _ h => h) rfl (fun _ => rfl) rfl fun a348 h347 => ?_
    refine wpAnyH_done (by kernel_rfl) ?_ _
    have h349 := h347.subs (l' := [(4, _), (27, _), (3, _), (0, _)]) rfl
    clear h347
    iterate 3 go_step
    simp only [Exit.then, Exit.inBlock]
    have hDM : doM x M P = storeU M x2.at_ x2.D := by unfold doM; rw [if_neg (by omega), if_neg (by omega), if_pos (by omega), hat, hD2]
    have hDP : doP x M P = P := by unfold doP; rw [if_neg (by omega), if_neg (by omega), if_neg (by omega)]
    have hTT : Turns (XT K ta ra) w wr_ := turns2 BJJ2.out Tl.out Tr.out
    exact bodyPost_ret (results_tmp1 rfl (h349.known (4, .bool true) (by simp))) h349.defs ⟨rfl, ta, tc, ra, rc, (by rw [hDM, hDP]; exact HSr.out), hTT, fun _ => ⟨rfl, rfl, rfl, rfl⟩⟩
  by_cases e5 : x.kind = 5
  case pos =>
    have hk0 : (x2.kind == 0) = false := by rw [hkd, e5]; rfl
    have hk1 : (x2.kind == 1) = false := by rw [hkd, e5]; rfl
    have hk2 : (x2.kind == 2) = false := by rw [hkd, e5]; rfl
    have hk3 : (x2.kind == 3) = false := by rw [hkd, e5]; rfl
    have hk4 : (x2.kind == 4) = false := by rw [hkd, e5]; rfl
    have hk5 : (x2.kind == 5) = true := by rw [hkd, e5]; rfl
    iterate 2 go_step
    refine wv hJ2 rfl rfl rfl rfl (.pointer (some ⟨gb, 0, none⟩)) (by unfold execOp; simp only [hJ2.ev 3 rfl]; exact run_v (faZ_29_0_0 (gb) _)) fun a351 h350 => ?_
    refine wv h350 rfl rfl rfl rfl (.int .i64 x2.kind) (by unfold execOp; simp only [h350.ev 26 rfl]; exact run_v (loadIP (HDJ2.out.cell (i := 0) (by show 0 < 5; omega)))) fun a353 h352 => ?_
    have h354 := h352.subs (l' := [(27, _), (3, _), (0, _)]) rfl
    clear h352
    iterate 6 go_step
    refine wv h354 rfl rfl rfl rfl (.bool false) (by unfold execOp; simp only [h354.ev 27 rfl]; exact run_v (eqIP _ _ _ _ _ hk0)) fun a356 h355 => ?_
    refine wmk h355 rfl rfl rfl rfl 29 rfl (fun _ => rfl) fun a358 h357 => ?_
    have h359 := h357.subs (l' := [(28, _), (27, _), (3, _), (0, _)]) rfl
    clear h357
    iterate 3 go_step
    refine wp_cond (t := false) (h359.ev 28 rfl) ?_
    simp only [Bool.false_eq_true, if_false]
    have h360 := h359.subs (l' := [(27, _), (3, _), (0, _)]) rfl
    clear h359
    iterate 2 go_step
    refine wv h360 rfl rfl rfl rfl (.bool false) (by unfold execOp; simp only [h360.ev 27 rfl]; exact run_v (eqIP _ _ _ _ _ hk1)) fun a362 h361 => ?_
    refine wmk h361 rfl rfl rfl rfl 50 rfl (fun _ => rfl) fun a364 h363 => ?_
    have h365 := h363.subs (l' := [(49, _), (27, _), (3, _), (0, _)]) rfl
    clear h363
    iterate 3 go_step
    refine wp_cond (t := false) (h365.ev 49 rfl) ?_
    simp only [Bool.false_eq_true, if_false]
    have h366 := h365.subs (l' := [(27, _), (3, _), (0, _)]) rfl
    clear h365
    iterate 2 go_step
    refine wv h366 rfl rfl rfl rfl (.bool false) (by unfold execOp; simp only [h366.ev 27 rfl]; exact run_v (eqIP _ _ _ _ _ hk2)) fun a368 h367 => ?_
    refine wmk h367 rfl rfl rfl rfl 63 rfl (fun _ => rfl) fun a370 h369 => ?_
    have h371 := h369.subs (l' := [(62, _), (27, _), (3, _), (0, _)]) rfl
    clear h369
    iterate 3 go_step
    refine wp_cond (t := false) (h371.ev 62 rfl) ?_
    simp only [Bool.false_eq_true, if_false]
    have h372 := h371.subs (l' := [(27, _), (3, _), (0, _)]) rfl
    clear h371
    iterate 2 go_step
    refine wv h372 rfl rfl rfl rfl (.bool false) (by unfold execOp; simp only [h372.ev 27 rfl]; exact run_v (eqIP _ _ _ _ _ hk3)) fun a374 h373 => ?_
    refine wmk h373 rfl rfl rfl rfl 76 rfl (fun _ => rfl) fun a376 h375 => ?_
    have h377 := h375.subs (l' := [(75, _), (27, _), (3, _), (0, _)]) rfl
    clear h375
    iterate 3 go_step
    refine wp_cond (t := false) (h377.ev 75 rfl) ?_
    simp only [Bool.false_eq_true, if_false]
    have h378 := h377.subs (l' := [(27, _), (3, _), (0, _)]) rfl
    clear h377
    iterate 2 go_step
    refine wv h378 rfl rfl rfl rfl (.bool false) (by unfold execOp; simp only [h378.ev 27 rfl]; exact run_v (eqIP _ _ _ _ _ hk4)) fun a380 h379 => ?_
    refine wmk h379 rfl rfl rfl rfl 92 rfl (fun _ => rfl) fun a382 h381 => ?_
    have h383 := h381.subs (l' := [(91, _), (27, _), (3, _), (0, _)]) rfl
    clear h381
    iterate 3 go_step
    refine wp_cond (t := false) (h383.ev 91 rfl) ?_
    simp only [Bool.false_eq_true, if_false]
    have h384 := h383.subs (l' := [(27, _), (3, _), (0, _)]) rfl
    clear h383
    iterate 2 go_step
    refine wv h384 rfl rfl rfl rfl (.bool true) (by unfold execOp; simp only [h384.ev 27 rfl]; exact run_v (eqIP _ _ _ _ _ hk5)) fun a386 h385 => ?_
    refine wmk h385 rfl rfl rfl rfl 113 rfl (fun _ => rfl) fun a388 h387 => ?_
    have h389 := h387.subs (l' := [(112, _), (27, _), (3, _), (0, _)]) rfl
    clear h387
    iterate 3 go_step
    refine wp_cond (t := true) (h389.ev 112 rfl) ?_
    simp only [if_true]
    have h390 := h389.subs (l' := [(27, _), (3, _), (0, _)]) rfl
    clear h389
    go_step
    have HSd := hid (HSJ2.out.mono (Below.refl _ _).drew); have HDd := hid (HDJ2.out.mono (Below.refl _ _).drew)
    refine wp_region_held_drew (S := fun w' => Blk w' K.pp 40 [.pointer (some ⟨K.g, 0, none⟩), .pointer (some ⟨K.lg, 0, none⟩), .pointer (some ⟨K.tg, 0, none⟩), .pointer (some ⟨K.gr, 0, none⟩), .pointer (some ⟨K.dt, 0, none⟩)] ∧ Blk w' gb 29 (deedC x2)) (by kernel_rfl) ⟨HSd.out.t.q, HDd.out⟩ (fun hS1 => ?_)
    refine tkm hS1 h390 0 0 rfl rfl rfl rfl (by kernel_rfl) (fun _ _ _ _ h => h) rfl (fun _ => rfl) rfl fun a392 h391 => ?_
    refine tkn hS1 h391 1 115 rfl rfl rfl rfl (by kernel_rfl) (fun _ _ _ _ h => h) rfl rfl rfl fun a394 h393 => ?_
    refine tkf hS1 h393 2 116 rfl rfl rfl rfl (by kernel_rfl) (fun _ _ _ _ h => h) rfl rfl rfl (fun w => faZ_40_0_2 _ w) fun a396 h395 => ?_
    refine tkl hS1 h395 3 117 rfl rfl rfl rfl (by kernel_rfl) (fun _ _ _ _ h => h) rfl rfl rfl (fun _ hSw => (loadTP (hSw.1.cell (i := 2) (by show 2 < 5; omega)))) fun a398 h397 => ?_
    refine tkf hS1 h397 4 3 rfl rfl rfl rfl (by kernel_rfl) (fun _ _ _ _ h => h) rfl rfl rfl (fun w => faZ_29_0_1 _ w) fun a400 h399 => ?_
    refine tkl hS1 h399 5 119 rfl rfl rfl rfl (by kernel_rfl) (fun _ _ _ _ h => h) rfl rfl rfl (fun _ hSw => (loadIP (hSw.2.cell (i := 1) (by show 1 < 5; omega)))) fun a402 h401 => ?_
    refine tkf hS1 h401 6 3 rfl rfl rfl rfl (by kernel_rfl) (fun _ _ _ _ h => h) rfl rfl rfl (fun w => faZ_29_0_2 _ w) fun a404 h403 => ?_
    refine tkl hS1 h403 7 121 rfl rfl rfl rfl (by kernel_rfl) (fun _ _ _ _ h => h) rfl rfl rfl (fun _ hSw => (loadIP (hSw.2.cell (i := 2) (by show 2 < 5; omega)))) fun a406 h405 => ?_
    refine wpk_only 8 rfl rfl (by kernel_rfl) fun KK hK => op_call h405 rfl (by decide) (fr rfl) (fun args => callZ_14 args _) rfl #[.pointer (some ⟨K.tg, 0, none⟩), .int .i64 x2.at_, .int .i64 x2.n] (by simp only [List.map_toArray, List.map_cons, List.map_nil, h405.ev 118 rfl, h405.ev 120 rfl, h405.ev 122 rfl]) (R := fun v' w' => (∃ x1 y1, v' = .tuple #[.slice x1 (loadT M.V M P x2.at_ x2.n).length y1, .int .i64 (errM M x2.at_ x2.n)] ∧ OwnB w' wJ2.drew.heap.size x1 y1 (loadT M.V M P x2.at_ x2.n)) ∧ Below wJ2.drew.heap.size wJ2.drew w') ((HSd.out.loadL htx (by omega) x2.at_ x2.n HX2.out.a HX2.out.n).mono fun e w' q => by obtain ⟨x1, y1, q1, q2, q3⟩ := q; exact ⟨_, q1, ⟨x1, y1, rfl, q2⟩, q3⟩) fun a408 vA wA rA h407 => hK _ _ (⟨hS1.1.mono rA.2, hS1.2.mono rA.2⟩) fun hSA => ?_
    clear hK KK
    obtain ⟨⟨lA, cA, rfl, oA⟩, bA⟩ := rA; have HSA := hid (HSd.out.mono bA); have HDA := hid (HDd.out.mono bA); have BJA := hid (kept_trans (BJJ2.out.drew) bA); have HRA := hid oA.row
    clear oA bA
    refine tkm hSA h407 9 123 rfl rfl rfl rfl (by kernel_rfl) (fun _ _ _ _ h => h) rfl (fun _ => rfl) rfl fun a410 h409 => ?_
    refine wpk_take hSA h409 10 rfl rfl (by decide) (fr rfl) (by kernel_rfl) (by kernel_rfl) (by kernel_rfl) (fun _ _ _ _ h => h) (.slice lA (loadT M.V M P x2.at_ x2.n).length cA) (Or.inl ⟨Eq.refl true, fun w1 hSw => (by show (execOp _ (⟨_, .extract (.tmp 114) 0, _, _, _, _⟩ : Oper)).run _ _ = _; exact (by unfold execOp; simp only [h409.ev 114 rfl]; exact rfl))⟩) fun a412 h411 => ?_
    refine wpk_take hSA h411 11 rfl rfl (by decide) (fr rfl) (by kernel_rfl) (by kernel_rfl) (by kernel_rfl) (fun _ _ _ _ h => h) (.int .i64 (errM M x2.at_ x2.n)) (Or.inl ⟨Eq.refl true, fun w1 hSw => (by show (execOp _ (⟨_, .extract (.tmp 114) 1, _, _, _, _⟩ : Oper)).run _ _ = _; exact (by unfold execOp; simp only [h411.ev 114 rfl]; exact rfl))⟩) fun a414 h413 => ?_
    refine tkm hSA h413 12 124 rfl rfl rfl rfl (by kernel_rfl) (fun _ _ _ _ h => h) rfl (fun _ => rfl) rfl fun a416 h415 => ?_
    refine tkm hSA h415 13 125 rfl rfl rfl rfl (by kernel_rfl) (fun _ _ _ _ h => h) rfl (fun _ => rfl) rfl fun a418 h417 => ?_
    refine wpAnyH_done (by kernel_rfl) ?_ _
    have h419 := h417.subs (l' := [(6, _), (5, _), (27, _), (3, _), (0, _)]) rfl
    clear h417
    iterate 3 go_step
    have HSd := hid (HSA.out.mono (Below.refl _ _).drew); have HDd := hid (HDA.out.mono (Below.refl _ _).drew)
    refine wp_region_held_drew (S := fun w' => Blk w' K.pp 40 [.pointer (some ⟨K.g, 0, none⟩), .pointer (some ⟨K.lg, 0, none⟩), .pointer (some ⟨K.tg, 0, none⟩), .pointer (some ⟨K.gr, 0, none⟩), .pointer (some ⟨K.dt, 0, none⟩)] ∧ Blk w' gb 29 (deedC x2)) (by kernel_rfl) ⟨HSd.out.t.q, HDd.out⟩ (fun hS1 => ?_)
    refine tkm hS1 h419 0 0 rfl rfl rfl rfl (by kernel_rfl) (fun _ _ _ _ h => h) rfl (fun _ => rfl) rfl fun a421 h420 => ?_
    refine tkn hS1 h420 1 127 rfl rfl rfl rfl (by kernel_rfl) (fun _ _ _ _ h => h) rfl rfl rfl fun a423 h422 => ?_
    refine tkf hS1 h422 2 128 rfl rfl rfl rfl (by kernel_rfl) (fun _ _ _ _ h => h) rfl rfl rfl (fun w => faZ_40_0_4 _ w) fun a425 h424 => ?_
    refine tkl hS1 h424 3 129 rfl rfl rfl rfl (by kernel_rfl) (fun _ _ _ _ h => h) rfl rfl rfl (fun _ hSw => (loadTx9 (hSw.1.cell (i := 4) (by show 4 < 5; omega)))) fun a427 h426 => ?_
    refine tkf hS1 h426 4 3 rfl rfl rfl rfl (by kernel_rfl) (fun _ _ _ _ h => h) rfl rfl rfl (fun w => faZ_29_0_1 _ w) fun a429 h428 => ?_
    refine tkl hS1 h428 5 131 rfl rfl rfl rfl (by kernel_rfl) (fun _ _ _ _ h => h) rfl rfl rfl (fun _ hSw => (loadIP (hSw.2.cell (i := 1) (by show 1 < 5; omega)))) fun a431 h430 => ?_
    refine tkf hS1 h430 6 3 rfl rfl rfl rfl (by kernel_rfl) (fun _ _ _ _ h => h) rfl rfl rfl (fun w => faZ_29_0_2 _ w) fun a433 h432 => ?_
    refine tkl hS1 h432 7 133 rfl rfl rfl rfl (by kernel_rfl) (fun _ _ _ _ h => h) rfl rfl rfl (fun _ hSw => (loadIP (hSw.2.cell (i := 2) (by show 2 < 5; omega)))) fun a435 h434 => ?_
    refine wpk_only 8 rfl rfl (by kernel_rfl) fun KK hK => op_call h434 rfl (by decide) (fr rfl) (fun args => callZ_27 args _) rfl #[.pointer (some ⟨K.dt, 0, none⟩), .int .i64 x2.at_, .int .i64 x2.n] (by simp only [List.map_toArray, List.map_cons, List.map_nil, h434.ev 130 rfl, h434.ev 132 rfl, h434.ev 134 rfl]) (R := fun v' w' => (∃ x1 y1, v' = .tuple #[.slice x1 (loadT M.V M P x2.at_ x2.n).length y1, .int .i64 (errM M x2.at_ x2.n)] ∧ OwnB w' wA.drew.heap.size x1 y1 (loadT M.V M P x2.at_ x2.n)) ∧ Below wA.drew.heap.size wA.drew w') ((HSd.out.loadR htx (by omega) x2.at_ x2.n HX2.out.a HX2.out.n).mono fun e w' q => by obtain ⟨x1, y1, q1, q2, q3⟩ := q; exact ⟨_, q1, ⟨x1, y1, rfl, q2⟩, q3⟩) fun a437 vB wB rB h436 => hK _ _ (⟨hS1.1.mono rB.2, hS1.2.mono rB.2⟩) fun hSB => ?_
    clear hK KK
    obtain ⟨⟨lB, cB, rfl, oB⟩, bB⟩ := rB; have HSB := hid (HSd.out.mono bB); have HDB := hid (HDd.out.mono bB); have BJB := hid (kept_trans (BJA.out.drew) bB); have HRB := hid oB.row
    have HRA2 := hid (HRA.out.below (Below.refl _ _).drew); have HRA3 := hid (HRA2.out.below bB)
    clear oB bB
    refine tkm hSB h436 9 135 rfl rfl rfl rfl (by kernel_rfl) (fun _ _ _ _ h => h) rfl (fun _ => rfl) rfl fun a439 h438 => ?_
    refine wpk_take hSB h438 10 rfl rfl (by decide) (fr rfl) (by kernel_rfl) (by kernel_rfl) (by kernel_rfl) (fun _ _ _ _ h => h) (.slice lB (loadT M.V M P x2.at_ x2.n).length cB) (Or.inl ⟨Eq.refl true, fun w1 hSw => (by show (execOp _ (⟨_, .extract (.tmp 126) 0, _, _, _, _⟩ : Oper)).run _ _ = _; exact (by unfold execOp; simp only [h438.ev 126 rfl]; exact rfl))⟩) fun a441 h440 => ?_
    refine wpk_take hSB h440 11 rfl rfl (by decide) (fr rfl) (by kernel_rfl) (by kernel_rfl) (by kernel_rfl) (fun _ _ _ _ h => h) (.int .i64 (errM M x2.at_ x2.n)) (Or.inl ⟨Eq.refl true, fun w1 hSw => (by show (execOp _ (⟨_, .extract (.tmp 126) 1, _, _, _, _⟩ : Oper)).run _ _ = _; exact (by unfold execOp; simp only [h440.ev 126 rfl]; exact rfl))⟩) fun a443 h442 => ?_
    refine tkm hSB h442 12 136 rfl rfl rfl rfl (by kernel_rfl) (fun _ _ _ _ h => h) rfl (fun _ => rfl) rfl fun a445 h444 => ?_
    refine tkm hSB h444 13 137 rfl rfl rfl rfl (by kernel_rfl) (fun _ _ _ _ h => h) rfl (fun _ => rfl) rfl fun a447 h446 => ?_
    refine wpAnyH_done (by kernel_rfl) ?_ _
    have h448 := h446.subs (l' := [(8, _), (7, _), (6, _), (5, _), (27, _), (3, _), (0, _)]) rfl
    clear h446
    iterate 4 go_step
    refine wmk h448 rfl rfl rfl rfl 5 rfl (fun _ => rfl) fun a450 h449 => ?_
    refine wmk h449 rfl rfl rfl rfl 7 rfl (fun _ => rfl) fun a452 h451 => ?_
    refine wpk_call h451 (wanted_none rfl) rfl (by decide) (fr rfl) (fun args => callZ_11 args _) rfl #[.slice lA (loadT M.V M P x2.at_ x2.n).length cA, .slice lB (loadT M.V M P x2.at_ x2.n).length cB] (by simp only [List.map_toArray, List.map_cons, List.map_nil, h451.ev 138 rfl, h451.ev 139 rfl]) (R := fun v' w' => v' = .bool true ∧ Below wB.heap.size wB w') ((same9T HRA3.out HRB.out (Nat.le_trans (loadT_le hl) (by omega))).mono fun e w' q => ⟨_, q.1, rfl, q.2⟩) fun a454 vs ws rs h453 => ?_
    obtain ⟨rfl, bs9⟩ := rs; have BJs := hid (kept_trans BJB.out bs9); clear bs9
    refine wmk h453 rfl rfl rfl rfl 140 rfl (fun _ => rfl) fun a456 h455 => ?_
    have h457 := h455.subs (l' := [(9, _), (8, _), (7, _), (6, _), (5, _), (27, _), (3, _), (0, _)]) rfl
    clear h455
    iterate 5 go_step
    refine wmk h457 rfl rfl rfl rfl 9 rfl (fun _ => rfl) fun a459 h458 => ?_
    refine wmk h458 rfl rfl rfl rfl 141 rfl (fun _ => rfl) fun a461 h460 => ?_
    refine wpk_val h460 (by rw [wanted_of (g := 1) (want := true) (b := true) rfl (h460.yields (prev := 142) rfl (by simp))]; rfl) rfl (by decide) (fr rfl) (.int .i64 (errM M x2.at_ x2.n)) (by unfold execOp; simp only [h460.ev 6 rfl]; rfl) fun a463 h462 => ?_
    refine wpk_val h462 (by rw [wanted_of (g := 1) (want := true) (b := true) rfl (h462.yields (prev := 142) rfl (by simp))]; rfl) rfl (by decide) (fr rfl) (.int .i64 (errM M x2.at_ x2.n)) (by unfold execOp; simp only [h462.ev 8 rfl]; rfl) fun a465 h464 => ?_
    refine wpk_val h464 (by rw [wanted_of (g := 1) (want := true) (b := true) rfl (h464.yields (prev := 142) rfl (by simp))]; rfl) rfl (by decide) (fr rfl) (.bool true) (by unfold execOp; simp only [h464.ev 143 rfl, h464.ev 144 rfl]; exact run_v (eqEP _ _ _ _ _ (by simp))) fun a467 h466 => ?_
    refine wv h466 rfl rfl rfl rfl (.bool true) (run_pick rfl (h466.ev 142 rfl) (by rw [if_pos rfl]; exact h466.ev 145 rfl)) fun a469 h468 => ?_
    refine wmk h468 rfl rfl rfl rfl 146 rfl (fun _ => rfl) fun a471 h470 => ?_
    have h472 := h470.subs (l' := [(4, _), (9, _), (8, _), (7, _), (6, _), (5, _), (27, _), (3, _), (0, _)]) rfl
    clear h470
    iterate 4 go_step
    simp only [Exit.then, Exit.inBlock]
    have hDM : doM x M P = M := by unfold doM; rw [if_neg (by omega), if_neg (by omega), if_neg (by omega)]
    have hDP : doP x M P = P := by unfold doP; rw [if_neg (by omega), if_neg (by omega), if_neg (by omega)]
    have hTT : Turns (XT K ta ra) w ws := Turns.of_below BJs.out
    exact bodyPost_ret (results_tmp1 rfl (h472.known (4, .bool true) (by simp))) h472.defs ⟨rfl, ta, tc, ra, rc, (by rw [hDM, hDP]; exact h.mono BJs.out), hTT, fun _ => ⟨rfl, rfl, rfl, rfl⟩⟩
  have hk0 : (x2.kind == 0) = false := by rw [hkd]; simpa using e0
  have hk1 : (x2.kind == 1) = false := by rw [hkd]; simpa using e1
  have hk2 : (x2.kind == 2) = false := by rw [hkd]; simpa using e2
  have hk3 : (x2.kind == 3) = false := by rw [hkd]; simpa using e3
  have hk4 : (x2.kind == 4) = false := by rw [hkd]; simpa using e4
  have hk5 : (x2.kind == 5) = false := by rw [hkd]; simpa using e5
  iterate 2 go_step
  refine wv hJ2 rfl rfl rfl rfl (.pointer (some ⟨gb, 0, none⟩)) (by unfold execOp; simp only [hJ2.ev 3 rfl]; exact run_v (faZ_29_0_0 (gb) _)) fun a474 h473 => ?_
  refine wv h473 rfl rfl rfl rfl (.int .i64 x2.kind) (by unfold execOp; simp only [h473.ev 26 rfl]; exact run_v (loadIP (HDJ2.out.cell (i := 0) (by show 0 < 5; omega)))) fun a476 h475 => ?_
  have h477 := h475.subs (l' := [(27, _), (3, _), (0, _)]) rfl
  clear h475
  iterate 6 go_step
  refine wv h477 rfl rfl rfl rfl (.bool false) (by unfold execOp; simp only [h477.ev 27 rfl]; exact run_v (eqIP _ _ _ _ _ hk0)) fun a479 h478 => ?_
  refine wmk h478 rfl rfl rfl rfl 29 rfl (fun _ => rfl) fun a481 h480 => ?_
  have h482 := h480.subs (l' := [(28, _), (27, _), (3, _), (0, _)]) rfl
  clear h480
  iterate 3 go_step
  refine wp_cond (t := false) (h482.ev 28 rfl) ?_
  simp only [Bool.false_eq_true, if_false]
  have h483 := h482.subs (l' := [(27, _), (3, _), (0, _)]) rfl
  clear h482
  iterate 2 go_step
  refine wv h483 rfl rfl rfl rfl (.bool false) (by unfold execOp; simp only [h483.ev 27 rfl]; exact run_v (eqIP _ _ _ _ _ hk1)) fun a485 h484 => ?_
  refine wmk h484 rfl rfl rfl rfl 50 rfl (fun _ => rfl) fun a487 h486 => ?_
  have h488 := h486.subs (l' := [(49, _), (27, _), (3, _), (0, _)]) rfl
  clear h486
  iterate 3 go_step
  refine wp_cond (t := false) (h488.ev 49 rfl) ?_
  simp only [Bool.false_eq_true, if_false]
  have h489 := h488.subs (l' := [(27, _), (3, _), (0, _)]) rfl
  clear h488
  iterate 2 go_step
  refine wv h489 rfl rfl rfl rfl (.bool false) (by unfold execOp; simp only [h489.ev 27 rfl]; exact run_v (eqIP _ _ _ _ _ hk2)) fun a491 h490 => ?_
  refine wmk h490 rfl rfl rfl rfl 63 rfl (fun _ => rfl) fun a493 h492 => ?_
  have h494 := h492.subs (l' := [(62, _), (27, _), (3, _), (0, _)]) rfl
  clear h492
  iterate 3 go_step
  refine wp_cond (t := false) (h494.ev 62 rfl) ?_
  simp only [Bool.false_eq_true, if_false]
  have h495 := h494.subs (l' := [(27, _), (3, _), (0, _)]) rfl
  clear h494
  iterate 2 go_step
  refine wv h495 rfl rfl rfl rfl (.bool false) (by unfold execOp; simp only [h495.ev 27 rfl]; exact run_v (eqIP _ _ _ _ _ hk3)) fun a497 h496 => ?_
  refine wmk h496 rfl rfl rfl rfl 76 rfl (fun _ => rfl) fun a499 h498 => ?_
  have h500 := h498.subs (l' := [(75, _), (27, _), (3, _), (0, _)]) rfl
  clear h498
  iterate 3 go_step
  refine wp_cond (t := false) (h500.ev 75 rfl) ?_
  simp only [Bool.false_eq_true, if_false]
  have h501 := h500.subs (l' := [(27, _), (3, _), (0, _)]) rfl
  clear h500
  iterate 2 go_step
  refine wv h501 rfl rfl rfl rfl (.bool false) (by unfold execOp; simp only [h501.ev 27 rfl]; exact run_v (eqIP _ _ _ _ _ hk4)) fun a503 h502 => ?_
  refine wmk h502 rfl rfl rfl rfl 92 rfl (fun _ => rfl) fun a505 h504 => ?_
  have h506 := h504.subs (l' := [(91, _), (27, _), (3, _), (0, _)]) rfl
  clear h504
  iterate 3 go_step
  refine wp_cond (t := false) (h506.ev 91 rfl) ?_
  simp only [Bool.false_eq_true, if_false]
  have h507 := h506.subs (l' := [(27, _), (3, _), (0, _)]) rfl
  clear h506
  iterate 2 go_step
  refine wv h507 rfl rfl rfl rfl (.bool false) (by unfold execOp; simp only [h507.ev 27 rfl]; exact run_v (eqIP _ _ _ _ _ hk5)) fun a509 h508 => ?_
  refine wmk h508 rfl rfl rfl rfl 113 rfl (fun _ => rfl) fun a511 h510 => ?_
  have h512 := h510.subs (l' := [(112, _), (27, _), (3, _), (0, _)]) rfl
  clear h510
  iterate 3 go_step
  refine wp_cond (t := false) (h512.ev 112 rfl) ?_
  simp only [Bool.false_eq_true, if_false]
  have h513 := h512.subs (l' := [(27, _), (3, _), (0, _)]) rfl
  clear h512
  iterate 5 go_step
  refine wv h513 rfl rfl rfl rfl (.bool true) rfl fun a515 h514 => ?_
  iterate 4 go_step
  have hDM : doM x M P = M := by unfold doM; rw [if_neg (by omega), if_neg (by omega), if_neg (by omega)]
  have hDP : doP x M P = P := by unfold doP; rw [if_neg (by omega), if_neg (by omega), if_neg (by omega)]
  have hTT : Turns (XT K ta ra) w wJ2 := Turns.of_below BJJ2.out
  exact bodyPost_ret (results_tmp1 rfl (h514.known (4, .bool true) (by simp))) h514.defs ⟨rfl, ta, tc, ra, rc, (by rw [hDM, hDP]; exact HSJ2.out), hTT, fun _ => ⟨rfl, rfl, rfl, rfl⟩⟩
set_option maxHeartbeats 16000000 in
theorem like9_any {w : World} {B : Nat} {K : TK} {ta ra : Option Addr} {tc rc : Nat} {M : MemM} {P : List PtM} (h : SideT w B K ta tc ra rc M P M P) (hl : M.V.length = 1024) (htx : TxOk M P) :
    Calls Tryz.prog 8 #[.pointer (some ⟨K.pp, 0, none⟩)] w fun e w' => e = .returned (.bool true) ∧ Below w.heap.size w w' := by
  go_enter Tryz.func8, Tryz.ntmps8
  iterate 3 go_step
  refine wpk_enter (N := 91) (l := [(0, .pointer (some ⟨K.pp, 0, none⟩))]) ⟨rfl, (by intro x hx; simp only [List.mem_cons, List.not_mem_nil, or_false] at hx; rcases hx with rfl <;> rfl), rfl⟩ fun a2 h1 => ?_
  refine wv h1 rfl rfl rfl rfl (.bool false) rfl fun a4 h3 => ?_
  iterate 5 go_step
  refine wmk h3 rfl rfl rfl rfl 0 rfl (fun _ => rfl) fun a6 h5 => ?_
  refine wv h5 rfl rfl rfl rfl (.pointer (some ⟨K.pp, 0, none⟩)) (by unfold execOp; simp only [h5.ev 16 rfl]; exact rfl) fun a8 h7 => ?_
  refine wv h7 rfl rfl rfl rfl (.pointer (some ⟨K.pp, 0, none⟩)) (by unfold execOp; simp only [h7.ev 17 rfl]; exact run_v (faZ_40_0_0 (K.pp) _)) fun a10 h9 => ?_
  refine wv h9 rfl rfl rfl rfl (.pointer (some ⟨K.g, 0, none⟩)) (by unfold execOp; simp only [h9.ev 18 rfl]; exact run_v (loadMP (h.t.q.cell (i := 0) (by show 0 < 5; omega)))) fun a12 h11 => ?_
  refine wpk_call h11 (wanted_none rfl) rfl (by decide) (fr rfl) (fun args => callZ_10 args _) rfl #[.pointer (some ⟨K.g, 0, none⟩), .int .i64 0, .int .i64 1024] (by simp only [List.map_toArray, List.map_cons, List.map_nil, h11.ev 19 rfl]; rfl) (R := fun v' w' => (∃ x1 y1, v' = .tuple #[.slice x1 (M.V).length y1, .int .i64 0] ∧ RowB w' x1 y1 (M.V)) ∧ Below w.heap.size w w') ((load1024 h.t.l.m hl).mono fun e w' q => by obtain ⟨x1, y1, q1, q2, q3⟩ := q; exact ⟨_, q1, ⟨x1, y1, rfl, q2⟩, q3⟩) fun a14 v1 w1 r1 h13 => ?_
  obtain ⟨⟨l1, c1, rfl, o1⟩, b1⟩ := r1; have HS1 := hid (h.mono b1); have BJ1 := hid (kept_trans (Below.refl _ _) b1); have HR1 := hid o1
  clear o1 b1
  refine wmk h13 rfl rfl rfl rfl 20 rfl (fun _ => rfl) fun a16 h15 => ?_
  refine wv h15 rfl rfl rfl rfl (.slice l1 (M.V).length c1) (by unfold execOp; simp only [h15.ev 15 rfl]; exact rfl) fun a18 h17 => ?_
  refine wv h17 rfl rfl rfl rfl (.int .i64 0) (by unfold execOp; simp only [h17.ev 15 rfl]; exact rfl) fun a20 h19 => ?_
  refine wmk h19 rfl rfl rfl rfl 21 rfl (fun _ => rfl) fun a22 h21 => ?_
  refine wmk h21 rfl rfl rfl rfl 22 rfl (fun _ => rfl) fun a24 h23 => ?_
  have h25 := h23.subs (l' := [(3, _), (2, _), (0, _)]) rfl
  clear h23
  iterate 5 go_step
  refine wmk h25 rfl rfl rfl rfl 0 rfl (fun _ => rfl) fun a27 h26 => ?_
  refine wv h26 rfl rfl rfl rfl (.pointer (some ⟨K.pp, 0, none⟩)) (by unfold execOp; simp only [h26.ev 24 rfl]; exact rfl) fun a29 h28 => ?_
  refine wv h28 rfl rfl rfl rfl (.pointer (some ⟨K.pp, 0, none⟩)) (by unfold execOp; simp only [h28.ev 25 rfl]; exact run_v (faZ_40_0_0 (K.pp) _)) fun a31 h30 => ?_
  refine wv h30 rfl rfl rfl rfl (.pointer (some ⟨K.g, 0, none⟩)) (by unfold execOp; simp only [h30.ev 26 rfl]; exact run_v (loadMP (HS1.out.t.q.cell (i := 0) (by show 0 < 5; omega)))) fun a33 h32 => ?_
  refine wpk_call h32 (wanted_none rfl) rfl (by decide) (fr rfl) (fun args => callZ_28 args _) rfl #[.pointer (some ⟨K.g, 0, none⟩), .int .i64 0, .int .i64 1024] (by simp only [List.map_toArray, List.map_cons, List.map_nil, h32.ev 27 rfl]; rfl) (R := fun v' w' => (∃ x1 y1, v' = .tuple #[.slice x1 (M.D).length y1, .int .i64 0] ∧ RowB w' x1 y1 (M.D)) ∧ Below w1.heap.size w1 w') ((lasts1024 HS1.out.t.l.m hl).mono fun e w' q => by obtain ⟨x1, y1, q1, q2, q3⟩ := q; exact ⟨_, q1, ⟨x1, y1, rfl, q2⟩, q3⟩) fun a35 v2 w2 r2 h34 => ?_
  obtain ⟨⟨l2, c2, rfl, o2⟩, b2⟩ := r2; have HS2 := hid (HS1.out.mono b2); have BJ2 := hid (kept_trans BJ1.out b2); have HR2 := hid o2
  have HR1_2 := hid (HR1.out.below b2)
  clear o2 b2
  refine wmk h34 rfl rfl rfl rfl 28 rfl (fun _ => rfl) fun a37 h36 => ?_
  refine wv h36 rfl rfl rfl rfl (.slice l2 (M.D).length c2) (by unfold execOp; simp only [h36.ev 23 rfl]; exact rfl) fun a39 h38 => ?_
  refine wv h38 rfl rfl rfl rfl (.int .i64 0) (by unfold execOp; simp only [h38.ev 23 rfl]; exact rfl) fun a41 h40 => ?_
  refine wmk h40 rfl rfl rfl rfl 29 rfl (fun _ => rfl) fun a43 h42 => ?_
  refine wmk h42 rfl rfl rfl rfl 30 rfl (fun _ => rfl) fun a45 h44 => ?_
  have h46 := h44.subs (l' := [(5, _), (3, _), (2, _), (0, _)]) rfl
  clear h44
  iterate 5 go_step
  refine wmk h46 rfl rfl rfl rfl 0 rfl (fun _ => rfl) fun a48 h47 => ?_
  refine wv h47 rfl rfl rfl rfl (.pointer (some ⟨K.pp, 0, none⟩)) (by unfold execOp; simp only [h47.ev 32 rfl]; exact rfl) fun a50 h49 => ?_
  refine wv h49 rfl rfl rfl rfl (.pointer (some ⟨K.pp, 2, none⟩)) (by unfold execOp; simp only [h49.ev 33 rfl]; exact run_v (faZ_40_0_2 (K.pp) _)) fun a52 h51 => ?_
  refine wv h51 rfl rfl rfl rfl (.pointer (some ⟨K.tg, 0, none⟩)) (by unfold execOp; simp only [h51.ev 34 rfl]; exact run_v (loadTP (HS2.out.t.q.cell (i := 2) (by show 2 < 5; omega)))) fun a54 h53 => ?_
  refine wpk_call h53 (wanted_none rfl) rfl (by decide) (fr rfl) (fun args => callZ_14 args _) rfl #[.pointer (some ⟨K.tg, 0, none⟩), .int .i64 0, .int .i64 1024] (by simp only [List.map_toArray, List.map_cons, List.map_nil, h53.ev 35 rfl]; rfl) (R := fun v' w' => (∃ x1 y1, v' = .tuple #[.slice x1 (loadT M.V M P 0 1024).length y1, .int .i64 (errM M 0 1024)] ∧ RowB w' x1 y1 (loadT M.V M P 0 1024)) ∧ Below w2.heap.size w2 w') ((HS2.out.loadL htx (by omega) 0 1024 (by unfold i64B; omega) (by unfold i64B; omega)).mono fun e w' q => by obtain ⟨x1, y1, q1, q2, q3⟩ := q; exact ⟨_, q1, ⟨x1, y1, rfl, q2.row⟩, q3⟩) fun a56 v3 w3 r3 h55 => ?_
  obtain ⟨⟨l3, c3, rfl, o3⟩, b3⟩ := r3; have HS3 := hid (HS2.out.mono b3); have BJ3 := hid (kept_trans BJ2.out b3); have HR3 := hid o3
  have HR1_3 := hid (HR1_2.out.below b3)
  have HR2_3 := hid (HR2.out.below b3)
  clear o3 b3
  refine wmk h55 rfl rfl rfl rfl 36 rfl (fun _ => rfl) fun a58 h57 => ?_
  refine wv h57 rfl rfl rfl rfl (.slice l3 (loadT M.V M P 0 1024).length c3) (by unfold execOp; simp only [h57.ev 31 rfl]; exact rfl) fun a60 h59 => ?_
  refine wv h59 rfl rfl rfl rfl (.int .i64 (errM M 0 1024)) (by unfold execOp; simp only [h59.ev 31 rfl]; exact rfl) fun a62 h61 => ?_
  refine wmk h61 rfl rfl rfl rfl 37 rfl (fun _ => rfl) fun a64 h63 => ?_
  refine wmk h63 rfl rfl rfl rfl 38 rfl (fun _ => rfl) fun a66 h65 => ?_
  have h67 := h65.subs (l' := [(7, _), (5, _), (3, _), (2, _), (0, _)]) rfl
  clear h65
  iterate 5 go_step
  refine wmk h67 rfl rfl rfl rfl 0 rfl (fun _ => rfl) fun a69 h68 => ?_
  refine wv h68 rfl rfl rfl rfl (.pointer (some ⟨K.pp, 0, none⟩)) (by unfold execOp; simp only [h68.ev 40 rfl]; exact rfl) fun a71 h70 => ?_
  refine wv h70 rfl rfl rfl rfl (.pointer (some ⟨K.pp, 4, none⟩)) (by unfold execOp; simp only [h70.ev 41 rfl]; exact run_v (faZ_40_0_4 (K.pp) _)) fun a73 h72 => ?_
  refine wv h72 rfl rfl rfl rfl (.pointer (some ⟨K.dt, 0, none⟩)) (by unfold execOp; simp only [h72.ev 42 rfl]; exact run_v (loadTx9 (HS3.out.t.q.cell (i := 4) (by show 4 < 5; omega)))) fun a75 h74 => ?_
  refine wpk_call h74 (wanted_none rfl) rfl (by decide) (fr rfl) (fun args => callZ_27 args _) rfl #[.pointer (some ⟨K.dt, 0, none⟩), .int .i64 0, .int .i64 1024] (by simp only [List.map_toArray, List.map_cons, List.map_nil, h74.ev 43 rfl]; rfl) (R := fun v' w' => (∃ x1 y1, v' = .tuple #[.slice x1 (loadT M.V M P 0 1024).length y1, .int .i64 (errM M 0 1024)] ∧ RowB w' x1 y1 (loadT M.V M P 0 1024)) ∧ Below w3.heap.size w3 w') ((HS3.out.loadR htx (by omega) 0 1024 (by unfold i64B; omega) (by unfold i64B; omega)).mono fun e w' q => by obtain ⟨x1, y1, q1, q2, q3⟩ := q; exact ⟨_, q1, ⟨x1, y1, rfl, q2.row⟩, q3⟩) fun a77 v4 w4 r4 h76 => ?_
  obtain ⟨⟨l4, c4, rfl, o4⟩, b4⟩ := r4; have HS4 := hid (HS3.out.mono b4); have BJ4 := hid (kept_trans BJ3.out b4); have HR4 := hid o4
  have HR1_4 := hid (HR1_3.out.below b4)
  have HR2_4 := hid (HR2_3.out.below b4)
  have HR3_4 := hid (HR3.out.below b4)
  clear o4 b4
  refine wmk h76 rfl rfl rfl rfl 44 rfl (fun _ => rfl) fun a79 h78 => ?_
  refine wv h78 rfl rfl rfl rfl (.slice l4 (loadT M.V M P 0 1024).length c4) (by unfold execOp; simp only [h78.ev 39 rfl]; exact rfl) fun a81 h80 => ?_
  refine wv h80 rfl rfl rfl rfl (.int .i64 (errM M 0 1024)) (by unfold execOp; simp only [h80.ev 39 rfl]; exact rfl) fun a83 h82 => ?_
  refine wmk h82 rfl rfl rfl rfl 45 rfl (fun _ => rfl) fun a85 h84 => ?_
  refine wmk h84 rfl rfl rfl rfl 46 rfl (fun _ => rfl) fun a87 h86 => ?_
  have h88 := h86.subs (l' := [(9, _), (7, _), (5, _), (3, _), (2, _), (0, _)]) rfl
  clear h86
  iterate 5 go_step
  refine wmk h88 rfl rfl rfl rfl 3 rfl (fun _ => rfl) fun a90 h89 => ?_
  refine wmk h89 rfl rfl rfl rfl 0 rfl (fun _ => rfl) fun a92 h91 => ?_
  refine wv h91 rfl rfl rfl rfl (.pointer (some ⟨K.pp, 0, none⟩)) (by unfold execOp; simp only [h91.ev 48 rfl]; exact rfl) fun a94 h93 => ?_
  refine wv h93 rfl rfl rfl rfl (.pointer (some ⟨K.pp, 3, none⟩)) (by unfold execOp; simp only [h93.ev 49 rfl]; exact run_v (faZ_40_0_3 (K.pp) _)) fun a96 h95 => ?_
  refine wv h95 rfl rfl rfl rfl (.pointer (some ⟨K.gr, 0, none⟩)) (by unfold execOp; simp only [h95.ev 50 rfl]; exact run_v (loadMR (HS4.out.t.q.cell (i := 3) (by show 3 < 5; omega)))) fun a98 h97 => ?_
  refine wv h97 rfl rfl rfl rfl (.pointer (some ⟨K.gr, 0, none⟩)) (by unfold execOp; simp only [h97.ev 51 rfl]; exact rfl) fun a100 h99 => ?_
  refine wv h99 rfl rfl rfl rfl (.pointer (some ⟨K.gr, 0, none⟩)) (by unfold execOp; simp only [h99.ev 52 rfl]; exact run_v (faZ_61_0_0 (K.gr) _)) fun a102 h101 => ?_
  refine wv h101 rfl rfl rfl rfl (.slice (some ⟨K.vr, 0, none⟩) M.V.length M.V.length) (by unfold execOp; simp only [h101.ev 53 rfl]; exact run_v (loadYP (HS4.out.r.m.2.2.1.cell (i := 0) (by show 0 < 3; omega)))) fun a104 h103 => ?_
  refine wpk_call h103 (wanted_none rfl) rfl (by decide) (fr rfl) (fun args => callZ_11 args _) rfl #[.slice l1 (M.V).length c1, .slice (some ⟨K.vr, 0, none⟩) M.V.length M.V.length] (by simp only [List.map_toArray, List.map_cons, List.map_nil, h103.ev 47 rfl, h103.ev 54 rfl]) (R := fun v' w' => v' = .bool true ∧ Below w4.heap.size w4 w') ((same9T HR1_4.out (row_of_blk HS4.out.r.m.2.2.2.1 (by omega)) (by omega)).mono fun e w' q => ⟨_, q.1, rfl, q.2⟩) fun a106 v5 w5 r5 h105 => ?_
  obtain ⟨rfl, b5⟩ := r5; have HS5 := hid (HS4.out.mono b5); have BJ5 := hid (kept_trans BJ4.out b5)
  have HR1_5 := hid (HR1_4.out.below b5)
  have HR2_5 := hid (HR2_4.out.below b5)
  have HR3_5 := hid (HR3_4.out.below b5)
  have HR4_5 := hid (HR4.out.below b5)
  clear b5
  refine wmk h105 rfl rfl rfl rfl 55 rfl (fun _ => rfl) fun a108 h107 => ?_
  have h109 := h107.subs (l' := [(11, _), (9, _), (7, _), (5, _), (3, _), (2, _), (0, _)]) rfl
  clear h107
  iterate 5 go_step
  refine wmk h109 rfl rfl rfl rfl 5 rfl (fun _ => rfl) fun a111 h110 => ?_
  refine wmk h110 rfl rfl rfl rfl 0 rfl (fun _ => rfl) fun a113 h112 => ?_
  refine wv h112 rfl rfl rfl rfl (.pointer (some ⟨K.pp, 0, none⟩)) (by unfold execOp; simp only [h112.ev 57 rfl]; exact rfl) fun a115 h114 => ?_
  refine wv h114 rfl rfl rfl rfl (.pointer (some ⟨K.pp, 3, none⟩)) (by unfold execOp; simp only [h114.ev 58 rfl]; exact run_v (faZ_40_0_3 (K.pp) _)) fun a117 h116 => ?_
  refine wv h116 rfl rfl rfl rfl (.pointer (some ⟨K.gr, 0, none⟩)) (by unfold execOp; simp only [h116.ev 59 rfl]; exact run_v (loadMR (HS5.out.t.q.cell (i := 3) (by show 3 < 5; omega)))) fun a119 h118 => ?_
  refine wv h118 rfl rfl rfl rfl (.pointer (some ⟨K.gr, 0, none⟩)) (by unfold execOp; simp only [h118.ev 60 rfl]; exact rfl) fun a121 h120 => ?_
  refine wv h120 rfl rfl rfl rfl (.pointer (some ⟨K.gr, 1, none⟩)) (by unfold execOp; simp only [h120.ev 61 rfl]; exact run_v (faZ_61_0_1 (K.gr) _)) fun a123 h122 => ?_
  refine wv h122 rfl rfl rfl rfl (.slice (some ⟨K.dr, 0, none⟩) M.V.length M.V.length) (by unfold execOp; simp only [h122.ev 62 rfl]; exact run_v (loadYP (HS5.out.r.m.2.2.1.cell (i := 1) (by show 1 < 3; omega)))) fun a125 h124 => ?_
  refine wpk_call h124 (wanted_none rfl) rfl (by decide) (fr rfl) (fun args => callZ_11 args _) rfl #[.slice l2 (M.D).length c2, .slice (some ⟨K.dr, 0, none⟩) M.V.length M.V.length] (by simp only [List.map_toArray, List.map_cons, List.map_nil, h124.ev 56 rfl, h124.ev 63 rfl]) (R := fun v' w' => v' = .bool true ∧ Below w5.heap.size w5 w') ((same9D (HS5.out.r.m.1.1) HR2_5.out (row_of_blkD HS5.out.r.m (by omega)) (by rw [HS5.out.r.m.1.1]; omega)).mono fun e w' q => ⟨_, q.1, rfl, q.2⟩) fun a127 v6 w6 r6 h126 => ?_
  obtain ⟨rfl, b6⟩ := r6; have HS6 := hid (HS5.out.mono b6); have BJ6 := hid (kept_trans BJ5.out b6)
  have HR1_6 := hid (HR1_5.out.below b6)
  have HR2_6 := hid (HR2_5.out.below b6)
  have HR3_6 := hid (HR3_5.out.below b6)
  have HR4_6 := hid (HR4_5.out.below b6)
  clear b6
  refine wmk h126 rfl rfl rfl rfl 64 rfl (fun _ => rfl) fun a129 h128 => ?_
  have h130 := h128.subs (l' := [(12, _), (11, _), (9, _), (7, _), (5, _), (3, _), (2, _), (0, _)]) rfl
  clear h128
  iterate 5 go_step
  refine wmk h130 rfl rfl rfl rfl 7 rfl (fun _ => rfl) fun a132 h131 => ?_
  refine wmk h131 rfl rfl rfl rfl 9 rfl (fun _ => rfl) fun a134 h133 => ?_
  refine wpk_call h133 (wanted_none rfl) rfl (by decide) (fr rfl) (fun args => callZ_11 args _) rfl #[.slice l3 (loadT M.V M P 0 1024).length c3, .slice l4 (loadT M.V M P 0 1024).length c4] (by simp only [List.map_toArray, List.map_cons, List.map_nil, h133.ev 65 rfl, h133.ev 66 rfl]) (R := fun v' w' => v' = .bool true ∧ Below w6.heap.size w6 w') ((same9T HR3_6.out HR4_6.out (Nat.le_trans (loadT_le hl) (by omega))).mono fun e w' q => ⟨_, q.1, rfl, q.2⟩) fun a136 v7 w7 r7 h135 => ?_
  obtain ⟨rfl, b7⟩ := r7; have HS7 := hid (HS6.out.mono b7); have BJ7 := hid (kept_trans BJ6.out b7)
  have HR1_7 := hid (HR1_6.out.below b7)
  have HR2_7 := hid (HR2_6.out.below b7)
  have HR3_7 := hid (HR3_6.out.below b7)
  have HR4_7 := hid (HR4_6.out.below b7)
  clear b7
  refine wmk h135 rfl rfl rfl rfl 67 rfl (fun _ => rfl) fun a138 h137 => ?_
  have h139 := h137.subs (l' := [(13, _), (12, _), (11, _), (9, _), (7, _), (5, _), (3, _), (2, _), (0, _)]) rfl
  clear h137
  iterate 4 go_step
  have HSd := hid (HS7.out.mono (Below.refl _ _).drew)
  refine wp_region_held_drew (S := fun w' => SideT w' B K ta tc ra rc M P M P) (by kernel_rfl) HSd.out (fun hS1 => ?_)
  refine wpk_take hS1 h139 0 rfl rfl (by decide) (fr rfl) (by kernel_rfl) (by kernel_rfl) (by kernel_rfl) (fun _ _ _ _ h => h) (.pointer (some ⟨K.pp, 0, none⟩)) (Or.inl ⟨Eq.refl true, fun w1 hSw => (by show (execOp _ (⟨_, .move (.tmp 0), _, _, _, _⟩ : Oper)).run _ _ = _; exact (by unfold execOp; simp only [h139.ev 0 rfl]; rfl))⟩) fun a141 h140 => ?_
  refine tkn hS1 h140 1 68 rfl rfl rfl rfl (by kernel_rfl) (fun _ _ _ _ h => h) rfl rfl rfl fun a143 h142 => ?_
  refine tkf hS1 h142 2 69 rfl rfl rfl rfl (by kernel_rfl) (fun _ _ _ _ h => h) rfl rfl rfl (fun w => faZ_40_0_2 _ w) fun a145 h144 => ?_
  refine tkl hS1 h144 3 70 rfl rfl rfl rfl (by kernel_rfl) (fun _ _ _ _ h => h) rfl rfl rfl (fun _ hSw => (loadTP (hSw.t.q.cell (i := 2) (by show 2 < 5; omega)))) fun a147 h146 => ?_
  refine wpk_take hS1 h146 5 rfl rfl (by decide) (fr rfl) (by kernel_rfl) (by kernel_rfl) (by kernel_rfl) (fun _ _ _ _ h => h) (.pointer (some ⟨K.pp, 0, none⟩)) (Or.inl ⟨Eq.refl true, fun w1 hSw => (by show (execOp _ (⟨_, .move (.tmp 0), _, _, _, _⟩ : Oper)).run _ _ = _; exact (by unfold execOp; simp only [h146.ev 0 rfl]; rfl))⟩) fun a149 h148 => ?_
  refine tkn hS1 h148 6 73 rfl rfl rfl rfl (by kernel_rfl) (fun _ _ _ _ h => h) rfl rfl rfl fun a151 h150 => ?_
  refine tkf hS1 h150 7 74 rfl rfl rfl rfl (by kernel_rfl) (fun _ _ _ _ h => h) rfl rfl rfl (fun w => faZ_40_0_4 _ w) fun a153 h152 => ?_
  refine tkl hS1 h152 8 75 rfl rfl rfl rfl (by kernel_rfl) (fun _ _ _ _ h => h) rfl rfl rfl (fun _ hSw => (loadTx9 (hSw.t.q.cell (i := 4) (by show 4 < 5; omega)))) fun a155 h154 => ?_
  refine tkn hS1 h154 9 76 rfl rfl rfl rfl (by kernel_rfl) (fun _ _ _ _ h => h) rfl rfl rfl fun a157 h156 => ?_
  refine tkf hS1 h156 10 77 rfl rfl rfl rfl (by kernel_rfl) (fun _ _ _ _ h => h) rfl rfl rfl (fun w => faZ_56_0_2 _ w) fun a159 h158 => ?_
  refine tkl hS1 h158 11 78 rfl rfl rfl rfl (by kernel_rfl) (fun _ _ _ _ h => h) rfl rfl rfl (fun _ hSw => (loadPtsP (hSw.d.cell (i := 2) (by show 2 < 3; omega)))) fun a161 h160 => ?_
  refine wpk_onlyW 4 rfl (wanted_none rfl) (by kernel_rfl) fun KK hK => op_call h160 rfl (by decide) (fr rfl) (fun args => callZ_15 args _) rfl #[.pointer (some ⟨K.tg, 0, none⟩)] (by simp only [List.map_toArray, List.map_cons, List.map_nil, h160.ev 71 rfl]) (R := fun v' w' => (∃ x1 y1, v' = .slice x1 P.length y1 ∧ OwnPt w' w7.drew.heap.size x1 y1 P) ∧ Below w7.drew.heap.size w7.drew w') ((patches_any hS1.t.t hS1.t.o.row (by have := htx.n; omega)).mono fun e w' q => by obtain ⟨x1, y1, q1, q2, q3⟩ := q; exact ⟨_, q1, ⟨x1, y1, rfl, q2⟩, q3⟩) fun a163 vp wp rp h162 => hK _ _ (hS1.mono rp.2) fun hS2 => ?_
  clear hK KK
  obtain ⟨⟨lp, cp, rfl, op⟩, bp⟩ := rp; have HPp := hid op.row; have BJp := hid (kept_trans (BJ7.out.drew) bp); clear op bp
  refine wpk_onlyW 12 rfl (wanted_none rfl) (by kernel_rfl) fun KK hK => op_call h162 rfl (by decide) (fr rfl) (fun args => callZ_29 args _) rfl #[.slice lp P.length cp, .slice ra P.length rc] (by simp only [List.map_toArray, List.map_cons, List.map_nil, h162.ev 72 rfl, h162.ev 79 rfl]) (R := fun v' w' => v' = .bool true ∧ Below wp.heap.size wp w') ((samePts_eq HPp.out hS2.o.row (by have := htx.n; omega)).mono fun e w' q => ⟨_, q.1, rfl, q.2⟩) fun a165 vq wq rq h164 => hK _ _ (hS2.mono rq.2) fun hS3 => ?_
  clear hK KK
  obtain ⟨rfl, bq⟩ := rq; have BJq := hid (kept_trans BJp.out bq); clear bq
  refine wpk_take hS3 h164 13 rfl rfl (by decide) (fr rfl) (by kernel_rfl) (by kernel_rfl) (by kernel_rfl) (fun _ _ _ _ h => h) (.bool true) (Or.inl ⟨Eq.refl true, fun w1 hSw => (by show (execOp _ (⟨_, .assign (.tmp 80), _, _, _, _⟩ : Oper)).run _ _ = _; exact (by unfold execOp; simp only [h164.ev 80 rfl]; rfl))⟩) fun a167 h166 => ?_
  refine wpAnyH_done (by kernel_rfl) ?_ _
  have h168 := h166.subs (l' := [(14, _), (13, _), (12, _), (11, _), (9, _), (7, _), (5, _), (3, _), (2, _), (0, _)]) rfl
  clear h166
  iterate 4 go_step
  refine wmk h168 rfl rfl rfl rfl 11 rfl (fun _ => rfl) fun a170 h169 => ?_
  refine wmk h169 rfl rfl rfl rfl 81 rfl (fun _ => rfl) fun a172 h171 => ?_
  refine wpk_val h171 (by rw [wanted_of (g := 1) (want := true) (b := true) rfl (h171.yields (prev := 82) rfl (by simp))]; rfl) rfl (by decide) (fr rfl) (.bool true) (by unfold execOp; simp only [h171.ev 12 rfl]; rfl) fun a174 h173 => ?_
  refine wv h173 rfl rfl rfl rfl (.bool true) (run_pick rfl (h173.ev 82 rfl) (by rw [if_pos rfl]; exact h173.ev 83 rfl)) fun a176 h175 => ?_
  refine wmk h175 rfl rfl rfl rfl 84 rfl (fun _ => rfl) fun a178 h177 => ?_
  refine wpk_val h177 (by rw [wanted_of (g := 4) (want := true) (b := true) rfl (h177.yields (prev := 85) rfl (by simp))]; rfl) rfl (by decide) (fr rfl) (.bool true) (by unfold execOp; simp only [h177.ev 13 rfl]; rfl) fun a180 h179 => ?_
  refine wv h179 rfl rfl rfl rfl (.bool true) (run_pick rfl (h179.ev 85 rfl) (by rw [if_pos rfl]; exact h179.ev 86 rfl)) fun a182 h181 => ?_
  refine wmk h181 rfl rfl rfl rfl 87 rfl (fun _ => rfl) fun a184 h183 => ?_
  refine wpk_val h183 (by rw [wanted_of (g := 7) (want := true) (b := true) rfl (h183.yields (prev := 88) rfl (by simp))]; rfl) rfl (by decide) (fr rfl) (.bool true) (by unfold execOp; simp only [h183.ev 14 rfl]; rfl) fun a186 h185 => ?_
  refine wv h185 rfl rfl rfl rfl (.bool true) (run_pick rfl (h185.ev 88 rfl) (by rw [if_pos rfl]; exact h185.ev 89 rfl)) fun a188 h187 => ?_
  have h189 := h187.subs (l' := [(90, _), (89, _), (88, _), (87, _), (86, _), (85, _), (84, _), (83, _), (82, _), (81, _), (14, _), (13, _), (12, _), (11, _), (9, _), (7, _), (5, _), (3, _), (0, _)]) rfl
  clear h187
  refine wmk h189 rfl rfl rfl rfl 90 rfl (fun _ => rfl) fun a191 h190 => ?_
  have h192 := h190.subs (l' := [(2, _), (14, _), (13, _), (12, _), (11, _), (9, _), (7, _), (5, _), (3, _), (0, _)]) rfl
  clear h190
  iterate 4 go_step
  exact bodyPost_ret (results_tmp1 rfl (h192.known (2, .bool true) (by simp))) h192.defs ⟨rfl, BJq.out⟩
end Go.Proofs.YtcackliabemecaaGreatDoor
