/- Merged: PlgB PlgC PlgD. -/
import Derived.Test.YtcackliabemecaaGreatDoorPlgA
/- plog.Encode. (genPlgB.py) -/
namespace Go.Proofs.YtcackliabemecaaGreatDoor
open Go.RowKit
set_option linter.unusedSimpArgs false
set_option linter.unusedVariables false
set_option maxRecDepth 100000

theorem gtIP (x y : Operand) (v u : Int) (w : World) {b : Bool} (h : decide (u < v) = b) : (do eqGuard .gtr 3 x y (.int .i64 v) (.int .i64 u); binOp .gtr 3 (.int .i64 v) (.int .i64 u) : Sem Value).run Tryz.prog w = .ok (.bool b) w := by
  have u3 := Tryz.underlying3
  have a3 := Tryz.isAgg3
  have z3 := Tryz.sizeOf3
  go_simp
theorem ltIP (x y : Operand) (v u : Int) (w : World) {b : Bool} (h : decide (v < u) = b) : (do eqGuard .lss 3 x y (.int .i64 v) (.int .i64 u); binOp .lss 3 (.int .i64 v) (.int .i64 u) : Sem Value).run Tryz.prog w = .ok (.bool b) w := by
  have u3 := Tryz.underlying3
  have a3 := Tryz.isAgg3
  have z3 := Tryz.sizeOf3
  go_simp
theorem addIP (x y : Operand) (j : Nat) (hj : j ≤ 1000000) (w : World) : (do eqGuard .add 3 x y (.int .i64 (j : Int)) (.int .i64 1); binOp .add 3 (.int .i64 (j : Int)) (.int .i64 1) : Sem Value).run Tryz.prog w = .ok (.int .i64 ((j + 1 : Nat) : Int)) w := by
  have u3 := Tryz.underlying3
  have a3 := Tryz.isAgg3
  have z3 := Tryz.sizeOf3
  have e1 : IntKind.i64.wrap ((j : Int) + 1) = (j : Int) + 1 := IntWalk.i64_in _ (by omega)
  go_simp
theorem ixP (b off n c j : Nat) (hj : j < n) (w : World) : (Instr.indexAt 44 (.slice (some ⟨b, off, none⟩) n c) (.int .i64 (j : Int))).run Tryz.prog w = .ok (.pointer (some ⟨b, off + j * 2, none⟩)) w := by
  have u3 := Tryz.underlying44
  have u9 := Tryz.underlying47
  have z3 := Tryz.sizeOf47
  have d0 : (j : Int) < (n : Int) := by omega
  have d1 : 0 ≤ (j : Int) := by omega
  go_simp
theorem run_lenP {o : Oper} {x : Operand} (ho : o.op = .call { callee := .builtin .len, args := #[x], argTypes := #[44] }) {ρ : Operand → Value} {a : Option Addr} {n c : Nat} (hx : ρ x = .slice a n c) (w : World) : (execOp ρ o).run Tryz.prog w = .ok (.value (.int .i64 (n : Int))) w := by
  unfold execOp; rw [ho]
  have u3 := Tryz.underlying44
  simp [resolve, invoke, builtin, hx]
  go_simp
theorem run_lenBP {o : Oper} {x : Operand} (ho : o.op = .call { callee := .builtin .len, args := #[x], argTypes := #[26] }) {ρ : Operand → Value} {a : Option Addr} {n c : Nat} (hx : ρ x = .slice a n c) (w : World) : (execOp ρ o).run Tryz.prog w = .ok (.value (.int .i64 (n : Int))) w := by
  unfold execOp; rw [ho]
  have u3 := Tryz.underlying26
  simp [resolve, invoke, builtin, hx]
  go_simp
theorem run_lenSP {o : Oper} {x : Operand} (ho : o.op = .call { callee := .builtin .len, args := #[x], argTypes := #[9] }) {ρ : Operand → Value} {s : List UInt8} (hx : ρ x = strB s) (w : World) : (execOp ρ o).run Tryz.prog w = .ok (.value (.int .i64 (s.length : Int))) w := by
  unfold execOp; rw [ho]
  have u3 := Tryz.underlying9
  have hsz := bsB_size s
  simp [resolve, invoke, builtin, hx, strB]
  go_simp
theorem convU32 (n : Nat) (h : n < 4294967296) (w : World) : (convert 90 3 (.int .u32 (n : Int))).run Tryz.prog w = .ok (.int .i64 (n : Int)) w := by
  have u3 := Tryz.underlying3
  have u4 := Tryz.underlying90
  have e1 : IntKind.i64.wrap (n : Int) = (n : Int) := IntWalk.i64_in _ (by omega)
  go_simp
theorem run_not {P : Program} {o : Oper} {ty : TypeId} {x : Operand} {w : World} (ho : o.op = .unOp .not ty x) {ρ : Operand → Value} {b : Bool} (hb : ρ x = .bool b) : (execOp ρ o).run P w = .ok (.value (.bool (!b))) w := by
  unfold execOp
  rw [ho]
  simp only [hb]
  go_simp
/-- a struct stored into a part of a block -/
theorem wpk_storeP {P : Program} {ops : Array Oper} {Q : Exit → Act → World → Prop} {rest : List Oper} {o : Oper} {a : Act} {w : World} {N : Nat} {l : List (Nat × Value)} (h : Kn N l a) (hw : o.guard = none) (hd : o.dst = none) {T : TypeId} {x y : Operand} (ho : o.op = .store T x y) (g off : Nat) (hx : a.eval x = .pointer (some ⟨g, off, none⟩)) (vs : List Value) (hy : a.eval y = .agg vs.toArray) (hn : (P.info? T).map (·.size) = some vs.length) (h1 : ∀ v ∈ vs, v.oneCell' = true) {e : TypeId} {L : List Value} (hb : Blk w g e L) (hL : off + vs.length ≤ L.length)
    (k : ∀ a' w', Kn N l a' → Blk w' g e (splice L off vs) → w.grownBy w' (some g) → wpList P ops Q rest a' w') : wpList P ops Q (o :: rest) a w := by
  refine wpl_storeM hw T x y ho g off hx vs hy hn h1 hb hL fun w' hb' hg => ?_
  rw [hd]
  exact k a w' h hb' hg
/-- what rounding up leaves -/
theorem padding_any (n : Nat) (hn : n ≤ 1000000) (w : World) : Calls Tryz.prog 64 #[.int .i64 (n : Int)] w fun e w' => e = .returned (.int .i64 (pad8 n : Int)) ∧ w = w' := by
  have hu : upF (n : Int) 8 = (n : Int) + (pad8 n : Int) := by
    unfold upF
    have hr : roundsB (n : Int) 8 = true := rounds_and.2 ⟨by omega, by omega, by omega, by omega⟩
    rw [if_pos hr]
    have := pad8_val n
    omega
  have ez : IntKind.i64.wrap ((n : Int) + (pad8 n : Int) - (n : Int)) = (pad8 n : Int) := by rw [show (n : Int) + (pad8 n : Int) - (n : Int) = (pad8 n : Int) by omega]; exact IntWalk.i64_in _ (by unfold pad8; omega)
  have HU := hid (fun w1 => up_any (n : Int) 8 w1)
  rw [hu] at HU
  clear hu
  go_enter Tryz.func64, Tryz.ntmps64
  go_wp2_with fail
  refine (HU.out _).mono ?_
  rintro e w1 ⟨rfl, rfl⟩
  go_wp2_with fail
  go_ret
  exact ⟨rfl, rfl⟩
theorem callP_31 (args : Array Value) (w : World) : (callFunc 61 args).run Tryz.prog w = .ok (.enter 61 args) w := by
  have h := Tryz.func61
  go_simp
theorem callP_32 (args : Array Value) (w : World) : (callFunc 62 args).run Tryz.prog w = .ok (.enter 62 args) w := by
  have h := Tryz.func62
  go_simp
theorem callP_33 (args : Array Value) (w : World) : (callFunc 63 args).run Tryz.prog w = .ok (.enter 63 args) w := by
  have h := Tryz.func63
  go_simp
theorem callP_34 (args : Array Value) (w : World) : (callFunc 64 args).run Tryz.prog w = .ok (.enter 64 args) w := by
  have h := Tryz.func64
  go_simp
theorem fa_46_0_0 (g : Nat) (w : World) : (Instr.fieldAt 47 (.pointer (some ⟨g, 0, none⟩)) 0).run Tryz.prog w = .ok (.pointer (some ⟨g, 0, none⟩)) w := rfl
theorem fa_46_0_1 (g : Nat) (w : World) : (Instr.fieldAt 47 (.pointer (some ⟨g, 0, none⟩)) 1).run Tryz.prog w = .ok (.pointer (some ⟨g, 1, none⟩)) w := rfl
theorem retE {w W : World} {L : List PtM} {a : Act} (hb : Below w.heap.size w W) (hbad : encOk L = false) (hd : a.defers = []) (h2 : a.tmps[2]? = some (.slice none 0 0)) (h3 : a.tmps[3]? = some (.int .i64 1)) :
    bodyPost Tryz.prog Tryz.f46 (fun e w' => ∃ ba bc, e = .returned (.tuple #[.slice ba (encL L).length bc, .int .i64 (encE L)]) ∧ OwnB w' w.heap.size ba bc (encL L) ∧ Below w.heap.size w w') .ret a W := by
  refine bodyPost_ret (results_tmp2 rfl h2 h3) hd ?_
  have e1 : encL L = [] := by unfold encL; rw [if_neg (by rw [hbad]; decide)]
  have e2 : encE L = 1 := by unfold encE; rw [if_neg (by rw [hbad]; decide)]
  rw [e1, e2]
  exact ⟨none, 0, rfl, Own.nil _ _ _ _, hb⟩
set_option maxHeartbeats 4000000 in
theorem encode_any {w : World} {a : Option Addr} {c : Nat} {L : List PtM} (hL : RowPt w a c L) (okP : okPts L) (hl9 : L.length ≤ 9223372036854775807) :
    Calls Tryz.prog 46 #[.slice a L.length c] w fun e w' => ∃ ba bc, e = .returned (.tuple #[.slice ba (encL L).length bc, .int .i64 (encE L)]) ∧ OwnB w' w.heap.size ba bc (encL L) ∧ Below w.heap.size w w' := by
  have HL := hid hL
  clear hL
  go_enter Tryz.func46, Tryz.ntmps46
  iterate 3 go_step
  refine wpk_enter (N := 53) (l := [(0, .slice a L.length c)]) ⟨rfl, (by intro x hx; simp only [List.mem_cons, List.not_mem_nil, or_false] at hx; rcases hx with rfl <;> rfl), rfl⟩ fun a2 h1 => ?_
  refine wv h1 rfl rfl rfl rfl (.slice none 0 0) rfl fun a4 h3 => ?_
  refine wv h3 rfl rfl rfl rfl (.int .i64 0) rfl fun a6 h5 => ?_
  iterate 4 go_step
  by_cases hn : 64 < L.length
  · have hbig : decide ((64 : Int) < (L.length : Int)) = true := decide_eq_true (by omega)
    iterate 2 go_step
    refine wmk h5 rfl rfl rfl rfl 0 rfl (fun _ => rfl) fun a8 h7 => ?_
    refine wv h7 rfl rfl rfl rfl (.int .i64 (L.length : Int)) (run_lenP rfl (h7.ev 7 rfl) _) fun a10 h9 => ?_
    refine wv h9 rfl rfl rfl rfl (.bool true) (by unfold execOp; simp only [h9.ev 8 rfl]; exact run_v (gtIP _ _ _ _ _ hbig)) fun a12 h11 => ?_
    have h13 := h11.subs (l' := [(9, _), (3, _), (2, _), (0, _)]) rfl
    clear h11
    iterate 3 go_step
    refine wp_cond (t := true) (h13.ev 9 rfl) ?_
    simp only [if_true]
    have h14 := h13.subs (l' := [(3, _), (2, _), (0, _)]) rfl
    clear h13
    iterate 2 go_step
    have h15 := h14.subs (l' := [(3, _), (0, _)]) rfl
    clear h14
    refine wv h15 rfl rfl rfl rfl (.slice none 0 0) rfl fun a17 h16 => ?_
    have h18 := h16.subs (l' := [(2, _), (0, _)]) rfl
    clear h16
    refine wv h18 rfl rfl rfl rfl (.int .i64 1) rfl fun a20 h19 => ?_
    iterate 4 go_step
    simp only [Exit.then, Exit.inBlock]
    exact retE (Below.refl _ _) (by unfold encOk; rw [Bool.and_eq_false_iff]; left; exact decide_eq_false (by omega)) h19.defs (h19.known (2, .slice none 0 0) (by simp)) (h19.known (3, .int .i64 1) (by simp))
  · have hbig : decide ((64 : Int) < (L.length : Int)) = false := decide_eq_false (by omega)
    iterate 2 go_step
    refine wmk h5 rfl rfl rfl rfl 0 rfl (fun _ => rfl) fun a22 h21 => ?_
    refine wv h21 rfl rfl rfl rfl (.int .i64 (L.length : Int)) (run_lenP rfl (h21.ev 7 rfl) _) fun a24 h23 => ?_
    refine wv h23 rfl rfl rfl rfl (.bool false) (by unfold execOp; simp only [h23.ev 8 rfl]; exact run_v (gtIP _ _ _ _ _ hbig)) fun a26 h25 => ?_
    have h27 := h25.subs (l' := [(9, _), (3, _), (2, _), (0, _)]) rfl
    clear h25
    iterate 3 go_step
    refine wp_cond (t := false) (h27.ev 9 rfl) ?_
    simp only [Bool.false_eq_true, if_false]
    have h28 := h27.subs (l' := [(3, _), (2, _), (0, _)]) rfl
    clear h27
    iterate 5 go_step
    refine wmk h28 rfl rfl rfl rfl 0 rfl (fun _ => rfl) fun a30 h29 => ?_
    refine wv h29 rfl rfl rfl rfl (.int .i64 (L.length : Int)) (run_lenP rfl (h29.ev 10 rfl) _) fun a32 h31 => ?_
    refine wpk_call h31 (wanted_none rfl) rfl (by decide) (fr rfl) (fun args => callP_31 args _) rfl #[.slice none 0 0, .int .i64 (L.length : Int), .int .i64 2] (by simp only [List.map_toArray, List.map_cons, List.map_nil, h31.ev 11 rfl]; rfl) (R := fun v w' => ∃ a2 c2, v = .slice a2 (putF [] L.length 2).length c2 ∧ OwnB w' w.heap.size a2 c2 (putF [] L.length 2) ∧ Below w.heap.size w w') ((put_any none 0 [] (L.length : Int) 2 w (Row.nil _ _) (by simp) (by omega)).mono fun e w' q => by obtain ⟨a2, c2, q1, q2, q3⟩ := q; exact ⟨_, q1, a2, c2, rfl, q2, q3⟩) fun a34 v0 w0 r0 h33 => ?_
    obtain ⟨ba0, bc0, rfl, o0, b0⟩ := r0
    have HO0 := hid o0; have HB0 := hid b0; clear o0 b0
    refine wmk h33 rfl rfl rfl rfl 12 rfl (fun _ => rfl) fun a36 h35 => ?_
    have h37 := h35.subs (l' := [(4, _), (3, _), (2, _), (0, _)]) rfl
    clear h35
    iterate 6 go_step
    refine wmk h37 rfl rfl rfl rfl 0 rfl (fun _ => rfl) fun a39 h38 => ?_
    refine wv h38 rfl rfl rfl rfl (.int .i64 (L.length : Int)) (run_lenP rfl (h38.ev 13 rfl) _) fun a41 h40 => ?_
    refine wv h40 rfl rfl rfl rfl (.int .i64 0) rfl fun a43 h42 => ?_
    iterate 4 go_step
    have h44 := h42.subs (l' := [(4, _), (15, _), (14, _), (13, _), (3, _), (2, _), (0, _)]) rfl
    clear h42
    have hl0 : (putF [] (L.length : Int) 2).length ≤ 2 + 262 * 0 := by have h9 : (putF [] (L.length : Int) 2).length ≤ ([] : List UInt8).length + 2 := putF_lenA _ _ 2; simpa using h9
    refine wp_loop (I := fun a' w' => ∃ (j : Nat) (eb : List UInt8) (ba : Option Addr) (bc : Nat), j ≤ L.length ∧ Kn 53 [(4, .slice ba eb.length bc), (15, .int .i64 (j : Int)), (14, .int .i64 (L.length : Int)), (13, .slice a L.length c), (3, .int .i64 0), (2, .slice none 0 0), (0, .slice a L.length c)] a' ∧ eb = (L.take j).foldl encP1 (putF [] L.length 2) ∧ (L.take j).all okPt = true ∧ eb.length ≤ 2 + 262 * j ∧ OwnB w' w.heap.size ba bc eb ∧ Below w.heap.size w w') (μ := fun a' _ => L.length - (intOf (a'.eval (.tmp 15))).toNat) ⟨0, putF [] (L.length : Int) 2, ba0, bc0, by omega, h44, (by rw [List.take_zero, List.foldl_nil]), (by rw [List.take_zero, List.all_nil]), hl0, HO0.out, HB0.out⟩ ?_
    clear HO0 HB0 h44
    rintro aL aw ⟨j, eb, ba, bc, hj, hK, heb, hall, hle, ho, hb⟩
    have HO := hid ho; have HB := hid hb; have HEB := hid heb; have HAL := hid hall; clear ho hb heb hall
    by_cases hlt : j < L.length
    · have hd0 : decide ((j : Int) < (L.length : Int)) = true := decide_eq_true (by omega)
      obtain ⟨pb, poff, ha0, hrg⟩ := rowPt_at (HL.out.mono HB.out) (by omega)
      have hrg := hrg j hlt
      have hsp := okP L[j] (List.getElem_mem hlt)
      obtain ⟨p, hp⟩ : ∃ p, p = L[j] := ⟨_, rfl⟩
      rw [← hp] at hrg hsp
      unfold okI at hsp
      have HPJ := hid hp; clear hp
      cases hfit : fitsB p.at_ 4 with
      | false =>
        iterate 3 go_step
        refine wv hK rfl rfl rfl rfl (.bool true) (by unfold execOp; simp only [hK.ev 15 rfl, hK.ev 14 rfl]; exact run_v (ltIP _ _ _ _ _ hd0)) fun a46 h45 => ?_
        iterate 4 go_step
        refine wp_cond (t := true) (h45.ev 16 rfl) ?_
        simp only [if_true]
        have h47 := h45.subs (l' := [(15, _), (14, _), (13, _), (4, _), (3, _), (2, _), (0, _)]) rfl
        clear h45
        iterate 7 go_step
        refine wv h47 rfl rfl rfl rfl (.pointer (some ⟨pb, poff + j * 2, none⟩)) (by unfold execOp; simp only [h47.ev 13 rfl, h47.ev 15 rfl]; exact run_v (by rw [ha0]; exact ixP pb poff _ c j hlt _)) fun a49 h48 => ?_
        refine wv h48 rfl rfl rfl rfl (ptV p) (by unfold execOp; simp only [h48.ev 17 rfl]; exact run_v (run_loadAt_mid _ _ _ _ (ptC p) _ hrg Tryz.underlying47 rfl (by rw [infoPt]; rfl))) fun a51 h50 => ?_
        refine wv h50 rfl rfl rfl rfl (.pointer (some ⟨aw.heap.size, 0, none⟩)) (run_allocPt rfl _ aw) fun a53 h52 => ?_
        obtain ⟨wp, hwp⟩ : ∃ x, x = aw.alloc (.cells (ptC ⟨0, []⟩).toArray 47) := ⟨_, rfl⟩
        obtain ⟨gp, hgp⟩ : ∃ x, x = aw.heap.size := ⟨_, rfl⟩
        have hk0 : Blk wp gp 47 (ptC ⟨0, []⟩) := by rw [hwp, hgp]; exact blk_newO rfl _ _
        have HOp : Hid (OwnB wp w.heap.size ba bc eb) := hid (by rw [hwp]; exact Own.alloc HO.out _)
        have HBp : Hid (Below w.heap.size w wp) := hid (by rw [hwp]; exact kept_alloc HB.out _)
        have hgw : w.heap.size ≤ gp := by rw [hgp]; exact HB.out.size
        rw [← hgp] at h52; rw [← hwp]; clear hwp hgp
        refine wpk_storeP h52 rfl rfl rfl gp 0 (h52.ev 6 rfl) (ptC p) (h52.ev 18 rfl) (by rw [infoPt]; rfl) (ptC_one _) hk0 (by show 0 + 2 ≤ 2; omega) fun a55 wq h54 kq gq => ?_
        rw [splice_all (by rfl)] at kq
        have HP := hid kq; have HOq : Hid (OwnB wq w.heap.size ba bc eb) := hid (own_turnsP HOp.out hk0 (by decide) (Turns.of_grown gq rfl)); have HBq : Hid (Below w.heap.size w wq) := hid (below_grownS HBp.out gq hgw HBp.out.size)
        clear kq gq hk0 HOp HBp
        have h56 := h54.subs (l' := [(6, _), (15, _), (14, _), (13, _), (4, _), (3, _), (2, _), (0, _)]) rfl
        clear h54
        iterate 6 go_step
        refine wv h56 rfl rfl rfl rfl (.pointer (some ⟨gp, 0, none⟩)) (by unfold execOp; simp only [h56.ev 6 rfl]; exact run_v (fa_46_0_0 (gp) _)) fun a58 h57 => ?_
        refine wv h57 rfl rfl rfl rfl (.int .i64 p.at_) (by unfold execOp; simp only [h57.ev 19 rfl]; exact run_v (loadIP (HP.out.cell (i := 0) (by show 0 < 2; omega)))) fun a60 h59 => ?_
        refine wpk_call h59 (wanted_none rfl) rfl (by decide) (fr rfl) (fun args => callP_32 args _) rfl #[.int .i64 p.at_, .int .i64 4] (by simp only [List.map_toArray, List.map_cons, List.map_nil, h59.ev 20 rfl]; rfl) (R := fun v w' => v = .bool (fitsB p.at_ 4) ∧ wq = w') ((fits_any p.at_ 4 wq).mono fun e w' q => ⟨_, q.1, rfl, q.2⟩) fun a62 vf wf rf h61 => ?_
        obtain ⟨rfl, rfl⟩ := rf
        rw [hfit] at h61
        refine wv h61 rfl rfl rfl rfl (.bool true) (run_not rfl (h61.ev 21 rfl)) fun a64 h63 => ?_
        refine wmk h63 rfl rfl rfl rfl 22 rfl (fun _ => rfl) fun a66 h65 => ?_
        refine wpk_skip h65 (by rw [wanted_of (g := 4) (want := false) (b := true) rfl (h65.yields (prev := 23) rfl (by simp))]; rfl) rfl (by decide) (fr rfl) fun a68 h67 => ?_
        refine wpk_skip h67 (by rw [wanted_of (g := 4) (want := false) (b := true) rfl (h67.yields (prev := 23) rfl (by simp))]; rfl) rfl (by decide) (fr rfl) fun a70 h69 => ?_
        refine wpk_skip h69 (by rw [wanted_of (g := 4) (want := false) (b := true) rfl (h69.yields (prev := 23) rfl (by simp))]; rfl) rfl (by decide) (fr rfl) fun a72 h71 => ?_
        refine wpk_skip h71 (by rw [wanted_of (g := 4) (want := false) (b := true) rfl (h71.yields (prev := 23) rfl (by simp))]; rfl) rfl (by decide) (fr rfl) fun a74 h73 => ?_
        refine wv h73 rfl rfl rfl rfl (.bool true) (run_pick rfl (h73.ev 23 rfl) rfl) fun a76 h75 => ?_
        have h77 := h75.subs (l' := [(28, _), (6, _), (15, _), (14, _), (13, _), (4, _), (3, _), (2, _), (0, _)]) rfl
        clear h75
        iterate 3 go_step
        refine wp_cond (t := true) (h77.ev 28 rfl) ?_
        simp only [if_true]
        have h78 := h77.subs (l' := [(6, _), (15, _), (14, _), (13, _), (4, _), (3, _), (2, _), (0, _)]) rfl
        clear h77
        iterate 2 go_step
        have h79 := h78.subs (l' := [(6, _), (15, _), (14, _), (13, _), (4, _), (3, _), (0, _)]) rfl
        clear h78
        refine wv h79 rfl rfl rfl rfl (.slice none 0 0) rfl fun a81 h80 => ?_
        have h82 := h80.subs (l' := [(2, _), (6, _), (15, _), (14, _), (13, _), (4, _), (0, _)]) rfl
        clear h80
        refine wv h82 rfl rfl rfl rfl (.int .i64 1) rfl fun a84 h83 => ?_
        iterate 4 go_step
        simp only [Exit.then, Exit.inBlock]
        have hbad : encOk L = false := by unfold encOk; rw [Bool.and_eq_false_iff]; right; rw [List.all_eq_false]; exact ⟨L[j], List.getElem_mem hlt, by rw [← HPJ.out]; unfold okPt; simp [hfit]⟩
        exact retE HBq.out hbad h83.defs (h83.known (2, .slice none 0 0) (by simp)) (h83.known (3, .int .i64 1) (by simp))
      | true =>
        by_cases hl2 : 256 < p.d.length
        · have hlong : decide ((256 : Int) < (p.d.length : Int)) = true := decide_eq_true (by omega)
          iterate 3 go_step
          refine wv hK rfl rfl rfl rfl (.bool true) (by unfold execOp; simp only [hK.ev 15 rfl, hK.ev 14 rfl]; exact run_v (ltIP _ _ _ _ _ hd0)) fun a86 h85 => ?_
          iterate 4 go_step
          refine wp_cond (t := true) (h85.ev 16 rfl) ?_
          simp only [if_true]
          have h87 := h85.subs (l' := [(15, _), (14, _), (13, _), (4, _), (3, _), (2, _), (0, _)]) rfl
          clear h85
          iterate 7 go_step
          refine wv h87 rfl rfl rfl rfl (.pointer (some ⟨pb, poff + j * 2, none⟩)) (by unfold execOp; simp only [h87.ev 13 rfl, h87.ev 15 rfl]; exact run_v (by rw [ha0]; exact ixP pb poff _ c j hlt _)) fun a89 h88 => ?_
          refine wv h88 rfl rfl rfl rfl (ptV p) (by unfold execOp; simp only [h88.ev 17 rfl]; exact run_v (run_loadAt_mid _ _ _ _ (ptC p) _ hrg Tryz.underlying47 rfl (by rw [infoPt]; rfl))) fun a91 h90 => ?_
          refine wv h90 rfl rfl rfl rfl (.pointer (some ⟨aw.heap.size, 0, none⟩)) (run_allocPt rfl _ aw) fun a93 h92 => ?_
          obtain ⟨wp, hwp⟩ : ∃ x, x = aw.alloc (.cells (ptC ⟨0, []⟩).toArray 47) := ⟨_, rfl⟩
          obtain ⟨gp, hgp⟩ : ∃ x, x = aw.heap.size := ⟨_, rfl⟩
          have hk0 : Blk wp gp 47 (ptC ⟨0, []⟩) := by rw [hwp, hgp]; exact blk_newO rfl _ _
          have HOp : Hid (OwnB wp w.heap.size ba bc eb) := hid (by rw [hwp]; exact Own.alloc HO.out _)
          have HBp : Hid (Below w.heap.size w wp) := hid (by rw [hwp]; exact kept_alloc HB.out _)
          have hgw : w.heap.size ≤ gp := by rw [hgp]; exact HB.out.size
          rw [← hgp] at h92; rw [← hwp]; clear hwp hgp
          refine wpk_storeP h92 rfl rfl rfl gp 0 (h92.ev 6 rfl) (ptC p) (h92.ev 18 rfl) (by rw [infoPt]; rfl) (ptC_one _) hk0 (by show 0 + 2 ≤ 2; omega) fun a95 wq h94 kq gq => ?_
          rw [splice_all (by rfl)] at kq
          have HP := hid kq; have HOq : Hid (OwnB wq w.heap.size ba bc eb) := hid (own_turnsP HOp.out hk0 (by decide) (Turns.of_grown gq rfl)); have HBq : Hid (Below w.heap.size w wq) := hid (below_grownS HBp.out gq hgw HBp.out.size)
          clear kq gq hk0 HOp HBp
          have h96 := h94.subs (l' := [(6, _), (15, _), (14, _), (13, _), (4, _), (3, _), (2, _), (0, _)]) rfl
          clear h94
          iterate 6 go_step
          refine wv h96 rfl rfl rfl rfl (.pointer (some ⟨gp, 0, none⟩)) (by unfold execOp; simp only [h96.ev 6 rfl]; exact run_v (fa_46_0_0 (gp) _)) fun a98 h97 => ?_
          refine wv h97 rfl rfl rfl rfl (.int .i64 p.at_) (by unfold execOp; simp only [h97.ev 19 rfl]; exact run_v (loadIP (HP.out.cell (i := 0) (by show 0 < 2; omega)))) fun a100 h99 => ?_
          refine wpk_call h99 (wanted_none rfl) rfl (by decide) (fr rfl) (fun args => callP_32 args _) rfl #[.int .i64 p.at_, .int .i64 4] (by simp only [List.map_toArray, List.map_cons, List.map_nil, h99.ev 20 rfl]; rfl) (R := fun v w' => v = .bool (fitsB p.at_ 4) ∧ wq = w') ((fits_any p.at_ 4 wq).mono fun e w' q => ⟨_, q.1, rfl, q.2⟩) fun a102 vf wf rf h101 => ?_
          obtain ⟨rfl, rfl⟩ := rf
          rw [hfit] at h101
          refine wv h101 rfl rfl rfl rfl (.bool false) (run_not rfl (h101.ev 21 rfl)) fun a104 h103 => ?_
          refine wmk h103 rfl rfl rfl rfl 22 rfl (fun _ => rfl) fun a106 h105 => ?_
          refine wpk_val h105 (by rw [wanted_of (g := 4) (want := false) (b := false) rfl (h105.yields (prev := 23) rfl (by simp))]; rfl) rfl (by decide) (fr rfl) (.pointer (some ⟨gp, 1, none⟩)) (by unfold execOp; simp only [h105.ev 6 rfl]; exact run_v (fa_46_0_1 (gp) _)) fun a108 h107 => ?_
          refine wpk_val h107 (by rw [wanted_of (g := 4) (want := false) (b := false) rfl (h107.yields (prev := 23) rfl (by simp))]; rfl) rfl (by decide) (fr rfl) (strB p.d) (by unfold execOp; simp only [h107.ev 24 rfl]; exact run_v (loadSP (HP.out.cell (i := 1) (by show 1 < 2; omega)))) fun a110 h109 => ?_
          refine wpk_val h109 (by rw [wanted_of (g := 4) (want := false) (b := false) rfl (h109.yields (prev := 23) rfl (by simp))]; rfl) rfl (by decide) (fr rfl) (.int .i64 (p.d.length : Int)) (run_lenSP rfl (h109.ev 25 rfl) _) fun a112 h111 => ?_
          refine wpk_val h111 (by rw [wanted_of (g := 4) (want := false) (b := false) rfl (h111.yields (prev := 23) rfl (by simp))]; rfl) rfl (by decide) (fr rfl) (.bool true) (by unfold execOp; simp only [h111.ev 26 rfl]; exact run_v (gtIP _ _ _ _ _ hlong)) fun a114 h113 => ?_
          refine wv h113 rfl rfl rfl rfl (.bool true) (run_pick rfl (h113.ev 23 rfl) (by rw [if_neg (by simp)]; exact h113.ev 27 rfl)) fun a116 h115 => ?_
          have h117 := h115.subs (l' := [(28, _), (6, _), (15, _), (14, _), (13, _), (4, _), (3, _), (2, _), (0, _)]) rfl
          clear h115
          iterate 3 go_step
          refine wp_cond (t := true) (h117.ev 28 rfl) ?_
          simp only [if_true]
          have h118 := h117.subs (l' := [(6, _), (15, _), (14, _), (13, _), (4, _), (3, _), (2, _), (0, _)]) rfl
          clear h117
          iterate 2 go_step
          have h119 := h118.subs (l' := [(6, _), (15, _), (14, _), (13, _), (4, _), (3, _), (0, _)]) rfl
          clear h118
          refine wv h119 rfl rfl rfl rfl (.slice none 0 0) rfl fun a121 h120 => ?_
          have h122 := h120.subs (l' := [(2, _), (6, _), (15, _), (14, _), (13, _), (4, _), (0, _)]) rfl
          clear h120
          refine wv h122 rfl rfl rfl rfl (.int .i64 1) rfl fun a124 h123 => ?_
          iterate 4 go_step
          simp only [Exit.then, Exit.inBlock]
          have hbad : encOk L = false := by unfold encOk; rw [Bool.and_eq_false_iff]; right; rw [List.all_eq_false]; exact ⟨L[j], List.getElem_mem hlt, by rw [← HPJ.out]; unfold okPt; simp [hl2]⟩
          exact retE HBq.out hbad h123.defs (h123.known (2, .slice none 0 0) (by simp)) (h123.known (3, .int .i64 1) (by simp))
        · have hlong : decide ((256 : Int) < (p.d.length : Int)) = false := decide_eq_false (by omega)
          iterate 3 go_step
          refine wv hK rfl rfl rfl rfl (.bool true) (by unfold execOp; simp only [hK.ev 15 rfl, hK.ev 14 rfl]; exact run_v (ltIP _ _ _ _ _ hd0)) fun a126 h125 => ?_
          iterate 4 go_step
          refine wp_cond (t := true) (h125.ev 16 rfl) ?_
          simp only [if_true]
          have h127 := h125.subs (l' := [(15, _), (14, _), (13, _), (4, _), (3, _), (2, _), (0, _)]) rfl
          clear h125
          iterate 7 go_step
          refine wv h127 rfl rfl rfl rfl (.pointer (some ⟨pb, poff + j * 2, none⟩)) (by unfold execOp; simp only [h127.ev 13 rfl, h127.ev 15 rfl]; exact run_v (by rw [ha0]; exact ixP pb poff _ c j hlt _)) fun a129 h128 => ?_
          refine wv h128 rfl rfl rfl rfl (ptV p) (by unfold execOp; simp only [h128.ev 17 rfl]; exact run_v (run_loadAt_mid _ _ _ _ (ptC p) _ hrg Tryz.underlying47 rfl (by rw [infoPt]; rfl))) fun a131 h130 => ?_
          refine wv h130 rfl rfl rfl rfl (.pointer (some ⟨aw.heap.size, 0, none⟩)) (run_allocPt rfl _ aw) fun a133 h132 => ?_
          obtain ⟨wp, hwp⟩ : ∃ x, x = aw.alloc (.cells (ptC ⟨0, []⟩).toArray 47) := ⟨_, rfl⟩
          obtain ⟨gp, hgp⟩ : ∃ x, x = aw.heap.size := ⟨_, rfl⟩
          have hk0 : Blk wp gp 47 (ptC ⟨0, []⟩) := by rw [hwp, hgp]; exact blk_newO rfl _ _
          have HOp : Hid (OwnB wp w.heap.size ba bc eb) := hid (by rw [hwp]; exact Own.alloc HO.out _)
          have HBp : Hid (Below w.heap.size w wp) := hid (by rw [hwp]; exact kept_alloc HB.out _)
          have hgw : w.heap.size ≤ gp := by rw [hgp]; exact HB.out.size
          rw [← hgp] at h132; rw [← hwp]; clear hwp hgp
          refine wpk_storeP h132 rfl rfl rfl gp 0 (h132.ev 6 rfl) (ptC p) (h132.ev 18 rfl) (by rw [infoPt]; rfl) (ptC_one _) hk0 (by show 0 + 2 ≤ 2; omega) fun a135 wq h134 kq gq => ?_
          rw [splice_all (by rfl)] at kq
          have HP := hid kq; have HOq : Hid (OwnB wq w.heap.size ba bc eb) := hid (own_turnsP HOp.out hk0 (by decide) (Turns.of_grown gq rfl)); have HBq : Hid (Below w.heap.size w wq) := hid (below_grownS HBp.out gq hgw HBp.out.size)
          clear kq gq hk0 HOp HBp
          have h136 := h134.subs (l' := [(6, _), (15, _), (14, _), (13, _), (4, _), (3, _), (2, _), (0, _)]) rfl
          clear h134
          iterate 6 go_step
          refine wv h136 rfl rfl rfl rfl (.pointer (some ⟨gp, 0, none⟩)) (by unfold execOp; simp only [h136.ev 6 rfl]; exact run_v (fa_46_0_0 (gp) _)) fun a138 h137 => ?_
          refine wv h137 rfl rfl rfl rfl (.int .i64 p.at_) (by unfold execOp; simp only [h137.ev 19 rfl]; exact run_v (loadIP (HP.out.cell (i := 0) (by show 0 < 2; omega)))) fun a140 h139 => ?_
          refine wpk_call h139 (wanted_none rfl) rfl (by decide) (fr rfl) (fun args => callP_32 args _) rfl #[.int .i64 p.at_, .int .i64 4] (by simp only [List.map_toArray, List.map_cons, List.map_nil, h139.ev 20 rfl]; rfl) (R := fun v w' => v = .bool (fitsB p.at_ 4) ∧ wq = w') ((fits_any p.at_ 4 wq).mono fun e w' q => ⟨_, q.1, rfl, q.2⟩) fun a142 vf wf rf h141 => ?_
          obtain ⟨rfl, rfl⟩ := rf
          rw [hfit] at h141
          refine wv h141 rfl rfl rfl rfl (.bool false) (run_not rfl (h141.ev 21 rfl)) fun a144 h143 => ?_
          refine wmk h143 rfl rfl rfl rfl 22 rfl (fun _ => rfl) fun a146 h145 => ?_
          refine wpk_val h145 (by rw [wanted_of (g := 4) (want := false) (b := false) rfl (h145.yields (prev := 23) rfl (by simp))]; rfl) rfl (by decide) (fr rfl) (.pointer (some ⟨gp, 1, none⟩)) (by unfold execOp; simp only [h145.ev 6 rfl]; exact run_v (fa_46_0_1 (gp) _)) fun a148 h147 => ?_
          refine wpk_val h147 (by rw [wanted_of (g := 4) (want := false) (b := false) rfl (h147.yields (prev := 23) rfl (by simp))]; rfl) rfl (by decide) (fr rfl) (strB p.d) (by unfold execOp; simp only [h147.ev 24 rfl]; exact run_v (loadSP (HP.out.cell (i := 1) (by show 1 < 2; omega)))) fun a150 h149 => ?_
          refine wpk_val h149 (by rw [wanted_of (g := 4) (want := false) (b := false) rfl (h149.yields (prev := 23) rfl (by simp))]; rfl) rfl (by decide) (fr rfl) (.int .i64 (p.d.length : Int)) (run_lenSP rfl (h149.ev 25 rfl) _) fun a152 h151 => ?_
          refine wpk_val h151 (by rw [wanted_of (g := 4) (want := false) (b := false) rfl (h151.yields (prev := 23) rfl (by simp))]; rfl) rfl (by decide) (fr rfl) (.bool false) (by unfold execOp; simp only [h151.ev 26 rfl]; exact run_v (gtIP _ _ _ _ _ hlong)) fun a154 h153 => ?_
          refine wv h153 rfl rfl rfl rfl (.bool false) (run_pick rfl (h153.ev 23 rfl) (by rw [if_neg (by simp)]; exact h153.ev 27 rfl)) fun a156 h155 => ?_
          have h157 := h155.subs (l' := [(28, _), (6, _), (15, _), (14, _), (13, _), (4, _), (3, _), (2, _), (0, _)]) rfl
          clear h155
          iterate 3 go_step
          refine wp_cond (t := false) (h157.ev 28 rfl) ?_
          simp only [Bool.false_eq_true, if_false]
          have h158 := h157.subs (l' := [(6, _), (15, _), (14, _), (13, _), (4, _), (3, _), (2, _), (0, _)]) rfl
          clear h157
          iterate 5 go_step
          refine wmk h158 rfl rfl rfl rfl 4 rfl (fun _ => rfl) fun a160 h159 => ?_
          refine wv h159 rfl rfl rfl rfl (.pointer (some ⟨gp, 0, none⟩)) (by unfold execOp; simp only [h159.ev 6 rfl]; exact run_v (fa_46_0_0 (gp) _)) fun a162 h161 => ?_
          refine wv h161 rfl rfl rfl rfl (.int .i64 p.at_) (by unfold execOp; simp only [h161.ev 30 rfl]; exact run_v (loadIP (HP.out.cell (i := 0) (by show 0 < 2; omega)))) fun a164 h163 => ?_
          refine wpk_call h163 (wanted_none rfl) rfl (by decide) (fr rfl) (fun args => callP_31 args _) rfl #[.slice ba eb.length bc, .int .i64 p.at_, .int .i64 4] (by simp only [List.map_toArray, List.map_cons, List.map_nil, h163.ev 29 rfl, h163.ev 31 rfl]; rfl) (R := fun v w' => ∃ a2 c2, v = .slice a2 (putF eb p.at_ 4).length c2 ∧ OwnB w' wq.heap.size a2 c2 (putF eb p.at_ 4) ∧ Below wq.heap.size wq w') ((put_any ba bc eb p.at_ 4 wq HOq.out.row (by omega) (by omega)).mono fun e w' q => by obtain ⟨a2, c2, q1, q2, q3⟩ := q; exact ⟨_, q1, a2, c2, rfl, q2, q3⟩) fun a166 v1 w1 r1 h165 => ?_
          obtain ⟨ba1, bc1, rfl, o1, b1⟩ := r1
          obtain ⟨e1, he1⟩ : ∃ x, x = putF eb p.at_ 4 := ⟨_, rfl⟩
          have le1 : e1.length ≤ eb.length + 4 := by rw [he1]; exact putF_lenA _ _ 4
          rw [← he1] at o1 h165
          have HO1 := hid (o1.low HBq.out.size); have HB1 := hid (kept_trans HBq.out b1); have HP1 := hid (HP.out.mono b1); have HE1 := hid he1; clear o1 b1 he1
          have h167 := h165.subs (l' := [(32, _), (31, _), (30, _), (29, _), (6, _), (15, _), (14, _), (13, _), (3, _), (2, _), (0, _)]) rfl
          clear h165
          refine wmk h167 rfl rfl rfl rfl 32 rfl (fun _ => rfl) fun a169 h168 => ?_
          have h170 := h168.subs (l' := [(4, _), (6, _), (15, _), (14, _), (13, _), (3, _), (2, _), (0, _)]) rfl
          clear h168
          iterate 5 go_step
          refine wmk h170 rfl rfl rfl rfl 4 rfl (fun _ => rfl) fun a172 h171 => ?_
          refine wv h171 rfl rfl rfl rfl (.pointer (some ⟨gp, 1, none⟩)) (by unfold execOp; simp only [h171.ev 6 rfl]; exact run_v (fa_46_0_1 (gp) _)) fun a174 h173 => ?_
          refine wv h173 rfl rfl rfl rfl (strB p.d) (by unfold execOp; simp only [h173.ev 34 rfl]; exact run_v (loadSP (HP1.out.cell (i := 1) (by show 1 < 2; omega)))) fun a176 h175 => ?_
          refine wv h175 rfl rfl rfl rfl (.int .i64 (p.d.length : Int)) (run_lenSP rfl (h175.ev 35 rfl) _) fun a178 h177 => ?_
          refine wpk_call h177 (wanted_none rfl) rfl (by decide) (fr rfl) (fun args => callP_31 args _) rfl #[.slice ba1 e1.length bc1, .int .i64 (p.d.length : Int), .int .i64 2] (by simp only [List.map_toArray, List.map_cons, List.map_nil, h177.ev 33 rfl, h177.ev 36 rfl]; rfl) (R := fun v w' => ∃ a2 c2, v = .slice a2 (putF e1 p.d.length 2).length c2 ∧ OwnB w' w1.heap.size a2 c2 (putF e1 p.d.length 2) ∧ Below w1.heap.size w1 w') ((put_any ba1 bc1 e1 (p.d.length : Int) 2 w1 HO1.out.row (by omega) (by omega)).mono fun e w' q => by obtain ⟨a2, c2, q1, q2, q3⟩ := q; exact ⟨_, q1, a2, c2, rfl, q2, q3⟩) fun a180 v2 w2 r2 h179 => ?_
          obtain ⟨ba2, bc2, rfl, o2, b2⟩ := r2
          obtain ⟨e2, he2⟩ : ∃ x, x = putF e1 p.d.length 2 := ⟨_, rfl⟩
          have le2 : e2.length ≤ e1.length + 2 := by rw [he2]; exact putF_lenA _ _ 2
          rw [← he2] at o2 h179
          have HO2 := hid (o2.low HB1.out.size); have HB2 := hid (kept_trans HB1.out b2); have HP2 := hid (HP1.out.mono b2); have HE2 := hid he2; clear o2 b2 he2
          have h181 := h179.subs (l' := [(37, _), (36, _), (35, _), (34, _), (33, _), (6, _), (15, _), (14, _), (13, _), (3, _), (2, _), (0, _)]) rfl
          clear h179
          refine wmk h181 rfl rfl rfl rfl 37 rfl (fun _ => rfl) fun a183 h182 => ?_
          have h184 := h182.subs (l' := [(4, _), (6, _), (15, _), (14, _), (13, _), (3, _), (2, _), (0, _)]) rfl
          clear h182
          iterate 4 go_step
          refine wmk h184 rfl rfl rfl rfl 4 rfl (fun _ => rfl) fun a186 h185 => ?_
          refine wv h185 rfl rfl rfl rfl (.pointer (some ⟨gp, 1, none⟩)) (by unfold execOp; simp only [h185.ev 6 rfl]; exact run_v (fa_46_0_1 (gp) _)) fun a188 h187 => ?_
          refine wv h187 rfl rfl rfl rfl (strB p.d) (by unfold execOp; simp only [h187.ev 39 rfl]; exact run_v (loadSP (HP2.out.cell (i := 1) (by show 1 < 2; omega)))) fun a190 h189 => ?_
          refine wpl_append_str rfl (.tmp 38) (.tmp 40) rfl Tryz.underlying26 Tryz.underlying9 (by kernel_rfl) w.heap.size (h189.ev 38 rfl) (h189.ev 40 rfl) HO2.out (by rw [bsB_size]; omega) HB2.out.size ?_
          intro ba3 bc3 w3 o3 g3 b3
          rw [bsB_size, bsB_list] at o3
          rw [bsB_size]
          refine wpk_enter (h189.put (d := 41) (by decide) (fr rfl) (.slice ba3 (e2.length + p.d.length) bc3)) fun a192 h191 => ?_
          have HO3 : Hid (OwnB w3 w.heap.size ba3 bc3 (e2 ++ p.d)) := hid (by unfold OwnB; rw [List.length_append, List.map_append]; exact o3)
          have HB3 := hid (HB2.out.trans b3); clear o3 g3 b3
          have h193 := h191.subs (l' := [(41, _), (40, _), (39, _), (38, _), (6, _), (15, _), (14, _), (13, _), (3, _), (2, _), (0, _)]) rfl
          clear h191
          refine wmk h193 rfl rfl rfl rfl 41 rfl (fun _ => rfl) fun a195 h194 => ?_
          have h196 := h194.subs (l' := [(4, _), (6, _), (15, _), (14, _), (13, _), (3, _), (2, _), (0, _)]) rfl
          clear h194
          iterate 4 go_step
          refine wv h196 rfl rfl rfl rfl (.int .i64 ((j + 1 : Nat) : Int)) (by unfold execOp; simp only [h196.ev 15 rfl]; exact run_v (addIP _ _ j (by omega) _)) fun a198 h197 => ?_
          have h199 := h197.subs (l' := [(42, _), (4, _), (6, _), (14, _), (13, _), (3, _), (2, _), (0, _)]) rfl
          clear h197
          refine wmk h199 rfl rfl rfl rfl 42 rfl (fun _ => rfl) fun a201 h200 => ?_
          have h202 := h200.subs (l' := [(15, _), (4, _), (6, _), (14, _), (13, _), (3, _), (2, _), (0, _)]) rfl
          clear h200
          iterate 2 go_step
          refine ⟨⟨j + 1, e2 ++ p.d, ba3, bc3, by omega, by rw [List.length_append]; exact h202.subs rfl, ?_, ?_, ?_, HO3.out, HB3.out⟩, ?_⟩
          · rw [List.take_add_one, List.getElem?_eq_getElem hlt, Option.toList_some, List.foldl_append, ← HEB.out, ← HPJ.out]; show _ = encP1 eb p; unfold encP1; rw [HE2.out, HE1.out]
          · rw [List.take_add_one, List.getElem?_eq_getElem hlt, Option.toList_some, List.all_append, HAL.out, ← HPJ.out]; simp [okPt, hfit]; omega
          · rw [List.length_append]; omega
          · rw [h202.ev 15 rfl, hK.ev 15 rfl]; simp [intOf]; omega
    · have hd0 : decide ((j : Int) < (L.length : Int)) = false := decide_eq_false (by omega)
      obtain rfl : j = L.length := by omega
      iterate 3 go_step
      refine wv hK rfl rfl rfl rfl (.bool false) (by unfold execOp; simp only [hK.ev 15 rfl, hK.ev 14 rfl]; exact run_v (ltIP _ _ _ _ _ hd0)) fun a204 h203 => ?_
      iterate 4 go_step
      refine wp_cond (t := false) (h203.ev 16 rfl) ?_
      simp only [Bool.false_eq_true, if_false]
      have h205 := h203.subs (l' := [(15, _), (14, _), (13, _), (4, _), (3, _), (2, _), (0, _)]) rfl
      clear h203
      iterate 7 go_step
      refine wmk h205 rfl rfl rfl rfl 4 rfl (fun _ => rfl) fun a207 h206 => ?_
      refine wmk h206 rfl rfl rfl rfl 4 rfl (fun _ => rfl) fun a209 h208 => ?_
      refine wpk_call h208 (wanted_none rfl) rfl (by decide) (fr rfl) (fun args => callP_33 args _) rfl #[.slice ba eb.length bc] (by simp only [List.map_toArray, List.map_cons, List.map_nil, h208.ev 44 rfl]) (R := fun v w' => v = .int .u32 (crcF eb : Int) ∧ Below aw.heap.size aw w') ((sum_any ba bc eb aw HO.out.row).mono fun e w' q => ⟨_, q.1, rfl, q.2⟩) fun a211 v4 w4 r4 h210 => ?_
      obtain ⟨rfl, b4⟩ := r4
      have HO4 := hid (Own.mono HO.out b4); have HB4 := hid (kept_trans HB.out b4); clear b4
      refine wv h210 rfl rfl rfl rfl (.int .i64 (crcF eb : Int)) (by unfold execOp; simp only [h210.ev 45 rfl]; exact run_v (convU32 _ (crcF_lt eb) _)) fun a213 h212 => ?_
      refine wpk_call h212 (wanted_none rfl) rfl (by decide) (fr rfl) (fun args => callP_31 args _) rfl #[.slice ba eb.length bc, .int .i64 (crcF eb : Int), .int .i64 4] (by simp only [List.map_toArray, List.map_cons, List.map_nil, h212.ev 43 rfl, h212.ev 46 rfl]; rfl) (R := fun v w' => ∃ a2 c2, v = .slice a2 (putF eb (crcF eb : Int) 4).length c2 ∧ OwnB w' w4.heap.size a2 c2 (putF eb (crcF eb : Int) 4) ∧ Below w4.heap.size w4 w') ((put_any ba bc eb (crcF eb : Int) 4 w4 HO4.out.row (by omega) (by have := crcF_lt eb; omega)).mono fun e w' q => by obtain ⟨a2, c2, q1, q2, q3⟩ := q; exact ⟨_, q1, a2, c2, rfl, q2, q3⟩) fun a215 v5 w5 r5 h214 => ?_
      obtain ⟨ba5, bc5, rfl, o5, b5⟩ := r5
      obtain ⟨e5, he5⟩ : ∃ x, x = putF eb (crcF eb : Int) 4 := ⟨_, rfl⟩
      have le5 : e5.length ≤ eb.length + 4 := by rw [he5]; exact putF_lenA _ _ 4
      rw [← he5] at o5 h214
      have HO5 := hid (o5.low HB4.out.size); have HB5 := hid (kept_trans HB4.out b5); have HE5 := hid he5; clear o5 b5 he5
      have h216 := h214.subs (l' := [(47, _), (46, _), (45, _), (44, _), (43, _), (15, _), (14, _), (13, _), (3, _), (2, _), (0, _)]) rfl
      clear h214
      refine wmk h216 rfl rfl rfl rfl 47 rfl (fun _ => rfl) fun a218 h217 => ?_
      have h219 := h217.subs (l' := [(4, _), (15, _), (14, _), (13, _), (3, _), (2, _), (0, _)]) rfl
      clear h217
      iterate 5 go_step
      refine wmk h219 rfl rfl rfl rfl 4 rfl (fun _ => rfl) fun a221 h220 => ?_
      refine wmk h220 rfl rfl rfl rfl 4 rfl (fun _ => rfl) fun a223 h222 => ?_
      refine wv h222 rfl rfl rfl rfl (.int .i64 (e5.length : Int)) (run_lenBP rfl (h222.ev 49 rfl) _) fun a225 h224 => ?_
      refine wpk_call h224 (wanted_none rfl) rfl (by decide) (fr rfl) (fun args => callP_34 args _) rfl #[.int .i64 (e5.length : Int)] (by simp only [List.map_toArray, List.map_cons, List.map_nil, h224.ev 50 rfl]) (R := fun v w' => v = .int .i64 (pad8 e5.length : Int) ∧ w5 = w') ((padding_any e5.length (by omega) w5).mono fun e w' q => ⟨_, q.1, rfl, q.2⟩) fun a227 v6 w6 r6 h226 => ?_
      obtain ⟨rfl, rfl⟩ := r6
      refine wpl_append_zeros (bytes := 1) (z := .int .u8 0) rfl (.tmp 48) (.tmp 51) rfl Tryz.underlying26 Tryz.underlying3 (by kernel_rfl) rfl rfl w.heap.size (h226.ev 48 rfl) (h226.ev 51 rfl) rfl HO5.out (by unfold pad8; omega) (by unfold pad8; omega) HB5.out.size ?_
      intro ba7 bc7 w7 o7 g7 b7
      refine wpk_enter (h226.put (d := 52) (by decide) (fr rfl) (.slice ba7 (e5.length + pad8 e5.length) bc7)) fun a229 h228 => ?_
      have HB7 := hid (HB5.out.trans b7); have HO7 := hid o7; clear o7 g7 b7
      have h230 := h228.subs (l' := [(52, _), (51, _), (50, _), (49, _), (48, _), (4, _), (15, _), (14, _), (13, _), (3, _), (0, _)]) rfl
      clear h228
      refine wmk h230 rfl rfl rfl rfl 52 rfl (fun _ => rfl) fun a232 h231 => ?_
      have h233 := h231.subs (l' := [(2, _), (52, _), (51, _), (50, _), (49, _), (48, _), (4, _), (15, _), (14, _), (13, _), (0, _)]) rfl
      clear h231
      refine wv h233 rfl rfl rfl rfl (.int .i64 0) rfl fun a235 h234 => ?_
      have h236 := h234.subs (l' := [(3, _), (2, _), (4, _), (15, _), (14, _), (13, _), (0, _)]) rfl
      clear h234
      iterate 4 go_step
      refine bodyPost_ret (results_tmp2 rfl (h236.known (2, .slice ba7 (e5.length + pad8 e5.length) bc7) (by simp)) (h236.known (3, .int .i64 0) (by simp))) h236.defs ?_
      rw [List.take_length] at HEB HAL
      have hok : encOk L = true := by unfold encOk; rw [HAL.out, decide_eq_true (by omega)]; rfl
      have e1 : encL L = e5 ++ List.replicate (pad8 e5.length) 0 := by unfold encL; rw [if_pos hok]; unfold sealP sealY encB; rw [← HEB.out, ← HE5.out]
      have e2 : encE L = 0 := by unfold encE; rw [if_pos hok]
      rw [e1, e2]
      refine ⟨ba7, bc7, by rw [List.length_append, List.length_replicate], ?_, HB7.out⟩
      unfold OwnB; rw [List.length_append, List.length_replicate, List.map_append, List.map_replicate]; exact HO7.out
end Go.Proofs.YtcackliabemecaaGreatDoor
/- Words for Decode: slices of bytes, the two closures' state. -/
namespace Go.Proofs.YtcackliabemecaaGreatDoor
open Go.RowKit
set_option linter.unusedSimpArgs false
set_option linter.unusedVariables false
set_option maxRecDepth 100000

theorem slicedB {w : World} {a : Option Addr} {c : Nat} {xs : List UInt8} (r : RowB w a c xs) (lo hi : Nat) (h1 : lo ≤ hi) (h2 : hi ≤ xs.length) :
    ∃ dp, sliced a lo hi c 1 = .slice dp (hi - lo) (c - lo) ∧ RowB w dp (c - lo) ((xs.drop lo).take (hi - lo)) := by
  have hc := r.2.1
  have hm := r.2.2.1
  have hl : ((xs.drop lo).take (hi - lo)).length = hi - lo := by simp; omega
  cases a with
  | none =>
    have h0 : c = 0 := r.2.2.2.1 rfl
    subst h0
    have : lo = 0 := by omega
    subst this
    have : hi = 0 := by omega
    subst this
    refine ⟨none, ?_, ?_⟩
    · unfold sliced; simp
    · exact ⟨by simp, by simp, by omega, fun _ => rfl, fun q => absurd q (by simp)⟩
  | some ad =>
    by_cases hcl : c = lo
    · subst hcl
      have : hi = c := by omega
      subst this
      refine ⟨some ad, ?_, ?_⟩
      · unfold sliced; simp
      · exact ⟨by simp, by simp, by omega, (fun q => by cases q), fun q => absurd q (by rw [hl]; omega)⟩
    · by_cases hn : 0 < xs.length
      · obtain ⟨b, off, e, _⟩ := r.bytes hn
        cases e
        refine ⟨some ⟨b, off + lo, none⟩, ?_, ?_⟩
        · unfold sliced; rw [if_neg (by omega)]; simp [Addr.add_mid]
        · have := rowB_sub r lo (hi - lo) (by omega)
          exact this
      · have : lo = 0 := by omega
        subst this
        have : hi = 0 := by omega
        subst this
        refine ⟨some ad, ?_, ?_⟩
        · unfold sliced
          rw [if_neg (by omega)]
          simp [Addr.add]
        · exact ⟨by simp, by simp, by omega, (fun q => by cases q), fun q => absurd q (by simp)⟩
theorem szB (w : World) : (sizeOf 5).run Tryz.prog w = .ok 1 w := by kernel_rfl
theorem elB : Tryz.prog.elem 26 = 5 := by kernel_rfl
theorem unB : Tryz.prog.underlying 26 = some (.slice (Tryz.prog.elem 26)) := by rw [elB]; exact Tryz.underlying26
theorem sliceLH {w : World} {a : Option Addr} {c : Nat} {xs : List UInt8} (r : RowB w a c xs) (lo hi : Nat) (h1 : lo ≤ hi) (h2 : hi ≤ xs.length) :
    ∃ dp, (∀ W, (Instr.sliceAt 26 (.slice a xs.length c) (some (.int .i64 (lo : Int))) (some (.int .i64 (hi : Int))) none).run Tryz.prog W = .ok (.slice dp (hi - lo) (c - lo)) W) ∧ RowB w dp (c - lo) ((xs.drop lo).take (hi - lo)) := by
  obtain ⟨dp, e, rr⟩ := slicedB r lo hi h1 h2
  have hc := r.2.1
  refine ⟨dp, fun W => ?_, rr⟩
  rw [run_sliceAt_slice W _ _ _ _ _ unB, run_slice_lh W _ _ _ _ unB _ _ _ _ (by omega) (by omega) (by omega), elB, szB]
  show Result.ok (sliced _ _ _ _ _) W = _
  rw [Int.toNat_natCast, Int.toNat_natCast, e]
theorem sliceL {w : World} {a : Option Addr} {c : Nat} {xs : List UInt8} (r : RowB w a c xs) (lo : Nat) (h1 : lo ≤ xs.length) :
    ∃ dp, (∀ W, (Instr.sliceAt 26 (.slice a xs.length c) (some (.int .i64 (lo : Int))) none none).run Tryz.prog W = .ok (.slice dp (xs.length - lo) (c - lo)) W) ∧ RowB w dp (c - lo) (xs.drop lo) := by
  obtain ⟨dp, e, rr⟩ := slicedB r lo xs.length h1 (Nat.le_refl _)
  refine ⟨dp, fun W => ?_, by rw [List.take_of_length_le (by rw [List.length_drop]; omega)] at rr; exact rr⟩
  rw [run_sliceAt_slice W _ _ _ _ _ unB, run_slice_l W _ _ _ _ unB _ _ (by omega) (by omega), elB, szB]
  show Result.ok (sliced _ _ _ _ _) W = _
  rw [Int.toNat_natCast, e]
theorem sliceH {w : World} {a : Option Addr} {c : Nat} {xs : List UInt8} (r : RowB w a c xs) (hi : Nat) (h2 : hi ≤ xs.length) :
    (∀ W, (Instr.sliceAt 26 (.slice a xs.length c) none (some (.int .i64 (hi : Int))) none).run Tryz.prog W = .ok (.slice a hi c) W) ∧ RowB w a c (xs.take hi) := by
  have hc := r.2.1
  refine ⟨fun W => ?_, rowB_take r hi⟩
  rw [run_sliceAt_slice W _ _ _ _ _ unB, run_slice_h W _ _ _ _ unB _ _ (by omega) (by omega), elB, szB]
  show Result.ok (sliced _ _ _ _ _) W = _
  rw [Int.toNat_natCast]
  unfold sliced
  simp only [Nat.sub_zero, Nat.zero_mul]
  split
  · rfl
  · cases a with
    | none => rfl
    | some p => simp [Addr.add]

structure DS where
  at_ : Nat
  no : Bool
def takeD (xs : List UInt8) (s : DS) (n : Nat) : List UInt8 × DS := if s.no = true ∨ xs.length < s.at_ + n then ([], ⟨s.at_, true⟩) else ((xs.drop s.at_).take n, ⟨s.at_ + n, false⟩)
def numD (xs : List UInt8) (s : DS) (k : Nat) : Nat × DS := ((getF (takeD xs s k).1 0 k).getD 0, (takeD xs s k).2)
/-- the bytes, the place, has something failed: the variables that the closures have -/
structure DIn (w : World) (Bb Ba Bs : Nat) (a : Option Addr) (c : Nat) (xs : List UInt8) (s : DS) : Prop where
  b : Blk w Bb 26 [.slice a xs.length c]
  p : Blk w Ba 3 [.int .i64 (s.at_ : Int)]
  f : Blk w Bs 4 [.bool s.no]
  at_ : s.at_ ≤ xs.length
theorem DIn.nbs {w : World} {Bb Ba Bs : Nat} {a : Option Addr} {c : Nat} {xs : List UInt8} {s : DS} (h : DIn w Bb Ba Bs a c xs s) : Bb ≠ Bs := blk_ne h.b h.f (by decide)
theorem DIn.nba {w : World} {Bb Ba Bs : Nat} {a : Option Addr} {c : Nat} {xs : List UInt8} {s : DS} (h : DIn w Bb Ba Bs a c xs s) : Bb ≠ Ba := blk_ne h.b h.p (by decide)
theorem DIn.nas {w : World} {Bb Ba Bs : Nat} {a : Option Addr} {c : Nat} {xs : List UInt8} {s : DS} (h : DIn w Bb Ba Bs a c xs s) : Ba ≠ Bs := blk_ne h.p h.f (by decide)
theorem turnsG (w : World) (g i : Nat) (v : Value) : Turns (fun k => k = g) w (w.setCell ⟨g, i, none⟩ v) := (Turns.refl (fun k => k = g) w).setCell (p := ⟨g, i, none⟩) rfl v
theorem DIn.setS {w : World} {Bb Ba Bs : Nat} {a : Option Addr} {c : Nat} {xs : List UInt8} {s : DS} (h : DIn w Bb Ba Bs a c xs s) (b : Bool) : DIn (w.setCell ⟨Bs, 0, none⟩ (.bool b)) Bb Ba Bs a c xs ⟨s.at_, b⟩ :=
  ⟨(turnsG w Bs 0 _).blk h.b h.nbs, (turnsG w Bs 0 _).blk h.p h.nas, Blk.set h.f 0 _, h.at_⟩
theorem DIn.setA {w : World} {Bb Ba Bs : Nat} {a : Option Addr} {c : Nat} {xs : List UInt8} {s : DS} (h : DIn w Bb Ba Bs a c xs s) (n : Nat) (hn : n ≤ xs.length) : DIn (w.setCell ⟨Ba, 0, none⟩ (.int .i64 (n : Int))) Bb Ba Bs a c xs ⟨n, s.no⟩ :=
  ⟨(turnsG w Ba 0 _).blk h.b h.nba, Blk.set h.p 0 _, (turnsG w Ba 0 _).blk h.f (fun q => h.nas q.symm), hn⟩
theorem DIn.mono {w w' : World} {Bb Ba Bs : Nat} {a : Option Addr} {c : Nat} {xs : List UInt8} {s : DS} (h : DIn w Bb Ba Bs a c xs s) (b : Below w.heap.size w w') : DIn w' Bb Ba Bs a c xs s := ⟨h.b.mono b, h.p.mono b, h.f.mono b, h.at_⟩
theorem loadBP {w : World} {g off : Nat} {b : Bool} (h : w.cell? ⟨g, off, none⟩ = some (.bool b)) : (Instr.loadAt 4 (.pointer (some ⟨g, off, none⟩))).run Tryz.prog w = .ok (.bool b) w := by
  have u3 := Tryz.underlying4
  have a3 := Tryz.isAgg4
  have z3 := Tryz.sizeOf4
  go_simp
theorem loadYP {w : World} {g off : Nat} {a : Option Addr} {n c : Nat} (h : w.cell? ⟨g, off, none⟩ = some (.slice a n c)) : (Instr.loadAt 26 (.pointer (some ⟨g, off, none⟩))).run Tryz.prog w = .ok (.slice a n c) w := by
  have u3 := Tryz.underlying26
  have a3 := Tryz.isAgg26
  have z3 := Tryz.sizeOf26
  go_simp
theorem storeBP {w : World} {g off : Nat} {u : Value} (h : w.cell? ⟨g, off, none⟩ = some u) (hz : w.frozen? ⟨g, off, none⟩ = false) (b : Bool) : (Instr.storeAt 4 (.pointer (some ⟨g, off, none⟩)) (.bool b)).run Tryz.prog w = .ok () (w.setCell ⟨g, off, none⟩ (.bool b)) := by
  have u3 := Tryz.underlying4
  have a3 := Tryz.isAgg4
  have z3 := Tryz.sizeOf4
  go_simp
theorem storeIP {w : World} {g off : Nat} {u : Value} (h : w.cell? ⟨g, off, none⟩ = some u) (hz : w.frozen? ⟨g, off, none⟩ = false) (n : Int) : (Instr.storeAt 3 (.pointer (some ⟨g, off, none⟩)) (.int .i64 n)).run Tryz.prog w = .ok () (w.setCell ⟨g, off, none⟩ (.int .i64 n)) := by
  have u3 := Tryz.underlying3
  have a3 := Tryz.isAgg3
  have z3 := Tryz.sizeOf3
  go_simp
theorem run_uP {P : Program} {s : Sem Unit} {w w' : World} (h : s.run P w = .ok () w') : (do s; pure Next.skip : Sem Next).run P w = .ok .skip w' := by
  rw [Sem.run_bind, h]; rfl
theorem wpk_skipvP {P : Program} {ops : Array Oper} {Q : Exit → Act → World → Prop} {rest : List Oper} {o : Oper} {a : Act} {w w' : World} {N : Nat} {l : List (Nat × Value)} (h : Kn N l a) (hw : Region.wanted o (yielded ops a.tmps) = true) (hd : o.dst = none)
    (hr : (execOp a.eval o).run P w = .ok .skip w') (k : ∀ a', Kn N l a' → wpList P ops Q rest a' w') : wpList P ops Q (o :: rest) a w := by
  refine wpList_step fun K hK => ?_
  rw [if_pos hw]
  unfold Oper.wp
  rw [hr, Oper.upon_skip, hd]
  exact hK _ _ (k _ h)
theorem subIP (x y : Operand) (i j k : Int) (hk : i - j = k) (h1 : -9223372036854775808 ≤ k) (h2 : k ≤ 9223372036854775807) (w : World) : (do eqGuard .sub 3 x y (.int .i64 i) (.int .i64 j); binOp .sub 3 (.int .i64 i) (.int .i64 j) : Sem Value).run Tryz.prog w = .ok (.int .i64 k) w := by
  have u3 := Tryz.underlying3
  have a3 := Tryz.isAgg3
  have z3 := Tryz.sizeOf3
  subst hk
  have e1 : IntKind.i64.wrap (i - j) = i - j := IntWalk.i64_in _ (by omega)
  go_simp
theorem addNP (x y : Operand) (i j k : Int) (hk : i + j = k) (h1 : -9223372036854775808 ≤ k) (h2 : k ≤ 9223372036854775807) (w : World) : (do eqGuard .add 3 x y (.int .i64 i) (.int .i64 j); binOp .add 3 (.int .i64 i) (.int .i64 j) : Sem Value).run Tryz.prog w = .ok (.int .i64 k) w := by
  have u3 := Tryz.underlying3
  have a3 := Tryz.isAgg3
  have z3 := Tryz.sizeOf3
  subst hk
  have e1 : IntKind.i64.wrap (i + j) = i + j := IntWalk.i64_in _ (by omega)
  go_simp
theorem map_byteV_dataP (s : ByteArray) (cap : Nat) : bytesRow s cap = ((s.data.toList.map byteV) ++ List.replicate (cap - s.size) (Value.int .u8 0)).toArray := by
  apply Array.ext'
  simp [bytesRow, byteV]
theorem row_of_stringP (w : World) (s : ByteArray) (hs : s.size ≤ 1000000) :
    RowB (w.alloc (.cells (bytesRow s (grownCap w s.size 0 5)) 5 ((bytesRow s (grownCap w s.size 0 5)).size, (bytesRow s (grownCap w s.size 0 5)).size + 1))).drew (some ⟨w.heap.size, 0, none⟩) (grownCap w s.size 0 5) s.data.toList := by
  have hlen : s.data.toList.length = s.size := by simp
  have hge := grownCap_ge w s.size 0 5
  have hcm : grownCap w s.size 0 5 ≤ maxLen := grownCap_le_maxLen w s.size 0 5 (by unfold maxLen; omega)
  refine Row.drew (w := w.alloc _) ⟨by simp, by omega, hcm, (fun h => by cases h), fun _ => ⟨w.heap.size, 0, rfl, by simp, fun j u hu => ?_⟩⟩
  have hh := heap_alloc_new w (.cells (bytesRow s (grownCap w s.size 0 5)) 5 ((bytesRow s (grownCap w s.size 0 5)).size, (bytesRow s (grownCap w s.size 0 5)).size + 1))
  unfold World.cell?
  rw [show (⟨w.heap.size, 0 + j, none⟩ : Addr).block = w.heap.size from rfl, hh]
  have hj := (List.getElem?_eq_some_iff.1 hu).1
  simp only [Nat.zero_add, Option.isSome_none, Bool.false_eq_true, if_false]
  rw [map_byteV_dataP]
  rw [List.getElem?_toArray, List.getElem?_append_left hj]
  exact hu
theorem bytes_of_str (W : World) (l : List UInt8) (hl : l.length ≤ 1000000) : ∃ c W', (convert 9 26 (strB l)).run Tryz.prog W = .ok (.slice (some ⟨W.heap.size, 0, none⟩) l.length c) W' ∧ RowB W' (some ⟨W.heap.size, 0, none⟩) c l ∧ Below W.heap.size W W' := by
  have h1 := run_bytes_of_string (P := Tryz.prog) W 9 26 5 (bsB l) Tryz.underlying9 Tryz.underlying26 Tryz.underlying5
  have h2 := row_of_stringP W (bsB l) (by rw [bsB_size]; exact hl)
  rw [bsB_list] at h2
  rw [bsB_size] at h1
  exact ⟨_, _, h1, h2, ((Below.refl _ W).alloc (Nat.le_refl _) _).drew⟩
/-- a closure that a slot holds is called -/
theorem wpk_callV {P : Program} {ops : Array Oper} {Q : Exit → Act → World → Prop} {rest : List Oper} {o : Oper} {a : Act} {w : World} {N : Nat} {l : List (Nat × Value)} (h : Kn N l a) (hw : Region.wanted o (yielded ops a.tmps) = true) {d : Nat} (hd : o.dst = some d) (hdN : d < N) (hf : ∀ x ∈ l, x.1 ≠ d)
    {fn : FuncId} (hcf : ∀ args, (callFunc fn args).run P w = .ok (.enter fn args) w) {y : Operand} {xs : Array Operand} {ts : Array TypeId} (p : o.op = .call { callee := .value y, args := xs, argTypes := ts }) (vs caps : Array Value) (hy : a.eval y = .func (.func fn) #[] caps) (hx : xs.map a.eval = vs)
    {R : Value → World → Prop} (HC : Calls P fn (vs ++ caps) w fun e w' => ∃ v, e = .returned v ∧ R v w') (k : ∀ a' v w', R v w' → Kn N ((d, v) :: l) a' → wpList P ops Q rest a' w') : wpList P ops Q (o :: rest) a w := by
  refine wpList_step fun K hK => ?_
  rw [if_pos hw]
  have hrun : (execOp a.eval o).run P w = .ok (.enter fn (vs ++ caps)) w := by
    unfold execOp; rw [p]
    simp [resolve, invoke, Deferred.ofValue, hx, hy, hcf]
  unfold Oper.wp
  rw [hrun, Oper.upon_enter]
  refine HC.mono ?_
  rintro e w' ⟨v, rfl, hv⟩
  simp only
  refine hK _ _ ?_
  rw [hd]
  exact k _ v w' hv (h.put hdN hf v)
theorem loadFP {w : World} {g off : Nat} {f : Fn} {x y : Array Value} (h : w.cell? ⟨g, off, none⟩ = some (.func f x y)) : (Instr.loadAt 105 (.pointer (some ⟨g, off, none⟩))).run Tryz.prog w = .ok (.func f x y) w := by
  have u3 := Tryz.underlying105
  have a3 := Tryz.isAgg105
  have z3 := Tryz.sizeOf105
  go_simp
end Go.Proofs.YtcackliabemecaaGreatDoor
/- The closures of Decode. (genPlgD.py) -/
namespace Go.Proofs.YtcackliabemecaaGreatDoor
open Go.RowKit
set_option linter.unusedSimpArgs false
set_option linter.unusedVariables false
set_option maxRecDepth 100000
theorem callP_38 (args : Array Value) (w : World) : (callFunc 79 args).run Tryz.prog w = .ok (.enter 79 args) w := by
  have h := Tryz.func79
  go_simp
theorem callP_40 (args : Array Value) (w : World) : (callFunc 78 args).run Tryz.prog w = .ok (.enter 78 args) w := by
  have h := Tryz.func78
  go_simp

set_option maxHeartbeats 1000000 in
/-- the closure 'take' -/
theorem take_any {w : World} {Bb Ba Bs : Nat} {a : Option Addr} {c : Nat} {xs : List UInt8} {s : DS} (h0 : DIn w Bb Ba Bs a c xs s) (hR : ∀ W, Turns (fun k => k = Ba ∨ k = Bs) w W → RowB W a c xs) (hl : xs.length ≤ 1000000) (n : Nat) (hn : n ≤ 1000000) :
    Calls Tryz.prog 79 #[.int .i64 (n : Int), .pointer (some ⟨Bs, 0, none⟩), .pointer (some ⟨Bb, 0, none⟩), .pointer (some ⟨Ba, 0, none⟩)] w fun e w' => ∃ v, e = .returned v ∧ v = strB (takeD xs s n).1 ∧ DIn w' Bb Ba Bs a c xs (takeD xs s n).2 ∧ Turns (fun k => k = Ba ∨ k = Bs) w w' := by
  have hat := h0.at_
  have H0 := hid h0
  have HR := hid hR
  clear h0 hR
  go_enter Tryz.func79, Tryz.ntmps79
  iterate 3 go_step
  refine wpk_enter (N := 26) (l := [(0, .int .i64 (n : Int)), (1, .pointer (some ⟨Bs, 0, none⟩)), (2, .pointer (some ⟨Bb, 0, none⟩)), (3, .pointer (some ⟨Ba, 0, none⟩))]) ⟨rfl, (by intro x hx; simp only [List.mem_cons, List.not_mem_nil, or_false] at hx; rcases hx with rfl | rfl | rfl | rfl <;> rfl), rfl⟩ fun a2 h1 => ?_
  refine wv h1 rfl rfl rfl rfl (strB []) (by unfold execOp; rfl) fun a4 h3 => ?_
  iterate 3 go_step
  cases hno : s.no with
  | true =>
    have hbad : takeD xs s n = ([], ⟨s.at_, true⟩) := by unfold takeD; rw [if_pos (Or.inl hno)]
    iterate 3 go_step
    refine wv h3 rfl rfl rfl rfl (.bool true) (by unfold execOp; simp only [h3.ev 1 rfl]; exact run_v (loadBP (by have z := H0.out.f.cell (i := 0) (by simp); rw [hno] at z; exact z))) fun a6 h5 => ?_
    refine wmk h5 rfl rfl rfl rfl 6 rfl (fun _ => rfl) fun a8 h7 => ?_
    refine wpk_skip h7 (by rw [wanted_of (g := 1) (want := false) (b := true) rfl (h7.yields (prev := 7) rfl (by simp))]; rfl) rfl (by decide) (fr rfl) fun a10 h9 => ?_
    refine wpk_skip h9 (by rw [wanted_of (g := 1) (want := false) (b := true) rfl (h9.yields (prev := 7) rfl (by simp))]; rfl) rfl (by decide) (fr rfl) fun a12 h11 => ?_
    refine wpk_skip h11 (by rw [wanted_of (g := 1) (want := false) (b := true) rfl (h11.yields (prev := 7) rfl (by simp))]; rfl) rfl (by decide) (fr rfl) fun a14 h13 => ?_
    refine wpk_skip h13 (by rw [wanted_of (g := 1) (want := false) (b := true) rfl (h13.yields (prev := 7) rfl (by simp))]; rfl) rfl (by decide) (fr rfl) fun a16 h15 => ?_
    refine wpk_skip h15 (by rw [wanted_of (g := 1) (want := false) (b := true) rfl (h15.yields (prev := 7) rfl (by simp))]; rfl) rfl (by decide) (fr rfl) fun a18 h17 => ?_
    refine wpk_skip h17 (by rw [wanted_of (g := 1) (want := false) (b := true) rfl (h17.yields (prev := 7) rfl (by simp))]; rfl) rfl (by decide) (fr rfl) fun a20 h19 => ?_
    refine wv h19 rfl rfl rfl rfl (.bool true) (run_pick rfl (h19.ev 7 rfl) rfl) fun a22 h21 => ?_
    obtain ⟨w1, hw1⟩ : ∃ x, x = w.setCell ⟨Bs, 0, none⟩ (.bool true) := ⟨_, rfl⟩
    have H1 : Hid (DIn w1 Bb Ba Bs a c xs ⟨s.at_, true⟩) := hid (by rw [hw1]; exact H0.out.setS _)
    have T1 : Hid (Turns (fun k => k = Ba ∨ k = Bs) w w1) := hid (by rw [hw1]; exact (turnsG w Bs 0 _).mono (fun _ q => .inr q))
    refine wpk_skipvP h21 (wanted_none rfl) rfl (w' := w1) (by rw [hw1]; unfold execOp; simp only [h21.ev 1 rfl, h21.ev 14 rfl]; exact run_uP (storeBP (H0.out.f.cell (i := 0) (by simp)) (H0.out.f.frozen 0) _)) fun a24 h23 => ?_
    have h25 := h23.subs (l' := [(5, _), (0, _), (1, _), (2, _), (3, _)]) rfl
    clear h23
    iterate 5 go_step
    refine wv h25 rfl rfl rfl rfl (.bool true) (by unfold execOp; simp only [h25.ev 1 rfl]; exact run_v (loadBP (by have z := H1.out.f.cell (i := 0) (by simp); rw [show (⟨s.at_, true⟩ : DS).no = true from rfl] at z; exact z))) fun a27 h26 => ?_
    iterate 3 go_step
    refine wp_cond (t := true) (h26.ev 15 rfl) ?_
    simp only [if_true]
    have h28 := h26.subs (l' := [(5, _), (0, _), (1, _), (2, _), (3, _)]) rfl
    clear h26
    iterate 2 go_step
    have h29 := h28.subs (l' := [(0, _), (1, _), (2, _), (3, _)]) rfl
    clear h28
    refine wv h29 rfl rfl rfl rfl (strB []) (by unfold execOp; rfl) fun a31 h30 => ?_
    iterate 4 go_step
    simp only [Exit.then, Exit.inBlock]
    show bodyPost _ _ _ Exit.ret _ _
    refine bodyPost_ret (results_tmp1 rfl (h30.known (5, strB []) (by simp))) h30.defs ?_
    refine ⟨_, rfl, ?_, ?_, T1.out⟩
    · rw [hbad]
    · rw [hbad]; exact H1.out
  | false =>
    by_cases hlt : xs.length < s.at_ + n
    · have hgt : decide (((xs.length - s.at_ : Nat) : Int) < (n : Int)) = true := decide_eq_true (by omega)
      have hbad : takeD xs s n = ([], ⟨s.at_, true⟩) := by unfold takeD; rw [if_pos (Or.inr hlt)]
      iterate 3 go_step
      refine wv h3 rfl rfl rfl rfl (.bool false) (by unfold execOp; simp only [h3.ev 1 rfl]; exact run_v (loadBP (by have z := H0.out.f.cell (i := 0) (by simp); rw [hno] at z; exact z))) fun a33 h32 => ?_
      refine wmk h32 rfl rfl rfl rfl 6 rfl (fun _ => rfl) fun a35 h34 => ?_
      refine wpk_val h34 (by rw [wanted_of (g := 1) (want := false) (b := false) rfl (h34.yields (prev := 7) rfl (by simp))]; rfl) rfl (by decide) (fr rfl) (.int .i64 (n : Int)) (by unfold execOp; simp only [h34.ev 0 rfl]; rfl) fun a37 h36 => ?_
      refine wpk_val h36 (by rw [wanted_of (g := 1) (want := false) (b := false) rfl (h36.yields (prev := 7) rfl (by simp))]; rfl) rfl (by decide) (fr rfl) (.slice a xs.length c) (by unfold execOp; simp only [h36.ev 2 rfl]; exact run_v (loadYP (H0.out.b.cell (i := 0) (by simp)))) fun a39 h38 => ?_
      refine wpk_val h38 (by rw [wanted_of (g := 1) (want := false) (b := false) rfl (h38.yields (prev := 7) rfl (by simp))]; rfl) rfl (by decide) (fr rfl) (.int .i64 (xs.length : Int)) (run_lenBP rfl (h38.ev 9 rfl) _) fun a41 h40 => ?_
      refine wpk_val h40 (by rw [wanted_of (g := 1) (want := false) (b := false) rfl (h40.yields (prev := 7) rfl (by simp))]; rfl) rfl (by decide) (fr rfl) (.int .i64 (s.at_ : Int)) (by unfold execOp; simp only [h40.ev 3 rfl]; exact run_v (loadIP (H0.out.p.cell (i := 0) (by simp)))) fun a43 h42 => ?_
      refine wpk_val h42 (by rw [wanted_of (g := 1) (want := false) (b := false) rfl (h42.yields (prev := 7) rfl (by simp))]; rfl) rfl (by decide) (fr rfl) (.int .i64 ((xs.length - s.at_ : Nat) : Int)) (by unfold execOp; simp only [h42.ev 10 rfl, h42.ev 11 rfl]; exact run_v (subIP _ _ _ _ _ (by omega) (by omega) (by omega) _)) fun a45 h44 => ?_
      refine wpk_val h44 (by rw [wanted_of (g := 1) (want := false) (b := false) rfl (h44.yields (prev := 7) rfl (by simp))]; rfl) rfl (by decide) (fr rfl) (.bool true) (by unfold execOp; simp only [h44.ev 8 rfl, h44.ev 12 rfl]; exact run_v (gtIP _ _ _ _ _ hgt)) fun a47 h46 => ?_
      refine wv h46 rfl rfl rfl rfl (.bool true) (run_pick rfl (h46.ev 7 rfl) (by rw [if_neg (by simp)]; exact h46.ev 13 rfl)) fun a49 h48 => ?_
      obtain ⟨w1, hw1⟩ : ∃ x, x = w.setCell ⟨Bs, 0, none⟩ (.bool true) := ⟨_, rfl⟩
      have H1 : Hid (DIn w1 Bb Ba Bs a c xs ⟨s.at_, true⟩) := hid (by rw [hw1]; exact H0.out.setS _)
      have T1 : Hid (Turns (fun k => k = Ba ∨ k = Bs) w w1) := hid (by rw [hw1]; exact (turnsG w Bs 0 _).mono (fun _ q => .inr q))
      refine wpk_skipvP h48 (wanted_none rfl) rfl (w' := w1) (by rw [hw1]; unfold execOp; simp only [h48.ev 1 rfl, h48.ev 14 rfl]; exact run_uP (storeBP (H0.out.f.cell (i := 0) (by simp)) (H0.out.f.frozen 0) _)) fun a51 h50 => ?_
      have h52 := h50.subs (l' := [(5, _), (0, _), (1, _), (2, _), (3, _)]) rfl
      clear h50
      iterate 5 go_step
      refine wv h52 rfl rfl rfl rfl (.bool true) (by unfold execOp; simp only [h52.ev 1 rfl]; exact run_v (loadBP (by have z := H1.out.f.cell (i := 0) (by simp); rw [show (⟨s.at_, true⟩ : DS).no = true from rfl] at z; exact z))) fun a54 h53 => ?_
      iterate 3 go_step
      refine wp_cond (t := true) (h53.ev 15 rfl) ?_
      simp only [if_true]
      have h55 := h53.subs (l' := [(5, _), (0, _), (1, _), (2, _), (3, _)]) rfl
      clear h53
      iterate 2 go_step
      have h56 := h55.subs (l' := [(0, _), (1, _), (2, _), (3, _)]) rfl
      clear h55
      refine wv h56 rfl rfl rfl rfl (strB []) (by unfold execOp; rfl) fun a58 h57 => ?_
      iterate 4 go_step
      simp only [Exit.then, Exit.inBlock]
      show bodyPost _ _ _ Exit.ret _ _
      refine bodyPost_ret (results_tmp1 rfl (h57.known (5, strB []) (by simp))) h57.defs ?_
      refine ⟨_, rfl, ?_, ?_, T1.out⟩
      · rw [hbad]
      · rw [hbad]; exact H1.out
    · have hgt : decide (((xs.length - s.at_ : Nat) : Int) < (n : Int)) = false := decide_eq_false (by omega)
      have hok : takeD xs s n = ((xs.drop s.at_).take n, ⟨s.at_ + n, false⟩) := by unfold takeD; rw [if_neg (fun q => q.elim (fun q => by rw [hno] at q; cases q) hlt)]
      iterate 3 go_step
      refine wv h3 rfl rfl rfl rfl (.bool false) (by unfold execOp; simp only [h3.ev 1 rfl]; exact run_v (loadBP (by have z := H0.out.f.cell (i := 0) (by simp); rw [hno] at z; exact z))) fun a60 h59 => ?_
      refine wmk h59 rfl rfl rfl rfl 6 rfl (fun _ => rfl) fun a62 h61 => ?_
      refine wpk_val h61 (by rw [wanted_of (g := 1) (want := false) (b := false) rfl (h61.yields (prev := 7) rfl (by simp))]; rfl) rfl (by decide) (fr rfl) (.int .i64 (n : Int)) (by unfold execOp; simp only [h61.ev 0 rfl]; rfl) fun a64 h63 => ?_
      refine wpk_val h63 (by rw [wanted_of (g := 1) (want := false) (b := false) rfl (h63.yields (prev := 7) rfl (by simp))]; rfl) rfl (by decide) (fr rfl) (.slice a xs.length c) (by unfold execOp; simp only [h63.ev 2 rfl]; exact run_v (loadYP (H0.out.b.cell (i := 0) (by simp)))) fun a66 h65 => ?_
      refine wpk_val h65 (by rw [wanted_of (g := 1) (want := false) (b := false) rfl (h65.yields (prev := 7) rfl (by simp))]; rfl) rfl (by decide) (fr rfl) (.int .i64 (xs.length : Int)) (run_lenBP rfl (h65.ev 9 rfl) _) fun a68 h67 => ?_
      refine wpk_val h67 (by rw [wanted_of (g := 1) (want := false) (b := false) rfl (h67.yields (prev := 7) rfl (by simp))]; rfl) rfl (by decide) (fr rfl) (.int .i64 (s.at_ : Int)) (by unfold execOp; simp only [h67.ev 3 rfl]; exact run_v (loadIP (H0.out.p.cell (i := 0) (by simp)))) fun a70 h69 => ?_
      refine wpk_val h69 (by rw [wanted_of (g := 1) (want := false) (b := false) rfl (h69.yields (prev := 7) rfl (by simp))]; rfl) rfl (by decide) (fr rfl) (.int .i64 ((xs.length - s.at_ : Nat) : Int)) (by unfold execOp; simp only [h69.ev 10 rfl, h69.ev 11 rfl]; exact run_v (subIP _ _ _ _ _ (by omega) (by omega) (by omega) _)) fun a72 h71 => ?_
      refine wpk_val h71 (by rw [wanted_of (g := 1) (want := false) (b := false) rfl (h71.yields (prev := 7) rfl (by simp))]; rfl) rfl (by decide) (fr rfl) (.bool false) (by unfold execOp; simp only [h71.ev 8 rfl, h71.ev 12 rfl]; exact run_v (gtIP _ _ _ _ _ hgt)) fun a74 h73 => ?_
      refine wv h73 rfl rfl rfl rfl (.bool false) (run_pick rfl (h73.ev 7 rfl) (by rw [if_neg (by simp)]; exact h73.ev 13 rfl)) fun a76 h75 => ?_
      obtain ⟨w1, hw1⟩ : ∃ x, x = w.setCell ⟨Bs, 0, none⟩ (.bool false) := ⟨_, rfl⟩
      have H1 : Hid (DIn w1 Bb Ba Bs a c xs ⟨s.at_, false⟩) := hid (by rw [hw1]; exact H0.out.setS _)
      have T1 : Hid (Turns (fun k => k = Ba ∨ k = Bs) w w1) := hid (by rw [hw1]; exact (turnsG w Bs 0 _).mono (fun _ q => .inr q))
      refine wpk_skipvP h75 (wanted_none rfl) rfl (w' := w1) (by rw [hw1]; unfold execOp; simp only [h75.ev 1 rfl, h75.ev 14 rfl]; exact run_uP (storeBP (H0.out.f.cell (i := 0) (by simp)) (H0.out.f.frozen 0) _)) fun a78 h77 => ?_
      have h79 := h77.subs (l' := [(5, _), (0, _), (1, _), (2, _), (3, _)]) rfl
      clear h77
      iterate 5 go_step
      refine wv h79 rfl rfl rfl rfl (.bool false) (by unfold execOp; simp only [h79.ev 1 rfl]; exact run_v (loadBP (by have z := H1.out.f.cell (i := 0) (by simp); rw [show (⟨s.at_, false⟩ : DS).no = false from rfl] at z; exact z))) fun a81 h80 => ?_
      iterate 3 go_step
      refine wp_cond (t := false) (h80.ev 15 rfl) ?_
      simp only [Bool.false_eq_true, if_false]
      have h82 := h80.subs (l' := [(5, _), (0, _), (1, _), (2, _), (3, _)]) rfl
      clear h80
      iterate 5 go_step
      refine wv h82 rfl rfl rfl rfl (.int .i64 (s.at_ : Int)) (by unfold execOp; simp only [h82.ev 3 rfl]; exact run_v (loadIP (H1.out.p.cell (i := 0) (by simp)))) fun a84 h83 => ?_
      refine wmk h83 rfl rfl rfl rfl 0 rfl (fun _ => rfl) fun a86 h85 => ?_
      refine wv h85 rfl rfl rfl rfl (.int .i64 ((s.at_ + n : Nat) : Int)) (by unfold execOp; simp only [h85.ev 16 rfl, h85.ev 17 rfl]; exact run_v (addNP _ _ _ _ _ (by omega) (by omega) (by omega) _)) fun a88 h87 => ?_
      obtain ⟨w2, hw2⟩ : ∃ x, x = w1.setCell ⟨Ba, 0, none⟩ (.int .i64 ((s.at_ + n : Nat) : Int)) := ⟨_, rfl⟩
      have H2 : Hid (DIn w2 Bb Ba Bs a c xs ⟨s.at_ + n, false⟩) := hid (by rw [hw2]; exact H1.out.setA _ (by omega))
      have T2 : Hid (Turns (fun k => k = Ba ∨ k = Bs) w w2) := hid (by rw [hw2]; exact T1.out.trans ((turnsG w1 Ba 0 _).mono (fun _ q => .inl q)))
      refine wpk_skipvP h87 (wanted_none rfl) rfl (w' := w2) (by rw [hw2]; unfold execOp; simp only [h87.ev 3 rfl, h87.ev 18 rfl]; exact run_uP (storeIP (H1.out.p.cell (i := 0) (by simp)) (H1.out.p.frozen 0) _)) fun a90 h89 => ?_
      have h91 := h89.subs (l' := [(5, _), (0, _), (1, _), (2, _), (3, _)]) rfl
      clear h89
      iterate 5 go_step
      refine wv h91 rfl rfl rfl rfl (.slice a xs.length c) (by unfold execOp; simp only [h91.ev 2 rfl]; exact run_v (loadYP (H2.out.b.cell (i := 0) (by simp)))) fun a93 h92 => ?_
      refine wv h92 rfl rfl rfl rfl (.int .i64 ((s.at_ + n : Nat) : Int)) (by unfold execOp; simp only [h92.ev 3 rfl]; exact run_v (loadIP (H2.out.p.cell (i := 0) (by simp)))) fun a95 h94 => ?_
      refine wmk h94 rfl rfl rfl rfl 0 rfl (fun _ => rfl) fun a97 h96 => ?_
      refine wv h96 rfl rfl rfl rfl (.int .i64 (s.at_ : Int)) (by unfold execOp; simp only [h96.ev 20 rfl, h96.ev 21 rfl]; exact run_v (subIP _ _ _ _ _ (by omega) (by omega) (by omega) _)) fun a99 h98 => ?_
      refine wv h98 rfl rfl rfl rfl (.int .i64 ((s.at_ + n : Nat) : Int)) (by unfold execOp; simp only [h98.ev 3 rfl]; exact run_v (loadIP (H2.out.p.cell (i := 0) (by simp)))) fun a101 h100 => ?_
      obtain ⟨dp, hsl, hrow⟩ := sliceLH (HR.out w2 T2.out) s.at_ (s.at_ + n) (by omega) (by omega)
      rw [show s.at_ + n - s.at_ = n by omega] at hsl hrow
      have hyl : ((xs.drop s.at_).take n).length = n := by simp; omega
      refine wv h100 rfl rfl rfl rfl (.slice dp n (c - s.at_)) (by unfold execOp; simp only [Option.map_some, Option.map_none, h100.ev 19 rfl, h100.ev 22 rfl, h100.ev 23 rfl]; exact run_v (hsl _)) fun a103 h102 => ?_
      refine wv h102 rfl rfl rfl rfl (strB ((xs.drop s.at_).take n)) (by unfold execOp; simp only [h102.ev 24 rfl]; exact run_v (by have z := run_str hrow; rw [hyl] at z; exact z)) fun a105 h104 => ?_
      have h106 := h104.subs (l' := [(25, _), (24, _), (23, _), (22, _), (21, _), (20, _), (19, _), (0, _), (1, _), (2, _), (3, _)]) rfl
      clear h104
      refine wmk h106 rfl rfl rfl rfl 25 rfl (fun _ => rfl) fun a108 h107 => ?_
      have h109 := h107.subs (l' := [(5, _), (0, _), (1, _), (2, _), (3, _)]) rfl
      clear h107
      iterate 4 go_step
      refine bodyPost_ret (results_tmp1 rfl (h109.known (5, strB ((xs.drop s.at_).take n)) (by simp))) h109.defs ?_
      refine ⟨_, rfl, ?_, ?_, T2.out⟩
      · rw [hok]
      · rw [hok]; exact H2.out
def takeC (Bs Bb Ba : Nat) : Value := .func (.func 79) #[] #[.pointer (some ⟨Bs, 0, none⟩), .pointer (some ⟨Bb, 0, none⟩), .pointer (some ⟨Ba, 0, none⟩)]

set_option maxHeartbeats 1000000 in
/-- the closure 'number' -/
theorem number_any {w : World} {Bb Ba Bs Bt : Nat} {a : Option Addr} {c : Nat} {xs : List UInt8} {s : DS} (h0 : DIn w Bb Ba Bs a c xs s) (ht : Blk w Bt 105 [takeC Bs Bb Ba]) (hR : ∀ W, Turns (fun k => k = Ba ∨ k = Bs) w W → RowB W a c xs) (hl : xs.length ≤ 1000000) (n : Nat) (hn : n ≤ 8) :
    Calls Tryz.prog 80 #[.int .i64 (n : Int), .pointer (some ⟨Bt, 0, none⟩)] w fun e w' => ∃ v, e = .returned v ∧ v = .int .i64 ((numD xs s n).1 : Int) ∧ DIn w' Bb Ba Bs a c xs (numD xs s n).2 ∧ Turns (fun k => k = Ba ∨ k = Bs) w w' := by
  have HT := hid (take_any h0 hR hl n (by omega))
  have ct := ht.cell (i := 0) (by simp)
  simp only [List.getElem_cons_zero] at ct
  unfold takeC at ct
  have hyl : (takeD xs s n).1.length ≤ 1000000 := by
    unfold takeD; split
    · exact Nat.zero_le _
    · show ((xs.drop s.at_).take n).length ≤ _; rw [List.length_take]; omega
  unfold numD
  obtain ⟨ys, hys⟩ : ∃ ys, ys = (takeD xs s n).1 := ⟨_, rfl⟩
  obtain ⟨s2, hs2⟩ : ∃ s2, s2 = (takeD xs s n).2 := ⟨_, rfl⟩
  rw [← hys, ← hs2] at HT ⊢
  rw [← hys] at hyl
  clear h0 ht hR hys hs2
  go_enter Tryz.func80, Tryz.ntmps80
  iterate 3 go_step
  refine wpk_enter (N := 16) (l := [(0, .int .i64 (n : Int)), (1, .pointer (some ⟨Bt, 0, none⟩))]) ⟨rfl, (by intro x hx; simp only [List.mem_cons, List.not_mem_nil, or_false] at hx; rcases hx with rfl | rfl <;> rfl), rfl⟩ fun a2 h1 => ?_
  refine wv h1 rfl rfl rfl rfl (.int .i64 0) rfl fun a4 h3 => ?_
  iterate 5 go_step
  refine wv h3 rfl rfl rfl rfl (.func (.func 79) #[] #[.pointer (some ⟨Bs, 0, none⟩), .pointer (some ⟨Bb, 0, none⟩), .pointer (some ⟨Ba, 0, none⟩)]) (by unfold execOp; simp only [h3.ev 1 rfl]; exact run_v (loadFP ct)) fun a6 h5 => ?_
  refine wmk h5 rfl rfl rfl rfl 0 rfl (fun _ => rfl) fun a8 h7 => ?_
  refine wpk_callV h7 (wanted_none rfl) rfl (by decide) (fr rfl) (fun args => callP_38 args _) rfl #[.int .i64 (n : Int)] #[.pointer (some ⟨Bs, 0, none⟩), .pointer (some ⟨Bb, 0, none⟩), .pointer (some ⟨Ba, 0, none⟩)] (h7.ev 7 rfl) (by simp only [List.map_toArray, List.map_cons, List.map_nil, h7.ev 8 rfl]) (R := fun v w' => v = strB ys ∧ DIn w' Bb Ba Bs a c xs s2 ∧ Turns (fun k => k = Ba ∨ k = Bs) w w') HT.out fun a10 v1 w1 r1 h9 => ?_
  obtain ⟨rfl, q1, q2⟩ := r1
  have HD := hid q1; have TN := hid q2; clear q1 q2
  obtain ⟨yc, w2, hcv, hrow, b2⟩ := bytes_of_str w1 ys hyl
  refine wv h9 rfl rfl rfl rfl (.slice (some ⟨w1.heap.size, 0, none⟩) ys.length yc) (by unfold execOp; simp only [h9.ev 9 rfl]; exact run_v hcv) fun a12 h11 => ?_
  have HD2 := hid (HD.out.mono b2); have TN2 := hid (TN.out.trans (Turns.of_below b2)); have HRW := hid hrow; clear b2 hrow hcv
  refine wmk h11 rfl rfl rfl rfl 0 rfl (fun _ => rfl) fun a14 h13 => ?_
  refine wpk_call h13 (wanted_none rfl) rfl (by decide) (fr rfl) (fun args => callP_40 args _) rfl #[.slice (some ⟨w1.heap.size, 0, none⟩) ys.length yc, .int .i64 0, .int .i64 (n : Int)] (by simp only [List.map_toArray, List.map_cons, List.map_nil, h13.ev 10 rfl, h13.ev 11 rfl]; rfl) (R := fun v w' => v = getV (getF ys 0 n) ∧ w2 = w') ((get_any (some ⟨w1.heap.size, 0, none⟩) yc ys 0 (n : Int) w2 HRW.out (by omega)).mono fun e w' q => ⟨_, q.1, rfl, q.2⟩) fun a16 v3 w3 r3 h15 => ?_
  obtain ⟨rfl, rfl⟩ := r3
  refine wmk h15 rfl rfl rfl rfl 12 rfl (fun _ => rfl) fun a18 h17 => ?_
  refine wv h17 rfl rfl rfl rfl (.int .i64 (((getF ys 0 n).getD 0 : Nat) : Int)) (by unfold execOp; simp only [h17.ev 6 rfl]; exact rfl) fun a20 h19 => ?_
  refine wv h19 rfl rfl rfl rfl (.bool (getF ys 0 n).isSome) (by unfold execOp; simp only [h19.ev 6 rfl]; exact rfl) fun a22 h21 => ?_
  refine wmk h21 rfl rfl rfl rfl 13 rfl (fun _ => rfl) fun a24 h23 => ?_
  refine wmk h23 rfl rfl rfl rfl 14 rfl (fun _ => rfl) fun a26 h25 => ?_
  have h27 := h25.subs (l' := [(4, _), (3, _), (0, _), (1, _)]) rfl
  clear h25
  iterate 5 go_step
  refine wmk h27 rfl rfl rfl rfl 4 rfl (fun _ => rfl) fun a29 h28 => ?_
  have h30 := h28.subs (l' := [(15, _), (4, _), (0, _), (1, _)]) rfl
  clear h28
  refine wmk h30 rfl rfl rfl rfl 15 rfl (fun _ => rfl) fun a32 h31 => ?_
  have h33 := h31.subs (l' := [(3, _), (4, _), (0, _), (1, _)]) rfl
  clear h31
  iterate 4 go_step
  refine bodyPost_ret (results_tmp1 rfl (h33.known (3, .int .i64 (((getF ys 0 n).getD 0 : Nat) : Int)) (by simp))) h33.defs ?_
  exact ⟨_, rfl, rfl, HD2.out, TN2.out⟩
end Go.Proofs.YtcackliabemecaaGreatDoor
