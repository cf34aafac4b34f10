/- TxnWhole. (genTxnW.py) -/
import Derived.Test.YtcackliabemecaaDoorTxnP
namespace Go.Proofs.YtcackliabemecaaDoor
open Go.RowKit
set_option linter.unusedSimpArgs false
set_option linter.unusedVariables false
set_option maxRecDepth 100000

theorem below_lowT {A B : Nat} {w w1 : World} (b : Below B w w1) (h : A ≤ B) : Below A w w1 := ⟨b.os, b.tape, b.output, b.size, fun k hk => b.block k (Nat.lt_of_lt_of_le hk h)⟩
theorem remI5 (x y : Operand) (n : Int) (k : Nat) (h0 : 0 ≤ n) (hk : k = (n % 5).toNat) (w : World) : (do eqGuard .rem 3 x y (.int .i64 n) (.int .i64 5); binOp .rem 3 (.int .i64 n) (.int .i64 5) : Sem Value).run Tryd.prog w = .ok (.int .i64 (k : Int)) w := by
  have u3 := Tryd.underlying3
  have a3 := Tryd.isAgg3
  have z3 := Tryd.sizeOf3
  have e0 : n.tmod 5 = (k : Int) := by rw [Int.tmod_eq_emod_of_nonneg h0, hk, Int.toNat_of_nonneg (by omega)]
  have e1 : IntKind.i64.wrap (k : Int) = (k : Int) := IntWalk.i64_in _ (by omega)
  go_simp
theorem gp_ne {w w2 : World} {gp : Nat} {B : Nat} {K Q : TJ} {ta : Option Addr} {tc : Nat} {M N : MemM} {P : List PtM} (h : w.heap.size ≤ gp) (hB : B ≤ gp) (t : TwoT w2 B K Q ta tc M P N) (o : OwnPt w B ta tc P) : ¬ (gp = K.tg ∨ some gp = obA ta) := by
  rintro (e | e)
  · have := t.t.n; omega
  · have := own_obl o gp e.symm; omega
theorem store_apart {w : World} {B : Nat} {K Q : TJ} {ta oa : Option Addr} {tc oc : Nat} {M N : MemM} {P C : List PtM} (o : OwnPt w B oa oc C) (t : TwoT w B K Q ta tc M P N) (hap : ApartA oa ta) : ∀ k, (k = K.tg ∨ some k = obA ta) → obA oa ≠ some k := fun k hk e => by
  rcases hk with rfl | hk
  · have := own_ob o _ e; have := t.t.n; omega
  · exact hap k e hk.symm
theorem store_high {w : World} {B S : Nat} {K Q : TJ} {ta : Option Addr} {tc : Nat} {M N : MemM} {P : List PtM} (t : TwoT w B K Q ta tc M P N) (hS : S ≤ B) (hk : S ≤ K.tg) : ∀ k, (k = K.tg ∨ some k = obA ta) → S ≤ k := fun k h => by
  rcases h with rfl | h
  · exact hk
  · have := own_ob t.t.o k h.symm; omega
theorem load512o {w : World} {g v d p : Nat} {M : MemM} (h : MemP w g v d p M) (hl : M.V.length = 1024) :
    Calls Tryd.prog 11 #[.pointer (some ⟨g, 0, none⟩), .int .i64 0, .int .i64 512] w fun e w' => ∃ a c, e = .returned (.tuple #[.slice a 512 c, .int .i64 0]) ∧ OwnB w' w.heap.size a c (M.V.take 512) ∧ Below w.heap.size w w' := by
  refine (load_any h 0 512 (by omega) (by omega)).mono ?_
  intro e w' z
  unfold LoadP at z
  have hi : inM M 0 512 = true := (inM_iff M 0 512).2 (by omega)
  rw [if_pos hi] at z
  obtain ⟨a, c, rfl, o, b⟩ := z
  rw [show ((0 : Int)).toNat = 0 from rfl, show ((512 : Int)).toNat = 512 from rfl, List.drop_zero] at o
  exact ⟨a, c, rfl, o, b⟩
theorem lasts512o {w : World} {g v d p : Nat} {M : MemM} (h : MemP w g v d p M) (hl : M.V.length = 1024) :
    Calls Tryd.prog 13 #[.pointer (some ⟨g, 0, none⟩), .int .i64 0, .int .i64 512] w fun e w' => ∃ a c, e = .returned (.tuple #[.slice a 512 c, .int .i64 0]) ∧ OwnB w' w.heap.size a c (M.D.take 512) ∧ Below w.heap.size w w' := by
  refine (lasts_any h 0 512 (by omega) (by omega)).mono ?_
  intro e w' z
  unfold LoadP at z
  have hi : inM M 0 512 = true := (inM_iff M 0 512).2 (by omega)
  rw [if_pos hi] at z
  obtain ⟨a, c, rfl, o, b⟩ := z
  rw [show ((0 : Int)).toNat = 0 from rfl, show ((512 : Int)).toNat = 512 from rfl, List.drop_zero] at o
  exact ⟨a, c, rfl, o, b⟩
theorem rowPt_first {w : World} {a : Option Addr} {c : Nat} {C : List PtM} (r : RowPt w a c C) (h0 : 0 < C.length) {qb qo : Nat} (ha : a = some ⟨qb, qo, none⟩) {p0 : PtM} (hp : C[0]? = some p0) : w.cell? ⟨qb, qo + 0 * 2, none⟩ = some (.int .i64 p0.at_) ∧ w.cell? ⟨qb, qo + 0 * 2 + 1, none⟩ = some (strB p0.d) := by
  obtain ⟨b, off, e, h⟩ := rowPt_at r h0
  rw [ha] at e
  cases e
  have z := h 0 h0
  rw [List.getElem?_eq_getElem h0] at hp
  cases hp
  exact ⟨z 0 _ rfl, z 1 _ rfl⟩
theorem redo_Dlen {C : List PtM} : (redoM (appM mem0 512 512 C) 512 512).D.length = 1024 := by
  have h := redoM_ok (appM_ok mem0_ok 512 512 C) 512 512
  rw [h.1, redoM_len, appM_len, mem0_len]
theorem Row.below_of {w w' : World} {sz : Nat} {a : Option Addr} {n c : Nat} {cs : List Value} (h : Row w sz a n c cs) (b : Below w.heap.size w w') : Row w' sz a n c cs := h.mono b
theorem callT_10 (args : Array Value) (w : World) : (callFunc 10 args).run Tryd.prog w = .ok (.enter 10 args) w := by
  have h := Tryd.func10
  go_simp
theorem callT_12 (args : Array Value) (w : World) : (callFunc 12 args).run Tryd.prog w = .ok (.enter 12 args) w := by
  have h := Tryd.func12
  go_simp
theorem callT_13 (args : Array Value) (w : World) : (callFunc 13 args).run Tryd.prog w = .ok (.enter 13 args) w := by
  have h := Tryd.func13
  go_simp
theorem callT_14 (args : Array Value) (w : World) : (callFunc 14 args).run Tryd.prog w = .ok (.enter 14 args) w := by
  have h := Tryd.func14
  go_simp
theorem callT_15 (args : Array Value) (w : World) : (callFunc 15 args).run Tryd.prog w = .ok (.enter 15 args) w := by
  have h := Tryd.func15
  go_simp
theorem callT_16 (args : Array Value) (w : World) : (callFunc 16 args).run Tryd.prog w = .ok (.enter 16 args) w := by
  have h := Tryd.func16
  go_simp
theorem callT_17 (args : Array Value) (w : World) : (callFunc 17 args).run Tryd.prog w = .ok (.enter 17 args) w := by
  have h := Tryd.func17
  go_simp
theorem callT_18 (args : Array Value) (w : World) : (callFunc 18 args).run Tryd.prog w = .ok (.enter 18 args) w := by
  have h := Tryd.func18
  go_simp
theorem callT_20 (args : Array Value) (w : World) : (callFunc 20 args).run Tryd.prog w = .ok (.enter 20 args) w := by
  have h := Tryd.func20
  go_simp
theorem faT_32_0_0 (g : Nat) (w : World) : (Instr.fieldAt 32 (.pointer (some ⟨g, 0, none⟩)) 0).run Tryd.prog w = .ok (.pointer (some ⟨g, 0, none⟩)) w := rfl
theorem faT_32_0_1 (g : Nat) (w : World) : (Instr.fieldAt 32 (.pointer (some ⟨g, 0, none⟩)) 1).run Tryd.prog w = .ok (.pointer (some ⟨g, 1, none⟩)) w := rfl

set_option maxHeartbeats 16000000 in
theorem TxnWhole_walk (w : World) (a : Option Addr) (c : Nat) (xs : List PtM) (hX : RowPt w a c xs) (kX : inPts xs) (st : Int) (wst : (Lit.int .i64 st).wf = true) (ia : Option Addr) (ic : Nat) (I : List Int) (hI : RowI w ia ic I) (hIok : intsOk I) :
    Calls Tryd.prog 4 #[.slice a xs.length c, .int .i64 st, .slice ia I.length ic] w fun e w' => e = .returned (.bool true) ∧ Below w.heap.size w w' := by
  have HXS := hid hX; have HIS := hid hI
  have hstI := i64_bd wst
  unfold i64B at hstI
  obtain ⟨okX, lenX, lX⟩ := kX
  clear hX hI
  go_enter Tryd.func4, Tryd.ntmps4
  go_step
  go_step
  go_step
  refine wpk_enter (N := 237) (l := [(0, .slice a xs.length c), (1, .int .i64 st), (2, .slice ia I.length ic)]) ⟨rfl, (by intro x hx; simp only [List.mem_cons, List.not_mem_nil, or_false] at hx; rcases hx with rfl | rfl | rfl <;> rfl), rfl⟩ fun a2 h1 => ?_
  refine wpk_val h1 (wanted_none rfl) rfl (by decide) (fr rfl) (.bool false) rfl fun a4 h3 => ?_
  go_step
  go_step
  go_step
  go_step
  go_step
  refine wpk_call h3 (wanted_none rfl) rfl (by decide) (fr rfl) (fun args => callT_5 args _) rfl #[] (by simp) (R := fun v' w' => ∃ K : TJ, v' = .pointer (some ⟨K.pp, 0, none⟩) ∧ TxP w' w'.heap.size K.pp K.tg K.g K.lg K.v K.d K.p K.dt K.gr none 0 mem0 [] ∧ (w.heap.size ≤ K.g ∧ w.heap.size ≤ K.v ∧ w.heap.size ≤ K.d ∧ w.heap.size ≤ K.p) ∧ Below w.heap.size w w') ((beginTJ w).mono fun e w' q => by obtain ⟨K, q1, q2⟩ := q; exact ⟨_, q1, K, rfl, q2⟩) fun a6 vb0 wb0 rb0 h5 => ?_
  obtain ⟨K, rfl, hp0, hge, hb0⟩ := rb0; have HP0 := hid hp0; have HB0 := hid hb0; have hn := hp0.n; clear hp0 hb0
  refine wpk_val h5 (wanted_none rfl) rfl (by decide) (fr rfl) (.pointer (some ⟨K.pp, 0, none⟩)) (by unfold execOp; simp only [h5.eval (k := 22) (v := .pointer (some ⟨K.pp, 0, none⟩)) (by simp)]; rfl) fun a8 h7 => ?_
  have h9 := h7.subs (l' := [(7, .pointer (some ⟨K.pp, 0, none⟩)), (6, .bool false), (0, .slice a xs.length c), (1, .int .i64 st), (2, .slice ia I.length ic)]) rfl
  clear h7
  go_step
  go_step
  go_step
  go_step
  go_step
  refine wpk_call h9 (wanted_none rfl) rfl (by decide) (fr rfl) (fun args => callT_5 args _) rfl #[] (by simp) (R := fun v' w' => ∃ K : TJ, v' = .pointer (some ⟨K.pp, 0, none⟩) ∧ TxP w' w'.heap.size K.pp K.tg K.g K.lg K.v K.d K.p K.dt K.gr none 0 mem0 [] ∧ (wb0.heap.size ≤ K.g ∧ wb0.heap.size ≤ K.v ∧ wb0.heap.size ≤ K.d ∧ wb0.heap.size ≤ K.p) ∧ Below wb0.heap.size wb0 w') ((beginTJ wb0).mono fun e w' q => by obtain ⟨K, q1, q2⟩ := q; exact ⟨_, q1, K, rfl, q2⟩) fun a11 vb1 wb1 rb1 h10 => ?_
  obtain ⟨Q, rfl, hp1, hge1, hb1⟩ := rb1; have HB1 := hid (kept_trans HB0.out hb1); have TWx := hid (TwoT.start HP0.out hb1 hp1 hge1); have hsz := HB1.out.size; have hsz0 := HB0.out.size
  obtain ⟨B, hB⟩ : ∃ B, B = wb1.heap.size := ⟨_, rfl⟩
  have hwB : w.heap.size ≤ B := by omega
  rw [← hB] at TWx; have TW1 := TWx; have hqs := TW1.out.n; have hxK : ∀ k, XM K.v K.d K.p k ∨ k = K.tg → w.heap.size ≤ k := (by intro k hk; unfold XM at hk; omega); have hxQ : ∀ k, XM Q.v Q.d Q.p k → w.heap.size ≤ k := (by intro k hk; unfold XM at hk; omega); have hqB := TW1.out.m
  clear hp1 hb1 hB TWx HP0 HB0 hsz hsz0
  refine wpk_val h10 (wanted_none rfl) rfl (by decide) (fr rfl) (.pointer (some ⟨Q.pp, 0, none⟩)) (by unfold execOp; simp only [h10.eval (k := 23) (v := .pointer (some ⟨Q.pp, 0, none⟩)) (by simp)]; rfl) fun a13 h12 => ?_
  have h14 := h12.subs (l' := [(8, .pointer (some ⟨Q.pp, 0, none⟩)), (7, .pointer (some ⟨K.pp, 0, none⟩)), (6, .bool false), (0, .slice a xs.length c), (1, .int .i64 st), (2, .slice ia I.length ic)]) rfl
  clear h12
  go_step
  go_step
  go_step
  go_step
  go_step
  go_step
  refine wpk_val h14 (wanted_none rfl) rfl (by decide) (fr rfl) (.pointer (some ⟨K.pp, 0, none⟩)) (by unfold execOp; simp only [h14.eval (k := 7) (v := .pointer (some ⟨K.pp, 0, none⟩)) (by simp)]; rfl) fun a16 h15 => ?_
  refine wpk_val h15 (wanted_none rfl) rfl (by decide) (fr rfl) (.bool false) (by unfold execOp; simp only [h15.eval (k := 24) (v := .pointer (some ⟨K.pp, 0, none⟩)) (by simp)]; exact run_v (eqPnT _ _ _ _)) fun a18 h17 => ?_
  refine wpk_val h17 (wanted_none rfl) rfl (by decide) (fr rfl) (.bool false) (by unfold execOp; simp only [h17.eval (k := 25) (v := .bool false) (by simp)]; rfl) fun a20 h19 => ?_
  refine wpk_val h19 (by rw [wanted_of (g := 2) (want := false) (b := false) rfl (h19.yields (prev := 26) rfl (by simp))]; rfl) rfl (by decide) (fr rfl) (.pointer (some ⟨Q.pp, 0, none⟩)) (by unfold execOp; simp only [h19.eval (k := 8) (v := .pointer (some ⟨Q.pp, 0, none⟩)) (by simp)]; rfl) fun a22 h21 => ?_
  refine wpk_val h21 (by rw [wanted_of (g := 2) (want := false) (b := false) rfl (h21.yields (prev := 26) rfl (by simp))]; rfl) rfl (by decide) (fr rfl) (.bool false) (by unfold execOp; simp only [h21.eval (k := 27) (v := .pointer (some ⟨Q.pp, 0, none⟩)) (by simp)]; exact run_v (eqPnT _ _ _ _)) fun a24 h23 => ?_
  refine wpk_val h23 (wanted_none rfl) rfl (by decide) (fr rfl) (.bool false) (run_pick rfl (h23.eval (k := 26) (v := .bool false) (by simp)) (by rw [if_neg (by simp)]; exact h23.eval (k := 28) (v := .bool false) (by simp))) fun a26 h25 => ?_
  have h27 := h25.subs (l' := [(29, .bool false), (8, .pointer (some ⟨Q.pp, 0, none⟩)), (7, .pointer (some ⟨K.pp, 0, none⟩)), (6, .bool false), (0, .slice a xs.length c), (1, .int .i64 st), (2, .slice ia I.length ic)]) rfl
  clear h25
  go_step
  go_step
  go_step
  refine wp_cond (t := false) (h27.eval (k := 29) (v := .bool false) (by simp)) ?_
  simp only [Bool.false_eq_true, if_false]
  have h28 := h27.subs (l' := [(8, .pointer (some ⟨Q.pp, 0, none⟩)), (7, .pointer (some ⟨K.pp, 0, none⟩)), (6, .bool false), (0, .slice a xs.length c), (1, .int .i64 st), (2, .slice ia I.length ic)]) rfl
  clear h27
  go_step
  go_step
  go_step
  go_step
  go_step
  refine wpk_val h28 (wanted_none rfl) rfl (by decide) (fr rfl) (.slice none 0 0) rfl fun a30 h29 => ?_
  go_step
  go_step
  go_step
  have h31 := h29.subs (l' := [(9, .slice none 0 0), (7, .pointer (some ⟨K.pp, 0, none⟩)), (8, .pointer (some ⟨Q.pp, 0, none⟩)), (0, .slice a xs.length c), (1, .int .i64 st), (2, .slice ia I.length ic)]) rfl
  clear h29
  refine wp_join (J := fun a' w' => ∃ (C : List PtM) (ta oa : Option Addr) (tc oc : Nat), Kn 237 [(9, .slice oa C.length oc), (7, .pointer (some ⟨K.pp, 0, none⟩)), (8, .pointer (some ⟨Q.pp, 0, none⟩)), (0, .slice a xs.length c), (1, .int .i64 st), (2, .slice ia I.length ic)] a' ∧ (C.length ≤ 5 ∧ ∀ p ∈ C, inR p = true ∧ p.d.length ≤ 40) ∧ TwoT w' B K Q ta tc mem0 C mem0 ∧ OwnPt w' B oa oc C ∧ ApartA oa ta ∧ Below w.heap.size w w') ?_ ?_
  case refine_1 =>
    go_step
    go_step
    go_step
    refine wpk_val h31 (wanted_none rfl) rfl (by decide) (fr rfl) (.int .i64 0) rfl fun a33 h32 => ?_
    go_step
    go_step
    go_step
    go_step
    refine wp_loop (I := fun a' w' => ∃ (i : Nat) (C : List PtM) (ta oa : Option Addr) (tc oc : Nat), i ≤ xs.length ∧ C.length ≤ i ∧ i ≤ 5 ∧ Kn 237 [(10, .int .i64 (i : Int)), (9, .slice oa C.length oc), (7, .pointer (some ⟨K.pp, 0, none⟩)), (8, .pointer (some ⟨Q.pp, 0, none⟩)), (0, .slice a xs.length c), (1, .int .i64 st), (2, .slice ia I.length ic)] a' ∧ (C.length ≤ 5 ∧ ∀ p ∈ C, inR p = true ∧ p.d.length ≤ 40) ∧ TwoT w' B K Q ta tc mem0 C mem0 ∧ OwnPt w' B oa oc C ∧ ApartA oa ta ∧ Below w.heap.size w w') (μ := fun a' _ => xs.length - (intOf (a'.eval (.tmp 10))).toNat) ⟨0, [], none, none, 0, 0, by omega, Nat.le_refl _, by omega, h32, ⟨Nat.zero_le _, fun p hp => by cases hp⟩, TW1.out, Own.nil _ _ _ _, (fun k h => by cases h), HB1.out⟩ ?_
    clear TW1 HB1 h32
    rintro aL aw ⟨i, C, ta, oa, tc, oc, hi, hCi, hi5, hK, ⟨hC5', hinC⟩, htw, hoa, hap, hba⟩
    have TWa := hid htw; have HOa := hid hoa; have HBa := hid hba; clear htw hoa hba
    by_cases hltL : i < xs.length
    case neg =>
      go_step
      go_step
      go_step
      go_step
      refine wpk_val hK (wanted_none rfl) rfl (by decide) (fr rfl) (.int .i64 (i : Int)) (by unfold execOp; simp only [hK.eval (k := 10) (v := .int .i64 (i : Int)) (by simp)]; rfl) fun a35 h34 => ?_
      refine wpk_val h34 (wanted_none rfl) rfl (by decide) (fr rfl) (.slice a xs.length c) (by unfold execOp; simp only [h34.eval (k := 0) (v := .slice a xs.length c) (by simp)]; rfl) fun a37 h36 => ?_
      refine wpk_val h36 (wanted_none rfl) rfl (by decide) (fr rfl) (.int .i64 (xs.length : Int)) (run_lenP rfl (h36.eval (k := 31) (v := .slice a xs.length c) (by simp)) _) fun a39 h38 => ?_
      refine wpk_val h38 (wanted_none rfl) rfl (by decide) (fr rfl) (.bool false) (by unfold execOp; simp only [h38.eval (k := 30) (v := .int .i64 (i : Int)) (by simp), h38.eval (k := 32) (v := .int .i64 (xs.length : Int)) (by simp)]; exact run_v (ltIP _ _ _ _ _ (decide_eq_false (by omega)))) fun a41 h40 => ?_
      refine wpk_val h40 (wanted_none rfl) rfl (by decide) (fr rfl) (.bool false) (by unfold execOp; simp only [h40.eval (k := 33) (v := .bool false) (by simp)]; rfl) fun a43 h42 => ?_
      refine wpk_skip h42 (by rw [wanted_of (g := 4) (want := true) (b := false) rfl (h42.yields (prev := 34) rfl (by simp))]; rfl) rfl (by decide) (fr rfl) fun a45 h44 => ?_
      refine wpk_skip h44 (by rw [wanted_of (g := 4) (want := true) (b := false) rfl (h44.yields (prev := 34) rfl (by simp))]; rfl) rfl (by decide) (fr rfl) fun a47 h46 => ?_
      refine wpk_val h46 (wanted_none rfl) rfl (by decide) (fr rfl) (.bool false) (run_pick rfl (h46.eval (k := 34) (v := .bool false) (by simp)) rfl) fun a49 h48 => ?_
      have h50 := h48.subs (l' := [(37, .bool false), (10, .int .i64 (i : Int)), (9, .slice oa C.length oc), (7, .pointer (some ⟨K.pp, 0, none⟩)), (8, .pointer (some ⟨Q.pp, 0, none⟩)), (0, .slice a xs.length c), (1, .int .i64 st), (2, .slice ia I.length ic)]) rfl
      clear h48
      go_step
      go_step
      go_step
      refine wp_cond (t := false) (h50.eval (k := 37) (v := .bool false) (by simp)) ?_
      simp only [Bool.false_eq_true, if_false]
      have h51 := h50.subs (l' := [(10, .int .i64 (i : Int)), (9, .slice oa C.length oc), (7, .pointer (some ⟨K.pp, 0, none⟩)), (8, .pointer (some ⟨Q.pp, 0, none⟩)), (0, .slice a xs.length c), (1, .int .i64 st), (2, .slice ia I.length ic)]) rfl
      clear h50
      go_step
      go_step
      go_step
      go_step
      exact ⟨C, ta, oa, tc, oc, h51.subs rfl, ⟨hC5', hinC⟩, TWa.out, HOa.out, hap, HBa.out⟩
    by_cases hlt5 : i < 5
    case neg =>
      go_step
      go_step
      go_step
      go_step
      refine wpk_val hK (wanted_none rfl) rfl (by decide) (fr rfl) (.int .i64 (i : Int)) (by unfold execOp; simp only [hK.eval (k := 10) (v := .int .i64 (i : Int)) (by simp)]; rfl) fun a53 h52 => ?_
      refine wpk_val h52 (wanted_none rfl) rfl (by decide) (fr rfl) (.slice a xs.length c) (by unfold execOp; simp only [h52.eval (k := 0) (v := .slice a xs.length c) (by simp)]; rfl) fun a55 h54 => ?_
      refine wpk_val h54 (wanted_none rfl) rfl (by decide) (fr rfl) (.int .i64 (xs.length : Int)) (run_lenP rfl (h54.eval (k := 31) (v := .slice a xs.length c) (by simp)) _) fun a57 h56 => ?_
      refine wpk_val h56 (wanted_none rfl) rfl (by decide) (fr rfl) (.bool true) (by unfold execOp; simp only [h56.eval (k := 30) (v := .int .i64 (i : Int)) (by simp), h56.eval (k := 32) (v := .int .i64 (xs.length : Int)) (by simp)]; exact run_v (ltIP _ _ _ _ _ (decide_eq_true (by omega)))) fun a59 h58 => ?_
      refine wpk_val h58 (wanted_none rfl) rfl (by decide) (fr rfl) (.bool true) (by unfold execOp; simp only [h58.eval (k := 33) (v := .bool true) (by simp)]; rfl) fun a61 h60 => ?_
      refine wpk_val h60 (by rw [wanted_of (g := 4) (want := true) (b := true) rfl (h60.yields (prev := 34) rfl (by simp))]; rfl) rfl (by decide) (fr rfl) (.int .i64 (i : Int)) (by unfold execOp; simp only [h60.eval (k := 10) (v := .int .i64 (i : Int)) (by simp)]; rfl) fun a63 h62 => ?_
      refine wpk_val h62 (by rw [wanted_of (g := 4) (want := true) (b := true) rfl (h62.yields (prev := 34) rfl (by simp))]; rfl) rfl (by decide) (fr rfl) (.bool false) (by unfold execOp; simp only [h62.eval (k := 35) (v := .int .i64 (i : Int)) (by simp)]; exact run_v (ltIP _ _ _ _ _ (decide_eq_false (by omega)))) fun a65 h64 => ?_
      refine wpk_val h64 (wanted_none rfl) rfl (by decide) (fr rfl) (.bool false) (run_pick rfl (h64.eval (k := 34) (v := .bool true) (by simp)) (by rw [if_pos rfl]; exact h64.eval (k := 36) (v := .bool false) (by simp))) fun a67 h66 => ?_
      have h68 := h66.subs (l' := [(37, .bool false), (10, .int .i64 (i : Int)), (9, .slice oa C.length oc), (7, .pointer (some ⟨K.pp, 0, none⟩)), (8, .pointer (some ⟨Q.pp, 0, none⟩)), (0, .slice a xs.length c), (1, .int .i64 st), (2, .slice ia I.length ic)]) rfl
      clear h66
      go_step
      go_step
      go_step
      refine wp_cond (t := false) (h68.eval (k := 37) (v := .bool false) (by simp)) ?_
      simp only [Bool.false_eq_true, if_false]
      have h69 := h68.subs (l' := [(10, .int .i64 (i : Int)), (9, .slice oa C.length oc), (7, .pointer (some ⟨K.pp, 0, none⟩)), (8, .pointer (some ⟨Q.pp, 0, none⟩)), (0, .slice a xs.length c), (1, .int .i64 st), (2, .slice ia I.length ic)]) rfl
      clear h68
      go_step
      go_step
      go_step
      go_step
      exact ⟨C, ta, oa, tc, oc, h69.subs rfl, ⟨hC5', hinC⟩, TWa.out, HOa.out, hap, HBa.out⟩
    have hC5 : C.length ≤ 5 := by omega
    obtain ⟨pb, po, ha0, hrgs⟩ := rowPt_at (HXS.out.below HBa.out) (by omega)
    obtain ⟨p, hp⟩ : ∃ y, y = xs[i] := ⟨_, rfl⟩
    have hrg := hrgs i hltL; rw [← hp] at hrg; have hpI : okI p.at_ := (by rw [hp]; exact okX _ (List.getElem_mem hltL)); have hpL : p.d.length ≤ 9223372036854775807 := (by rw [hp]; exact Nat.le_trans (lenX _ (List.getElem_mem hltL)) (by unfold maxLen; omega)); unfold okI at hpI; clear hp hrgs
    go_step
    go_step
    go_step
    go_step
    refine wpk_val hK (wanted_none rfl) rfl (by decide) (fr rfl) (.int .i64 (i : Int)) (by unfold execOp; simp only [hK.eval (k := 10) (v := .int .i64 (i : Int)) (by simp)]; rfl) fun a71 h70 => ?_
    refine wpk_val h70 (wanted_none rfl) rfl (by decide) (fr rfl) (.slice a xs.length c) (by unfold execOp; simp only [h70.eval (k := 0) (v := .slice a xs.length c) (by simp)]; rfl) fun a73 h72 => ?_
    refine wpk_val h72 (wanted_none rfl) rfl (by decide) (fr rfl) (.int .i64 (xs.length : Int)) (run_lenP rfl (h72.eval (k := 31) (v := .slice a xs.length c) (by simp)) _) fun a75 h74 => ?_
    refine wpk_val h74 (wanted_none rfl) rfl (by decide) (fr rfl) (.bool true) (by unfold execOp; simp only [h74.eval (k := 30) (v := .int .i64 (i : Int)) (by simp), h74.eval (k := 32) (v := .int .i64 (xs.length : Int)) (by simp)]; exact run_v (ltIP _ _ _ _ _ (decide_eq_true (by omega)))) fun a77 h76 => ?_
    refine wpk_val h76 (wanted_none rfl) rfl (by decide) (fr rfl) (.bool true) (by unfold execOp; simp only [h76.eval (k := 33) (v := .bool true) (by simp)]; rfl) fun a79 h78 => ?_
    refine wpk_val h78 (by rw [wanted_of (g := 4) (want := true) (b := true) rfl (h78.yields (prev := 34) rfl (by simp))]; rfl) rfl (by decide) (fr rfl) (.int .i64 (i : Int)) (by unfold execOp; simp only [h78.eval (k := 10) (v := .int .i64 (i : Int)) (by simp)]; rfl) fun a81 h80 => ?_
    refine wpk_val h80 (by rw [wanted_of (g := 4) (want := true) (b := true) rfl (h80.yields (prev := 34) rfl (by simp))]; rfl) rfl (by decide) (fr rfl) (.bool true) (by unfold execOp; simp only [h80.eval (k := 35) (v := .int .i64 (i : Int)) (by simp)]; exact run_v (ltIP _ _ _ _ _ (decide_eq_true (by omega)))) fun a83 h82 => ?_
    refine wpk_val h82 (wanted_none rfl) rfl (by decide) (fr rfl) (.bool true) (run_pick rfl (h82.eval (k := 34) (v := .bool true) (by simp)) (by rw [if_pos rfl]; exact h82.eval (k := 36) (v := .bool true) (by simp))) fun a85 h84 => ?_
    have h86 := h84.subs (l' := [(37, .bool true), (10, .int .i64 (i : Int)), (9, .slice oa C.length oc), (7, .pointer (some ⟨K.pp, 0, none⟩)), (8, .pointer (some ⟨Q.pp, 0, none⟩)), (0, .slice a xs.length c), (1, .int .i64 st), (2, .slice ia I.length ic)]) rfl
    clear h84
    go_step
    go_step
    go_step
    refine wp_cond (t := true) (h86.eval (k := 37) (v := .bool true) (by simp)) ?_
    simp only [if_true]
    have h87 := h86.subs (l' := [(10, .int .i64 (i : Int)), (9, .slice oa C.length oc), (7, .pointer (some ⟨K.pp, 0, none⟩)), (8, .pointer (some ⟨Q.pp, 0, none⟩)), (0, .slice a xs.length c), (1, .int .i64 st), (2, .slice ia I.length ic)]) rfl
    clear h86
    go_step
    go_step
    go_step
    go_step
    go_step
    go_step
    go_step
    refine wpk_val h87 (wanted_none rfl) rfl (by decide) (fr rfl) (.slice a xs.length c) (by unfold execOp; simp only [h87.eval (k := 0) (v := .slice a xs.length c) (by simp)]; rfl) fun a89 h88 => ?_
    refine wpk_val h88 (wanted_none rfl) rfl (by decide) (fr rfl) (.int .i64 (i : Int)) (by unfold execOp; simp only [h88.eval (k := 10) (v := .int .i64 (i : Int)) (by simp)]; rfl) fun a91 h90 => ?_
    refine wpk_val h90 (wanted_none rfl) rfl (by decide) (fr rfl) (.pointer (some ⟨pb, po + i * 2, none⟩)) (by unfold execOp; simp only [h90.eval (k := 40) (v := .slice a xs.length c) (by simp), h90.eval (k := 41) (v := .int .i64 (i : Int)) (by simp)]; exact run_v (by rw [ha0]; exact ixP pb po _ c i hltL _)) fun a93 h92 => ?_
    refine wpk_val h92 (wanted_none rfl) rfl (by decide) (fr rfl) (ptV p) (by unfold execOp; simp only [h92.eval (k := 42) (v := .pointer (some ⟨pb, po + i * 2, none⟩)) (by simp)]; exact run_v (run_loadAt_mid _ _ _ _ (ptC p) _ hrg Tryd.underlying37 rfl (by rw [infoPt]; rfl))) fun a95 h94 => ?_
    refine wpk_val h94 (wanted_none rfl) rfl (by decide) (fr rfl) (.pointer (some ⟨aw.heap.size, 0, none⟩)) (run_allocPt rfl _ aw) fun a97 h96 => ?_
    obtain ⟨wp, hwp⟩ : ∃ x, x = aw.alloc (.cells (ptC ⟨0, []⟩).toArray 37) := ⟨_, rfl⟩
    obtain ⟨gp, hgp⟩ : ∃ x, x = aw.heap.size := ⟨_, rfl⟩
    have hk0 : Blk wp gp 37 (ptC ⟨0, []⟩) := by rw [hwp, hgp]; exact blk_newO rfl _ _
    have bp : Below aw.heap.size aw wp := by rw [hwp]; exact albO _ _
    have hgle : aw.heap.size ≤ gp := by rw [hgp]; exact Nat.le_refl _
    rw [← hgp] at h96; rw [← hwp]; clear hwp hgp
    refine wpk_storeP h96 rfl rfl rfl gp 0 (h96.eval (k := 11) (v := .pointer (some ⟨gp, 0, none⟩)) (by simp)) (ptC p) (h96.eval (k := 43) (v := ptV p) (by simp)) (by rw [infoPt]; rfl) (ptC_one _) hk0 (by show 0 + 2 ≤ 2; omega) fun a99 wq h98 kq gq => ?_
    rw [splice_all (by rfl)] at kq
    have HP := hid kq; have BQ : Hid (Below aw.heap.size aw wq) := hid (below_grownS bp gq hgle bp.size)
    clear kq gq hk0 bp
    have h100 := h98.subs (l' := [(11, .pointer (some ⟨gp, 0, none⟩)), (10, .int .i64 (i : Int)), (9, .slice oa C.length oc), (7, .pointer (some ⟨K.pp, 0, none⟩)), (8, .pointer (some ⟨Q.pp, 0, none⟩)), (0, .slice a xs.length c), (1, .int .i64 st), (2, .slice ia I.length ic)]) rfl
    clear h98
    go_step
    go_step
    go_step
    obtain ⟨q0, hq0⟩ : ∃ y : PtM, y = ⟨p.at_, p.d.take 40⟩ := ⟨_, rfl⟩
    have hq40 : q0.d.length ≤ 40 := by rw [hq0, List.length_take]; omega
    have hqa : q0.at_ = p.at_ := by rw [hq0]
    have hq0 : Hid (q0 = ⟨p.at_, p.d.take 40⟩) := hid hq0
    have h101 := h100.subs (l' := [(10, .int .i64 (i : Int)), (9, .slice oa C.length oc), (7, .pointer (some ⟨K.pp, 0, none⟩)), (8, .pointer (some ⟨Q.pp, 0, none⟩)), (0, .slice a xs.length c), (1, .int .i64 st), (2, .slice ia I.length ic), (11, .pointer (some ⟨gp, 0, none⟩))]) rfl
    clear h100
    refine wp_join (J := fun a' w' => Kn 237 [(10, .int .i64 (i : Int)), (9, .slice oa C.length oc), (7, .pointer (some ⟨K.pp, 0, none⟩)), (8, .pointer (some ⟨Q.pp, 0, none⟩)), (0, .slice a xs.length c), (1, .int .i64 st), (2, .slice ia I.length ic), (11, .pointer (some ⟨gp, 0, none⟩))] a' ∧ Blk w' gp 37 (ptC q0) ∧ Below aw.heap.size aw w') ?_ ?_
    case refine_1 =>
      by_cases h40 : 40 < p.d.length
      case pos =>
        go_step
        go_step
        go_step
        refine wpk_val h101 (wanted_none rfl) rfl (by decide) (fr rfl) (.pointer (some ⟨gp, 1, none⟩)) (by unfold execOp; simp only [h101.eval (k := 11) (v := .pointer (some ⟨gp, 0, none⟩)) (by simp)]; exact run_v (faT_37_0_1 (gp) _)) fun a103 h102 => ?_
        refine wpk_val h102 (wanted_none rfl) rfl (by decide) (fr rfl) (strB p.d) (by unfold execOp; simp only [h102.eval (k := 44) (v := .pointer (some ⟨gp, 1, none⟩)) (by simp)]; exact run_v (loadSP (HP.out.cell (i := 1) (by show 1 < 2; omega)))) fun a105 h104 => ?_
        refine wpk_val h104 (wanted_none rfl) rfl (by decide) (fr rfl) (.int .i64 (p.d.length : Int)) (run_lenSP rfl (h104.eval (k := 45) (v := strB p.d) (by simp)) _) fun a107 h106 => ?_
        refine wpk_val h106 (wanted_none rfl) rfl (by decide) (fr rfl) (.bool true) (by unfold execOp; simp only [h106.eval (k := 46) (v := .int .i64 (p.d.length : Int)) (by simp)]; exact run_v (gtIP _ _ _ _ _ (decide_eq_true (by omega)))) fun a109 h108 => ?_
        have h110 := h108.subs (l' := [(47, .bool true), (10, .int .i64 (i : Int)), (9, .slice oa C.length oc), (7, .pointer (some ⟨K.pp, 0, none⟩)), (8, .pointer (some ⟨Q.pp, 0, none⟩)), (0, .slice a xs.length c), (1, .int .i64 st), (2, .slice ia I.length ic), (11, .pointer (some ⟨gp, 0, none⟩))]) rfl
        clear h108
        go_step
        go_step
        go_step
        refine wp_cond (t := true) (h110.eval (k := 47) (v := .bool true) (by simp)) ?_
        simp only [if_true]
        have h111 := h110.subs (l' := [(10, .int .i64 (i : Int)), (9, .slice oa C.length oc), (7, .pointer (some ⟨K.pp, 0, none⟩)), (8, .pointer (some ⟨Q.pp, 0, none⟩)), (0, .slice a xs.length c), (1, .int .i64 st), (2, .slice ia I.length ic), (11, .pointer (some ⟨gp, 0, none⟩))]) rfl
        clear h110
        go_step
        refine wpk_val h111 (wanted_none rfl) rfl (by decide) (fr rfl) (.pointer (some ⟨gp, 1, none⟩)) (by unfold execOp; simp only [h111.eval (k := 11) (v := .pointer (some ⟨gp, 0, none⟩)) (by simp)]; exact run_v (faT_37_0_1 (gp) _)) fun a113 h112 => ?_
        refine wpk_val h112 (wanted_none rfl) rfl (by decide) (fr rfl) (strB p.d) (by unfold execOp; simp only [h112.eval (k := 48) (v := .pointer (some ⟨gp, 1, none⟩)) (by simp)]; exact run_v (loadSP (HP.out.cell (i := 1) (by show 1 < 2; omega)))) fun a115 h114 => ?_
        refine wpk_val h114 (wanted_none rfl) rfl (by decide) (fr rfl) (strB (p.d.take 40)) (by unfold execOp; simp only [h114.eval (k := 49) (v := strB p.d) (by simp)]; exact run_v (slSH p.d 40 (by omega) _)) fun a117 h116 => ?_
        refine wpk_val h116 (wanted_none rfl) rfl (by decide) (fr rfl) (.pointer (some ⟨gp, 1, none⟩)) (by unfold execOp; simp only [h116.eval (k := 11) (v := .pointer (some ⟨gp, 0, none⟩)) (by simp)]; exact run_v (faT_37_0_1 (gp) _)) fun a119 h118 => ?_
        obtain ⟨wr, hwr⟩ : ∃ x, x = wq.setCell ⟨gp, 1, none⟩ (strB (p.d.take 40)) := ⟨_, rfl⟩
        refine wpk_skipvP h118 (wanted_none rfl) rfl (w' := wr) (by rw [hwr]; unfold execOp; simp only [h118.eval (k := 51) (v := .pointer (some ⟨gp, 1, none⟩)) (by simp), h118.eval (k := 50) (v := strB (p.d.take 40)) (by simp)]; exact run_uP (storeSP (HP.out.cell (i := 1) (by show 1 < 2; omega)) (HP.out.frozen 1) _)) fun a121 h120 => ?_
        have kr : Blk wr gp 37 (ptC ⟨p.at_, p.d.take 40⟩) := by rw [hwr]; exact HP.out.set 1 _
        have gr : wq.grownBy wr (some gp) := by rw [hwr]; exact sg_set (sg_refl wq (some gp)) 1 _
        have HPr := hid kr; have BR : Hid (Below aw.heap.size aw wr) := hid (below_grownS BQ.out gr hgle BQ.out.size); clear kr gr hwr
        have h122 := h120.subs (l' := [(10, .int .i64 (i : Int)), (9, .slice oa C.length oc), (7, .pointer (some ⟨K.pp, 0, none⟩)), (8, .pointer (some ⟨Q.pp, 0, none⟩)), (0, .slice a xs.length c), (1, .int .i64 st), (2, .slice ia I.length ic), (11, .pointer (some ⟨gp, 0, none⟩))]) rfl
        clear h120
        go_step
        go_step
        exact ⟨h122.subs rfl, (by rw [hq0.out]; exact HPr.out), BR.out⟩
      case neg =>
        go_step
        go_step
        go_step
        refine wpk_val h101 (wanted_none rfl) rfl (by decide) (fr rfl) (.pointer (some ⟨gp, 1, none⟩)) (by unfold execOp; simp only [h101.eval (k := 11) (v := .pointer (some ⟨gp, 0, none⟩)) (by simp)]; exact run_v (faT_37_0_1 (gp) _)) fun a124 h123 => ?_
        refine wpk_val h123 (wanted_none rfl) rfl (by decide) (fr rfl) (strB p.d) (by unfold execOp; simp only [h123.eval (k := 44) (v := .pointer (some ⟨gp, 1, none⟩)) (by simp)]; exact run_v (loadSP (HP.out.cell (i := 1) (by show 1 < 2; omega)))) fun a126 h125 => ?_
        refine wpk_val h125 (wanted_none rfl) rfl (by decide) (fr rfl) (.int .i64 (p.d.length : Int)) (run_lenSP rfl (h125.eval (k := 45) (v := strB p.d) (by simp)) _) fun a128 h127 => ?_
        refine wpk_val h127 (wanted_none rfl) rfl (by decide) (fr rfl) (.bool false) (by unfold execOp; simp only [h127.eval (k := 46) (v := .int .i64 (p.d.length : Int)) (by simp)]; exact run_v (gtIP _ _ _ _ _ (decide_eq_false (by omega)))) fun a130 h129 => ?_
        have h131 := h129.subs (l' := [(47, .bool false), (10, .int .i64 (i : Int)), (9, .slice oa C.length oc), (7, .pointer (some ⟨K.pp, 0, none⟩)), (8, .pointer (some ⟨Q.pp, 0, none⟩)), (0, .slice a xs.length c), (1, .int .i64 st), (2, .slice ia I.length ic), (11, .pointer (some ⟨gp, 0, none⟩))]) rfl
        clear h129
        go_step
        go_step
        go_step
        refine wp_cond (t := false) (h131.eval (k := 47) (v := .bool false) (by simp)) ?_
        simp only [Bool.false_eq_true, if_false]
        have h132 := h131.subs (l' := [(10, .int .i64 (i : Int)), (9, .slice oa C.length oc), (7, .pointer (some ⟨K.pp, 0, none⟩)), (8, .pointer (some ⟨Q.pp, 0, none⟩)), (0, .slice a xs.length c), (1, .int .i64 st), (2, .slice ia I.length ic), (11, .pointer (some ⟨gp, 0, none⟩))]) rfl
        clear h131
        go_step
        go_step
        have eq0 : q0 = p := by rw [hq0.out, List.take_of_length_le (by omega)]
        exact ⟨h132.subs rfl, (by rw [eq0]; exact HP.out), BQ.out⟩
    rintro aj wj ⟨hJ, kj, bj⟩
    have HPj := hid kj; have TWj := hid (TWa.out.mono bj); have HOj := hid (Own.mono HOa.out bj); have HBj := hid (kept_trans HBa.out bj); have hgB : B ≤ gp := Nat.le_trans TWa.out.t.b hgle; clear bj kj HP BQ
    by_cases c1 : 0 ≤ q0.at_
    case neg =>
      go_step
      go_step
      refine wpk_val hJ (wanted_none rfl) rfl (by decide) (fr rfl) (.pointer (some ⟨gp, 0, none⟩)) (by unfold execOp; simp only [hJ.eval (k := 11) (v := .pointer (some ⟨gp, 0, none⟩)) (by simp)]; exact run_v (faT_37_0_0 (gp) _)) fun a134 h133 => ?_
      refine wpk_val h133 (wanted_none rfl) rfl (by decide) (fr rfl) (.int .i64 q0.at_) (by unfold execOp; simp only [h133.eval (k := 52) (v := .pointer (some ⟨gp, 0, none⟩)) (by simp)]; exact run_v (loadIP (HPj.out.cell (i := 0) (by show 0 < 2; omega)))) fun a136 h135 => ?_
      refine wpk_val h135 (wanted_none rfl) rfl (by decide) (fr rfl) (.bool false) (by unfold execOp; simp only [h135.eval (k := 53) (v := .int .i64 q0.at_) (by simp)]; exact run_v (geIP _ _ _ _ _ (decide_eq_false (by omega)))) fun a138 h137 => ?_
      refine wpk_val h137 (wanted_none rfl) rfl (by decide) (fr rfl) (.bool false) (by unfold execOp; simp only [h137.eval (k := 54) (v := .bool false) (by simp)]; rfl) fun a140 h139 => ?_
      refine wpk_skip h139 (by rw [wanted_of (g := 3) (want := true) (b := false) rfl (h139.yields (prev := 55) rfl (by simp))]; rfl) rfl (by decide) (fr rfl) fun a142 h141 => ?_
      refine wpk_skip h141 (by rw [wanted_of (g := 3) (want := true) (b := false) rfl (h141.yields (prev := 55) rfl (by simp))]; rfl) rfl (by decide) (fr rfl) fun a144 h143 => ?_
      refine wpk_skip h143 (by rw [wanted_of (g := 3) (want := true) (b := false) rfl (h143.yields (prev := 55) rfl (by simp))]; rfl) rfl (by decide) (fr rfl) fun a146 h145 => ?_
      refine wpk_val h145 (wanted_none rfl) rfl (by decide) (fr rfl) (.bool false) (run_pick rfl (h145.eval (k := 55) (v := .bool false) (by simp)) rfl) fun a148 h147 => ?_
      refine wpk_val h147 (wanted_none rfl) rfl (by decide) (fr rfl) (.bool false) (by unfold execOp; simp only [h147.eval (k := 59) (v := .bool false) (by simp)]; rfl) fun a150 h149 => ?_
      refine wpk_skip h149 (by rw [wanted_of (g := 8) (want := true) (b := false) rfl (h149.yields (prev := 60) rfl (by simp))]; rfl) rfl (by decide) (fr rfl) fun a152 h151 => ?_
      refine wpk_skip h151 (by rw [wanted_of (g := 8) (want := true) (b := false) rfl (h151.yields (prev := 60) rfl (by simp))]; rfl) rfl (by decide) (fr rfl) fun a154 h153 => ?_
      refine wpk_skip h153 (by rw [wanted_of (g := 8) (want := true) (b := false) rfl (h153.yields (prev := 60) rfl (by simp))]; rfl) rfl (by decide) (fr rfl) fun a156 h155 => ?_
      refine wpk_skip h155 (by rw [wanted_of (g := 8) (want := true) (b := false) rfl (h155.yields (prev := 60) rfl (by simp))]; rfl) rfl (by decide) (fr rfl) fun a158 h157 => ?_
      refine wpk_skip h157 (by rw [wanted_of (g := 8) (want := true) (b := false) rfl (h157.yields (prev := 60) rfl (by simp))]; rfl) rfl (by decide) (fr rfl) fun a160 h159 => ?_
      refine wpk_skip h159 (by rw [wanted_of (g := 8) (want := true) (b := false) rfl (h159.yields (prev := 60) rfl (by simp))]; rfl) rfl (by decide) (fr rfl) fun a162 h161 => ?_
      refine wpk_skip h161 (by rw [wanted_of (g := 8) (want := true) (b := false) rfl (h161.yields (prev := 60) rfl (by simp))]; rfl) rfl (by decide) (fr rfl) fun a164 h163 => ?_
      refine wpk_val h163 (wanted_none rfl) rfl (by decide) (fr rfl) (.bool false) (run_pick rfl (h163.eval (k := 60) (v := .bool false) (by simp)) rfl) fun a166 h165 => ?_
      have h167 := h165.subs (l' := [(68, .bool false), (10, .int .i64 (i : Int)), (9, .slice oa C.length oc), (7, .pointer (some ⟨K.pp, 0, none⟩)), (8, .pointer (some ⟨Q.pp, 0, none⟩)), (0, .slice a xs.length c), (1, .int .i64 st), (2, .slice ia I.length ic), (11, .pointer (some ⟨gp, 0, none⟩))]) rfl
      clear h165
      go_step
      go_step
      go_step
      refine wp_cond (t := false) (h167.eval (k := 68) (v := .bool false) (by simp)) ?_
      simp only [Bool.false_eq_true, if_false]
      have h168 := h167.subs (l' := [(10, .int .i64 (i : Int)), (9, .slice oa C.length oc), (7, .pointer (some ⟨K.pp, 0, none⟩)), (8, .pointer (some ⟨Q.pp, 0, none⟩)), (0, .slice a xs.length c), (1, .int .i64 st), (2, .slice ia I.length ic), (11, .pointer (some ⟨gp, 0, none⟩))]) rfl
      clear h167
      go_step
      go_step
      go_step
      go_step
      refine wpk_val h168 (wanted_none rfl) rfl (by decide) (fr rfl) (.int .i64 (i : Int)) (by unfold execOp; simp only [h168.eval (k := 10) (v := .int .i64 (i : Int)) (by simp)]; rfl) fun a170 h169 => ?_
      refine wpk_val h169 (wanted_none rfl) rfl (by decide) (fr rfl) (.int .i64 ((i + 1 : Nat) : Int)) (by unfold execOp; simp only [h169.eval (k := 38) (v := .int .i64 (i : Int)) (by simp)]; exact run_v (addNP _ _ _ _ _ (by omega) (by omega) (by omega) _)) fun a172 h171 => ?_
      have h173 := h171.subs (l' := [(39, .int .i64 ((i + 1 : Nat) : Int)), (38, .int .i64 (i : Int)), (9, .slice oa C.length oc), (7, .pointer (some ⟨K.pp, 0, none⟩)), (8, .pointer (some ⟨Q.pp, 0, none⟩)), (0, .slice a xs.length c), (1, .int .i64 st), (2, .slice ia I.length ic), (11, .pointer (some ⟨gp, 0, none⟩))]) rfl
      clear h171
      refine wpk_val h173 (wanted_none rfl) rfl (by decide) (fr rfl) (.int .i64 ((i + 1 : Nat) : Int)) (by unfold execOp; simp only [h173.eval (k := 39) (v := .int .i64 ((i + 1 : Nat) : Int)) (by simp)]; rfl) fun a175 h174 => ?_
      have h176 := h174.subs (l' := [(10, .int .i64 ((i + 1 : Nat) : Int)), (9, .slice oa C.length oc), (7, .pointer (some ⟨K.pp, 0, none⟩)), (8, .pointer (some ⟨Q.pp, 0, none⟩)), (0, .slice a xs.length c), (1, .int .i64 st), (2, .slice ia I.length ic), (11, .pointer (some ⟨gp, 0, none⟩))]) rfl
      clear h174
      go_step
      go_step
      refine ⟨⟨i + 1, C, ta, oa, tc, oc, by omega, by omega, by omega, h176.subs rfl, ⟨by omega, hinC⟩, TWj.out, HOj.out, hap, HBj.out⟩, ?_⟩
      rw [h176.eval (k := 10) (v := .int .i64 ((i + 1 : Nat) : Int)) (by simp), hK.eval (k := 10) (v := .int .i64 (i : Int)) (by simp)]; simp [intOf]; omega
    by_cases c2 : q0.at_ ≤ 512
    case neg =>
      go_step
      go_step
      refine wpk_val hJ (wanted_none rfl) rfl (by decide) (fr rfl) (.pointer (some ⟨gp, 0, none⟩)) (by unfold execOp; simp only [hJ.eval (k := 11) (v := .pointer (some ⟨gp, 0, none⟩)) (by simp)]; exact run_v (faT_37_0_0 (gp) _)) fun a178 h177 => ?_
      refine wpk_val h177 (wanted_none rfl) rfl (by decide) (fr rfl) (.int .i64 q0.at_) (by unfold execOp; simp only [h177.eval (k := 52) (v := .pointer (some ⟨gp, 0, none⟩)) (by simp)]; exact run_v (loadIP (HPj.out.cell (i := 0) (by show 0 < 2; omega)))) fun a180 h179 => ?_
      refine wpk_val h179 (wanted_none rfl) rfl (by decide) (fr rfl) (.bool true) (by unfold execOp; simp only [h179.eval (k := 53) (v := .int .i64 q0.at_) (by simp)]; exact run_v (geIP _ _ _ _ _ (decide_eq_true (by omega)))) fun a182 h181 => ?_
      refine wpk_val h181 (wanted_none rfl) rfl (by decide) (fr rfl) (.bool true) (by unfold execOp; simp only [h181.eval (k := 54) (v := .bool true) (by simp)]; rfl) fun a184 h183 => ?_
      refine wpk_val h183 (by rw [wanted_of (g := 3) (want := true) (b := true) rfl (h183.yields (prev := 55) rfl (by simp))]; rfl) rfl (by decide) (fr rfl) (.pointer (some ⟨gp, 0, none⟩)) (by unfold execOp; simp only [h183.eval (k := 11) (v := .pointer (some ⟨gp, 0, none⟩)) (by simp)]; exact run_v (faT_37_0_0 (gp) _)) fun a186 h185 => ?_
      refine wpk_val h185 (by rw [wanted_of (g := 3) (want := true) (b := true) rfl (h185.yields (prev := 55) rfl (by simp))]; rfl) rfl (by decide) (fr rfl) (.int .i64 q0.at_) (by unfold execOp; simp only [h185.eval (k := 56) (v := .pointer (some ⟨gp, 0, none⟩)) (by simp)]; exact run_v (loadIP (HPj.out.cell (i := 0) (by show 0 < 2; omega)))) fun a188 h187 => ?_
      refine wpk_val h187 (by rw [wanted_of (g := 3) (want := true) (b := true) rfl (h187.yields (prev := 55) rfl (by simp))]; rfl) rfl (by decide) (fr rfl) (.bool false) (by unfold execOp; simp only [h187.eval (k := 57) (v := .int .i64 q0.at_) (by simp)]; exact run_v (leIP _ _ _ _ _ (decide_eq_false (by omega)))) fun a190 h189 => ?_
      refine wpk_val h189 (wanted_none rfl) rfl (by decide) (fr rfl) (.bool false) (run_pick rfl (h189.eval (k := 55) (v := .bool true) (by simp)) (by rw [if_pos rfl]; exact h189.eval (k := 58) (v := .bool false) (by simp))) fun a192 h191 => ?_
      refine wpk_val h191 (wanted_none rfl) rfl (by decide) (fr rfl) (.bool false) (by unfold execOp; simp only [h191.eval (k := 59) (v := .bool false) (by simp)]; rfl) fun a194 h193 => ?_
      refine wpk_skip h193 (by rw [wanted_of (g := 8) (want := true) (b := false) rfl (h193.yields (prev := 60) rfl (by simp))]; rfl) rfl (by decide) (fr rfl) fun a196 h195 => ?_
      refine wpk_skip h195 (by rw [wanted_of (g := 8) (want := true) (b := false) rfl (h195.yields (prev := 60) rfl (by simp))]; rfl) rfl (by decide) (fr rfl) fun a198 h197 => ?_
      refine wpk_skip h197 (by rw [wanted_of (g := 8) (want := true) (b := false) rfl (h197.yields (prev := 60) rfl (by simp))]; rfl) rfl (by decide) (fr rfl) fun a200 h199 => ?_
      refine wpk_skip h199 (by rw [wanted_of (g := 8) (want := true) (b := false) rfl (h199.yields (prev := 60) rfl (by simp))]; rfl) rfl (by decide) (fr rfl) fun a202 h201 => ?_
      refine wpk_skip h201 (by rw [wanted_of (g := 8) (want := true) (b := false) rfl (h201.yields (prev := 60) rfl (by simp))]; rfl) rfl (by decide) (fr rfl) fun a204 h203 => ?_
      refine wpk_skip h203 (by rw [wanted_of (g := 8) (want := true) (b := false) rfl (h203.yields (prev := 60) rfl (by simp))]; rfl) rfl (by decide) (fr rfl) fun a206 h205 => ?_
      refine wpk_skip h205 (by rw [wanted_of (g := 8) (want := true) (b := false) rfl (h205.yields (prev := 60) rfl (by simp))]; rfl) rfl (by decide) (fr rfl) fun a208 h207 => ?_
      refine wpk_val h207 (wanted_none rfl) rfl (by decide) (fr rfl) (.bool false) (run_pick rfl (h207.eval (k := 60) (v := .bool false) (by simp)) rfl) fun a210 h209 => ?_
      have h211 := h209.subs (l' := [(68, .bool false), (10, .int .i64 (i : Int)), (9, .slice oa C.length oc), (7, .pointer (some ⟨K.pp, 0, none⟩)), (8, .pointer (some ⟨Q.pp, 0, none⟩)), (0, .slice a xs.length c), (1, .int .i64 st), (2, .slice ia I.length ic), (11, .pointer (some ⟨gp, 0, none⟩))]) rfl
      clear h209
      go_step
      go_step
      go_step
      refine wp_cond (t := false) (h211.eval (k := 68) (v := .bool false) (by simp)) ?_
      simp only [Bool.false_eq_true, if_false]
      have h212 := h211.subs (l' := [(10, .int .i64 (i : Int)), (9, .slice oa C.length oc), (7, .pointer (some ⟨K.pp, 0, none⟩)), (8, .pointer (some ⟨Q.pp, 0, none⟩)), (0, .slice a xs.length c), (1, .int .i64 st), (2, .slice ia I.length ic), (11, .pointer (some ⟨gp, 0, none⟩))]) rfl
      clear h211
      go_step
      go_step
      go_step
      go_step
      refine wpk_val h212 (wanted_none rfl) rfl (by decide) (fr rfl) (.int .i64 (i : Int)) (by unfold execOp; simp only [h212.eval (k := 10) (v := .int .i64 (i : Int)) (by simp)]; rfl) fun a214 h213 => ?_
      refine wpk_val h213 (wanted_none rfl) rfl (by decide) (fr rfl) (.int .i64 ((i + 1 : Nat) : Int)) (by unfold execOp; simp only [h213.eval (k := 38) (v := .int .i64 (i : Int)) (by simp)]; exact run_v (addNP _ _ _ _ _ (by omega) (by omega) (by omega) _)) fun a216 h215 => ?_
      have h217 := h215.subs (l' := [(39, .int .i64 ((i + 1 : Nat) : Int)), (38, .int .i64 (i : Int)), (9, .slice oa C.length oc), (7, .pointer (some ⟨K.pp, 0, none⟩)), (8, .pointer (some ⟨Q.pp, 0, none⟩)), (0, .slice a xs.length c), (1, .int .i64 st), (2, .slice ia I.length ic), (11, .pointer (some ⟨gp, 0, none⟩))]) rfl
      clear h215
      refine wpk_val h217 (wanted_none rfl) rfl (by decide) (fr rfl) (.int .i64 ((i + 1 : Nat) : Int)) (by unfold execOp; simp only [h217.eval (k := 39) (v := .int .i64 ((i + 1 : Nat) : Int)) (by simp)]; rfl) fun a219 h218 => ?_
      have h220 := h218.subs (l' := [(10, .int .i64 ((i + 1 : Nat) : Int)), (9, .slice oa C.length oc), (7, .pointer (some ⟨K.pp, 0, none⟩)), (8, .pointer (some ⟨Q.pp, 0, none⟩)), (0, .slice a xs.length c), (1, .int .i64 st), (2, .slice ia I.length ic), (11, .pointer (some ⟨gp, 0, none⟩))]) rfl
      clear h218
      go_step
      go_step
      refine ⟨⟨i + 1, C, ta, oa, tc, oc, by omega, by omega, by omega, h220.subs rfl, ⟨by omega, hinC⟩, TWj.out, HOj.out, hap, HBj.out⟩, ?_⟩
      rw [h220.eval (k := 10) (v := .int .i64 ((i + 1 : Nat) : Int)) (by simp), hK.eval (k := 10) (v := .int .i64 (i : Int)) (by simp)]; simp [intOf]; omega
    by_cases c3 : q0.at_ + (q0.d.length : Int) ≤ 512
    case neg =>
      go_step
      go_step
      refine wpk_val hJ (wanted_none rfl) rfl (by decide) (fr rfl) (.pointer (some ⟨gp, 0, none⟩)) (by unfold execOp; simp only [hJ.eval (k := 11) (v := .pointer (some ⟨gp, 0, none⟩)) (by simp)]; exact run_v (faT_37_0_0 (gp) _)) fun a222 h221 => ?_
      refine wpk_val h221 (wanted_none rfl) rfl (by decide) (fr rfl) (.int .i64 q0.at_) (by unfold execOp; simp only [h221.eval (k := 52) (v := .pointer (some ⟨gp, 0, none⟩)) (by simp)]; exact run_v (loadIP (HPj.out.cell (i := 0) (by show 0 < 2; omega)))) fun a224 h223 => ?_
      refine wpk_val h223 (wanted_none rfl) rfl (by decide) (fr rfl) (.bool true) (by unfold execOp; simp only [h223.eval (k := 53) (v := .int .i64 q0.at_) (by simp)]; exact run_v (geIP _ _ _ _ _ (decide_eq_true (by omega)))) fun a226 h225 => ?_
      refine wpk_val h225 (wanted_none rfl) rfl (by decide) (fr rfl) (.bool true) (by unfold execOp; simp only [h225.eval (k := 54) (v := .bool true) (by simp)]; rfl) fun a228 h227 => ?_
      refine wpk_val h227 (by rw [wanted_of (g := 3) (want := true) (b := true) rfl (h227.yields (prev := 55) rfl (by simp))]; rfl) rfl (by decide) (fr rfl) (.pointer (some ⟨gp, 0, none⟩)) (by unfold execOp; simp only [h227.eval (k := 11) (v := .pointer (some ⟨gp, 0, none⟩)) (by simp)]; exact run_v (faT_37_0_0 (gp) _)) fun a230 h229 => ?_
      refine wpk_val h229 (by rw [wanted_of (g := 3) (want := true) (b := true) rfl (h229.yields (prev := 55) rfl (by simp))]; rfl) rfl (by decide) (fr rfl) (.int .i64 q0.at_) (by unfold execOp; simp only [h229.eval (k := 56) (v := .pointer (some ⟨gp, 0, none⟩)) (by simp)]; exact run_v (loadIP (HPj.out.cell (i := 0) (by show 0 < 2; omega)))) fun a232 h231 => ?_
      refine wpk_val h231 (by rw [wanted_of (g := 3) (want := true) (b := true) rfl (h231.yields (prev := 55) rfl (by simp))]; rfl) rfl (by decide) (fr rfl) (.bool true) (by unfold execOp; simp only [h231.eval (k := 57) (v := .int .i64 q0.at_) (by simp)]; exact run_v (leIP _ _ _ _ _ (decide_eq_true (by omega)))) fun a234 h233 => ?_
      refine wpk_val h233 (wanted_none rfl) rfl (by decide) (fr rfl) (.bool true) (run_pick rfl (h233.eval (k := 55) (v := .bool true) (by simp)) (by rw [if_pos rfl]; exact h233.eval (k := 58) (v := .bool true) (by simp))) fun a236 h235 => ?_
      refine wpk_val h235 (wanted_none rfl) rfl (by decide) (fr rfl) (.bool true) (by unfold execOp; simp only [h235.eval (k := 59) (v := .bool true) (by simp)]; rfl) fun a238 h237 => ?_
      refine wpk_val h237 (by rw [wanted_of (g := 8) (want := true) (b := true) rfl (h237.yields (prev := 60) rfl (by simp))]; rfl) rfl (by decide) (fr rfl) (.pointer (some ⟨gp, 0, none⟩)) (by unfold execOp; simp only [h237.eval (k := 11) (v := .pointer (some ⟨gp, 0, none⟩)) (by simp)]; exact run_v (faT_37_0_0 (gp) _)) fun a240 h239 => ?_
      refine wpk_val h239 (by rw [wanted_of (g := 8) (want := true) (b := true) rfl (h239.yields (prev := 60) rfl (by simp))]; rfl) rfl (by decide) (fr rfl) (.int .i64 q0.at_) (by unfold execOp; simp only [h239.eval (k := 61) (v := .pointer (some ⟨gp, 0, none⟩)) (by simp)]; exact run_v (loadIP (HPj.out.cell (i := 0) (by show 0 < 2; omega)))) fun a242 h241 => ?_
      refine wpk_val h241 (by rw [wanted_of (g := 8) (want := true) (b := true) rfl (h241.yields (prev := 60) rfl (by simp))]; rfl) rfl (by decide) (fr rfl) (.pointer (some ⟨gp, 1, none⟩)) (by unfold execOp; simp only [h241.eval (k := 11) (v := .pointer (some ⟨gp, 0, none⟩)) (by simp)]; exact run_v (faT_37_0_1 (gp) _)) fun a244 h243 => ?_
      refine wpk_val h243 (by rw [wanted_of (g := 8) (want := true) (b := true) rfl (h243.yields (prev := 60) rfl (by simp))]; rfl) rfl (by decide) (fr rfl) (strB q0.d) (by unfold execOp; simp only [h243.eval (k := 63) (v := .pointer (some ⟨gp, 1, none⟩)) (by simp)]; exact run_v (loadSP (HPj.out.cell (i := 1) (by show 1 < 2; omega)))) fun a246 h245 => ?_
      refine wpk_val h245 (by rw [wanted_of (g := 8) (want := true) (b := true) rfl (h245.yields (prev := 60) rfl (by simp))]; rfl) rfl (by decide) (fr rfl) (.int .i64 (q0.d.length : Int)) (run_lenSP rfl (h245.eval (k := 64) (v := strB q0.d) (by simp)) _) fun a248 h247 => ?_
      refine wpk_val h247 (by rw [wanted_of (g := 8) (want := true) (b := true) rfl (h247.yields (prev := 60) rfl (by simp))]; rfl) rfl (by decide) (fr rfl) (.int .i64 (q0.at_ + (q0.d.length : Int))) (by unfold execOp; simp only [h247.eval (k := 62) (v := .int .i64 q0.at_) (by simp), h247.eval (k := 65) (v := .int .i64 (q0.d.length : Int)) (by simp)]; exact run_v (addNP _ _ _ _ _ (by omega) (by omega) (by omega) _)) fun a250 h249 => ?_
      refine wpk_val h249 (by rw [wanted_of (g := 8) (want := true) (b := true) rfl (h249.yields (prev := 60) rfl (by simp))]; rfl) rfl (by decide) (fr rfl) (.bool false) (by unfold execOp; simp only [h249.eval (k := 66) (v := .int .i64 (q0.at_ + (q0.d.length : Int))) (by simp)]; exact run_v (leIP _ _ _ _ _ (decide_eq_false (by omega)))) fun a252 h251 => ?_
      refine wpk_val h251 (wanted_none rfl) rfl (by decide) (fr rfl) (.bool false) (run_pick rfl (h251.eval (k := 60) (v := .bool true) (by simp)) (by rw [if_pos rfl]; exact h251.eval (k := 67) (v := .bool false) (by simp))) fun a254 h253 => ?_
      have h255 := h253.subs (l' := [(68, .bool false), (10, .int .i64 (i : Int)), (9, .slice oa C.length oc), (7, .pointer (some ⟨K.pp, 0, none⟩)), (8, .pointer (some ⟨Q.pp, 0, none⟩)), (0, .slice a xs.length c), (1, .int .i64 st), (2, .slice ia I.length ic), (11, .pointer (some ⟨gp, 0, none⟩))]) rfl
      clear h253
      go_step
      go_step
      go_step
      refine wp_cond (t := false) (h255.eval (k := 68) (v := .bool false) (by simp)) ?_
      simp only [Bool.false_eq_true, if_false]
      have h256 := h255.subs (l' := [(10, .int .i64 (i : Int)), (9, .slice oa C.length oc), (7, .pointer (some ⟨K.pp, 0, none⟩)), (8, .pointer (some ⟨Q.pp, 0, none⟩)), (0, .slice a xs.length c), (1, .int .i64 st), (2, .slice ia I.length ic), (11, .pointer (some ⟨gp, 0, none⟩))]) rfl
      clear h255
      go_step
      go_step
      go_step
      go_step
      refine wpk_val h256 (wanted_none rfl) rfl (by decide) (fr rfl) (.int .i64 (i : Int)) (by unfold execOp; simp only [h256.eval (k := 10) (v := .int .i64 (i : Int)) (by simp)]; rfl) fun a258 h257 => ?_
      refine wpk_val h257 (wanted_none rfl) rfl (by decide) (fr rfl) (.int .i64 ((i + 1 : Nat) : Int)) (by unfold execOp; simp only [h257.eval (k := 38) (v := .int .i64 (i : Int)) (by simp)]; exact run_v (addNP _ _ _ _ _ (by omega) (by omega) (by omega) _)) fun a260 h259 => ?_
      have h261 := h259.subs (l' := [(39, .int .i64 ((i + 1 : Nat) : Int)), (38, .int .i64 (i : Int)), (9, .slice oa C.length oc), (7, .pointer (some ⟨K.pp, 0, none⟩)), (8, .pointer (some ⟨Q.pp, 0, none⟩)), (0, .slice a xs.length c), (1, .int .i64 st), (2, .slice ia I.length ic), (11, .pointer (some ⟨gp, 0, none⟩))]) rfl
      clear h259
      refine wpk_val h261 (wanted_none rfl) rfl (by decide) (fr rfl) (.int .i64 ((i + 1 : Nat) : Int)) (by unfold execOp; simp only [h261.eval (k := 39) (v := .int .i64 ((i + 1 : Nat) : Int)) (by simp)]; rfl) fun a263 h262 => ?_
      have h264 := h262.subs (l' := [(10, .int .i64 ((i + 1 : Nat) : Int)), (9, .slice oa C.length oc), (7, .pointer (some ⟨K.pp, 0, none⟩)), (8, .pointer (some ⟨Q.pp, 0, none⟩)), (0, .slice a xs.length c), (1, .int .i64 st), (2, .slice ia I.length ic), (11, .pointer (some ⟨gp, 0, none⟩))]) rfl
      clear h262
      go_step
      go_step
      refine ⟨⟨i + 1, C, ta, oa, tc, oc, by omega, by omega, by omega, h264.subs rfl, ⟨by omega, hinC⟩, TWj.out, HOj.out, hap, HBj.out⟩, ?_⟩
      rw [h264.eval (k := 10) (v := .int .i64 ((i + 1 : Nat) : Int)) (by simp), hK.eval (k := 10) (v := .int .i64 (i : Int)) (by simp)]; simp [intOf]; omega
    have hin0 : inR q0 = true := (inR_iff q0).2 (by omega)
    go_step
    go_step
    refine wpk_val hJ (wanted_none rfl) rfl (by decide) (fr rfl) (.pointer (some ⟨gp, 0, none⟩)) (by unfold execOp; simp only [hJ.eval (k := 11) (v := .pointer (some ⟨gp, 0, none⟩)) (by simp)]; exact run_v (faT_37_0_0 (gp) _)) fun a266 h265 => ?_
    refine wpk_val h265 (wanted_none rfl) rfl (by decide) (fr rfl) (.int .i64 q0.at_) (by unfold execOp; simp only [h265.eval (k := 52) (v := .pointer (some ⟨gp, 0, none⟩)) (by simp)]; exact run_v (loadIP (HPj.out.cell (i := 0) (by show 0 < 2; omega)))) fun a268 h267 => ?_
    refine wpk_val h267 (wanted_none rfl) rfl (by decide) (fr rfl) (.bool true) (by unfold execOp; simp only [h267.eval (k := 53) (v := .int .i64 q0.at_) (by simp)]; exact run_v (geIP _ _ _ _ _ (decide_eq_true (by omega)))) fun a270 h269 => ?_
    refine wpk_val h269 (wanted_none rfl) rfl (by decide) (fr rfl) (.bool true) (by unfold execOp; simp only [h269.eval (k := 54) (v := .bool true) (by simp)]; rfl) fun a272 h271 => ?_
    refine wpk_val h271 (by rw [wanted_of (g := 3) (want := true) (b := true) rfl (h271.yields (prev := 55) rfl (by simp))]; rfl) rfl (by decide) (fr rfl) (.pointer (some ⟨gp, 0, none⟩)) (by unfold execOp; simp only [h271.eval (k := 11) (v := .pointer (some ⟨gp, 0, none⟩)) (by simp)]; exact run_v (faT_37_0_0 (gp) _)) fun a274 h273 => ?_
    refine wpk_val h273 (by rw [wanted_of (g := 3) (want := true) (b := true) rfl (h273.yields (prev := 55) rfl (by simp))]; rfl) rfl (by decide) (fr rfl) (.int .i64 q0.at_) (by unfold execOp; simp only [h273.eval (k := 56) (v := .pointer (some ⟨gp, 0, none⟩)) (by simp)]; exact run_v (loadIP (HPj.out.cell (i := 0) (by show 0 < 2; omega)))) fun a276 h275 => ?_
    refine wpk_val h275 (by rw [wanted_of (g := 3) (want := true) (b := true) rfl (h275.yields (prev := 55) rfl (by simp))]; rfl) rfl (by decide) (fr rfl) (.bool true) (by unfold execOp; simp only [h275.eval (k := 57) (v := .int .i64 q0.at_) (by simp)]; exact run_v (leIP _ _ _ _ _ (decide_eq_true (by omega)))) fun a278 h277 => ?_
    refine wpk_val h277 (wanted_none rfl) rfl (by decide) (fr rfl) (.bool true) (run_pick rfl (h277.eval (k := 55) (v := .bool true) (by simp)) (by rw [if_pos rfl]; exact h277.eval (k := 58) (v := .bool true) (by simp))) fun a280 h279 => ?_
    refine wpk_val h279 (wanted_none rfl) rfl (by decide) (fr rfl) (.bool true) (by unfold execOp; simp only [h279.eval (k := 59) (v := .bool true) (by simp)]; rfl) fun a282 h281 => ?_
    refine wpk_val h281 (by rw [wanted_of (g := 8) (want := true) (b := true) rfl (h281.yields (prev := 60) rfl (by simp))]; rfl) rfl (by decide) (fr rfl) (.pointer (some ⟨gp, 0, none⟩)) (by unfold execOp; simp only [h281.eval (k := 11) (v := .pointer (some ⟨gp, 0, none⟩)) (by simp)]; exact run_v (faT_37_0_0 (gp) _)) fun a284 h283 => ?_
    refine wpk_val h283 (by rw [wanted_of (g := 8) (want := true) (b := true) rfl (h283.yields (prev := 60) rfl (by simp))]; rfl) rfl (by decide) (fr rfl) (.int .i64 q0.at_) (by unfold execOp; simp only [h283.eval (k := 61) (v := .pointer (some ⟨gp, 0, none⟩)) (by simp)]; exact run_v (loadIP (HPj.out.cell (i := 0) (by show 0 < 2; omega)))) fun a286 h285 => ?_
    refine wpk_val h285 (by rw [wanted_of (g := 8) (want := true) (b := true) rfl (h285.yields (prev := 60) rfl (by simp))]; rfl) rfl (by decide) (fr rfl) (.pointer (some ⟨gp, 1, none⟩)) (by unfold execOp; simp only [h285.eval (k := 11) (v := .pointer (some ⟨gp, 0, none⟩)) (by simp)]; exact run_v (faT_37_0_1 (gp) _)) fun a288 h287 => ?_
    refine wpk_val h287 (by rw [wanted_of (g := 8) (want := true) (b := true) rfl (h287.yields (prev := 60) rfl (by simp))]; rfl) rfl (by decide) (fr rfl) (strB q0.d) (by unfold execOp; simp only [h287.eval (k := 63) (v := .pointer (some ⟨gp, 1, none⟩)) (by simp)]; exact run_v (loadSP (HPj.out.cell (i := 1) (by show 1 < 2; omega)))) fun a290 h289 => ?_
    refine wpk_val h289 (by rw [wanted_of (g := 8) (want := true) (b := true) rfl (h289.yields (prev := 60) rfl (by simp))]; rfl) rfl (by decide) (fr rfl) (.int .i64 (q0.d.length : Int)) (run_lenSP rfl (h289.eval (k := 64) (v := strB q0.d) (by simp)) _) fun a292 h291 => ?_
    refine wpk_val h291 (by rw [wanted_of (g := 8) (want := true) (b := true) rfl (h291.yields (prev := 60) rfl (by simp))]; rfl) rfl (by decide) (fr rfl) (.int .i64 (q0.at_ + (q0.d.length : Int))) (by unfold execOp; simp only [h291.eval (k := 62) (v := .int .i64 q0.at_) (by simp), h291.eval (k := 65) (v := .int .i64 (q0.d.length : Int)) (by simp)]; exact run_v (addNP _ _ _ _ _ (by omega) (by omega) (by omega) _)) fun a294 h293 => ?_
    refine wpk_val h293 (by rw [wanted_of (g := 8) (want := true) (b := true) rfl (h293.yields (prev := 60) rfl (by simp))]; rfl) rfl (by decide) (fr rfl) (.bool true) (by unfold execOp; simp only [h293.eval (k := 66) (v := .int .i64 (q0.at_ + (q0.d.length : Int))) (by simp)]; exact run_v (leIP _ _ _ _ _ (decide_eq_true (by omega)))) fun a296 h295 => ?_
    refine wpk_val h295 (wanted_none rfl) rfl (by decide) (fr rfl) (.bool true) (run_pick rfl (h295.eval (k := 60) (v := .bool true) (by simp)) (by rw [if_pos rfl]; exact h295.eval (k := 67) (v := .bool true) (by simp))) fun a298 h297 => ?_
    have h299 := h297.subs (l' := [(68, .bool true), (10, .int .i64 (i : Int)), (9, .slice oa C.length oc), (7, .pointer (some ⟨K.pp, 0, none⟩)), (8, .pointer (some ⟨Q.pp, 0, none⟩)), (0, .slice a xs.length c), (1, .int .i64 st), (2, .slice ia I.length ic), (11, .pointer (some ⟨gp, 0, none⟩))]) rfl
    clear h297
    go_step
    go_step
    go_step
    refine wp_cond (t := true) (h299.eval (k := 68) (v := .bool true) (by simp)) ?_
    simp only [if_true]
    have h300 := h299.subs (l' := [(10, .int .i64 (i : Int)), (9, .slice oa C.length oc), (7, .pointer (some ⟨K.pp, 0, none⟩)), (8, .pointer (some ⟨Q.pp, 0, none⟩)), (0, .slice a xs.length c), (1, .int .i64 st), (2, .slice ia I.length ic), (11, .pointer (some ⟨gp, 0, none⟩))]) rfl
    clear h299
    go_step
    go_step
    refine wpk_val h300 (wanted_none rfl) rfl (by decide) (fr rfl) (.slice oa C.length oc) (by unfold execOp; simp only [h300.eval (k := 9) (v := .slice oa C.length oc) (by simp)]; rfl) fun a302 h301 => ?_
    refine wpk_val h301 (wanted_none rfl) rfl (by decide) (fr rfl) (ptV q0) (by unfold execOp; simp only [h301.eval (k := 11) (v := .pointer (some ⟨gp, 0, none⟩)) (by simp)]; exact run_v (run_loadAt_mid _ _ _ _ (ptC q0) _ (fun i u hu => by rw [Nat.zero_add]; exact blk_at HPj.out hu) Tryd.underlying37 rfl (by rw [infoPt]; rfl))) fun a304 h303 => ?_
    obtain ⟨wz, hwz⟩ : ∃ x, x = wj.alloc (.cells (ptC q0).toArray 37) := ⟨_, rfl⟩
    have rz : RowPt wz (some ⟨wj.heap.size, 0, none⟩) 1 [q0] := by rw [hwz]; exact rowPt1 _ _
    have bz : Below wj.heap.size wj wz := by rw [hwz]; exact albO _ _
    have TWz := hid (TWj.out.mono bz); have HOz := hid (Own.mono HOj.out bz); have HKz := hid (HPj.out.mono bz); have HBz := hid (kept_trans HBj.out bz)
    refine wpk_val h303 (wanted_none rfl) rfl (by decide) (fr rfl) (.slice (some ⟨wj.heap.size, 0, none⟩) ([q0] : List PtM).length 1) (by unfold execOp; simp only [List.map_toArray, List.map_cons, List.map_nil, h303.eval (k := 70) (v := ptV q0) (by simp)]; exact run_v (buildPts _ _)) fun a306 h305 => ?_
    rw [← hwz]
    refine wpk_append2 h305 rfl rfl (by decide) (fr rfl) (.tmp 69) (.tmp 71) rfl EPt B (h305.eval (k := 69) (v := .slice oa C.length oc) (by simp)) (h305.eval (k := 71) (v := .slice (some ⟨wj.heap.size, 0, none⟩) ([q0] : List PtM).length 1) (by simp)) HOz.out rz (pts_one _) (by show (C.length + 1) * 24 ≤ _; omega) (by show C.length + 1 ≤ _; omega) TWz.out.t.b fun a308 oa3 oc3 w3 o3 g3 b3 x3 h307 => ?_
    have HO3 : Hid (OwnPt w3 B oa3 oc3 (C ++ [q0])) := hid (by unfold OwnPt; rw [List.length_append, List.flatMap_append]; exact o3)
    have TW3 := hid (TWz.out.past (grown_turns g3) (fun k hk => own_ob HOz.out k hk.symm) (fun k hk => hap k hk.symm)); have hap3 : ApartA oa3 ta := hap.grow x3 (own_obl TWz.out.t.o)
    have HK3 := hid (blk_grownT HKz.out g3 (by rw [obA_slice]; intro e; have := own_obl HOa.out gp e.symm; omega)); have HB3 := hid (HBz.out.trans (below_lowT b3 hwB))
    clear o3 g3 b3 rz bz x3
    have h309 := h307.subs (l' := [(72, .slice oa3 (C.length + ([q0] : List PtM).length) oc3), (71, .slice (some ⟨wj.heap.size, 0, none⟩) ([q0] : List PtM).length 1), (70, ptV q0), (69, .slice oa C.length oc), (10, .int .i64 (i : Int)), (7, .pointer (some ⟨K.pp, 0, none⟩)), (8, .pointer (some ⟨Q.pp, 0, none⟩)), (0, .slice a xs.length c), (1, .int .i64 st), (2, .slice ia I.length ic), (11, .pointer (some ⟨gp, 0, none⟩))]) rfl
    clear h307
    refine wpk_val h309 (wanted_none rfl) rfl (by decide) (fr rfl) (.slice oa3 (C.length + ([q0] : List PtM).length) oc3) (by unfold execOp; simp only [h309.eval (k := 72) (v := .slice oa3 (C.length + ([q0] : List PtM).length) oc3) (by simp)]; rfl) fun a311 h310 => ?_
    have h312 := h310.subs (l' := [(9, .slice oa3 (C.length + ([q0] : List PtM).length) oc3), (10, .int .i64 (i : Int)), (7, .pointer (some ⟨K.pp, 0, none⟩)), (8, .pointer (some ⟨Q.pp, 0, none⟩)), (0, .slice a xs.length c), (1, .int .i64 st), (2, .slice ia I.length ic), (11, .pointer (some ⟨gp, 0, none⟩))]) rfl
    clear h310
    go_step
    go_step
    go_step
    have TWd := hid (TW3.out.mono (Below.refl _ _).drew); have HOd := hid (Own.mono HO3.out (Below.refl _ _).drew); have HKd := hid (HK3.out.mono (Below.refl _ _).drew); have HBd := hid HB3.out.drew
    refine wp_region_held_drew (S := fun w' => Blk w' K.pp 32 [.pointer (some ⟨K.g, 0, none⟩), .pointer (some ⟨K.lg, 0, none⟩), .pointer (some ⟨K.tg, 0, none⟩), .pointer (some ⟨K.gr, 0, none⟩), .pointer (some ⟨K.dt, 0, none⟩)] ∧ Blk w' gp 37 (ptC q0)) (by kernel_rfl) ⟨TWd.out.t.q, HKd.out⟩ (fun hS1 => ?_)
    refine wpk_take hS1 h312 0 rfl rfl (by decide) (fr rfl) (by kernel_rfl) (by kernel_rfl) (by kernel_rfl) (fun _ _ _ _ h => h) (.pointer (some ⟨K.pp, 0, none⟩)) (Or.inl ⟨Eq.refl true, fun w1 hSw => (by show (execOp _ (⟨_, .move (.tmp 7), _, _, _, _⟩ : Oper)).run _ _ = _; exact (by unfold execOp; simp only [h312.eval (k := 7) (v := .pointer (some ⟨K.pp, 0, none⟩)) (by simp)]; exact rfl))⟩) fun a314 h313 => ?_
    refine wpk_take hS1 h313 1 rfl rfl (by decide) (fr rfl) (by kernel_rfl) (by kernel_rfl) (by kernel_rfl) (fun _ _ _ _ h => h) (.pointer (some ⟨K.pp, 0, none⟩)) (Or.inl ⟨Eq.refl true, fun w1 hSw => (by show (execOp _ (⟨_, .nilCheck (.tmp 73), _, _, _, _⟩ : Oper)).run _ _ = _; exact (by unfold execOp; simp only [h313.eval (k := 73) (v := .pointer (some ⟨K.pp, 0, none⟩)) (by simp)]; exact rfl))⟩) fun a316 h315 => ?_
    refine wpk_take hS1 h315 2 rfl rfl (by decide) (fr rfl) (by kernel_rfl) (by kernel_rfl) (by kernel_rfl) (fun _ _ _ _ h => h) (.pointer (some ⟨K.pp, 2, none⟩)) (Or.inl ⟨Eq.refl true, fun w1 hSw => (by show (execOp _ (⟨_, .fieldAddr 32 (.tmp 74) 2, _, _, _, _⟩ : Oper)).run _ _ = _; exact (by unfold execOp; simp only [h315.eval (k := 74) (v := .pointer (some ⟨K.pp, 0, none⟩)) (by simp)]; exact run_v (faT_32_0_2 (K.pp) _)))⟩) fun a318 h317 => ?_
    refine wpk_take hS1 h317 3 rfl rfl (by decide) (fr rfl) (by kernel_rfl) (by kernel_rfl) (by kernel_rfl) (fun _ _ _ _ h => h) (.pointer (some ⟨K.tg, 0, none⟩)) (Or.inl ⟨Eq.refl true, fun w1 hSw => (by show (execOp _ (⟨_, .load 28 (.tmp 75), _, _, _, _⟩ : Oper)).run _ _ = _; exact (by unfold execOp; simp only [h317.eval (k := 75) (v := .pointer (some ⟨K.pp, 2, none⟩)) (by simp)]; exact run_v (loadTP (hSw.1.cell (i := 2) (by show 2 < 5; omega)))))⟩) fun a320 h319 => ?_
    refine wpk_take hS1 h319 4 rfl rfl (by decide) (fr rfl) (by kernel_rfl) (by kernel_rfl) (by kernel_rfl) (fun _ _ _ _ h => h) (.pointer (some ⟨gp, 0, none⟩)) (Or.inl ⟨Eq.refl true, fun w1 hSw => (by show (execOp _ (⟨_, .fieldAddr 37 (.tmp 11) 0, _, _, _, _⟩ : Oper)).run _ _ = _; exact (by unfold execOp; simp only [h319.eval (k := 11) (v := .pointer (some ⟨gp, 0, none⟩)) (by simp)]; exact run_v (faT_37_0_0 (gp) _)))⟩) fun a322 h321 => ?_
    refine wpk_take hS1 h321 5 rfl rfl (by decide) (fr rfl) (by kernel_rfl) (by kernel_rfl) (by kernel_rfl) (fun _ _ _ _ h => h) (.int .i64 q0.at_) (Or.inl ⟨Eq.refl true, fun w1 hSw => (by show (execOp _ (⟨_, .load 3 (.tmp 77), _, _, _, _⟩ : Oper)).run _ _ = _; exact (by unfold execOp; simp only [h321.eval (k := 77) (v := .pointer (some ⟨gp, 0, none⟩)) (by simp)]; exact run_v (loadIP (hSw.2.cell (i := 0) (by show 0 < 2; omega)))))⟩) fun a324 h323 => ?_
    refine wpk_take hS1 h323 6 rfl rfl (by decide) (fr rfl) (by kernel_rfl) (by kernel_rfl) (by kernel_rfl) (fun _ _ _ _ h => h) (.pointer (some ⟨gp, 1, none⟩)) (Or.inl ⟨Eq.refl true, fun w1 hSw => (by show (execOp _ (⟨_, .fieldAddr 37 (.tmp 11) 1, _, _, _, _⟩ : Oper)).run _ _ = _; exact (by unfold execOp; simp only [h323.eval (k := 11) (v := .pointer (some ⟨gp, 0, none⟩)) (by simp)]; exact run_v (faT_37_0_1 (gp) _)))⟩) fun a326 h325 => ?_
    refine wpk_take hS1 h325 7 rfl rfl (by decide) (fr rfl) (by kernel_rfl) (by kernel_rfl) (by kernel_rfl) (fun _ _ _ _ h => h) (strB q0.d) (Or.inl ⟨Eq.refl true, fun w1 hSw => (by show (execOp _ (⟨_, .load 9 (.tmp 79), _, _, _, _⟩ : Oper)).run _ _ = _; exact (by unfold execOp; simp only [h325.eval (k := 79) (v := .pointer (some ⟨gp, 1, none⟩)) (by simp)]; exact run_v (loadSP (hSw.2.cell (i := 1) (by show 1 < 2; omega)))))⟩) fun a328 h327 => ?_
    obtain ⟨yc, wy, hcv, hry, by_⟩ := bytes_of_str w3.drew q0.d (by omega)
    refine wpk_only 8 rfl rfl (by kernel_rfl) fun KK hK => op_val (w' := wy) h327 rfl (by decide) (fr rfl) (.slice (some ⟨w3.drew.heap.size, 0, none⟩) q0.d.length yc) (by show (execOp _ (⟨_, .convert 9 22 (.tmp 80), _, _, _, _⟩ : Oper)).run _ _ = _; exact (by unfold execOp; simp only [h327.eval (k := 80) (v := strB q0.d) (by simp)]; exact run_v hcv)) fun a330 h329 => hK _ _ (⟨hS1.1.mono by_, hS1.2.mono by_⟩) fun hS2 => ?_
    clear hK KK
    have TWy := hid (TWd.out.mono by_); have HOy := hid (Own.mono HOd.out by_); have HBy := hid (kept_trans HBd.out by_); clear by_
    refine wpk_only 9 rfl rfl (by kernel_rfl) fun KK hK => op_call h329 rfl (by decide) (fr rfl) (fun args => callT_6 args _) rfl #[.pointer (some ⟨K.tg, 0, none⟩), .int .i64 q0.at_, .slice (some ⟨w3.drew.heap.size, 0, none⟩) q0.d.length yc] (by simp only [List.map_toArray, List.map_cons, List.map_nil, h329.eval (k := 76) (v := .pointer (some ⟨K.tg, 0, none⟩)) (by simp), h329.eval (k := 78) (v := .int .i64 q0.at_) (by simp), h329.eval (k := 81) (v := .slice (some ⟨w3.drew.heap.size, 0, none⟩) q0.d.length yc) (by simp)]) (R := fun v' w' => ∃ ta2 tc2, TwoT w' B K Q ta2 tc2 mem0 (C ++ [q0]) mem0 ∧ Turns (fun k => k = K.tg ∨ some k = obA ta) wy w' ∧ WhereA wy ta ta2) ((TWy.out.store (by rw [mem0_len]; omega) (by omega) hry (by omega) (at_ := q0.at_) (by unfold i64B; omega)).mono fun e w' q => by rw [put_few hC5 hin0 hq40] at q; exact ⟨_, q.1, q.2⟩) fun a332 vs wt rt h331 => hK _ _ (by obtain ⟨t1, t2, t3, t4, t5⟩ := rt; exact ⟨t3.t.q, t4.blk hS2.2 (gp_ne hgle hgB TWy.out TWa.out.t.o)⟩) fun hS3 => ?_
    clear hK KK
    obtain ⟨ta2, tc2, tt2, tt3, tt4⟩ := rt; have TWt := hid tt2; have HOt := hid (own_turns_ne HOy.out tt3 (store_apart HOy.out TWy.out hap3)); have hapt : ApartA oa3 ta2 := (hap3.symm.grow tt4 (own_obl HOy.out)).symm; have HBt := hid (HBy.out.trans (tt3.below HBy.out.size (store_high TWy.out hwB (hxK _ (.inr rfl))))); clear tt2 tt3 tt4
    refine wpAnyH_done (by kernel_rfl) ?_ _
    have h333 := h331.subs (l' := [(9, .slice oa3 (C.length + ([q0] : List PtM).length) oc3), (10, .int .i64 (i : Int)), (7, .pointer (some ⟨K.pp, 0, none⟩)), (8, .pointer (some ⟨Q.pp, 0, none⟩)), (0, .slice a xs.length c), (1, .int .i64 st), (2, .slice ia I.length ic), (11, .pointer (some ⟨gp, 0, none⟩))]) rfl
    clear h331
    go_step
    go_step
    go_step
    refine wpk_val h333 (wanted_none rfl) rfl (by decide) (fr rfl) (.int .i64 (i : Int)) (by unfold execOp; simp only [h333.eval (k := 10) (v := .int .i64 (i : Int)) (by simp)]; rfl) fun a335 h334 => ?_
    refine wpk_val h334 (wanted_none rfl) rfl (by decide) (fr rfl) (.int .i64 ((i + 1 : Nat) : Int)) (by unfold execOp; simp only [h334.eval (k := 38) (v := .int .i64 (i : Int)) (by simp)]; exact run_v (addNP _ _ _ _ _ (by omega) (by omega) (by omega) _)) fun a337 h336 => ?_
    have h338 := h336.subs (l' := [(39, .int .i64 ((i + 1 : Nat) : Int)), (38, .int .i64 (i : Int)), (9, .slice oa3 (C.length + ([q0] : List PtM).length) oc3), (7, .pointer (some ⟨K.pp, 0, none⟩)), (8, .pointer (some ⟨Q.pp, 0, none⟩)), (0, .slice a xs.length c), (1, .int .i64 st), (2, .slice ia I.length ic), (11, .pointer (some ⟨gp, 0, none⟩))]) rfl
    clear h336
    refine wpk_val h338 (wanted_none rfl) rfl (by decide) (fr rfl) (.int .i64 ((i + 1 : Nat) : Int)) (by unfold execOp; simp only [h338.eval (k := 39) (v := .int .i64 ((i + 1 : Nat) : Int)) (by simp)]; rfl) fun a340 h339 => ?_
    have h341 := h339.subs (l' := [(10, .int .i64 ((i + 1 : Nat) : Int)), (9, .slice oa3 (C.length + ([q0] : List PtM).length) oc3), (7, .pointer (some ⟨K.pp, 0, none⟩)), (8, .pointer (some ⟨Q.pp, 0, none⟩)), (0, .slice a xs.length c), (1, .int .i64 st), (2, .slice ia I.length ic), (11, .pointer (some ⟨gp, 0, none⟩))]) rfl
    clear h339
    go_step
    go_step
    refine ⟨⟨i + 1, C ++ [q0], ta2, oa3, tc2, oc3, by omega, (by rw [List.length_append]; show C.length + 1 ≤ _; omega), by omega, (by rw [List.length_append]; exact h341.subs rfl), ⟨(by rw [List.length_append]; show C.length + 1 ≤ _; omega), (fun p hp => by rcases List.mem_append.1 hp with q | q; exact hinC p q; rw [List.mem_singleton.1 q]; exact ⟨hin0, hq40⟩)⟩, TWt.out, HOt.out, hapt, HBt.out⟩, ?_⟩
    rw [h341.eval (k := 10) (v := .int .i64 ((i + 1 : Nat) : Int)) (by simp), hK.eval (k := 10) (v := .int .i64 (i : Int)) (by simp)]; simp [intOf]; omega
  clear TW1 HB1
  rintro al wl ⟨C, ta, oa, tc, oc, hL, ⟨hC5, hinC⟩, htw, hol, hap, hbl⟩
  have TWl := hid htw; have HOl := hid hol; have HBl := hid hbl; clear htw hol hbl hap
  obtain ⟨hencC, hencl⟩ := few_enc hinC hC5
  have hokC := few_okPts hinC
  obtain ⟨eb, heb⟩ : ∃ y, encL C = y := ⟨_, rfl⟩
  have hee : encE C = 0 := if_pos hencC
  have hebl : eb.length ≤ 504 := by rw [← heb]; exact hencl
  go_step
  go_step
  refine wpk_val hL (wanted_none rfl) rfl (by decide) (fr rfl) (.slice oa C.length oc) (by unfold execOp; simp only [hL.eval (k := 9) (v := .slice oa C.length oc) (by simp)]; rfl) fun a343 h342 => ?_
  refine wpk_call h342 (wanted_none rfl) rfl (by decide) (fr rfl) (fun args => callT_10 args _) rfl #[.slice oa C.length oc] (by simp only [List.map_toArray, List.map_cons, List.map_nil, h342.eval (k := 84) (v := .slice oa C.length oc) (by simp)]) (R := fun v' w' => ∃ ba bc, v' = .tuple #[.slice ba (encL C).length bc, .int .i64 (encE C)] ∧ OwnB w' wl.heap.size ba bc (encL C) ∧ Below wl.heap.size wl w') ((encode_any HOl.out.row hokC (by omega)).mono fun e w' q => by obtain ⟨x, y, q1, q2, q3⟩ := q; exact ⟨_, q1, x, y, rfl, q2, q3⟩) fun a345 ve we re h344 => ?_
  obtain ⟨ba, bc, rfl, oe, be⟩ := re; rw [heb] at oe h344; rw [hee] at h344; have HEe := hid (Own.low oe TWl.out.t.b); have TWe := hid (TWl.out.mono be); have HOe := hid (Own.mono HOl.out be); have HBe := hid (kept_trans HBl.out be); clear oe be
  refine wpk_val h344 (wanted_none rfl) rfl (by decide) (fr rfl) (.tuple #[.slice ba eb.length bc, .int .i64 0]) (by unfold execOp; simp only [h344.eval (k := 85) (v := .tuple #[.slice ba eb.length bc, .int .i64 0]) (by simp)]; rfl) fun a347 h346 => ?_
  refine wpk_val h346 (wanted_none rfl) rfl (by decide) (fr rfl) (.slice ba eb.length bc) (by unfold execOp; simp only [h346.eval (k := 83) (v := .tuple #[.slice ba eb.length bc, .int .i64 0]) (by simp)]; exact rfl) fun a349 h348 => ?_
  refine wpk_val h348 (wanted_none rfl) rfl (by decide) (fr rfl) (.int .i64 0) (by unfold execOp; simp only [h348.eval (k := 83) (v := .tuple #[.slice ba eb.length bc, .int .i64 0]) (by simp)]; exact rfl) fun a351 h350 => ?_
  refine wpk_val h350 (wanted_none rfl) rfl (by decide) (fr rfl) (.slice ba eb.length bc) (by unfold execOp; simp only [h350.eval (k := 86) (v := .slice ba eb.length bc) (by simp)]; rfl) fun a353 h352 => ?_
  refine wpk_val h352 (wanted_none rfl) rfl (by decide) (fr rfl) (.int .i64 0) (by unfold execOp; simp only [h352.eval (k := 87) (v := .int .i64 0) (by simp)]; rfl) fun a355 h354 => ?_
  have h356 := h354.subs (l' := [(13, .int .i64 0), (12, .slice ba eb.length bc), (9, .slice oa C.length oc), (7, .pointer (some ⟨K.pp, 0, none⟩)), (8, .pointer (some ⟨Q.pp, 0, none⟩)), (0, .slice a xs.length c), (1, .int .i64 st), (2, .slice ia I.length ic)]) rfl
  clear h354
  go_step
  go_step
  go_step
  have h357 := h356.subs (l' := [(12, .slice ba eb.length bc), (13, .int .i64 0), (9, .slice oa C.length oc), (7, .pointer (some ⟨K.pp, 0, none⟩)), (8, .pointer (some ⟨Q.pp, 0, none⟩)), (1, .int .i64 st), (2, .slice ia I.length ic)]) rfl
  clear h356
  by_cases hC0 : 0 < C.length
  case neg =>
    go_step
    go_step
    go_step
    refine wpk_val h357 (wanted_none rfl) rfl (by decide) (fr rfl) (.int .i64 0) (by unfold execOp; simp only [h357.eval (k := 13) (v := .int .i64 0) (by simp)]; rfl) fun a359 h358 => ?_
    refine wpk_val h358 (wanted_none rfl) rfl (by decide) (fr rfl) (.bool false) (by unfold execOp; simp only [h358.eval (k := 88) (v := .int .i64 0) (by simp)]; exact run_v (neEP _ _ _ _ _ (bne_eq_false_iff_eq.2 (by omega)))) fun a361 h360 => ?_
    refine wpk_val h360 (wanted_none rfl) rfl (by decide) (fr rfl) (.bool false) (by unfold execOp; simp only [h360.eval (k := 89) (v := .bool false) (by simp)]; rfl) fun a363 h362 => ?_
    refine wpk_val h362 (by rw [wanted_of (g := 2) (want := false) (b := false) rfl (h362.yields (prev := 90) rfl (by simp))]; rfl) rfl (by decide) (fr rfl) (.slice oa C.length oc) (by unfold execOp; simp only [h362.eval (k := 9) (v := .slice oa C.length oc) (by simp)]; rfl) fun a365 h364 => ?_
    refine wpk_val h364 (by rw [wanted_of (g := 2) (want := false) (b := false) rfl (h364.yields (prev := 90) rfl (by simp))]; rfl) rfl (by decide) (fr rfl) (.int .i64 (C.length : Int)) (run_lenP rfl (h364.eval (k := 91) (v := .slice oa C.length oc) (by simp)) _) fun a367 h366 => ?_
    refine wpk_val h366 (by rw [wanted_of (g := 2) (want := false) (b := false) rfl (h366.yields (prev := 90) rfl (by simp))]; rfl) rfl (by decide) (fr rfl) (.bool true) (by unfold execOp; simp only [h366.eval (k := 92) (v := .int .i64 (C.length : Int)) (by simp)]; exact run_v (eqIP _ _ _ _ _ (beq_iff_eq.2 (by omega)))) fun a369 h368 => ?_
    refine wpk_val h368 (wanted_none rfl) rfl (by decide) (fr rfl) (.bool true) (run_pick rfl (h368.eval (k := 90) (v := .bool false) (by simp)) (by rw [if_neg (by simp)]; exact h368.eval (k := 93) (v := .bool true) (by simp))) fun a371 h370 => ?_
    have h372 := h370.subs (l' := [(94, .bool true), (12, .slice ba eb.length bc), (13, .int .i64 0), (9, .slice oa C.length oc), (7, .pointer (some ⟨K.pp, 0, none⟩)), (8, .pointer (some ⟨Q.pp, 0, none⟩)), (1, .int .i64 st), (2, .slice ia I.length ic)]) rfl
    clear h370
    go_step
    go_step
    go_step
    refine wp_cond (t := true) (h372.eval (k := 94) (v := .bool true) (by simp)) ?_
    simp only [if_true]
    have h373 := h372.subs (l' := [(12, .slice ba eb.length bc), (13, .int .i64 0), (9, .slice oa C.length oc), (7, .pointer (some ⟨K.pp, 0, none⟩)), (8, .pointer (some ⟨Q.pp, 0, none⟩)), (1, .int .i64 st), (2, .slice ia I.length ic)]) rfl
    clear h372
    go_step
    go_step
    refine wpk_val h373 (wanted_none rfl) rfl (by decide) (fr rfl) (.int .i64 0) (by unfold execOp; simp only [h373.eval (k := 13) (v := .int .i64 0) (by simp)]; rfl) fun a375 h374 => ?_
    refine wpk_val h374 (wanted_none rfl) rfl (by decide) (fr rfl) (.bool true) (by unfold execOp; simp only [h374.eval (k := 95) (v := .int .i64 0) (by simp)]; exact run_v (eqEP _ _ _ _ _ (beq_iff_eq.2 (by omega)))) fun a377 h376 => ?_
    refine wpk_val h376 (wanted_none rfl) rfl (by decide) (fr rfl) (.bool true) (by unfold execOp; simp only [h376.eval (k := 96) (v := .bool true) (by simp)]; rfl) fun a379 h378 => ?_
    refine wpk_call h378 (by rw [wanted_of (g := 2) (want := true) (b := true) rfl (h378.yields (prev := 97) rfl (by simp))]; rfl) rfl (by decide) (fr rfl) (fun args => callT_9 args _) rfl #[] (by simp) (R := fun v' w' => v' = .bool true ∧ Below we.heap.size we w') ((lives09_any _).mono fun e w' q => ⟨_, q.1, rfl, q.2⟩) fun a381 vz9 wz9 rz9 h380 => ?_
    obtain ⟨rfl, bz9⟩ := rz9; have HBz9 := hid (kept_trans HBe.out bz9); clear bz9
    refine wpk_val h380 (wanted_none rfl) rfl (by decide) (fr rfl) (.bool true) (run_pick rfl (h380.eval (k := 97) (v := .bool true) (by simp)) (by rw [if_pos rfl]; exact h380.eval (k := 98) (v := .bool true) (by simp))) fun a383 h382 => ?_
    refine wpk_val h382 (wanted_none rfl) rfl (by decide) (fr rfl) (.bool true) (by unfold execOp; simp only [h382.eval (k := 99) (v := .bool true) (by simp)]; rfl) fun a385 h384 => ?_
    have h386 := h384.subs (l' := [(6, .bool true), (12, .slice ba eb.length bc), (13, .int .i64 0), (9, .slice oa C.length oc), (7, .pointer (some ⟨K.pp, 0, none⟩)), (8, .pointer (some ⟨Q.pp, 0, none⟩)), (1, .int .i64 st), (2, .slice ia I.length ic)]) rfl
    clear h384
    go_step
    go_step
    go_step
    go_step
    simp only [Exit.then, Exit.inBlock]
    exact bodyPost_ret (results_tmp1 rfl (h386.known (6, .bool true) (by simp))) h386.defs ⟨rfl, HBz9.out⟩
  go_step
  go_step
  go_step
  refine wpk_val h357 (wanted_none rfl) rfl (by decide) (fr rfl) (.int .i64 0) (by unfold execOp; simp only [h357.eval (k := 13) (v := .int .i64 0) (by simp)]; rfl) fun a388 h387 => ?_
  refine wpk_val h387 (wanted_none rfl) rfl (by decide) (fr rfl) (.bool false) (by unfold execOp; simp only [h387.eval (k := 88) (v := .int .i64 0) (by simp)]; exact run_v (neEP _ _ _ _ _ (bne_eq_false_iff_eq.2 (by omega)))) fun a390 h389 => ?_
  refine wpk_val h389 (wanted_none rfl) rfl (by decide) (fr rfl) (.bool false) (by unfold execOp; simp only [h389.eval (k := 89) (v := .bool false) (by simp)]; rfl) fun a392 h391 => ?_
  refine wpk_val h391 (by rw [wanted_of (g := 2) (want := false) (b := false) rfl (h391.yields (prev := 90) rfl (by simp))]; rfl) rfl (by decide) (fr rfl) (.slice oa C.length oc) (by unfold execOp; simp only [h391.eval (k := 9) (v := .slice oa C.length oc) (by simp)]; rfl) fun a394 h393 => ?_
  refine wpk_val h393 (by rw [wanted_of (g := 2) (want := false) (b := false) rfl (h393.yields (prev := 90) rfl (by simp))]; rfl) rfl (by decide) (fr rfl) (.int .i64 (C.length : Int)) (run_lenP rfl (h393.eval (k := 91) (v := .slice oa C.length oc) (by simp)) _) fun a396 h395 => ?_
  refine wpk_val h395 (by rw [wanted_of (g := 2) (want := false) (b := false) rfl (h395.yields (prev := 90) rfl (by simp))]; rfl) rfl (by decide) (fr rfl) (.bool false) (by unfold execOp; simp only [h395.eval (k := 92) (v := .int .i64 (C.length : Int)) (by simp)]; exact run_v (eqIP _ _ _ _ _ (beq_eq_false_iff_ne.2 (by omega)))) fun a398 h397 => ?_
  refine wpk_val h397 (wanted_none rfl) rfl (by decide) (fr rfl) (.bool false) (run_pick rfl (h397.eval (k := 90) (v := .bool false) (by simp)) (by rw [if_neg (by simp)]; exact h397.eval (k := 93) (v := .bool false) (by simp))) fun a400 h399 => ?_
  have h401 := h399.subs (l' := [(94, .bool false), (12, .slice ba eb.length bc), (13, .int .i64 0), (9, .slice oa C.length oc), (7, .pointer (some ⟨K.pp, 0, none⟩)), (8, .pointer (some ⟨Q.pp, 0, none⟩)), (1, .int .i64 st), (2, .slice ia I.length ic)]) rfl
  clear h399
  go_step
  go_step
  go_step
  refine wp_cond (t := false) (h401.eval (k := 94) (v := .bool false) (by simp)) ?_
  simp only [Bool.false_eq_true, if_false]
  have h402 := h401.subs (l' := [(12, .slice ba eb.length bc), (13, .int .i64 0), (9, .slice oa C.length oc), (7, .pointer (some ⟨K.pp, 0, none⟩)), (8, .pointer (some ⟨Q.pp, 0, none⟩)), (1, .int .i64 st), (2, .slice ia I.length ic)]) rfl
  clear h401
  go_step
  go_step
  go_step
  have hCne : C ≠ [] := fun e => by rw [e] at hC0; exact absurd hC0 (by decide)
  have hcom := com_few hCne hencC hencl
  go_step
  go_step
  refine wpk_val h402 (wanted_none rfl) rfl (by decide) (fr rfl) (.pointer (some ⟨K.pp, 0, none⟩)) (by unfold execOp; simp only [h402.eval (k := 7) (v := .pointer (some ⟨K.pp, 0, none⟩)) (by simp)]; rfl) fun a404 h403 => ?_
  refine wpk_val h403 (wanted_none rfl) rfl (by decide) (fr rfl) (.pointer (some ⟨K.pp, 0, none⟩)) (by unfold execOp; simp only [h403.eval (k := 101) (v := .pointer (some ⟨K.pp, 0, none⟩)) (by simp)]; exact rfl) fun a406 h405 => ?_
  refine wpk_val h405 (wanted_none rfl) rfl (by decide) (fr rfl) (.pointer (some ⟨K.pp, 0, none⟩)) (by unfold execOp; simp only [h405.eval (k := 102) (v := .pointer (some ⟨K.pp, 0, none⟩)) (by simp)]; exact run_v (faT_32_0_0 (K.pp) _)) fun a408 h407 => ?_
  refine wpk_val h407 (wanted_none rfl) rfl (by decide) (fr rfl) (.pointer (some ⟨K.g, 0, none⟩)) (by unfold execOp; simp only [h407.eval (k := 103) (v := .pointer (some ⟨K.pp, 0, none⟩)) (by simp)]; exact run_v (loadMP TWe.out.p0)) fun a410 h409 => ?_
  refine wpk_call h409 (wanted_none rfl) rfl (by decide) (fr rfl) (fun args => callT_11 args _) rfl #[.pointer (some ⟨K.g, 0, none⟩), .int .i64 0, .int .i64 512] (by simp only [List.map_toArray, List.map_cons, List.map_nil, h409.eval (k := 104) (v := .pointer (some ⟨K.g, 0, none⟩)) (by simp)]; rfl) (R := fun v' w' => ∃ x y, v' = .tuple #[.slice x 512 y, .int .i64 0] ∧ OwnB w' we.heap.size x y (mem0.V.take 512) ∧ Below we.heap.size we w') ((load512o TWe.out.t.l.m mem0_len).mono fun e w' q => by obtain ⟨x, y, q1, q2, q3⟩ := q; exact ⟨_, q1, ⟨x, y, rfl, q2, q3⟩⟩) fun a412 vf wf rf h411 => ?_
  obtain ⟨fa, fc, rfl, of, bf⟩ := rf; have HFf := hid (Own.low of TWe.out.t.b); have TWf := hid (TWe.out.mono bf); have HOf := hid (Own.mono HOe.out bf); have HEf := hid (Own.mono HEe.out bf); have HBf := hid (kept_trans HBe.out bf); clear of bf
  refine wpk_val h411 (wanted_none rfl) rfl (by decide) (fr rfl) (.tuple #[.slice fa 512 fc, .int .i64 0]) (by unfold execOp; simp only [h411.eval (k := 105) (v := .tuple #[.slice fa 512 fc, .int .i64 0]) (by simp)]; rfl) fun a414 h413 => ?_
  refine wpk_val h413 (wanted_none rfl) rfl (by decide) (fr rfl) (.slice fa 512 fc) (by unfold execOp; simp only [h413.eval (k := 100) (v := .tuple #[.slice fa 512 fc, .int .i64 0]) (by simp)]; exact rfl) fun a416 h415 => ?_
  refine wpk_val h415 (wanted_none rfl) rfl (by decide) (fr rfl) (.int .i64 0) (by unfold execOp; simp only [h415.eval (k := 100) (v := .tuple #[.slice fa 512 fc, .int .i64 0]) (by simp)]; exact rfl) fun a418 h417 => ?_
  refine wpk_val h417 (wanted_none rfl) rfl (by decide) (fr rfl) (.slice fa 512 fc) (by unfold execOp; simp only [h417.eval (k := 106) (v := .slice fa 512 fc) (by simp)]; rfl) fun a420 h419 => ?_
  refine wpk_val h419 (wanted_none rfl) rfl (by decide) (fr rfl) (.int .i64 0) (by unfold execOp; simp only [h419.eval (k := 107) (v := .int .i64 0) (by simp)]; rfl) fun a422 h421 => ?_
  have h423 := h421.subs (l' := [(14, .slice fa 512 fc), (12, .slice ba eb.length bc), (13, .int .i64 0), (9, .slice oa C.length oc), (7, .pointer (some ⟨K.pp, 0, none⟩)), (8, .pointer (some ⟨Q.pp, 0, none⟩)), (1, .int .i64 st), (2, .slice ia I.length ic)]) rfl
  clear h421
  go_step
  go_step
  go_step
  have h424 := h423.subs (l' := [(12, .slice ba eb.length bc), (9, .slice oa C.length oc), (14, .slice fa 512 fc), (7, .pointer (some ⟨K.pp, 0, none⟩)), (8, .pointer (some ⟨Q.pp, 0, none⟩)), (1, .int .i64 st), (2, .slice ia I.length ic)]) rfl
  clear h423
  go_step
  go_step
  go_step
  refine wpk_val h424 (wanted_none rfl) rfl (by decide) (fr rfl) (.pointer (some ⟨K.pp, 0, none⟩)) (by unfold execOp; simp only [h424.eval (k := 7) (v := .pointer (some ⟨K.pp, 0, none⟩)) (by simp)]; rfl) fun a426 h425 => ?_
  refine wpk_val h425 (wanted_none rfl) rfl (by decide) (fr rfl) (.pointer (some ⟨K.pp, 0, none⟩)) (by unfold execOp; simp only [h425.eval (k := 108) (v := .pointer (some ⟨K.pp, 0, none⟩)) (by simp)]; exact rfl) fun a428 h427 => ?_
  refine wpk_val h427 (wanted_none rfl) rfl (by decide) (fr rfl) (.pointer (some ⟨K.pp, 2, none⟩)) (by unfold execOp; simp only [h427.eval (k := 109) (v := .pointer (some ⟨K.pp, 0, none⟩)) (by simp)]; exact run_v (faT_32_0_2 (K.pp) _)) fun a430 h429 => ?_
  refine wpk_val h429 (wanted_none rfl) rfl (by decide) (fr rfl) (.pointer (some ⟨K.tg, 0, none⟩)) (by unfold execOp; simp only [h429.eval (k := 110) (v := .pointer (some ⟨K.pp, 2, none⟩)) (by simp)]; exact run_v (loadTP TWf.out.p2)) fun a432 h431 => ?_
  refine wpk_call h431 (wanted_none rfl) rfl (by decide) (fr rfl) (fun args => callT_12 args _) rfl #[.pointer (some ⟨K.tg, 0, none⟩)] (by simp only [List.map_toArray, List.map_cons, List.map_nil, h431.eval (k := 111) (v := .pointer (some ⟨K.tg, 0, none⟩)) (by simp)]) (R := fun v' w' => v' = .int .i64 0 ∧ ∃ ta2 tc2, TwoT w' B K Q ta2 tc2 (redoM (appM mem0 512 512 C) 512 512) (comP mem0 C) mem0 ∧ Turns (fun k => XM K.v K.d K.p k ∨ k = K.tg) wf w') ((TWf.out.commit log0 (few_txOk hinC (by omega))).mono fun e w' q => by obtain ⟨q1, q2⟩ := q; rw [hcom.1] at q1; rw [hcom.2] at q2; exact ⟨_, q1, rfl, q2⟩) fun a434 vg wg rg h433 => ?_
  obtain ⟨rfl, tg2, tgc, hg, tg⟩ := rg; have hltg : ∀ k, XM K.v K.d K.p k ∨ k = K.tg → k < B := (by intro k hk; unfold XM at hk; omega); have TWg := hid hg; have HOg := hid (tg.own HOf.out hltg); have HEg := hid (tg.own HEf.out hltg); have HFg := hid (tg.own HFf.out hltg); have HBg := hid (HBf.out.trans (tg.below HBf.out.size hxK)); clear hg tg
  refine wpk_val h433 (wanted_none rfl) rfl (by decide) (fr rfl) (.bool false) (by unfold execOp; simp only [h433.eval (k := 112) (v := .int .i64 0) (by simp)]; exact run_v (neEP _ _ _ _ _ (bne_eq_false_iff_eq.2 (by omega)))) fun a436 h435 => ?_
  have h437 := h435.subs (l' := [(113, .bool false), (12, .slice ba eb.length bc), (9, .slice oa C.length oc), (14, .slice fa 512 fc), (7, .pointer (some ⟨K.pp, 0, none⟩)), (8, .pointer (some ⟨Q.pp, 0, none⟩)), (1, .int .i64 st), (2, .slice ia I.length ic)]) rfl
  clear h435
  go_step
  go_step
  go_step
  refine wp_cond (t := false) (h437.eval (k := 113) (v := .bool false) (by simp)) ?_
  simp only [Bool.false_eq_true, if_false]
  have h438 := h437.subs (l' := [(12, .slice ba eb.length bc), (9, .slice oa C.length oc), (14, .slice fa 512 fc), (7, .pointer (some ⟨K.pp, 0, none⟩)), (8, .pointer (some ⟨Q.pp, 0, none⟩)), (1, .int .i64 st), (2, .slice ia I.length ic)]) rfl
  clear h437
  go_step
  go_step
  go_step
  go_step
  go_step
  refine wpk_val h438 (wanted_none rfl) rfl (by decide) (fr rfl) (.pointer (some ⟨K.pp, 0, none⟩)) (by unfold execOp; simp only [h438.eval (k := 7) (v := .pointer (some ⟨K.pp, 0, none⟩)) (by simp)]; rfl) fun a440 h439 => ?_
  refine wpk_val h439 (wanted_none rfl) rfl (by decide) (fr rfl) (.pointer (some ⟨K.pp, 0, none⟩)) (by unfold execOp; simp only [h439.eval (k := 115) (v := .pointer (some ⟨K.pp, 0, none⟩)) (by simp)]; exact rfl) fun a442 h441 => ?_
  refine wpk_val h441 (wanted_none rfl) rfl (by decide) (fr rfl) (.pointer (some ⟨K.pp, 0, none⟩)) (by unfold execOp; simp only [h441.eval (k := 116) (v := .pointer (some ⟨K.pp, 0, none⟩)) (by simp)]; exact run_v (faT_32_0_0 (K.pp) _)) fun a444 h443 => ?_
  refine wpk_val h443 (wanted_none rfl) rfl (by decide) (fr rfl) (.pointer (some ⟨K.g, 0, none⟩)) (by unfold execOp; simp only [h443.eval (k := 117) (v := .pointer (some ⟨K.pp, 0, none⟩)) (by simp)]; exact run_v (loadMP TWg.out.p0)) fun a446 h445 => ?_
  refine wpk_call h445 (wanted_none rfl) rfl (by decide) (fr rfl) (fun args => callT_13 args _) rfl #[.pointer (some ⟨K.g, 0, none⟩), .int .i64 0, .int .i64 512] (by simp only [List.map_toArray, List.map_cons, List.map_nil, h445.eval (k := 118) (v := .pointer (some ⟨K.g, 0, none⟩)) (by simp)]; rfl) (R := fun v' w' => ∃ x y, v' = .tuple #[.slice x 512 y, .int .i64 0] ∧ OwnB w' wg.heap.size x y ((redoM (appM mem0 512 512 C) 512 512).D.take 512) ∧ Below wg.heap.size wg w') ((lasts512o TWg.out.t.l.m (by rw [redoM_len, appM_len]; exact mem0_len)).mono fun e w' q => by obtain ⟨x, y, q1, q2, q3⟩ := q; exact ⟨_, q1, ⟨x, y, rfl, q2, q3⟩⟩) fun a448 vh wh rh h447 => ?_
  obtain ⟨na, nc, rfl, oh, bh⟩ := rh; have HNh := hid (Own.low oh TWg.out.t.b); have TWh := hid (TWg.out.mono bh); have HOh := hid (Own.mono HOg.out bh); have HEh := hid (Own.mono HEg.out bh); have HFh := hid (Own.mono HFg.out bh); have HBh := hid (kept_trans HBg.out bh); clear oh bh
  refine wpk_val h447 (wanted_none rfl) rfl (by decide) (fr rfl) (.tuple #[.slice na 512 nc, .int .i64 0]) (by unfold execOp; simp only [h447.eval (k := 119) (v := .tuple #[.slice na 512 nc, .int .i64 0]) (by simp)]; rfl) fun a450 h449 => ?_
  refine wpk_val h449 (wanted_none rfl) rfl (by decide) (fr rfl) (.slice na 512 nc) (by unfold execOp; simp only [h449.eval (k := 114) (v := .tuple #[.slice na 512 nc, .int .i64 0]) (by simp)]; exact rfl) fun a452 h451 => ?_
  refine wpk_val h451 (wanted_none rfl) rfl (by decide) (fr rfl) (.int .i64 0) (by unfold execOp; simp only [h451.eval (k := 114) (v := .tuple #[.slice na 512 nc, .int .i64 0]) (by simp)]; exact rfl) fun a454 h453 => ?_
  refine wpk_val h453 (wanted_none rfl) rfl (by decide) (fr rfl) (.slice na 512 nc) (by unfold execOp; simp only [h453.eval (k := 120) (v := .slice na 512 nc) (by simp)]; rfl) fun a456 h455 => ?_
  refine wpk_val h455 (wanted_none rfl) rfl (by decide) (fr rfl) (.int .i64 0) (by unfold execOp; simp only [h455.eval (k := 121) (v := .int .i64 0) (by simp)]; rfl) fun a458 h457 => ?_
  have h459 := h457.subs (l' := [(16, .slice na 512 nc), (12, .slice ba eb.length bc), (9, .slice oa C.length oc), (14, .slice fa 512 fc), (7, .pointer (some ⟨K.pp, 0, none⟩)), (8, .pointer (some ⟨Q.pp, 0, none⟩)), (1, .int .i64 st), (2, .slice ia I.length ic)]) rfl
  clear h457
  go_step
  go_step
  go_step
  have h460 := h459.subs (l' := [(12, .slice ba eb.length bc), (9, .slice oa C.length oc), (14, .slice fa 512 fc), (16, .slice na 512 nc), (7, .pointer (some ⟨K.pp, 0, none⟩)), (8, .pointer (some ⟨Q.pp, 0, none⟩)), (1, .int .i64 st), (2, .slice ia I.length ic)]) rfl
  clear h459
  obtain ⟨st2, hst2⟩ : ∃ y : Int, y = (if st < 0 then -(st + 1) else st) := ⟨_, rfl⟩
  have hst2b : 0 ≤ st2 ∧ st2 ≤ 9223372036854775807 := by rw [hst2]; split <;> omega
  refine wp_join (J := fun a' w' => Kn 237 [(12, .slice ba eb.length bc), (9, .slice oa C.length oc), (14, .slice fa 512 fc), (16, .slice na 512 nc), (7, .pointer (some ⟨K.pp, 0, none⟩)), (8, .pointer (some ⟨Q.pp, 0, none⟩)), (1, .int .i64 st2), (2, .slice ia I.length ic)] a' ∧ wh = w') ?_ ?_
  case refine_1 =>
    by_cases hneg : st < 0
    · rw [if_pos hneg] at hst2
      go_step
      go_step
      go_step
      refine wpk_val h460 (wanted_none rfl) rfl (by decide) (fr rfl) (.int .i64 st) (by unfold execOp; simp only [h460.eval (k := 1) (v := .int .i64 st) (by simp)]; rfl) fun a462 h461 => ?_
      refine wpk_val h461 (wanted_none rfl) rfl (by decide) (fr rfl) (.bool true) (by unfold execOp; simp only [h461.eval (k := 122) (v := .int .i64 st) (by simp)]; exact run_v (ltIP _ _ _ _ _ (decide_eq_true (by omega)))) fun a464 h463 => ?_
      have h465 := h463.subs (l' := [(123, .bool true), (12, .slice ba eb.length bc), (9, .slice oa C.length oc), (14, .slice fa 512 fc), (16, .slice na 512 nc), (7, .pointer (some ⟨K.pp, 0, none⟩)), (8, .pointer (some ⟨Q.pp, 0, none⟩)), (1, .int .i64 st), (2, .slice ia I.length ic)]) rfl
      clear h463
      go_step
      go_step
      go_step
      refine wp_cond (t := true) (h465.eval (k := 123) (v := .bool true) (by simp)) ?_
      simp only [if_true]
      have h466 := h465.subs (l' := [(12, .slice ba eb.length bc), (9, .slice oa C.length oc), (14, .slice fa 512 fc), (16, .slice na 512 nc), (7, .pointer (some ⟨K.pp, 0, none⟩)), (8, .pointer (some ⟨Q.pp, 0, none⟩)), (1, .int .i64 st), (2, .slice ia I.length ic)]) rfl
      clear h465
      go_step
      refine wpk_val h466 (wanted_none rfl) rfl (by decide) (fr rfl) (.int .i64 st) (by unfold execOp; simp only [h466.eval (k := 1) (v := .int .i64 st) (by simp)]; rfl) fun a468 h467 => ?_
      refine wpk_val h467 (wanted_none rfl) rfl (by decide) (fr rfl) (.int .i64 (st + 1)) (by unfold execOp; simp only [h467.eval (k := 124) (v := .int .i64 st) (by simp)]; exact run_v (addNP _ _ _ _ _ (by omega) (by omega) (by omega) _)) fun a470 h469 => ?_
      refine wpk_val h469 (wanted_none rfl) rfl (by decide) (fr rfl) (.int .i64 (-(st + 1))) (run_negI rfl (h469.eval (k := 125) (v := .int .i64 (st + 1)) (by simp)) (by omega) (by omega) _) fun a472 h471 => ?_
      have h473 := h471.subs (l' := [(126, .int .i64 (-(st + 1))), (125, .int .i64 (st + 1)), (124, .int .i64 st), (12, .slice ba eb.length bc), (9, .slice oa C.length oc), (14, .slice fa 512 fc), (16, .slice na 512 nc), (7, .pointer (some ⟨K.pp, 0, none⟩)), (8, .pointer (some ⟨Q.pp, 0, none⟩)), (2, .slice ia I.length ic)]) rfl
      clear h471
      refine wpk_val h473 (wanted_none rfl) rfl (by decide) (fr rfl) (.int .i64 (-(st + 1))) (by unfold execOp; simp only [h473.eval (k := 126) (v := .int .i64 (-(st + 1))) (by simp)]; rfl) fun a475 h474 => ?_
      have h476 := h474.subs (l' := [(1, .int .i64 (-(st + 1))), (12, .slice ba eb.length bc), (9, .slice oa C.length oc), (14, .slice fa 512 fc), (16, .slice na 512 nc), (7, .pointer (some ⟨K.pp, 0, none⟩)), (8, .pointer (some ⟨Q.pp, 0, none⟩)), (2, .slice ia I.length ic)]) rfl
      clear h474
      go_step
      go_step
      rw [← hst2] at h476
      exact ⟨h476.subs rfl, rfl⟩
    · rw [if_neg hneg] at hst2
      go_step
      go_step
      go_step
      refine wpk_val h460 (wanted_none rfl) rfl (by decide) (fr rfl) (.int .i64 st) (by unfold execOp; simp only [h460.eval (k := 1) (v := .int .i64 st) (by simp)]; rfl) fun a478 h477 => ?_
      refine wpk_val h477 (wanted_none rfl) rfl (by decide) (fr rfl) (.bool false) (by unfold execOp; simp only [h477.eval (k := 122) (v := .int .i64 st) (by simp)]; exact run_v (ltIP _ _ _ _ _ (decide_eq_false (by omega)))) fun a480 h479 => ?_
      have h481 := h479.subs (l' := [(123, .bool false), (12, .slice ba eb.length bc), (9, .slice oa C.length oc), (14, .slice fa 512 fc), (16, .slice na 512 nc), (7, .pointer (some ⟨K.pp, 0, none⟩)), (8, .pointer (some ⟨Q.pp, 0, none⟩)), (1, .int .i64 st), (2, .slice ia I.length ic)]) rfl
      clear h479
      go_step
      go_step
      go_step
      refine wp_cond (t := false) (h481.eval (k := 123) (v := .bool false) (by simp)) ?_
      simp only [Bool.false_eq_true, if_false]
      have h482 := h481.subs (l' := [(12, .slice ba eb.length bc), (9, .slice oa C.length oc), (14, .slice fa 512 fc), (16, .slice na 512 nc), (7, .pointer (some ⟨K.pp, 0, none⟩)), (8, .pointer (some ⟨Q.pp, 0, none⟩)), (1, .int .i64 st), (2, .slice ia I.length ic)]) rfl
      clear h481
      go_step
      go_step
      rw [← hst2] at h482
      exact ⟨h482.subs rfl, rfl⟩
  rintro aj1 wj1 ⟨hJ1, rfl⟩
  clear hst2
  obtain ⟨k, hk⟩ : ∃ k : Nat, k = (st2 % 5).toNat := ⟨_, rfl⟩
  have hk4 : k ≤ 4 := by omega
  go_step
  go_step
  refine wpk_val hJ1 (wanted_none rfl) rfl (by decide) (fr rfl) (.int .i64 st2) (by unfold execOp; simp only [hJ1.eval (k := 1) (v := .int .i64 st2) (by simp)]; rfl) fun a484 h483 => ?_
  refine wpk_val h483 (wanted_none rfl) rfl (by decide) (fr rfl) (.int .i64 (k : Int)) (by unfold execOp; simp only [h483.eval (k := 127) (v := .int .i64 st2) (by simp)]; exact run_v (remI5 _ _ st2 k (by omega) hk _)) fun a486 h485 => ?_
  refine wpk_val h485 (wanted_none rfl) rfl (by decide) (fr rfl) (.int .i64 (k : Int)) (by unfold execOp; simp only [h485.eval (k := 128) (v := .int .i64 (k : Int)) (by simp)]; rfl) fun a488 h487 => ?_
  have h489 := h487.subs (l' := [(18, .int .i64 (k : Int)), (12, .slice ba eb.length bc), (9, .slice oa C.length oc), (14, .slice fa 512 fc), (16, .slice na 512 nc), (7, .pointer (some ⟨K.pp, 0, none⟩)), (8, .pointer (some ⟨Q.pp, 0, none⟩)), (1, .int .i64 st2), (2, .slice ia I.length ic)]) rfl
  clear h487
  go_step
  go_step
  go_step
  have h490 := h489.subs (l' := [(18, .int .i64 (k : Int)), (12, .slice ba eb.length bc), (9, .slice oa C.length oc), (14, .slice fa 512 fc), (16, .slice na 512 nc), (7, .pointer (some ⟨K.pp, 0, none⟩)), (8, .pointer (some ⟨Q.pp, 0, none⟩)), (2, .slice ia I.length ic)]) rfl
  clear h489
  have TTx : Hid (Turns (XM Q.v Q.d Q.p) wh wh) := hid (Turns.refl _ _)
  have hlY0 : (storeM mem0 520 eb).V.length = 1024 := by rw [storeM_V, length_splice _ _ _ (by rw [mem0_len]; omega), mem0_len]
  have hltQ := TWh.out.xlt
  obtain ⟨p0, hp0e⟩ : ∃ y, C[0]? = some y := ⟨C[0], List.getElem?_eq_getElem hC0⟩
  have hp0m : p0 ∈ C := List.mem_of_getElem? hp0e
  obtain ⟨hp0i, hp04⟩ := hinC p0 hp0m
  obtain ⟨hp01, hp02⟩ := (inR_iff p0).1 hp0i
  have hp0a : ((p0.at_.toNat : Nat) : Int) = p0.at_ := Int.toNat_of_nonneg hp01
  obtain ⟨qb, qo, hqa, _⟩ := rowPt_at HOh.out.row hC0
  go_step
  go_step
  refine wpk_val h490 (wanted_none rfl) rfl (by decide) (fr rfl) (.pointer (some ⟨Q.pp, 0, none⟩)) (by unfold execOp; simp only [h490.eval (k := 8) (v := .pointer (some ⟨Q.pp, 0, none⟩)) (by simp)]; rfl) fun a492 h491 => ?_
  refine wpk_val h491 (wanted_none rfl) rfl (by decide) (fr rfl) (.pointer (some ⟨Q.pp, 0, none⟩)) (by unfold execOp; simp only [h491.eval (k := 129) (v := .pointer (some ⟨Q.pp, 0, none⟩)) (by simp)]; exact rfl) fun a494 h493 => ?_
  refine wpk_val h493 (wanted_none rfl) rfl (by decide) (fr rfl) (.pointer (some ⟨Q.pp, 0, none⟩)) (by unfold execOp; simp only [h493.eval (k := 130) (v := .pointer (some ⟨Q.pp, 0, none⟩)) (by simp)]; exact run_v (faT_32_0_0 (Q.pp) _)) fun a496 h495 => ?_
  refine wpk_val h495 (wanted_none rfl) rfl (by decide) (fr rfl) (.pointer (some ⟨Q.g, 0, none⟩)) (by unfold execOp; simp only [h495.eval (k := 131) (v := .pointer (some ⟨Q.pp, 0, none⟩)) (by simp)]; exact run_v (loadMP TWh.out.q0)) fun a498 h497 => ?_
  refine wpk_val h497 (wanted_none rfl) rfl (by decide) (fr rfl) (.slice ba eb.length bc) (by unfold execOp; simp only [h497.eval (k := 12) (v := .slice ba eb.length bc) (by simp)]; rfl) fun a500 h499 => ?_
  refine wpk_call h499 (wanted_none rfl) rfl (by decide) (fr rfl) (fun args => callT_14 args _) rfl #[.pointer (some ⟨Q.g, 0, none⟩), .int .i64 520, .slice ba eb.length bc] (by simp only [List.map_toArray, List.map_cons, List.map_nil, h499.eval (k := 132) (v := .pointer (some ⟨Q.g, 0, none⟩)) (by simp), h499.eval (k := 133) (v := .slice ba eb.length bc) (by simp)]; rfl) (R := fun v' w' => v' = .int .i64 0 ∧ LogP w' Q.lg Q.g Q.v Q.d Q.p 512 512 (storeM mem0 520 eb) ∧ Turns (XM Q.v Q.d Q.p) wh w') ((storeQ TWh.out.l 520 ba bc eb (HEh.out.row) (by rw [mem0_len]; omega) (by omega)).mono fun e w' q => ⟨_, q.1, rfl, q.2⟩) fun a502 vq0 wq0 rq0 h501 => ?_
  obtain ⟨rfl, lq0, tq0⟩ := rq0
  have TWq0 := hid (TWh.out.right lq0 tq0); have TTq0 := hid (TTx.out.trans tq0); clear lq0 tq0
  have h503 := h501.subs (l' := [(18, .int .i64 (k : Int)), (12, .slice ba eb.length bc), (9, .slice oa C.length oc), (14, .slice fa 512 fc), (16, .slice na 512 nc), (7, .pointer (some ⟨K.pp, 0, none⟩)), (8, .pointer (some ⟨Q.pp, 0, none⟩)), (2, .slice ia I.length ic)]) rfl
  clear h501
  go_step
  go_step
  go_step
  have TWg0 := TWq0; have TTg0 := TTq0
  refine wp_join (J := fun a' w' => Kn 237 [(18, .int .i64 (k : Int)), (12, .slice ba eb.length bc), (9, .slice oa C.length oc), (14, .slice fa 512 fc), (16, .slice na 512 nc), (7, .pointer (some ⟨K.pp, 0, none⟩)), (8, .pointer (some ⟨Q.pp, 0, none⟩)), (2, .slice ia I.length ic)] a' ∧ TwoT w' B K Q tg2 tgc (redoM (appM mem0 512 512 C) 512 512) (comP mem0 C) (Y1 eb k) ∧ Turns (XM Q.v Q.d Q.p) wh w') ?_ ?_
  case refine_1 =>
    by_cases hk0 : 0 < k
    case pos =>
      go_step
      go_step
      go_step
      refine wpk_val h503 (wanted_none rfl) rfl (by decide) (fr rfl) (.int .i64 (k : Int)) (by unfold execOp; simp only [h503.eval (k := 18) (v := .int .i64 (k : Int)) (by simp)]; rfl) fun a505 h504 => ?_
      refine wpk_val h504 (wanted_none rfl) rfl (by decide) (fr rfl) (.bool true) (by unfold execOp; simp only [h504.eval (k := 135) (v := .int .i64 (k : Int)) (by simp)]; exact run_v (gtIP _ _ _ _ _ (decide_eq_true (by omega)))) fun a507 h506 => ?_
      have h508 := h506.subs (l' := [(136, .bool true), (18, .int .i64 (k : Int)), (12, .slice ba eb.length bc), (9, .slice oa C.length oc), (14, .slice fa 512 fc), (16, .slice na 512 nc), (7, .pointer (some ⟨K.pp, 0, none⟩)), (8, .pointer (some ⟨Q.pp, 0, none⟩)), (2, .slice ia I.length ic)]) rfl
      clear h506
      go_step
      go_step
      go_step
      refine wp_cond (t := true) (h508.eval (k := 136) (v := .bool true) (by simp)) ?_
      simp only [if_true]
      have h509 := h508.subs (l' := [(18, .int .i64 (k : Int)), (12, .slice ba eb.length bc), (9, .slice oa C.length oc), (14, .slice fa 512 fc), (16, .slice na 512 nc), (7, .pointer (some ⟨K.pp, 0, none⟩)), (8, .pointer (some ⟨Q.pp, 0, none⟩)), (2, .slice ia I.length ic)]) rfl
      clear h508
      go_step
      go_step
      refine wpk_val h509 (wanted_none rfl) rfl (by decide) (fr rfl) (.pointer (some ⟨Q.pp, 0, none⟩)) (by unfold execOp; simp only [h509.eval (k := 8) (v := .pointer (some ⟨Q.pp, 0, none⟩)) (by simp)]; rfl) fun a511 h510 => ?_
      refine wpk_val h510 (wanted_none rfl) rfl (by decide) (fr rfl) (.pointer (some ⟨Q.pp, 0, none⟩)) (by unfold execOp; simp only [h510.eval (k := 137) (v := .pointer (some ⟨Q.pp, 0, none⟩)) (by simp)]; exact rfl) fun a513 h512 => ?_
      refine wpk_val h512 (wanted_none rfl) rfl (by decide) (fr rfl) (.pointer (some ⟨Q.pp, 0, none⟩)) (by unfold execOp; simp only [h512.eval (k := 138) (v := .pointer (some ⟨Q.pp, 0, none⟩)) (by simp)]; exact run_v (faT_32_0_0 (Q.pp) _)) fun a515 h514 => ?_
      refine wpk_val h514 (wanted_none rfl) rfl (by decide) (fr rfl) (.pointer (some ⟨Q.g, 0, none⟩)) (by unfold execOp; simp only [h514.eval (k := 139) (v := .pointer (some ⟨Q.pp, 0, none⟩)) (by simp)]; exact run_v (loadMP TWg0.out.q0)) fun a517 h516 => ?_
      refine wpk_val h516 (wanted_none rfl) rfl (by decide) (fr rfl) (.slice ba eb.length bc) (by unfold execOp; simp only [h516.eval (k := 12) (v := .slice ba eb.length bc) (by simp)]; rfl) fun a519 h518 => ?_
      refine wpk_val h518 (wanted_none rfl) rfl (by decide) (fr rfl) (.int .i64 (eb.length : Int)) (run_lenBP rfl (h518.eval (k := 141) (v := .slice ba eb.length bc) (by simp)) _) fun a521 h520 => ?_
      refine wpk_call h520 (wanted_none rfl) rfl (by decide) (fr rfl) (fun args => callT_15 args _) rfl #[.pointer (some ⟨Q.g, 0, none⟩), .int .i64 520, .int .i64 (eb.length : Int)] (by simp only [List.map_toArray, List.map_cons, List.map_nil, h520.eval (k := 140) (v := .pointer (some ⟨Q.g, 0, none⟩)) (by simp), h520.eval (k := 142) (v := .int .i64 (eb.length : Int)) (by simp)]; rfl) (R := fun v' w' => v' = .int .i64 0 ∧ LogP w' Q.lg Q.g Q.v Q.d Q.p 512 512 (flushM (storeM mem0 520 eb) 520 eb.length) ∧ Turns (XM Q.v Q.d Q.p) wq0 w') ((flushQ TWg0.out.l 520 eb.length (by rw [hlY0]; omega) (by omega) (by omega)).mono fun e w' q => ⟨_, q.1, rfl, q.2⟩) fun a523 vq1 wq1 rq1 h522 => ?_
      obtain ⟨rfl, lq1, tq1⟩ := rq1
      have TWq1 := hid (TWg0.out.right lq1 tq1); have TTq1 := hid (TTg0.out.trans tq1); clear lq1 tq1
      have h524 := h522.subs (l' := [(18, .int .i64 (k : Int)), (12, .slice ba eb.length bc), (9, .slice oa C.length oc), (14, .slice fa 512 fc), (16, .slice na 512 nc), (7, .pointer (some ⟨K.pp, 0, none⟩)), (8, .pointer (some ⟨Q.pp, 0, none⟩)), (2, .slice ia I.length ic)]) rfl
      clear h522
      go_step
      go_step
      go_step
      go_step
      refine wpk_val h524 (wanted_none rfl) rfl (by decide) (fr rfl) (.pointer (some ⟨Q.pp, 0, none⟩)) (by unfold execOp; simp only [h524.eval (k := 8) (v := .pointer (some ⟨Q.pp, 0, none⟩)) (by simp)]; rfl) fun a526 h525 => ?_
      refine wpk_val h525 (wanted_none rfl) rfl (by decide) (fr rfl) (.pointer (some ⟨Q.pp, 0, none⟩)) (by unfold execOp; simp only [h525.eval (k := 144) (v := .pointer (some ⟨Q.pp, 0, none⟩)) (by simp)]; exact rfl) fun a528 h527 => ?_
      refine wpk_val h527 (wanted_none rfl) rfl (by decide) (fr rfl) (.pointer (some ⟨Q.pp, 0, none⟩)) (by unfold execOp; simp only [h527.eval (k := 145) (v := .pointer (some ⟨Q.pp, 0, none⟩)) (by simp)]; exact run_v (faT_32_0_0 (Q.pp) _)) fun a530 h529 => ?_
      refine wpk_val h529 (wanted_none rfl) rfl (by decide) (fr rfl) (.pointer (some ⟨Q.g, 0, none⟩)) (by unfold execOp; simp only [h529.eval (k := 146) (v := .pointer (some ⟨Q.pp, 0, none⟩)) (by simp)]; exact run_v (loadMP TWq1.out.q0)) fun a532 h531 => ?_
      refine wpk_call h531 (wanted_none rfl) rfl (by decide) (fr rfl) (fun args => callT_16 args _) rfl #[.pointer (some ⟨Q.g, 0, none⟩)] (by simp only [List.map_toArray, List.map_cons, List.map_nil, h531.eval (k := 147) (v := .pointer (some ⟨Q.g, 0, none⟩)) (by simp)]) (R := fun v' w' => LogP w' Q.lg Q.g Q.v Q.d Q.p 512 512 (fenceM (flushM (storeM mem0 520 eb) 520 eb.length)) ∧ Turns (XM Q.v Q.d Q.p) wq1 w') ((fenceQ TWq1.out.l).mono fun e w' q => q) fun a534 vq2 wq2 rq2 h533 => ?_
      obtain ⟨lq2, tq2⟩ := rq2
      have TWq2 := hid (TWq1.out.right lq2 tq2); have TTq2 := hid (TTq1.out.trans tq2); clear lq2 tq2
      have h535 := h533.subs (l' := [(18, .int .i64 (k : Int)), (12, .slice ba eb.length bc), (9, .slice oa C.length oc), (14, .slice fa 512 fc), (16, .slice na 512 nc), (7, .pointer (some ⟨K.pp, 0, none⟩)), (8, .pointer (some ⟨Q.pp, 0, none⟩)), (2, .slice ia I.length ic)]) rfl
      clear h533
      go_step
      go_step
      exact ⟨h535.subs rfl, (by unfold Y1; rw [if_pos hk0]; exact TWq2.out), TTq2.out⟩
    case neg =>
      go_step
      go_step
      go_step
      refine wpk_val h503 (wanted_none rfl) rfl (by decide) (fr rfl) (.int .i64 (k : Int)) (by unfold execOp; simp only [h503.eval (k := 18) (v := .int .i64 (k : Int)) (by simp)]; rfl) fun a537 h536 => ?_
      refine wpk_val h536 (wanted_none rfl) rfl (by decide) (fr rfl) (.bool false) (by unfold execOp; simp only [h536.eval (k := 135) (v := .int .i64 (k : Int)) (by simp)]; exact run_v (gtIP _ _ _ _ _ (decide_eq_false (by omega)))) fun a539 h538 => ?_
      have h540 := h538.subs (l' := [(136, .bool false), (18, .int .i64 (k : Int)), (12, .slice ba eb.length bc), (9, .slice oa C.length oc), (14, .slice fa 512 fc), (16, .slice na 512 nc), (7, .pointer (some ⟨K.pp, 0, none⟩)), (8, .pointer (some ⟨Q.pp, 0, none⟩)), (2, .slice ia I.length ic)]) rfl
      clear h538
      go_step
      go_step
      go_step
      refine wp_cond (t := false) (h540.eval (k := 136) (v := .bool false) (by simp)) ?_
      simp only [Bool.false_eq_true, if_false]
      have h541 := h540.subs (l' := [(18, .int .i64 (k : Int)), (12, .slice ba eb.length bc), (9, .slice oa C.length oc), (14, .slice fa 512 fc), (16, .slice na 512 nc), (7, .pointer (some ⟨K.pp, 0, none⟩)), (8, .pointer (some ⟨Q.pp, 0, none⟩)), (2, .slice ia I.length ic)]) rfl
      clear h540
      go_step
      go_step
      exact ⟨h541.subs rfl, (by unfold Y1; rw [if_neg hk0]; exact TWg0.out), TTg0.out⟩
  clear TWg0 TTg0
  rintro ag1 wg1 ⟨hg1, twg1, ttg1⟩
  have TWg1 := hid twg1; have TTg1 := hid ttg1; clear twg1 ttg1
  refine wp_join (J := fun a' w' => Kn 237 [(18, .int .i64 (k : Int)), (12, .slice ba eb.length bc), (9, .slice oa C.length oc), (14, .slice fa 512 fc), (16, .slice na 512 nc), (7, .pointer (some ⟨K.pp, 0, none⟩)), (8, .pointer (some ⟨Q.pp, 0, none⟩)), (2, .slice ia I.length ic)] a' ∧ TwoT w' B K Q tg2 tgc (redoM (appM mem0 512 512 C) 512 512) (comP mem0 C) (Y2 eb k) ∧ Turns (XM Q.v Q.d Q.p) wh w') ?_ ?_
  case refine_1 =>
    by_cases hk1 : 1 < k
    case pos =>
      go_step
      go_step
      go_step
      refine wpk_val hg1 (wanted_none rfl) rfl (by decide) (fr rfl) (.int .i64 (k : Int)) (by unfold execOp; simp only [hg1.eval (k := 18) (v := .int .i64 (k : Int)) (by simp)]; rfl) fun a543 h542 => ?_
      refine wpk_val h542 (wanted_none rfl) rfl (by decide) (fr rfl) (.bool true) (by unfold execOp; simp only [h542.eval (k := 149) (v := .int .i64 (k : Int)) (by simp)]; exact run_v (gtIP _ _ _ _ _ (decide_eq_true (by omega)))) fun a545 h544 => ?_
      have h546 := h544.subs (l' := [(150, .bool true), (18, .int .i64 (k : Int)), (12, .slice ba eb.length bc), (9, .slice oa C.length oc), (14, .slice fa 512 fc), (16, .slice na 512 nc), (7, .pointer (some ⟨K.pp, 0, none⟩)), (8, .pointer (some ⟨Q.pp, 0, none⟩)), (2, .slice ia I.length ic)]) rfl
      clear h544
      go_step
      go_step
      go_step
      refine wp_cond (t := true) (h546.eval (k := 150) (v := .bool true) (by simp)) ?_
      simp only [if_true]
      have h547 := h546.subs (l' := [(18, .int .i64 (k : Int)), (12, .slice ba eb.length bc), (9, .slice oa C.length oc), (14, .slice fa 512 fc), (16, .slice na 512 nc), (7, .pointer (some ⟨K.pp, 0, none⟩)), (8, .pointer (some ⟨Q.pp, 0, none⟩)), (2, .slice ia I.length ic)]) rfl
      clear h546
      have TWd := hid (TWg1.out.mono (Below.refl _ _).drew); have TTd := hid (TTg1.out.drew)
      refine wp_region_held_drew (S := fun w' => w'.cell? ⟨Q.pp, 0, none⟩ = some (.pointer (some ⟨Q.g, 0, none⟩))) (by kernel_rfl) TWd.out.q0 (fun hS1 => ?_)
      refine wpk_take hS1 h547 0 rfl rfl (by decide) (fr rfl) (by kernel_rfl) (by kernel_rfl) (by kernel_rfl) (fun _ _ _ _ h => h) (.pointer (some ⟨Q.pp, 0, none⟩)) (Or.inl ⟨Eq.refl true, fun w1 hSw => (by show (execOp _ (⟨_, .move (.tmp 8), _, _, _, _⟩ : Oper)).run _ _ = _; exact (by unfold execOp; simp only [h547.eval (k := 8) (v := .pointer (some ⟨Q.pp, 0, none⟩)) (by simp)]; exact rfl))⟩) fun a549 h548 => ?_
      refine wpk_take hS1 h548 1 rfl rfl (by decide) (fr rfl) (by kernel_rfl) (by kernel_rfl) (by kernel_rfl) (fun _ _ _ _ h => h) (.pointer (some ⟨Q.pp, 0, none⟩)) (Or.inl ⟨Eq.refl true, fun w1 hSw => (by show (execOp _ (⟨_, .nilCheck (.tmp 151), _, _, _, _⟩ : Oper)).run _ _ = _; exact (by unfold execOp; simp only [h548.eval (k := 151) (v := .pointer (some ⟨Q.pp, 0, none⟩)) (by simp)]; exact rfl))⟩) fun a551 h550 => ?_
      refine wpk_take hS1 h550 2 rfl rfl (by decide) (fr rfl) (by kernel_rfl) (by kernel_rfl) (by kernel_rfl) (fun _ _ _ _ h => h) (.pointer (some ⟨Q.pp, 0, none⟩)) (Or.inl ⟨Eq.refl true, fun w1 hSw => (by show (execOp _ (⟨_, .fieldAddr 32 (.tmp 152) 0, _, _, _, _⟩ : Oper)).run _ _ = _; exact (by unfold execOp; simp only [h550.eval (k := 152) (v := .pointer (some ⟨Q.pp, 0, none⟩)) (by simp)]; exact run_v (faT_32_0_0 (Q.pp) _)))⟩) fun a553 h552 => ?_
      refine wpk_take hS1 h552 3 rfl rfl (by decide) (fr rfl) (by kernel_rfl) (by kernel_rfl) (by kernel_rfl) (fun _ _ _ _ h => h) (.pointer (some ⟨Q.g, 0, none⟩)) (Or.inl ⟨Eq.refl true, fun w1 hSw => (by show (execOp _ (⟨_, .load 26 (.tmp 153), _, _, _, _⟩ : Oper)).run _ _ = _; exact (by unfold execOp; simp only [h552.eval (k := 153) (v := .pointer (some ⟨Q.pp, 0, none⟩)) (by simp)]; exact run_v (loadMP hSw)))⟩) fun a555 h554 => ?_
      refine wpk_take hS1 h554 4 rfl rfl (by decide) (fr rfl) (by kernel_rfl) (by kernel_rfl) (by kernel_rfl) (fun _ _ _ _ h => h) (.slice ba eb.length bc) (Or.inl ⟨Eq.refl true, fun w1 hSw => (by show (execOp _ (⟨_, .move (.tmp 12), _, _, _, _⟩ : Oper)).run _ _ = _; exact (by unfold execOp; simp only [h554.eval (k := 12) (v := .slice ba eb.length bc) (by simp)]; exact rfl))⟩) fun a557 h556 => ?_
      refine wpk_take hS1 h556 5 rfl rfl (by decide) (fr rfl) (by kernel_rfl) (by kernel_rfl) (by kernel_rfl) (fun _ _ _ _ h => h) (.int .i64 (eb.length : Int)) (Or.inl ⟨Eq.refl true, fun w1 hSw => (by show (execOp _ (⟨_, .call { callee := .builtin .len, args := #[(.tmp 155)], argTypes := #[22] }, _, _, _, _⟩ : Oper)).run _ _ = _; exact (run_lenBP rfl (h556.eval (k := 155) (v := .slice ba eb.length bc) (by simp)) _))⟩) fun a559 h558 => ?_
      refine wpk_only 6 rfl rfl (by kernel_rfl) fun KK hK => op_call h558 rfl (by decide) (fr rfl) (fun args => callT_17 args _) rfl #[.slice none 0 0, .int .i64 (eb.length : Int), .int .i64 8] (by simp only [List.map_toArray, List.map_cons, List.map_nil, h558.eval (k := 156) (v := .int .i64 (eb.length : Int)) (by simp)]; rfl) (R := fun v' w' => ∃ x y, v' = .slice x (le 8 eb.length).length y ∧ OwnB w' wg1.drew.heap.size x y (le 8 eb.length) ∧ Below wg1.drew.heap.size wg1.drew w') ((put8T eb.length (by omega) _).mono fun e w' q => by obtain ⟨x, y, q1, q2, q3⟩ := q; exact ⟨_, q1, x, y, rfl, q2, q3⟩) fun a561 v8 w8 r8 h560 => hK _ _ (by obtain ⟨x, y, q1, q2, q3⟩ := r8; exact (TWd.out.mono q3).q0) fun hS2 => ?_
      clear hK KK
      obtain ⟨la, lc, rfl, o8, b8⟩ := r8; have TW8 := hid (TWd.out.mono b8); have TT8 := hid (TTd.out.trans (Turns.of_below b8)); have HL8 := hid o8.row; clear o8 b8
      refine wpk_only 7 rfl rfl (by kernel_rfl) fun KK hK => op_call h560 rfl (by decide) (fr rfl) (fun args => callT_14 args _) rfl #[.pointer (some ⟨Q.g, 0, none⟩), .int .i64 512, .slice la (le 8 eb.length).length lc] (by simp only [List.map_toArray, List.map_cons, List.map_nil, h560.eval (k := 154) (v := .pointer (some ⟨Q.g, 0, none⟩)) (by simp), h560.eval (k := 157) (v := .slice la (le 8 eb.length).length lc) (by simp)]; rfl) (R := fun v' w' => LogP w' Q.lg Q.g Q.v Q.d Q.p 512 512 (storeM (Y1 eb k) 512 (le 8 eb.length)) ∧ Turns (XM Q.v Q.d Q.p) w8 w') ((storeQ TW8.out.l 512 la lc (le 8 eb.length) HL8.out (by rw [Y1_len hebl, le_length]; omega) (by omega)).mono fun e w' q => ⟨_, q.1, q.2⟩) fun a563 v9 w9 r9 h562 => hK _ _ ((TW8.out.right r9.1 r9.2).q0) fun hS3 => ?_
      clear hK KK
      have TW9 := hid (TW8.out.right r9.1 r9.2); have TT9 := hid (TT8.out.trans r9.2); clear r9
      refine wpAnyH_done (by kernel_rfl) ?_ _
      have h564 := h562.subs (l' := [(18, .int .i64 (k : Int)), (12, .slice ba eb.length bc), (9, .slice oa C.length oc), (14, .slice fa 512 fc), (16, .slice na 512 nc), (7, .pointer (some ⟨K.pp, 0, none⟩)), (8, .pointer (some ⟨Q.pp, 0, none⟩)), (2, .slice ia I.length ic)]) rfl
      clear h562
      go_step
      exact ⟨h564.subs rfl, (by unfold Y2; rw [if_pos hk1]; exact TW9.out), TT9.out⟩
    case neg =>
      go_step
      go_step
      go_step
      refine wpk_val hg1 (wanted_none rfl) rfl (by decide) (fr rfl) (.int .i64 (k : Int)) (by unfold execOp; simp only [hg1.eval (k := 18) (v := .int .i64 (k : Int)) (by simp)]; rfl) fun a566 h565 => ?_
      refine wpk_val h565 (wanted_none rfl) rfl (by decide) (fr rfl) (.bool false) (by unfold execOp; simp only [h565.eval (k := 149) (v := .int .i64 (k : Int)) (by simp)]; exact run_v (gtIP _ _ _ _ _ (decide_eq_false (by omega)))) fun a568 h567 => ?_
      have h569 := h567.subs (l' := [(150, .bool false), (18, .int .i64 (k : Int)), (12, .slice ba eb.length bc), (9, .slice oa C.length oc), (14, .slice fa 512 fc), (16, .slice na 512 nc), (7, .pointer (some ⟨K.pp, 0, none⟩)), (8, .pointer (some ⟨Q.pp, 0, none⟩)), (2, .slice ia I.length ic)]) rfl
      clear h567
      go_step
      go_step
      go_step
      refine wp_cond (t := false) (h569.eval (k := 150) (v := .bool false) (by simp)) ?_
      simp only [Bool.false_eq_true, if_false]
      have h570 := h569.subs (l' := [(18, .int .i64 (k : Int)), (12, .slice ba eb.length bc), (9, .slice oa C.length oc), (14, .slice fa 512 fc), (16, .slice na 512 nc), (7, .pointer (some ⟨K.pp, 0, none⟩)), (8, .pointer (some ⟨Q.pp, 0, none⟩)), (2, .slice ia I.length ic)]) rfl
      clear h569
      go_step
      go_step
      exact ⟨h570.subs rfl, (by unfold Y2; rw [if_neg hk1]; exact TWg1.out), TTg1.out⟩
  clear TWg1 TTg1
  rintro ag2 wg2 ⟨hg2, twg2, ttg2⟩
  have TWg2 := hid twg2; have TTg2 := hid ttg2; clear twg2 ttg2
  refine wp_join (J := fun a' w' => Kn 237 [(18, .int .i64 (k : Int)), (12, .slice ba eb.length bc), (9, .slice oa C.length oc), (14, .slice fa 512 fc), (16, .slice na 512 nc), (7, .pointer (some ⟨K.pp, 0, none⟩)), (8, .pointer (some ⟨Q.pp, 0, none⟩)), (2, .slice ia I.length ic)] a' ∧ TwoT w' B K Q tg2 tgc (redoM (appM mem0 512 512 C) 512 512) (comP mem0 C) (Y3 eb k) ∧ Turns (XM Q.v Q.d Q.p) wh w') ?_ ?_
  case refine_1 =>
    by_cases hk2 : 2 < k
    case pos =>
      go_step
      go_step
      go_step
      refine wpk_val hg2 (wanted_none rfl) rfl (by decide) (fr rfl) (.int .i64 (k : Int)) (by unfold execOp; simp only [hg2.eval (k := 18) (v := .int .i64 (k : Int)) (by simp)]; rfl) fun a572 h571 => ?_
      refine wpk_val h571 (wanted_none rfl) rfl (by decide) (fr rfl) (.bool true) (by unfold execOp; simp only [h571.eval (k := 159) (v := .int .i64 (k : Int)) (by simp)]; exact run_v (gtIP _ _ _ _ _ (decide_eq_true (by omega)))) fun a574 h573 => ?_
      have h575 := h573.subs (l' := [(160, .bool true), (18, .int .i64 (k : Int)), (12, .slice ba eb.length bc), (9, .slice oa C.length oc), (14, .slice fa 512 fc), (16, .slice na 512 nc), (7, .pointer (some ⟨K.pp, 0, none⟩)), (8, .pointer (some ⟨Q.pp, 0, none⟩)), (2, .slice ia I.length ic)]) rfl
      clear h573
      go_step
      go_step
      go_step
      refine wp_cond (t := true) (h575.eval (k := 160) (v := .bool true) (by simp)) ?_
      simp only [if_true]
      have h576 := h575.subs (l' := [(18, .int .i64 (k : Int)), (12, .slice ba eb.length bc), (9, .slice oa C.length oc), (14, .slice fa 512 fc), (16, .slice na 512 nc), (7, .pointer (some ⟨K.pp, 0, none⟩)), (8, .pointer (some ⟨Q.pp, 0, none⟩)), (2, .slice ia I.length ic)]) rfl
      clear h575
      go_step
      go_step
      refine wpk_val h576 (wanted_none rfl) rfl (by decide) (fr rfl) (.pointer (some ⟨Q.pp, 0, none⟩)) (by unfold execOp; simp only [h576.eval (k := 8) (v := .pointer (some ⟨Q.pp, 0, none⟩)) (by simp)]; rfl) fun a578 h577 => ?_
      refine wpk_val h577 (wanted_none rfl) rfl (by decide) (fr rfl) (.pointer (some ⟨Q.pp, 0, none⟩)) (by unfold execOp; simp only [h577.eval (k := 161) (v := .pointer (some ⟨Q.pp, 0, none⟩)) (by simp)]; exact rfl) fun a580 h579 => ?_
      refine wpk_val h579 (wanted_none rfl) rfl (by decide) (fr rfl) (.pointer (some ⟨Q.pp, 0, none⟩)) (by unfold execOp; simp only [h579.eval (k := 162) (v := .pointer (some ⟨Q.pp, 0, none⟩)) (by simp)]; exact run_v (faT_32_0_0 (Q.pp) _)) fun a582 h581 => ?_
      refine wpk_val h581 (wanted_none rfl) rfl (by decide) (fr rfl) (.pointer (some ⟨Q.g, 0, none⟩)) (by unfold execOp; simp only [h581.eval (k := 163) (v := .pointer (some ⟨Q.pp, 0, none⟩)) (by simp)]; exact run_v (loadMP TWg2.out.q0)) fun a584 h583 => ?_
      refine wpk_call h583 (wanted_none rfl) rfl (by decide) (fr rfl) (fun args => callT_15 args _) rfl #[.pointer (some ⟨Q.g, 0, none⟩), .int .i64 512, .int .i64 8] (by simp only [List.map_toArray, List.map_cons, List.map_nil, h583.eval (k := 164) (v := .pointer (some ⟨Q.g, 0, none⟩)) (by simp)]; rfl) (R := fun v' w' => v' = .int .i64 0 ∧ LogP w' Q.lg Q.g Q.v Q.d Q.p 512 512 (flushM (Y2 eb k) 512 8) ∧ Turns (XM Q.v Q.d Q.p) wg2 w') ((flushQ TWg2.out.l 512 8 (by rw [Y2_len hebl]; omega) (by omega) (by omega)).mono fun e w' q => ⟨_, q.1, rfl, q.2⟩) fun a586 vq3 wq3 rq3 h585 => ?_
      obtain ⟨rfl, lq3, tq3⟩ := rq3
      have TWq3 := hid (TWg2.out.right lq3 tq3); have TTq3 := hid (TTg2.out.trans tq3); clear lq3 tq3
      have h587 := h585.subs (l' := [(18, .int .i64 (k : Int)), (12, .slice ba eb.length bc), (9, .slice oa C.length oc), (14, .slice fa 512 fc), (16, .slice na 512 nc), (7, .pointer (some ⟨K.pp, 0, none⟩)), (8, .pointer (some ⟨Q.pp, 0, none⟩)), (2, .slice ia I.length ic)]) rfl
      clear h585
      go_step
      go_step
      go_step
      go_step
      refine wpk_val h587 (wanted_none rfl) rfl (by decide) (fr rfl) (.pointer (some ⟨Q.pp, 0, none⟩)) (by unfold execOp; simp only [h587.eval (k := 8) (v := .pointer (some ⟨Q.pp, 0, none⟩)) (by simp)]; rfl) fun a589 h588 => ?_
      refine wpk_val h588 (wanted_none rfl) rfl (by decide) (fr rfl) (.pointer (some ⟨Q.pp, 0, none⟩)) (by unfold execOp; simp only [h588.eval (k := 166) (v := .pointer (some ⟨Q.pp, 0, none⟩)) (by simp)]; exact rfl) fun a591 h590 => ?_
      refine wpk_val h590 (wanted_none rfl) rfl (by decide) (fr rfl) (.pointer (some ⟨Q.pp, 0, none⟩)) (by unfold execOp; simp only [h590.eval (k := 167) (v := .pointer (some ⟨Q.pp, 0, none⟩)) (by simp)]; exact run_v (faT_32_0_0 (Q.pp) _)) fun a593 h592 => ?_
      refine wpk_val h592 (wanted_none rfl) rfl (by decide) (fr rfl) (.pointer (some ⟨Q.g, 0, none⟩)) (by unfold execOp; simp only [h592.eval (k := 168) (v := .pointer (some ⟨Q.pp, 0, none⟩)) (by simp)]; exact run_v (loadMP TWq3.out.q0)) fun a595 h594 => ?_
      refine wpk_call h594 (wanted_none rfl) rfl (by decide) (fr rfl) (fun args => callT_16 args _) rfl #[.pointer (some ⟨Q.g, 0, none⟩)] (by simp only [List.map_toArray, List.map_cons, List.map_nil, h594.eval (k := 169) (v := .pointer (some ⟨Q.g, 0, none⟩)) (by simp)]) (R := fun v' w' => LogP w' Q.lg Q.g Q.v Q.d Q.p 512 512 (fenceM (flushM (Y2 eb k) 512 8)) ∧ Turns (XM Q.v Q.d Q.p) wq3 w') ((fenceQ TWq3.out.l).mono fun e w' q => q) fun a597 vq4 wq4 rq4 h596 => ?_
      obtain ⟨lq4, tq4⟩ := rq4
      have TWq4 := hid (TWq3.out.right lq4 tq4); have TTq4 := hid (TTq3.out.trans tq4); clear lq4 tq4
      have h598 := h596.subs (l' := [(18, .int .i64 (k : Int)), (12, .slice ba eb.length bc), (9, .slice oa C.length oc), (14, .slice fa 512 fc), (16, .slice na 512 nc), (7, .pointer (some ⟨K.pp, 0, none⟩)), (8, .pointer (some ⟨Q.pp, 0, none⟩)), (2, .slice ia I.length ic)]) rfl
      clear h596
      go_step
      go_step
      exact ⟨h598.subs rfl, (by unfold Y3; rw [if_pos hk2]; exact TWq4.out), TTq4.out⟩
    case neg =>
      go_step
      go_step
      go_step
      refine wpk_val hg2 (wanted_none rfl) rfl (by decide) (fr rfl) (.int .i64 (k : Int)) (by unfold execOp; simp only [hg2.eval (k := 18) (v := .int .i64 (k : Int)) (by simp)]; rfl) fun a600 h599 => ?_
      refine wpk_val h599 (wanted_none rfl) rfl (by decide) (fr rfl) (.bool false) (by unfold execOp; simp only [h599.eval (k := 159) (v := .int .i64 (k : Int)) (by simp)]; exact run_v (gtIP _ _ _ _ _ (decide_eq_false (by omega)))) fun a602 h601 => ?_
      have h603 := h601.subs (l' := [(160, .bool false), (18, .int .i64 (k : Int)), (12, .slice ba eb.length bc), (9, .slice oa C.length oc), (14, .slice fa 512 fc), (16, .slice na 512 nc), (7, .pointer (some ⟨K.pp, 0, none⟩)), (8, .pointer (some ⟨Q.pp, 0, none⟩)), (2, .slice ia I.length ic)]) rfl
      clear h601
      go_step
      go_step
      go_step
      refine wp_cond (t := false) (h603.eval (k := 160) (v := .bool false) (by simp)) ?_
      simp only [Bool.false_eq_true, if_false]
      have h604 := h603.subs (l' := [(18, .int .i64 (k : Int)), (12, .slice ba eb.length bc), (9, .slice oa C.length oc), (14, .slice fa 512 fc), (16, .slice na 512 nc), (7, .pointer (some ⟨K.pp, 0, none⟩)), (8, .pointer (some ⟨Q.pp, 0, none⟩)), (2, .slice ia I.length ic)]) rfl
      clear h603
      go_step
      go_step
      exact ⟨h604.subs rfl, (by unfold Y3; rw [if_neg hk2]; exact TWg2.out), TTg2.out⟩
  clear TWg2 TTg2
  rintro ag3 wg3 ⟨hg3, twg3, ttg3⟩
  have TWg3 := hid twg3; have TTg3 := hid ttg3; clear twg3 ttg3
  refine wp_join (J := fun a' w' => Kn 237 [(18, .int .i64 (k : Int)), (12, .slice ba eb.length bc), (9, .slice oa C.length oc), (14, .slice fa 512 fc), (16, .slice na 512 nc), (7, .pointer (some ⟨K.pp, 0, none⟩)), (8, .pointer (some ⟨Q.pp, 0, none⟩)), (2, .slice ia I.length ic)] a' ∧ TwoT w' B K Q tg2 tgc (redoM (appM mem0 512 512 C) 512 512) (comP mem0 C) (Y4 eb p0 k) ∧ Turns (XM Q.v Q.d Q.p) wh w') ?_ ?_
  case refine_1 =>
    by_cases hk3 : 3 < k
    case pos =>
      go_step
      go_step
      go_step
      refine wpk_val hg3 (wanted_none rfl) rfl (by decide) (fr rfl) (.int .i64 (k : Int)) (by unfold execOp; simp only [hg3.eval (k := 18) (v := .int .i64 (k : Int)) (by simp)]; rfl) fun a606 h605 => ?_
      refine wpk_val h605 (wanted_none rfl) rfl (by decide) (fr rfl) (.bool true) (by unfold execOp; simp only [h605.eval (k := 171) (v := .int .i64 (k : Int)) (by simp)]; exact run_v (gtIP _ _ _ _ _ (decide_eq_true (by omega)))) fun a608 h607 => ?_
      have h609 := h607.subs (l' := [(172, .bool true), (18, .int .i64 (k : Int)), (12, .slice ba eb.length bc), (9, .slice oa C.length oc), (14, .slice fa 512 fc), (16, .slice na 512 nc), (7, .pointer (some ⟨K.pp, 0, none⟩)), (8, .pointer (some ⟨Q.pp, 0, none⟩)), (2, .slice ia I.length ic)]) rfl
      clear h607
      go_step
      go_step
      go_step
      refine wp_cond (t := true) (h609.eval (k := 172) (v := .bool true) (by simp)) ?_
      simp only [if_true]
      have h610 := h609.subs (l' := [(18, .int .i64 (k : Int)), (12, .slice ba eb.length bc), (9, .slice oa C.length oc), (14, .slice fa 512 fc), (16, .slice na 512 nc), (7, .pointer (some ⟨K.pp, 0, none⟩)), (8, .pointer (some ⟨Q.pp, 0, none⟩)), (2, .slice ia I.length ic)]) rfl
      clear h609
      have TWd := hid (TWg3.out.mono (Below.refl _ _).drew); have TTd := hid (TTg3.out.drew); have HCd := hid ((TTd.out.own HOh.out hltQ).row)
      refine wp_region_held_drew (S := fun w' => w'.cell? ⟨Q.pp, 0, none⟩ = some (.pointer (some ⟨Q.g, 0, none⟩)) ∧ RowPt w' oa oc C) (by kernel_rfl) ⟨TWd.out.q0, HCd.out⟩ (fun hS1 => ?_)
      refine wpk_take hS1 h610 0 rfl rfl (by decide) (fr rfl) (by kernel_rfl) (by kernel_rfl) (by kernel_rfl) (fun _ _ _ _ h => h) (.pointer (some ⟨Q.pp, 0, none⟩)) (Or.inl ⟨Eq.refl true, fun w1 hSw => (by show (execOp _ (⟨_, .move (.tmp 8), _, _, _, _⟩ : Oper)).run _ _ = _; exact (by unfold execOp; simp only [h610.eval (k := 8) (v := .pointer (some ⟨Q.pp, 0, none⟩)) (by simp)]; exact rfl))⟩) fun a612 h611 => ?_
      refine wpk_take hS1 h611 1 rfl rfl (by decide) (fr rfl) (by kernel_rfl) (by kernel_rfl) (by kernel_rfl) (fun _ _ _ _ h => h) (.pointer (some ⟨Q.pp, 0, none⟩)) (Or.inl ⟨Eq.refl true, fun w1 hSw => (by show (execOp _ (⟨_, .nilCheck (.tmp 173), _, _, _, _⟩ : Oper)).run _ _ = _; exact (by unfold execOp; simp only [h611.eval (k := 173) (v := .pointer (some ⟨Q.pp, 0, none⟩)) (by simp)]; exact rfl))⟩) fun a614 h613 => ?_
      refine wpk_take hS1 h613 2 rfl rfl (by decide) (fr rfl) (by kernel_rfl) (by kernel_rfl) (by kernel_rfl) (fun _ _ _ _ h => h) (.pointer (some ⟨Q.pp, 0, none⟩)) (Or.inl ⟨Eq.refl true, fun w1 hSw => (by show (execOp _ (⟨_, .fieldAddr 32 (.tmp 174) 0, _, _, _, _⟩ : Oper)).run _ _ = _; exact (by unfold execOp; simp only [h613.eval (k := 174) (v := .pointer (some ⟨Q.pp, 0, none⟩)) (by simp)]; exact run_v (faT_32_0_0 (Q.pp) _)))⟩) fun a616 h615 => ?_
      refine wpk_take hS1 h615 3 rfl rfl (by decide) (fr rfl) (by kernel_rfl) (by kernel_rfl) (by kernel_rfl) (fun _ _ _ _ h => h) (.pointer (some ⟨Q.g, 0, none⟩)) (Or.inl ⟨Eq.refl true, fun w1 hSw => (by show (execOp _ (⟨_, .load 26 (.tmp 175), _, _, _, _⟩ : Oper)).run _ _ = _; exact (by unfold execOp; simp only [h615.eval (k := 175) (v := .pointer (some ⟨Q.pp, 0, none⟩)) (by simp)]; exact run_v (loadMP hSw.1)))⟩) fun a618 h617 => ?_
      refine wpk_take hS1 h617 4 rfl rfl (by decide) (fr rfl) (by kernel_rfl) (by kernel_rfl) (by kernel_rfl) (fun _ _ _ _ h => h) (.slice oa C.length oc) (Or.inl ⟨Eq.refl true, fun w1 hSw => (by show (execOp _ (⟨_, .move (.tmp 9), _, _, _, _⟩ : Oper)).run _ _ = _; exact (by unfold execOp; simp only [h617.eval (k := 9) (v := .slice oa C.length oc) (by simp)]; exact rfl))⟩) fun a620 h619 => ?_
      refine wpk_take hS1 h619 5 rfl rfl (by decide) (fr rfl) (by kernel_rfl) (by kernel_rfl) (by kernel_rfl) (fun _ _ _ _ h => h) (.pointer (some ⟨qb, qo + 0 * 2, none⟩)) (Or.inl ⟨Eq.refl true, fun w1 hSw => (by show (execOp _ (⟨_, .indexAddr 34 (.tmp 177) (.const (.int .i64 0)), _, _, _, _⟩ : Oper)).run _ _ = _; exact (by unfold execOp; simp only [h619.eval (k := 177) (v := .slice oa C.length oc) (by simp)]; exact run_v (by rw [hqa]; exact ixP qb qo _ oc 0 hC0 _)))⟩) fun a622 h621 => ?_
      refine wpk_take hS1 h621 6 rfl rfl (by decide) (fr rfl) (by kernel_rfl) (by kernel_rfl) (by kernel_rfl) (fun _ _ _ _ h => h) (.pointer (some ⟨qb, qo + 0 * 2, none⟩)) (Or.inl ⟨Eq.refl true, fun w1 hSw => (by show (execOp _ (⟨_, .fieldAddr 37 (.tmp 178) 0, _, _, _, _⟩ : Oper)).run _ _ = _; exact (by unfold execOp; simp only [h621.eval (k := 178) (v := .pointer (some ⟨qb, qo + 0 * 2, none⟩)) (by simp)]; exact run_v (faP_0 _ _ _)))⟩) fun a624 h623 => ?_
      refine wpk_take hS1 h623 7 rfl rfl (by decide) (fr rfl) (by kernel_rfl) (by kernel_rfl) (by kernel_rfl) (fun _ _ _ _ h => h) (.int .i64 ((p0.at_.toNat : Nat) : Int)) (Or.inl ⟨Eq.refl true, fun w1 hSw => (by show (execOp _ (⟨_, .load 3 (.tmp 179), _, _, _, _⟩ : Oper)).run _ _ = _; exact (by unfold execOp; simp only [h623.eval (k := 179) (v := .pointer (some ⟨qb, qo + 0 * 2, none⟩)) (by simp)]; exact run_v (loadIP (by rw [hp0a]; exact (rowPt_first hSw.2 hC0 hqa hp0e).1))))⟩) fun a626 h625 => ?_
      refine wpk_take hS1 h625 8 rfl rfl (by decide) (fr rfl) (by kernel_rfl) (by kernel_rfl) (by kernel_rfl) (fun _ _ _ _ h => h) (.slice oa C.length oc) (Or.inl ⟨Eq.refl true, fun w1 hSw => (by show (execOp _ (⟨_, .move (.tmp 9), _, _, _, _⟩ : Oper)).run _ _ = _; exact (by unfold execOp; simp only [h625.eval (k := 9) (v := .slice oa C.length oc) (by simp)]; exact rfl))⟩) fun a628 h627 => ?_
      refine wpk_take hS1 h627 9 rfl rfl (by decide) (fr rfl) (by kernel_rfl) (by kernel_rfl) (by kernel_rfl) (fun _ _ _ _ h => h) (.pointer (some ⟨qb, qo + 0 * 2, none⟩)) (Or.inl ⟨Eq.refl true, fun w1 hSw => (by show (execOp _ (⟨_, .indexAddr 34 (.tmp 181) (.const (.int .i64 0)), _, _, _, _⟩ : Oper)).run _ _ = _; exact (by unfold execOp; simp only [h627.eval (k := 181) (v := .slice oa C.length oc) (by simp)]; exact run_v (by rw [hqa]; exact ixP qb qo _ oc 0 hC0 _)))⟩) fun a630 h629 => ?_
      refine wpk_take hS1 h629 10 rfl rfl (by decide) (fr rfl) (by kernel_rfl) (by kernel_rfl) (by kernel_rfl) (fun _ _ _ _ h => h) (.pointer (some ⟨qb, qo + 0 * 2 + 1, none⟩)) (Or.inl ⟨Eq.refl true, fun w1 hSw => (by show (execOp _ (⟨_, .fieldAddr 37 (.tmp 182) 1, _, _, _, _⟩ : Oper)).run _ _ = _; exact (by unfold execOp; simp only [h629.eval (k := 182) (v := .pointer (some ⟨qb, qo + 0 * 2, none⟩)) (by simp)]; exact run_v (faP_1 _ _ _)))⟩) fun a632 h631 => ?_
      refine wpk_take hS1 h631 11 rfl rfl (by decide) (fr rfl) (by kernel_rfl) (by kernel_rfl) (by kernel_rfl) (fun _ _ _ _ h => h) (strB p0.d) (Or.inl ⟨Eq.refl true, fun w1 hSw => (by show (execOp _ (⟨_, .load 9 (.tmp 183), _, _, _, _⟩ : Oper)).run _ _ = _; exact (by unfold execOp; simp only [h631.eval (k := 183) (v := .pointer (some ⟨qb, qo + 0 * 2 + 1, none⟩)) (by simp)]; exact run_v (loadSP (rowPt_first hSw.2 hC0 hqa hp0e).2)))⟩) fun a634 h633 => ?_
      obtain ⟨yc9, wy9, hcv9, hry9, by9⟩ := bytes_of_str wg3.drew p0.d (by omega)
      refine wpk_only 12 rfl rfl (by kernel_rfl) fun KK hK => op_val (w' := wy9) h633 rfl (by decide) (fr rfl) (.slice (some ⟨wg3.drew.heap.size, 0, none⟩) p0.d.length yc9) (by show (execOp _ (⟨_, .convert 9 22 (.tmp 184), _, _, _, _⟩ : Oper)).run _ _ = _; exact (by unfold execOp; simp only [h633.eval (k := 184) (v := strB p0.d) (by simp)]; exact run_v hcv9)) fun a636 h635 => hK _ _ (⟨(TWd.out.mono by9).q0, hS1.2.mono by9⟩) fun hS2 => ?_
      clear hK KK
      have TW8 := hid (TWd.out.mono by9); have TT8 := hid (TTd.out.trans (Turns.of_below by9)); have HC8 := hid (HCd.out.mono by9); clear by9
      refine wpk_only 13 rfl rfl (by kernel_rfl) fun KK hK => op_call h635 rfl (by decide) (fr rfl) (fun args => callT_14 args _) rfl #[.pointer (some ⟨Q.g, 0, none⟩), .int .i64 ((p0.at_.toNat : Nat) : Int), .slice (some ⟨wg3.drew.heap.size, 0, none⟩) p0.d.length yc9] (by simp only [List.map_toArray, List.map_cons, List.map_nil, h635.eval (k := 176) (v := .pointer (some ⟨Q.g, 0, none⟩)) (by simp), h635.eval (k := 180) (v := .int .i64 ((p0.at_.toNat : Nat) : Int)) (by simp), h635.eval (k := 185) (v := .slice (some ⟨wg3.drew.heap.size, 0, none⟩) p0.d.length yc9) (by simp)]) (R := fun v' w' => LogP w' Q.lg Q.g Q.v Q.d Q.p 512 512 (storeM (Y3 eb k) p0.at_.toNat p0.d) ∧ Turns (XM Q.v Q.d Q.p) wy9 w') ((storeQ TW8.out.l p0.at_.toNat (some ⟨wg3.drew.heap.size, 0, none⟩) yc9 p0.d hry9 (by rw [Y3_len hebl]; omega) (by omega)).mono fun e w' q => ⟨_, q.1, q.2⟩) fun a638 v9 w9 r9 h637 => hK _ _ (⟨(TW8.out.right r9.1 r9.2).q0, ((TT8.out.trans r9.2).own HOh.out hltQ).row⟩) fun hS3 => ?_
      clear hK KK
      have TW9 := hid (TW8.out.right r9.1 r9.2); have TT9 := hid (TT8.out.trans r9.2); clear r9
      refine wpAnyH_done (by kernel_rfl) ?_ _
      have h639 := h637.subs (l' := [(18, .int .i64 (k : Int)), (12, .slice ba eb.length bc), (9, .slice oa C.length oc), (14, .slice fa 512 fc), (16, .slice na 512 nc), (7, .pointer (some ⟨K.pp, 0, none⟩)), (8, .pointer (some ⟨Q.pp, 0, none⟩)), (2, .slice ia I.length ic)]) rfl
      clear h637
      go_step
      exact ⟨h639.subs rfl, (by unfold Y4; rw [if_pos hk3]; exact TW9.out), TT9.out⟩
    case neg =>
      go_step
      go_step
      go_step
      refine wpk_val hg3 (wanted_none rfl) rfl (by decide) (fr rfl) (.int .i64 (k : Int)) (by unfold execOp; simp only [hg3.eval (k := 18) (v := .int .i64 (k : Int)) (by simp)]; rfl) fun a641 h640 => ?_
      refine wpk_val h640 (wanted_none rfl) rfl (by decide) (fr rfl) (.bool false) (by unfold execOp; simp only [h640.eval (k := 171) (v := .int .i64 (k : Int)) (by simp)]; exact run_v (gtIP _ _ _ _ _ (decide_eq_false (by omega)))) fun a643 h642 => ?_
      have h644 := h642.subs (l' := [(172, .bool false), (18, .int .i64 (k : Int)), (12, .slice ba eb.length bc), (9, .slice oa C.length oc), (14, .slice fa 512 fc), (16, .slice na 512 nc), (7, .pointer (some ⟨K.pp, 0, none⟩)), (8, .pointer (some ⟨Q.pp, 0, none⟩)), (2, .slice ia I.length ic)]) rfl
      clear h642
      go_step
      go_step
      go_step
      refine wp_cond (t := false) (h644.eval (k := 172) (v := .bool false) (by simp)) ?_
      simp only [Bool.false_eq_true, if_false]
      have h645 := h644.subs (l' := [(18, .int .i64 (k : Int)), (12, .slice ba eb.length bc), (9, .slice oa C.length oc), (14, .slice fa 512 fc), (16, .slice na 512 nc), (7, .pointer (some ⟨K.pp, 0, none⟩)), (8, .pointer (some ⟨Q.pp, 0, none⟩)), (2, .slice ia I.length ic)]) rfl
      clear h644
      go_step
      go_step
      exact ⟨h645.subs rfl, (by unfold Y4; rw [if_neg hk3]; exact TWg3.out), TTg3.out⟩
  clear TWg3 TTg3
  rintro ag4 wg4 ⟨hg4, twg4, ttg4⟩
  have TWg4 := hid twg4; have TTg4 := hid ttg4; clear twg4 ttg4
  obtain ⟨J, hJ⟩ : ∃ J, J = I.take 200 := ⟨_, rfl⟩
  have HJ : Hid (RowI w ia ic J) := hid (by rw [hJ]; exact rowI_take9 HIS.out 200)
  have hJok : intsOk J := fun y hy => hIok y (List.mem_of_mem_take (by rw [← hJ]; exact hy))
  have hJ : Hid (J = I.take 200) := hid hJ
  refine wp_join (J := fun a' w' => Kn 237 [(18, .int .i64 (k : Int)), (12, .slice ba eb.length bc), (9, .slice oa C.length oc), (14, .slice fa 512 fc), (16, .slice na 512 nc), (7, .pointer (some ⟨K.pp, 0, none⟩)), (8, .pointer (some ⟨Q.pp, 0, none⟩)), (2, .slice ia J.length ic)] a' ∧ wg4 = w') ?_ ?_
  case refine_1 =>
    by_cases hp2 : 200 < I.length
    case pos =>
      go_step
      go_step
      go_step
      refine wpk_val hg4 (wanted_none rfl) rfl (by decide) (fr rfl) (.slice ia I.length ic) (by unfold execOp; simp only [hg4.eval (k := 2) (v := .slice ia I.length ic) (by simp)]; rfl) fun a647 h646 => ?_
      refine wpk_val h646 (wanted_none rfl) rfl (by decide) (fr rfl) (.int .i64 (I.length : Int)) (run_lenIS rfl (h646.eval (k := 187) (v := .slice ia I.length ic) (by simp)) _) fun a649 h648 => ?_
      refine wpk_val h648 (wanted_none rfl) rfl (by decide) (fr rfl) (.bool true) (by unfold execOp; simp only [h648.eval (k := 188) (v := .int .i64 (I.length : Int)) (by simp)]; exact run_v (gtIP _ _ _ _ _ (decide_eq_true (by omega)))) fun a651 h650 => ?_
      have h652 := h650.subs (l' := [(189, .bool true), (18, .int .i64 (k : Int)), (12, .slice ba eb.length bc), (9, .slice oa C.length oc), (14, .slice fa 512 fc), (16, .slice na 512 nc), (7, .pointer (some ⟨K.pp, 0, none⟩)), (8, .pointer (some ⟨Q.pp, 0, none⟩)), (2, .slice ia I.length ic)]) rfl
      clear h650
      go_step
      go_step
      go_step
      refine wp_cond (t := true) (h652.eval (k := 189) (v := .bool true) (by simp)) ?_
      simp only [if_true]
      have h653 := h652.subs (l' := [(18, .int .i64 (k : Int)), (12, .slice ba eb.length bc), (9, .slice oa C.length oc), (14, .slice fa 512 fc), (16, .slice na 512 nc), (7, .pointer (some ⟨K.pp, 0, none⟩)), (8, .pointer (some ⟨Q.pp, 0, none⟩)), (2, .slice ia I.length ic)]) rfl
      clear h652
      go_step
      refine wpk_val h653 (wanted_none rfl) rfl (by decide) (fr rfl) (.slice ia I.length ic) (by unfold execOp; simp only [h653.eval (k := 2) (v := .slice ia I.length ic) (by simp)]; rfl) fun a655 h654 => ?_
      refine wpk_val h654 (wanted_none rfl) rfl (by decide) (fr rfl) (.slice ia 200 ic) (by unfold execOp; simp only [Option.map_some, Option.map_none, h654.eval (k := 190) (v := .slice ia I.length ic) (by simp)]; exact run_v (sliceHI9 HIS.out 200 (by omega) _)) fun a657 h656 => ?_
      have h658 := h656.subs (l' := [(191, .slice ia 200 ic), (190, .slice ia I.length ic), (18, .int .i64 (k : Int)), (12, .slice ba eb.length bc), (9, .slice oa C.length oc), (14, .slice fa 512 fc), (16, .slice na 512 nc), (7, .pointer (some ⟨K.pp, 0, none⟩)), (8, .pointer (some ⟨Q.pp, 0, none⟩))]) rfl
      clear h656
      refine wpk_val h658 (wanted_none rfl) rfl (by decide) (fr rfl) (.slice ia 200 ic) (by unfold execOp; simp only [h658.eval (k := 191) (v := .slice ia 200 ic) (by simp)]; rfl) fun a660 h659 => ?_
      have h661 := h659.subs (l' := [(2, .slice ia 200 ic), (18, .int .i64 (k : Int)), (12, .slice ba eb.length bc), (9, .slice oa C.length oc), (14, .slice fa 512 fc), (16, .slice na 512 nc), (7, .pointer (some ⟨K.pp, 0, none⟩)), (8, .pointer (some ⟨Q.pp, 0, none⟩))]) rfl
      clear h659
      go_step
      go_step
      have hJl : J.length = 200 := by rw [hJ.out, List.length_take]; omega
      rw [← hJl] at h661
      exact ⟨h661.subs rfl, rfl⟩
    case neg =>
      go_step
      go_step
      go_step
      refine wpk_val hg4 (wanted_none rfl) rfl (by decide) (fr rfl) (.slice ia I.length ic) (by unfold execOp; simp only [hg4.eval (k := 2) (v := .slice ia I.length ic) (by simp)]; rfl) fun a663 h662 => ?_
      refine wpk_val h662 (wanted_none rfl) rfl (by decide) (fr rfl) (.int .i64 (I.length : Int)) (run_lenIS rfl (h662.eval (k := 187) (v := .slice ia I.length ic) (by simp)) _) fun a665 h664 => ?_
      refine wpk_val h664 (wanted_none rfl) rfl (by decide) (fr rfl) (.bool false) (by unfold execOp; simp only [h664.eval (k := 188) (v := .int .i64 (I.length : Int)) (by simp)]; exact run_v (gtIP _ _ _ _ _ (decide_eq_false (by omega)))) fun a667 h666 => ?_
      have h668 := h666.subs (l' := [(189, .bool false), (18, .int .i64 (k : Int)), (12, .slice ba eb.length bc), (9, .slice oa C.length oc), (14, .slice fa 512 fc), (16, .slice na 512 nc), (7, .pointer (some ⟨K.pp, 0, none⟩)), (8, .pointer (some ⟨Q.pp, 0, none⟩)), (2, .slice ia I.length ic)]) rfl
      clear h666
      go_step
      go_step
      go_step
      refine wp_cond (t := false) (h668.eval (k := 189) (v := .bool false) (by simp)) ?_
      simp only [Bool.false_eq_true, if_false]
      have h669 := h668.subs (l' := [(18, .int .i64 (k : Int)), (12, .slice ba eb.length bc), (9, .slice oa C.length oc), (14, .slice fa 512 fc), (16, .slice na 512 nc), (7, .pointer (some ⟨K.pp, 0, none⟩)), (8, .pointer (some ⟨Q.pp, 0, none⟩)), (2, .slice ia I.length ic)]) rfl
      clear h668
      go_step
      go_step
      have hJl : J.length = I.length := by rw [hJ.out, List.length_take]; omega
      rw [← hJl] at h669
      exact ⟨h669.subs rfl, rfl⟩
  rintro aj2 wj2 ⟨hJ2, rfl⟩
  have HBg4 := hid (HBh.out.trans (TTg4.out.below HBh.out.size hxQ))
  have hok4 := TWg4.out.l.m.1
  have hlY : (crashM (Y4 eb p0 k) J).V.length = 1024 := by rw [crashM_len8 hok4]; exact Y4_len hebl hp0i k
  go_step
  go_step
  refine wpk_val hJ2 (wanted_none rfl) rfl (by decide) (fr rfl) (.pointer (some ⟨Q.pp, 0, none⟩)) (by unfold execOp; simp only [hJ2.eval (k := 8) (v := .pointer (some ⟨Q.pp, 0, none⟩)) (by simp)]; rfl) fun a671 h670 => ?_
  refine wpk_val h670 (wanted_none rfl) rfl (by decide) (fr rfl) (.pointer (some ⟨Q.pp, 0, none⟩)) (by unfold execOp; simp only [h670.eval (k := 192) (v := .pointer (some ⟨Q.pp, 0, none⟩)) (by simp)]; exact rfl) fun a673 h672 => ?_
  refine wpk_val h672 (wanted_none rfl) rfl (by decide) (fr rfl) (.pointer (some ⟨Q.pp, 0, none⟩)) (by unfold execOp; simp only [h672.eval (k := 193) (v := .pointer (some ⟨Q.pp, 0, none⟩)) (by simp)]; exact run_v (faT_32_0_0 (Q.pp) _)) fun a675 h674 => ?_
  refine wpk_val h674 (wanted_none rfl) rfl (by decide) (fr rfl) (.pointer (some ⟨Q.g, 0, none⟩)) (by unfold execOp; simp only [h674.eval (k := 194) (v := .pointer (some ⟨Q.pp, 0, none⟩)) (by simp)]; exact run_v (loadMP TWg4.out.q0)) fun a677 h676 => ?_
  refine wpk_val h676 (wanted_none rfl) rfl (by decide) (fr rfl) (.slice ia J.length ic) (by unfold execOp; simp only [h676.eval (k := 2) (v := .slice ia J.length ic) (by simp)]; rfl) fun a679 h678 => ?_
  refine wpk_call h678 (wanted_none rfl) rfl (by decide) (fr rfl) (fun args => callT_18 args _) rfl #[.pointer (some ⟨Q.g, 0, none⟩), .slice ia J.length ic] (by simp only [List.map_toArray, List.map_cons, List.map_nil, h678.eval (k := 195) (v := .pointer (some ⟨Q.g, 0, none⟩)) (by simp), h678.eval (k := 196) (v := .slice ia J.length ic) (by simp)]) (R := fun v' w' => LogP w' Q.lg Q.g Q.v Q.d Q.p 512 512 (crashM (Y4 eb p0 k) J) ∧ Turns (XM Q.v Q.d Q.p) wg4 w') ((crashQ TWg4.out.l J ia ic (Row.below_of HJ.out HBg4.out) hJok (B := w.heap.size) (fun k hk hn => by obtain ⟨off, e⟩ := hk; exact rowLt9 HJ.out hn e) (hxQ _ (.inr (.inl rfl)))).mono fun e w' q => q) fun a681 vq5 wq5 rq5 h680 => ?_
  obtain ⟨lq5, tq5⟩ := rq5
  have TWq5 := hid (TWg4.out.right lq5 tq5); have TTq5 := hid (TTg4.out.trans tq5); clear lq5 tq5
  have h682 := h680.subs (l' := [(18, .int .i64 (k : Int)), (12, .slice ba eb.length bc), (9, .slice oa C.length oc), (14, .slice fa 512 fc), (16, .slice na 512 nc), (7, .pointer (some ⟨K.pp, 0, none⟩)), (8, .pointer (some ⟨Q.pp, 0, none⟩)), (2, .slice ia J.length ic)]) rfl
  clear h680
  go_step
  go_step
  go_step
  go_step
  go_step
  refine wpk_val h682 (wanted_none rfl) rfl (by decide) (fr rfl) (.pointer (some ⟨Q.pp, 0, none⟩)) (by unfold execOp; simp only [h682.eval (k := 8) (v := .pointer (some ⟨Q.pp, 0, none⟩)) (by simp)]; rfl) fun a684 h683 => ?_
  refine wpk_val h683 (wanted_none rfl) rfl (by decide) (fr rfl) (.pointer (some ⟨Q.pp, 0, none⟩)) (by unfold execOp; simp only [h683.eval (k := 198) (v := .pointer (some ⟨Q.pp, 0, none⟩)) (by simp)]; exact rfl) fun a686 h685 => ?_
  refine wpk_val h685 (wanted_none rfl) rfl (by decide) (fr rfl) (.pointer (some ⟨Q.pp, 1, none⟩)) (by unfold execOp; simp only [h685.eval (k := 199) (v := .pointer (some ⟨Q.pp, 0, none⟩)) (by simp)]; exact run_v (faT_32_0_1 (Q.pp) _)) fun a688 h687 => ?_
  refine wpk_val h687 (wanted_none rfl) rfl (by decide) (fr rfl) (.pointer (some ⟨Q.lg, 0, none⟩)) (by unfold execOp; simp only [h687.eval (k := 200) (v := .pointer (some ⟨Q.pp, 1, none⟩)) (by simp)]; exact run_v (loadLPT TWq5.out.q1)) fun a690 h689 => ?_
  refine wpk_call h689 (wanted_none rfl) rfl (by decide) (fr rfl) (fun args => callT_19 args _) rfl #[.pointer (some ⟨Q.lg, 0, none⟩)] (by simp only [List.map_toArray, List.map_cons, List.map_nil, h689.eval (k := 201) (v := .pointer (some ⟨Q.lg, 0, none⟩)) (by simp)]) (R := fun v' w' => v' = .int .i64 ((logR (crashM (Y4 eb p0 k) J).V 512 512).1.length : Int) ∧ LogP w' Q.lg Q.g Q.v Q.d Q.p 512 512 (redoM (crashM (Y4 eb p0 k) J) 512 512) ∧ Turns (XM Q.v Q.d Q.p) wq5 w') (redo_any TWq5.out.l (logOk_of9 hlY)) fun a692 vq6 wq6 rq6 h691 => ?_
  obtain ⟨rfl, lq6, tq6⟩ := rq6
  have TWq6 := hid (TWq5.out.right lq6 tq6); have TTq6 := hid (TTq5.out.trans tq6); clear lq6 tq6
  refine wpk_val h691 (wanted_none rfl) rfl (by decide) (fr rfl) (.int .i64 ((logR (crashM (Y4 eb p0 k) J).V 512 512).1.length : Int)) (by unfold execOp; simp only [h691.eval (k := 202) (v := .int .i64 ((logR (crashM (Y4 eb p0 k) J).V 512 512).1.length : Int)) (by simp)]; rfl) fun a694 h693 => ?_
  have h695 := h693.subs (l' := [(19, .int .i64 ((logR (crashM (Y4 eb p0 k) J).V 512 512).1.length : Int)), (18, .int .i64 (k : Int)), (12, .slice ba eb.length bc), (9, .slice oa C.length oc), (14, .slice fa 512 fc), (16, .slice na 512 nc), (7, .pointer (some ⟨K.pp, 0, none⟩)), (8, .pointer (some ⟨Q.pp, 0, none⟩)), (2, .slice ia J.length ic)]) rfl
  clear h693
  go_step
  go_step
  go_step
  go_step
  go_step
  refine wpk_val h695 (wanted_none rfl) rfl (by decide) (fr rfl) (.pointer (some ⟨Q.pp, 0, none⟩)) (by unfold execOp; simp only [h695.eval (k := 8) (v := .pointer (some ⟨Q.pp, 0, none⟩)) (by simp)]; rfl) fun a697 h696 => ?_
  refine wpk_val h696 (wanted_none rfl) rfl (by decide) (fr rfl) (.pointer (some ⟨Q.pp, 0, none⟩)) (by unfold execOp; simp only [h696.eval (k := 204) (v := .pointer (some ⟨Q.pp, 0, none⟩)) (by simp)]; exact rfl) fun a699 h698 => ?_
  refine wpk_val h698 (wanted_none rfl) rfl (by decide) (fr rfl) (.pointer (some ⟨Q.pp, 0, none⟩)) (by unfold execOp; simp only [h698.eval (k := 205) (v := .pointer (some ⟨Q.pp, 0, none⟩)) (by simp)]; exact run_v (faT_32_0_0 (Q.pp) _)) fun a701 h700 => ?_
  refine wpk_val h700 (wanted_none rfl) rfl (by decide) (fr rfl) (.pointer (some ⟨Q.g, 0, none⟩)) (by unfold execOp; simp only [h700.eval (k := 206) (v := .pointer (some ⟨Q.pp, 0, none⟩)) (by simp)]; exact run_v (loadMP TWq6.out.q0)) fun a703 h702 => ?_
  refine wpk_call h702 (wanted_none rfl) rfl (by decide) (fr rfl) (fun args => callT_13 args _) rfl #[.pointer (some ⟨Q.g, 0, none⟩), .int .i64 0, .int .i64 512] (by simp only [List.map_toArray, List.map_cons, List.map_nil, h702.eval (k := 207) (v := .pointer (some ⟨Q.g, 0, none⟩)) (by simp)]; rfl) (R := fun v' w' => ∃ x y, v' = .tuple #[.slice x 512 y, .int .i64 0] ∧ RowB w' x y ((redoM (crashM (Y4 eb p0 k) J) 512 512).D.take 512) ∧ Below wq6.heap.size wq6 w') ((lasts512 TWq6.out.l.m (by rw [redoM_len]; exact hlY)).mono fun e w' q => by obtain ⟨x, y, q1, q2, q3⟩ := q; exact ⟨_, q1, ⟨x, y, rfl, q2, q3⟩⟩) fun a705 vi wi ri h704 => ?_
  obtain ⟨ya, yc, rfl, oi, bi⟩ := ri; have HTi := hid oi; have TTi := hid (TTq6.out.trans (Turns.of_below bi)); clear oi bi
  refine wpk_val h704 (wanted_none rfl) rfl (by decide) (fr rfl) (.tuple #[.slice ya 512 yc, .int .i64 0]) (by unfold execOp; simp only [h704.eval (k := 208) (v := .tuple #[.slice ya 512 yc, .int .i64 0]) (by simp)]; rfl) fun a707 h706 => ?_
  refine wpk_val h706 (wanted_none rfl) rfl (by decide) (fr rfl) (.slice ya 512 yc) (by unfold execOp; simp only [h706.eval (k := 203) (v := .tuple #[.slice ya 512 yc, .int .i64 0]) (by simp)]; exact rfl) fun a709 h708 => ?_
  refine wpk_val h708 (wanted_none rfl) rfl (by decide) (fr rfl) (.int .i64 0) (by unfold execOp; simp only [h708.eval (k := 203) (v := .tuple #[.slice ya 512 yc, .int .i64 0]) (by simp)]; exact rfl) fun a711 h710 => ?_
  refine wpk_val h710 (wanted_none rfl) rfl (by decide) (fr rfl) (.slice ya 512 yc) (by unfold execOp; simp only [h710.eval (k := 209) (v := .slice ya 512 yc) (by simp)]; rfl) fun a713 h712 => ?_
  refine wpk_val h712 (wanted_none rfl) rfl (by decide) (fr rfl) (.int .i64 0) (by unfold execOp; simp only [h712.eval (k := 210) (v := .int .i64 0) (by simp)]; rfl) fun a715 h714 => ?_
  have h716 := h714.subs (l' := [(20, .slice ya 512 yc), (19, .int .i64 ((logR (crashM (Y4 eb p0 k) J).V 512 512).1.length : Int)), (18, .int .i64 (k : Int)), (12, .slice ba eb.length bc), (9, .slice oa C.length oc), (14, .slice fa 512 fc), (16, .slice na 512 nc), (7, .pointer (some ⟨K.pp, 0, none⟩)), (8, .pointer (some ⟨Q.pp, 0, none⟩)), (2, .slice ia J.length ic)]) rfl
  clear h714
  go_step
  go_step
  go_step
  have h717 := h716.subs (l' := [(19, .int .i64 ((logR (crashM (Y4 eb p0 k) J).V 512 512).1.length : Int)), (20, .slice ya 512 yc), (18, .int .i64 (k : Int)), (14, .slice fa 512 fc), (16, .slice na 512 nc)]) rfl
  clear h716
  have hw := whole hencC heb (fun p hp => (hinC p hp).1) hp0m hebl k hk4 hok4 J
  obtain ⟨n1, hn1⟩ : ∃ n, n = (logR (crashM (Y4 eb p0 k) J).V 512 512).1.length := ⟨_, rfl⟩
  rw [← hn1] at hw h717
  rcases hw with ⟨hw1, hw2, hw3⟩ | ⟨hw1, hw2, hw3⟩
  · have hsame : (redoM (crashM (Y4 eb p0 k) J) 512 512).D.take 512 = (redoM (appM mem0 512 512 C) 512 512).D.take 512 := by rw [hw2]
    go_step
    go_step
    go_step
    refine wpk_val h717 (wanted_none rfl) rfl (by decide) (fr rfl) (.int .i64 (n1 : Int)) (by unfold execOp; simp only [h717.eval (k := 19) (v := .int .i64 (n1 : Int)) (by simp)]; rfl) fun a719 h718 => ?_
    refine wpk_val h718 (wanted_none rfl) rfl (by decide) (fr rfl) (.bool true) (by unfold execOp; simp only [h718.eval (k := 211) (v := .int .i64 (n1 : Int)) (by simp)]; exact run_v (eqIP _ _ _ _ _ (beq_iff_eq.2 (by omega)))) fun a721 h720 => ?_
    have h722 := h720.subs (l' := [(212, .bool true), (19, .int .i64 (n1 : Int)), (20, .slice ya 512 yc), (18, .int .i64 (k : Int)), (14, .slice fa 512 fc), (16, .slice na 512 nc)]) rfl
    clear h720
    go_step
    go_step
    go_step
    refine wp_cond (t := true) (h722.eval (k := 212) (v := .bool true) (by simp)) ?_
    simp only [if_true]
    have h723 := h722.subs (l' := [(19, .int .i64 (n1 : Int)), (20, .slice ya 512 yc), (18, .int .i64 (k : Int)), (14, .slice fa 512 fc), (16, .slice na 512 nc)]) rfl
    clear h722
    go_step
    go_step
    refine wpk_val h723 (wanted_none rfl) rfl (by decide) (fr rfl) (.slice ya 512 yc) (by unfold execOp; simp only [h723.eval (k := 20) (v := .slice ya 512 yc) (by simp)]; rfl) fun a725 h724 => ?_
    refine wpk_val h724 (wanted_none rfl) rfl (by decide) (fr rfl) (.slice na 512 nc) (by unfold execOp; simp only [h724.eval (k := 16) (v := .slice na 512 nc) (by simp)]; rfl) fun a727 h726 => ?_
    refine wpk_call h726 (wanted_none rfl) rfl (by decide) (fr rfl) (fun args => callT_20 args _) rfl #[.slice ya 512 yc, .slice na 512 nc] (by simp only [List.map_toArray, List.map_cons, List.map_nil, h726.eval (k := 213) (v := .slice ya 512 yc) (by simp), h726.eval (k := 214) (v := .slice na 512 nc) (by simp)]) (R := fun v' w' => v' = .bool true ∧ Below wi.heap.size wi w') ((same512T HTi.out (TTi.out.own HNh.out hltQ).row hsame (by rw [List.length_take, redo_Dlen]; omega)).mono fun e w' q => ⟨_, q.1, rfl, q.2⟩) fun a729 vj9 wj9 rj9 h728 => ?_
    obtain ⟨rfl, bj⟩ := rj9; have HBj9 := hid (kept_trans (HBh.out.trans (TTi.out.below HBh.out.size hxQ)) bj); clear bj
    refine wpk_val h728 (wanted_none rfl) rfl (by decide) (fr rfl) (.bool true) (by unfold execOp; simp only [h728.eval (k := 215) (v := .bool true) (by simp)]; rfl) fun a731 h730 => ?_
    refine wpk_val h730 (by rw [wanted_of (g := 3) (want := true) (b := true) rfl (h730.yields (prev := 216) rfl (by simp))]; rfl) rfl (by decide) (fr rfl) (.int .i64 (k : Int)) (by unfold execOp; simp only [h730.eval (k := 18) (v := .int .i64 (k : Int)) (by simp)]; rfl) fun a733 h732 => ?_
    refine wpk_val h732 (by rw [wanted_of (g := 3) (want := true) (b := true) rfl (h732.yields (prev := 216) rfl (by simp))]; rfl) rfl (by decide) (fr rfl) (.bool true) (by unfold execOp; simp only [h732.eval (k := 217) (v := .int .i64 (k : Int)) (by simp)]; exact run_v (gtIP _ _ _ _ _ (decide_eq_true (by omega)))) fun a735 h734 => ?_
    refine wpk_val h734 (wanted_none rfl) rfl (by decide) (fr rfl) (.bool true) (run_pick rfl (h734.eval (k := 216) (v := .bool true) (by simp)) (by rw [if_pos rfl]; exact h734.eval (k := 218) (v := .bool true) (by simp))) fun a737 h736 => ?_
    refine wpk_val h736 (wanted_none rfl) rfl (by decide) (fr rfl) (.bool true) (by unfold execOp; simp only [h736.eval (k := 219) (v := .bool true) (by simp)]; rfl) fun a739 h738 => ?_
    refine wpk_call h738 (by rw [wanted_of (g := 7) (want := true) (b := true) rfl (h738.yields (prev := 220) rfl (by simp))]; rfl) rfl (by decide) (fr rfl) (fun args => callT_9 args _) rfl #[] (by simp) (R := fun v' w' => v' = .bool true ∧ Below wj9.heap.size wj9 w') ((lives09_any _).mono fun e w' q => ⟨_, q.1, rfl, q.2⟩) fun a741 vz9 wz9 rz9 h740 => ?_
    obtain ⟨rfl, bz9⟩ := rz9; have HBz9 := hid (kept_trans HBj9.out bz9); clear bz9
    refine wpk_val h740 (wanted_none rfl) rfl (by decide) (fr rfl) (.bool true) (run_pick rfl (h740.eval (k := 220) (v := .bool true) (by simp)) (by rw [if_pos rfl]; exact h740.eval (k := 221) (v := .bool true) (by simp))) fun a743 h742 => ?_
    refine wpk_val h742 (wanted_none rfl) rfl (by decide) (fr rfl) (.bool true) (by unfold execOp; simp only [h742.eval (k := 222) (v := .bool true) (by simp)]; rfl) fun a745 h744 => ?_
    have h746 := h744.subs (l' := [(6, .bool true), (19, .int .i64 (n1 : Int)), (20, .slice ya 512 yc), (18, .int .i64 (k : Int)), (14, .slice fa 512 fc), (16, .slice na 512 nc)]) rfl
    clear h744
    go_step
    go_step
    go_step
    go_step
    simp only [Exit.then, Exit.inBlock]
    exact bodyPost_ret (results_tmp1 rfl (h746.known (6, .bool true) (by simp))) h746.defs ⟨rfl, HBz9.out⟩
  · have hsame := hw2
    go_step
    go_step
    go_step
    refine wpk_val h717 (wanted_none rfl) rfl (by decide) (fr rfl) (.int .i64 (n1 : Int)) (by unfold execOp; simp only [h717.eval (k := 19) (v := .int .i64 (n1 : Int)) (by simp)]; rfl) fun a748 h747 => ?_
    refine wpk_val h747 (wanted_none rfl) rfl (by decide) (fr rfl) (.bool false) (by unfold execOp; simp only [h747.eval (k := 211) (v := .int .i64 (n1 : Int)) (by simp)]; exact run_v (eqIP _ _ _ _ _ (beq_eq_false_iff_ne.2 (by omega)))) fun a750 h749 => ?_
    have h751 := h749.subs (l' := [(212, .bool false), (19, .int .i64 (n1 : Int)), (20, .slice ya 512 yc), (18, .int .i64 (k : Int)), (14, .slice fa 512 fc), (16, .slice na 512 nc)]) rfl
    clear h749
    go_step
    go_step
    go_step
    refine wp_cond (t := false) (h751.eval (k := 212) (v := .bool false) (by simp)) ?_
    simp only [Bool.false_eq_true, if_false]
    have h752 := h751.subs (l' := [(19, .int .i64 (n1 : Int)), (20, .slice ya 512 yc), (18, .int .i64 (k : Int)), (14, .slice fa 512 fc), (16, .slice na 512 nc)]) rfl
    clear h751
    go_step
    go_step
    go_step
    go_step
    go_step
    refine wpk_val h752 (wanted_none rfl) rfl (by decide) (fr rfl) (.slice ya 512 yc) (by unfold execOp; simp only [h752.eval (k := 20) (v := .slice ya 512 yc) (by simp)]; rfl) fun a754 h753 => ?_
    refine wpk_val h753 (wanted_none rfl) rfl (by decide) (fr rfl) (.slice fa 512 fc) (by unfold execOp; simp only [h753.eval (k := 14) (v := .slice fa 512 fc) (by simp)]; rfl) fun a756 h755 => ?_
    refine wpk_call h755 (wanted_none rfl) rfl (by decide) (fr rfl) (fun args => callT_20 args _) rfl #[.slice ya 512 yc, .slice fa 512 fc] (by simp only [List.map_toArray, List.map_cons, List.map_nil, h755.eval (k := 223) (v := .slice ya 512 yc) (by simp), h755.eval (k := 224) (v := .slice fa 512 fc) (by simp)]) (R := fun v' w' => v' = .bool true ∧ Below wi.heap.size wi w') ((same512T HTi.out (TTi.out.own HFh.out hltQ).row hsame (by rw [List.length_take, mem0_len]; omega)).mono fun e w' q => ⟨_, q.1, rfl, q.2⟩) fun a758 vj9 wj9 rj9 h757 => ?_
    obtain ⟨rfl, bj⟩ := rj9; have HBj9 := hid (kept_trans (HBh.out.trans (TTi.out.below HBh.out.size hxQ)) bj); clear bj
    refine wpk_val h757 (wanted_none rfl) rfl (by decide) (fr rfl) (.bool true) (by unfold execOp; simp only [h757.eval (k := 225) (v := .bool true) (by simp)]; rfl) fun a760 h759 => ?_
    refine wpk_val h759 (by rw [wanted_of (g := 3) (want := true) (b := true) rfl (h759.yields (prev := 226) rfl (by simp))]; rfl) rfl (by decide) (fr rfl) (.int .i64 (k : Int)) (by unfold execOp; simp only [h759.eval (k := 18) (v := .int .i64 (k : Int)) (by simp)]; rfl) fun a762 h761 => ?_
    refine wpk_val h761 (by rw [wanted_of (g := 3) (want := true) (b := true) rfl (h761.yields (prev := 226) rfl (by simp))]; rfl) rfl (by decide) (fr rfl) (.bool true) (by unfold execOp; simp only [h761.eval (k := 227) (v := .int .i64 (k : Int)) (by simp)]; exact run_v (ltIP _ _ _ _ _ (decide_eq_true (by omega)))) fun a764 h763 => ?_
    refine wpk_val h763 (wanted_none rfl) rfl (by decide) (fr rfl) (.bool true) (run_pick rfl (h763.eval (k := 226) (v := .bool true) (by simp)) (by rw [if_pos rfl]; exact h763.eval (k := 228) (v := .bool true) (by simp))) fun a766 h765 => ?_
    refine wpk_val h765 (wanted_none rfl) rfl (by decide) (fr rfl) (.bool true) (by unfold execOp; simp only [h765.eval (k := 229) (v := .bool true) (by simp)]; rfl) fun a768 h767 => ?_
    refine wpk_val h767 (by rw [wanted_of (g := 7) (want := true) (b := true) rfl (h767.yields (prev := 230) rfl (by simp))]; rfl) rfl (by decide) (fr rfl) (.int .i64 (n1 : Int)) (by unfold execOp; simp only [h767.eval (k := 19) (v := .int .i64 (n1 : Int)) (by simp)]; rfl) fun a770 h769 => ?_
    refine wpk_val h769 (by rw [wanted_of (g := 7) (want := true) (b := true) rfl (h769.yields (prev := 230) rfl (by simp))]; rfl) rfl (by decide) (fr rfl) (.bool true) (by unfold execOp; simp only [h769.eval (k := 231) (v := .int .i64 (n1 : Int)) (by simp)]; exact run_v (eqIP _ _ _ _ _ (beq_iff_eq.2 (by omega)))) fun a772 h771 => ?_
    refine wpk_val h771 (wanted_none rfl) rfl (by decide) (fr rfl) (.bool true) (run_pick rfl (h771.eval (k := 230) (v := .bool true) (by simp)) (by rw [if_pos rfl]; exact h771.eval (k := 232) (v := .bool true) (by simp))) fun a774 h773 => ?_
    refine wpk_val h773 (wanted_none rfl) rfl (by decide) (fr rfl) (.bool true) (by unfold execOp; simp only [h773.eval (k := 233) (v := .bool true) (by simp)]; rfl) fun a776 h775 => ?_
    refine wpk_call h775 (by rw [wanted_of (g := 11) (want := true) (b := true) rfl (h775.yields (prev := 234) rfl (by simp))]; rfl) rfl (by decide) (fr rfl) (fun args => callT_9 args _) rfl #[] (by simp) (R := fun v' w' => v' = .bool true ∧ Below wj9.heap.size wj9 w') ((lives09_any _).mono fun e w' q => ⟨_, q.1, rfl, q.2⟩) fun a778 vz9 wz9 rz9 h777 => ?_
    obtain ⟨rfl, bz9⟩ := rz9; have HBz9 := hid (kept_trans HBj9.out bz9); clear bz9
    refine wpk_val h777 (wanted_none rfl) rfl (by decide) (fr rfl) (.bool true) (run_pick rfl (h777.eval (k := 234) (v := .bool true) (by simp)) (by rw [if_pos rfl]; exact h777.eval (k := 235) (v := .bool true) (by simp))) fun a780 h779 => ?_
    refine wpk_val h779 (wanted_none rfl) rfl (by decide) (fr rfl) (.bool true) (by unfold execOp; simp only [h779.eval (k := 236) (v := .bool true) (by simp)]; rfl) fun a782 h781 => ?_
    have h783 := h781.subs (l' := [(6, .bool true), (19, .int .i64 (n1 : Int)), (20, .slice ya 512 yc), (18, .int .i64 (k : Int)), (14, .slice fa 512 fc), (16, .slice na 512 nc)]) rfl
    clear h781
    go_step
    go_step
    go_step
    go_step
    exact bodyPost_ret (results_tmp1 rfl (h783.known (6, .bool true) (by simp))) h783.defs ⟨rfl, HBz9.out⟩
end Go.Proofs.YtcackliabemecaaDoor
