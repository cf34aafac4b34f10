/- TxnMany. (genTxnN.py) -/
import Derived.Test.YtcackliabemecaaDoorTxnMc
namespace Go.Proofs.YtcackliabemecaaDoor
open Go.RowKit
set_option linter.unusedSimpArgs false
set_option linter.unusedVariables false
set_option maxRecDepth 100000

theorem Code.wp_weak {P : Program} {c : Code} {Q Q' : Exit → Act → World → Prop} {a : Act} {w : World} (h : c.wp P Q a w) (k : ∀ e a w, Q e a w → Q' e a w) : c.wp P Q' a w := fun b kk cs => by
  obtain ⟨e, a', w', hq, har⟩ := h b kk cs
  exact ⟨e, a', w', k _ _ _ hq, har⟩
theorem wp_join {P : Program} {c y : Code} {Q : Exit → Act → World → Prop} {a : Act} {w : World} (J : Act → World → Prop) (h1 : c.wp P (Exit.then J Q) a w) (h2 : ∀ a' w', J a' w' → y.wp P Q a' w') : (Code.seq c y).wp P Q a w :=
  wp_seq (Code.wp_weak h1 fun e a w hq => by
    cases e with
    | normal => exact h2 _ _ hq
    | _ => exact hq)
theorem remIN (x y : Operand) (n : Int) (k : Nat) (h0 : 0 ≤ n) (hk : k = (n % 71).toNat) (w : World) : (do eqGuard .rem 3 x y (.int .i64 n) (.int .i64 71); binOp .rem 3 (.int .i64 n) (.int .i64 71) : Sem Value).run Tryd.prog w = .ok (.int .i64 (k : Int)) w := by
  have u3 := Tryd.underlying3
  have a3 := Tryd.isAgg3
  have z3 := Tryd.sizeOf3
  have e0 : n.tmod 71 = (k : Int) := by rw [Int.tmod_eq_emod_of_nonneg h0, hk, Int.toNat_of_nonneg (by omega)]
  have e1 : IntKind.i64.wrap (k : Int) = (k : Int) := IntWalk.i64_in _ (by omega)
  go_simp
theorem run_negI {o : Oper} {x : Operand} (ho : o.op = .unOp .neg 3 x) {ρ : Operand → Value} {n : Int} (hx : ρ x = .int .i64 n) (h1 : -9223372036854775808 ≤ -n) (h2 : -n ≤ 9223372036854775807) (w : World) : (execOp ρ o).run Tryd.prog w = .ok (.value (.int .i64 (-n))) w := by
  unfold execOp
  rw [ho]
  simp only [hx]
  have u3 := Tryd.underlying3
  have a3 := Tryd.isAgg3
  have z3 := Tryd.sizeOf3
  have e1 : IntKind.i64.wrap (-n) = -n := IntWalk.i64_in _ (by omega)
  go_simp
theorem eqPnT (x y : Operand) (q : Addr) (w : World) : (do eqGuard .eql 23 x y (.pointer (some q)) (.pointer none); binOp .eql 23 (.pointer (some q)) (.pointer none) : Sem Value).run Tryd.prog w = .ok (.bool false) w := by
  have u3 := Tryd.underlying23
  have a3 := Tryd.isAgg23
  have z3 := Tryd.sizeOf23
  go_simp
theorem eqNnT (x y : Operand) (w : World) : (do eqGuard .eql 28 x y (.pointer none) (.pointer none); binOp .eql 28 (.pointer none) (.pointer none) : Sem Value).run Tryd.prog w = .ok (.bool true) w := by
  have u3 := Tryd.underlying28
  have a3 := Tryd.isAgg28
  have z3 := Tryd.sizeOf28
  go_simp
theorem neqBT (x y : Operand) (a b : Bool) (w : World) (h : (a != b) = false) : (do eqGuard .neq 4 x y (.bool a) (.bool b); binOp .neq 4 (.bool a) (.bool b) : Sem Value).run Tryd.prog w = .ok (.bool false) w := by
  have u3 := Tryd.underlying4
  have a3 := Tryd.isAgg4
  have z3 := Tryd.sizeOf4
  cases a <;> cases b <;> first | (cases h; done) | go_simp
theorem neSB (x y : Operand) (s : List UInt8) (w : World) : (do eqGuard .neq 9 x y (strB s) (strB s); binOp .neq 9 (strB s) (strB s) : Sem Value).run Tryd.prog w = .ok (.bool false) w := by
  have u3 := Tryd.underlying9
  have a3 := Tryd.isAgg9
  have z3 := Tryd.sizeOf9
  unfold strB
  go_simp
theorem faP_0 (g off : Nat) (w : World) : (Instr.fieldAt 37 (.pointer (some ⟨g, off, none⟩)) 0).run Tryd.prog w = .ok (.pointer (some ⟨g, off, none⟩)) w := rfl
theorem faP_1 (g off : Nat) (w : World) : (Instr.fieldAt 37 (.pointer (some ⟨g, off, none⟩)) 1).run Tryd.prog w = .ok (.pointer (some ⟨g, off + 1, none⟩)) w := rfl
theorem loadTP {w : World} {g off : Nat} {q : Addr} (h : w.cell? ⟨g, off, none⟩ = some (.pointer (some q))) : (Instr.loadAt 28 (.pointer (some ⟨g, off, none⟩))).run Tryd.prog w = .ok (.pointer (some q)) w := by
  have u3 := Tryd.underlying28
  have a3 := Tryd.isAgg28
  have z3 := Tryd.sizeOf28
  go_simp
theorem callT_5 (args : Array Value) (w : World) : (callFunc 5 args).run Tryd.prog w = .ok (.enter 5 args) w := by
  have h := Tryd.func5
  go_simp
theorem callT_6 (args : Array Value) (w : World) : (callFunc 6 args).run Tryd.prog w = .ok (.enter 6 args) w := by
  have h := Tryd.func6
  go_simp
theorem callT_7 (args : Array Value) (w : World) : (callFunc 7 args).run Tryd.prog w = .ok (.enter 7 args) w := by
  have h := Tryd.func7
  go_simp
theorem callT_8 (args : Array Value) (w : World) : (callFunc 8 args).run Tryd.prog w = .ok (.enter 8 args) w := by
  have h := Tryd.func8
  go_simp
theorem callT_9 (args : Array Value) (w : World) : (callFunc 9 args).run Tryd.prog w = .ok (.enter 9 args) w := by
  have h := Tryd.func9
  go_simp
theorem faT_32_0_2 (g : Nat) (w : World) : (Instr.fieldAt 32 (.pointer (some ⟨g, 0, none⟩)) 2).run Tryd.prog w = .ok (.pointer (some ⟨g, 2, none⟩)) w := rfl

set_option maxHeartbeats 8000000 in
theorem TxnMany_walk (w : World) (n : Int) (wn : (Lit.int .i64 n).wf = true) (a : Option Addr) (c : Nat) (xs : List UInt8) (hr : RowB w a c xs) :
    Calls Tryd.prog 3 #[.int .i64 n, .slice a xs.length c] w fun e w' => e = .returned (.bool true) ∧ Below w.heap.size w w' := by
  have HR := hid hr
  have hnI := i64_bd wn
  unfold i64B at hnI
  clear hr
  go_enter Tryd.func3, Tryd.ntmps3
  go_step
  go_step
  go_step
  refine wpk_enter (N := 93) (l := [(0, .int .i64 n), (1, .slice a xs.length c)]) ⟨rfl, (by intro x hx; simp only [List.mem_cons, List.not_mem_nil, or_false] at hx; rcases hx with rfl | rfl <;> rfl), rfl⟩ fun a2 h1 => ?_
  refine wpk_val h1 (wanted_none rfl) rfl (by decide) (fr rfl) (.bool false) rfl fun a4 h3 => ?_
  go_step
  go_step
  go_step
  go_step
  go_step
  refine wpk_call h3 (wanted_none rfl) rfl (by decide) (fr rfl) (fun args => callT_5 args _) rfl #[] (by simp) (R := fun v' w' => ∃ pp tg g lg v d p dt gr, v' = .pointer (some ⟨pp, 0, none⟩) ∧ TxP w' w'.heap.size pp tg g lg v d p dt gr none 0 mem0 [] ∧ (w.heap.size ≤ g ∧ w.heap.size ≤ v ∧ w.heap.size ≤ d ∧ w.heap.size ≤ p) ∧ Below w.heap.size w w') ((beginT w).mono fun e w' q => by obtain ⟨pp, tg, g, lg, v, d, p, dt, gr, q1, q2⟩ := q; exact ⟨_, q1, pp, tg, g, lg, v, d, p, dt, gr, rfl, q2⟩) fun a6 v0 w0 r0 h5 => ?_
  obtain ⟨pp, tg, g, lg, v, d, p, dt, gr, rfl, hp0, hge, hb0⟩ := r0; obtain ⟨B, hB⟩ : ∃ B, B = w0.heap.size := ⟨_, rfl⟩; rw [← hB] at hp0; have hBs : B ≤ w0.heap.size := (by omega); clear hB; have HP0 := hid hp0; have HB0 := hid hb0; have hn := hid hp0.n; have hwB := hb0.size; clear hp0 hb0
  refine wpk_val h5 (wanted_none rfl) rfl (by decide) (fr rfl) (.pointer (some ⟨pp, 0, none⟩)) (by unfold execOp; simp only [h5.eval (k := 11) (v := .pointer (some ⟨pp, 0, none⟩)) (by simp)]; rfl) fun a8 h7 => ?_
  have h9 := h7.subs (l' := [(5, .pointer (some ⟨pp, 0, none⟩)), (4, .bool false), (0, .int .i64 n), (1, .slice a xs.length c)]) rfl
  clear h7
  go_step
  go_step
  go_step
  go_step
  go_step
  go_step
  refine wpk_val h9 (wanted_none rfl) rfl (by decide) (fr rfl) (.pointer (some ⟨pp, 0, none⟩)) (by unfold execOp; simp only [h9.eval (k := 5) (v := .pointer (some ⟨pp, 0, none⟩)) (by simp)]; rfl) fun a11 h10 => ?_
  refine wpk_val h10 (wanted_none rfl) rfl (by decide) (fr rfl) (.bool false) (by unfold execOp; simp only [h10.eval (k := 12) (v := .pointer (some ⟨pp, 0, none⟩)) (by simp)]; exact run_v (eqPnT _ _ _ _)) fun a13 h12 => ?_
  have h14 := h12.subs (l' := [(13, .bool false), (5, .pointer (some ⟨pp, 0, none⟩)), (4, .bool false), (0, .int .i64 n), (1, .slice a xs.length c)]) rfl
  clear h12
  go_step
  go_step
  go_step
  refine wp_cond (t := false) (h14.eval (k := 13) (v := .bool false) (by simp)) ?_
  simp only [Bool.false_eq_true, if_false]
  have h15 := h14.subs (l' := [(5, .pointer (some ⟨pp, 0, none⟩)), (4, .bool false), (0, .int .i64 n), (1, .slice a xs.length c)]) rfl
  clear h14
  go_step
  go_step
  go_step
  obtain ⟨n2, hn2⟩ : ∃ y : Int, y = (if n < 0 then -(n + 1) else n) := ⟨_, rfl⟩
  have hn2b : 0 ≤ n2 ∧ n2 ≤ 9223372036854775807 := by rw [hn2]; split <;> omega
  have h16 := h15.subs (l' := [(5, .pointer (some ⟨pp, 0, none⟩)), (0, .int .i64 n), (1, .slice a xs.length c)]) rfl
  clear h15
  refine wp_join (J := fun a' w' => Kn 93 [(5, .pointer (some ⟨pp, 0, none⟩)), (0, .int .i64 n2), (1, .slice a xs.length c)] a' ∧ w0 = w') ?_ ?_
  case refine_1 =>
    by_cases hneg : n < 0
    · rw [if_pos hneg] at hn2
      go_step
      go_step
      go_step
      refine wpk_val h16 (wanted_none rfl) rfl (by decide) (fr rfl) (.int .i64 n) (by unfold execOp; simp only [h16.eval (k := 0) (v := .int .i64 n) (by simp)]; rfl) fun a18 h17 => ?_
      refine wpk_val h17 (wanted_none rfl) rfl (by decide) (fr rfl) (.bool true) (by unfold execOp; simp only [h17.eval (k := 14) (v := .int .i64 n) (by simp)]; exact run_v (ltIP _ _ _ _ _ (decide_eq_true (by omega)))) fun a20 h19 => ?_
      have h21 := h19.subs (l' := [(15, .bool true), (5, .pointer (some ⟨pp, 0, none⟩)), (0, .int .i64 n), (1, .slice a xs.length c)]) rfl
      clear h19
      go_step
      go_step
      go_step
      refine wp_cond (t := true) (h21.eval (k := 15) (v := .bool true) (by simp)) ?_
      simp only [if_true]
      have h22 := h21.subs (l' := [(5, .pointer (some ⟨pp, 0, none⟩)), (0, .int .i64 n), (1, .slice a xs.length c)]) rfl
      clear h21
      go_step
      refine wpk_val h22 (wanted_none rfl) rfl (by decide) (fr rfl) (.int .i64 n) (by unfold execOp; simp only [h22.eval (k := 0) (v := .int .i64 n) (by simp)]; rfl) fun a24 h23 => ?_
      refine wpk_val h23 (wanted_none rfl) rfl (by decide) (fr rfl) (.int .i64 (n + 1)) (by unfold execOp; simp only [h23.eval (k := 16) (v := .int .i64 n) (by simp)]; exact run_v (addNP _ _ _ _ _ (by omega) (by omega) (by omega) _)) fun a26 h25 => ?_
      refine wpk_val h25 (wanted_none rfl) rfl (by decide) (fr rfl) (.int .i64 (-(n + 1))) (run_negI rfl (h25.eval (k := 17) (v := .int .i64 (n + 1)) (by simp)) (by omega) (by omega) _) fun a28 h27 => ?_
      have h29 := h27.subs (l' := [(18, .int .i64 (-(n + 1))), (17, .int .i64 (n + 1)), (16, .int .i64 n), (5, .pointer (some ⟨pp, 0, none⟩)), (1, .slice a xs.length c)]) rfl
      clear h27
      refine wpk_val h29 (wanted_none rfl) rfl (by decide) (fr rfl) (.int .i64 (-(n + 1))) (by unfold execOp; simp only [h29.eval (k := 18) (v := .int .i64 (-(n + 1))) (by simp)]; rfl) fun a31 h30 => ?_
      have h32 := h30.subs (l' := [(0, .int .i64 (-(n + 1))), (5, .pointer (some ⟨pp, 0, none⟩)), (1, .slice a xs.length c)]) rfl
      clear h30
      go_step
      go_step
      rw [← hn2] at h32
      exact ⟨h32.subs rfl, rfl⟩
    · rw [if_neg hneg] at hn2
      go_step
      go_step
      go_step
      refine wpk_val h16 (wanted_none rfl) rfl (by decide) (fr rfl) (.int .i64 n) (by unfold execOp; simp only [h16.eval (k := 0) (v := .int .i64 n) (by simp)]; rfl) fun a34 h33 => ?_
      refine wpk_val h33 (wanted_none rfl) rfl (by decide) (fr rfl) (.bool false) (by unfold execOp; simp only [h33.eval (k := 14) (v := .int .i64 n) (by simp)]; exact run_v (ltIP _ _ _ _ _ (decide_eq_false (by omega)))) fun a36 h35 => ?_
      have h37 := h35.subs (l' := [(15, .bool false), (5, .pointer (some ⟨pp, 0, none⟩)), (0, .int .i64 n), (1, .slice a xs.length c)]) rfl
      clear h35
      go_step
      go_step
      go_step
      refine wp_cond (t := false) (h37.eval (k := 15) (v := .bool false) (by simp)) ?_
      simp only [Bool.false_eq_true, if_false]
      have h38 := h37.subs (l' := [(5, .pointer (some ⟨pp, 0, none⟩)), (0, .int .i64 n), (1, .slice a xs.length c)]) rfl
      clear h37
      go_step
      go_step
      rw [← hn2] at h38
      exact ⟨h38.subs rfl, rfl⟩
  rintro aj1 wj1 ⟨hJ1, rfl⟩
  clear hn2
  obtain ⟨N, hN⟩ : ∃ N : Nat, N = (n2 % 71).toNat := ⟨_, rfl⟩
  have hN7 : N < 71 := by omega
  go_step
  go_step
  refine wpk_val hJ1 (wanted_none rfl) rfl (by decide) (fr rfl) (.int .i64 n2) (by unfold execOp; simp only [hJ1.eval (k := 0) (v := .int .i64 n2) (by simp)]; rfl) fun a40 h39 => ?_
  refine wpk_val h39 (wanted_none rfl) rfl (by decide) (fr rfl) (.int .i64 (N : Int)) (by unfold execOp; simp only [h39.eval (k := 19) (v := .int .i64 n2) (by simp)]; exact run_v (remIN _ _ n2 N (by omega) hN _)) fun a42 h41 => ?_
  have h43 := h41.subs (l' := [(20, .int .i64 (N : Int)), (19, .int .i64 n2), (5, .pointer (some ⟨pp, 0, none⟩)), (1, .slice a xs.length c)]) rfl
  clear h41
  refine wpk_val h43 (wanted_none rfl) rfl (by decide) (fr rfl) (.int .i64 (N : Int)) (by unfold execOp; simp only [h43.eval (k := 20) (v := .int .i64 (N : Int)) (by simp)]; rfl) fun a45 h44 => ?_
  have h46 := h44.subs (l' := [(0, .int .i64 (N : Int)), (5, .pointer (some ⟨pp, 0, none⟩)), (1, .slice a xs.length c)]) rfl
  clear h44
  go_step
  go_step
  go_step
  have h47 := h46.subs (l' := [(5, .pointer (some ⟨pp, 0, none⟩)), (0, .int .i64 (N : Int)), (1, .slice a xs.length c)]) rfl
  clear h46
  obtain ⟨ys, hys⟩ : ∃ y, y = xs.take 3 := ⟨_, rfl⟩
  have hys3 : ys.length ≤ 3 := by rw [hys, List.length_take]; omega
  have hys : Hid (ys = xs.take 3) := hid hys
  refine wp_join (J := fun a' w' => Kn 93 [(5, .pointer (some ⟨pp, 0, none⟩)), (0, .int .i64 (N : Int)), (1, .slice a ys.length c)] a' ∧ w0 = w') ?_ ?_
  case refine_1 =>
    by_cases hcut : 3 < xs.length
    · have hyl : ys.length = 3 := by rw [hys.out, List.length_take]; omega
      go_step
      go_step
      go_step
      refine wpk_val h47 (wanted_none rfl) rfl (by decide) (fr rfl) (.slice a xs.length c) (by unfold execOp; simp only [h47.eval (k := 1) (v := .slice a xs.length c) (by simp)]; rfl) fun a49 h48 => ?_
      refine wpk_val h48 (wanted_none rfl) rfl (by decide) (fr rfl) (.int .i64 (xs.length : Int)) (run_lenBP rfl (h48.eval (k := 21) (v := .slice a xs.length c) (by simp)) _) fun a51 h50 => ?_
      refine wpk_val h50 (wanted_none rfl) rfl (by decide) (fr rfl) (.bool true) (by unfold execOp; simp only [h50.eval (k := 22) (v := .int .i64 (xs.length : Int)) (by simp)]; exact run_v (gtIP _ _ _ _ _ (decide_eq_true (by omega)))) fun a53 h52 => ?_
      have h54 := h52.subs (l' := [(23, .bool true), (5, .pointer (some ⟨pp, 0, none⟩)), (0, .int .i64 (N : Int)), (1, .slice a xs.length c)]) rfl
      clear h52
      go_step
      go_step
      go_step
      refine wp_cond (t := true) (h54.eval (k := 23) (v := .bool true) (by simp)) ?_
      simp only [if_true]
      have h55 := h54.subs (l' := [(5, .pointer (some ⟨pp, 0, none⟩)), (0, .int .i64 (N : Int)), (1, .slice a xs.length c)]) rfl
      clear h54
      go_step
      refine wpk_val h55 (wanted_none rfl) rfl (by decide) (fr rfl) (.slice a xs.length c) (by unfold execOp; simp only [h55.eval (k := 1) (v := .slice a xs.length c) (by simp)]; rfl) fun a57 h56 => ?_
      refine wpk_val h56 (wanted_none rfl) rfl (by decide) (fr rfl) (.slice a 3 c) (by unfold execOp; simp only [Option.map_some, Option.map_none, h56.eval (k := 24) (v := .slice a xs.length c) (by simp)]; exact run_v ((sliceH HR.out 3 (by omega)).1 _)) fun a59 h58 => ?_
      have h60 := h58.subs (l' := [(25, .slice a 3 c), (24, .slice a xs.length c), (5, .pointer (some ⟨pp, 0, none⟩)), (0, .int .i64 (N : Int))]) rfl
      clear h58
      refine wpk_val h60 (wanted_none rfl) rfl (by decide) (fr rfl) (.slice a 3 c) (by unfold execOp; simp only [h60.eval (k := 25) (v := .slice a 3 c) (by simp)]; rfl) fun a62 h61 => ?_
      have h63 := h61.subs (l' := [(1, .slice a 3 c), (5, .pointer (some ⟨pp, 0, none⟩)), (0, .int .i64 (N : Int))]) rfl
      clear h61
      go_step
      go_step
      rw [← hyl] at h63
      exact ⟨h63.subs rfl, rfl⟩
    · have hyl : ys.length = xs.length := by rw [hys.out, List.length_take]; omega
      go_step
      go_step
      go_step
      refine wpk_val h47 (wanted_none rfl) rfl (by decide) (fr rfl) (.slice a xs.length c) (by unfold execOp; simp only [h47.eval (k := 1) (v := .slice a xs.length c) (by simp)]; rfl) fun a65 h64 => ?_
      refine wpk_val h64 (wanted_none rfl) rfl (by decide) (fr rfl) (.int .i64 (xs.length : Int)) (run_lenBP rfl (h64.eval (k := 21) (v := .slice a xs.length c) (by simp)) _) fun a67 h66 => ?_
      refine wpk_val h66 (wanted_none rfl) rfl (by decide) (fr rfl) (.bool false) (by unfold execOp; simp only [h66.eval (k := 22) (v := .int .i64 (xs.length : Int)) (by simp)]; exact run_v (gtIP _ _ _ _ _ (decide_eq_false (by omega)))) fun a69 h68 => ?_
      have h70 := h68.subs (l' := [(23, .bool false), (5, .pointer (some ⟨pp, 0, none⟩)), (0, .int .i64 (N : Int)), (1, .slice a xs.length c)]) rfl
      clear h68
      go_step
      go_step
      go_step
      refine wp_cond (t := false) (h70.eval (k := 23) (v := .bool false) (by simp)) ?_
      simp only [Bool.false_eq_true, if_false]
      have h71 := h70.subs (l' := [(5, .pointer (some ⟨pp, 0, none⟩)), (0, .int .i64 (N : Int)), (1, .slice a xs.length c)]) rfl
      clear h70
      go_step
      go_step
      rw [← hyl] at h71
      exact ⟨h71.subs rfl, rfl⟩
  rintro aj2 wj2 ⟨hJ2, rfl⟩
  have HRY : Hid (RowB w a c ys) := hid (by rw [hys.out]; exact rowB_take HR.out 3)
  go_step
  go_step
  go_step
  refine wpk_val hJ2 (wanted_none rfl) rfl (by decide) (fr rfl) (.int .i64 0) rfl fun a73 h72 => ?_
  go_step
  go_step
  go_step
  go_step
  refine wp_loop (I := fun a' w' => ∃ (i : Nat) (ta : Option Addr) (tc : Nat), i ≤ N ∧ Kn 93 [(6, .int .i64 (i : Int)), (5, .pointer (some ⟨pp, 0, none⟩)), (0, .int .i64 (N : Int)), (1, .slice a ys.length c)] a' ∧ TxP w' B pp tg g lg v d p dt gr ta tc mem0 (manyP ys i) ∧ Below w.heap.size w w') (μ := fun a' _ => N - (intOf (a'.eval (.tmp 6))).toNat) ⟨0, none, 0, by omega, h72, HP0.out, HB0.out⟩ ?_
  clear HP0 HB0 h72
  rintro aL aw ⟨i, ta, tc, hi, hK, hpa, hba⟩
  have HPa := hid hpa; have HBa := hid hba; clear hpa hba
  have hlen64 : (manyP ys i).length ≤ 64 := by rw [manyP_len]; omega
  have hrow : RowB aw a c ys := HRY.out.below HBa.out
  have hys : ys.length ≤ 1000000 := by omega
  by_cases hlt : i < N
  case pos =>
    by_cases h64 : i < 64
    case pos =>
      go_step
      go_step
      go_step
      go_step
      refine wpk_val hK (wanted_none rfl) rfl (by decide) (fr rfl) (.int .i64 (i : Int)) (by unfold execOp; simp only [hK.eval (k := 6) (v := .int .i64 (i : Int)) (by simp)]; rfl) fun a75 h74 => ?_
      refine wpk_val h74 (wanted_none rfl) rfl (by decide) (fr rfl) (.int .i64 (N : Int)) (by unfold execOp; simp only [h74.eval (k := 0) (v := .int .i64 (N : Int)) (by simp)]; rfl) fun a77 h76 => ?_
      refine wpk_val h76 (wanted_none rfl) rfl (by decide) (fr rfl) (.bool true) (by unfold execOp; simp only [h76.eval (k := 26) (v := .int .i64 (i : Int)) (by simp), h76.eval (k := 27) (v := .int .i64 (N : Int)) (by simp)]; exact run_v (ltIP _ _ _ _ _ (decide_eq_true (by omega)))) fun a79 h78 => ?_
      have h80 := h78.subs (l' := [(28, .bool true), (6, .int .i64 (i : Int)), (5, .pointer (some ⟨pp, 0, none⟩)), (0, .int .i64 (N : Int)), (1, .slice a ys.length c)]) rfl
      clear h78
      go_step
      go_step
      go_step
      refine wp_cond (t := true) (h80.eval (k := 28) (v := .bool true) (by simp)) ?_
      simp only [if_true]
      have h81 := h80.subs (l' := [(6, .int .i64 (i : Int)), (5, .pointer (some ⟨pp, 0, none⟩)), (0, .int .i64 (N : Int)), (1, .slice a ys.length c)]) rfl
      clear h80
      go_step
      go_step
      go_step
      go_step
      go_step
      go_step
      go_step
      refine wpk_val h81 (wanted_none rfl) rfl (by decide) (fr rfl) (.pointer (some ⟨pp, 0, none⟩)) (by unfold execOp; simp only [h81.eval (k := 5) (v := .pointer (some ⟨pp, 0, none⟩)) (by simp)]; rfl) fun a83 h82 => ?_
      refine wpk_val h82 (wanted_none rfl) rfl (by decide) (fr rfl) (.pointer (some ⟨pp, 0, none⟩)) (by unfold execOp; simp only [h82.eval (k := 31) (v := .pointer (some ⟨pp, 0, none⟩)) (by simp)]; exact rfl) fun a85 h84 => ?_
      refine wpk_val h84 (wanted_none rfl) rfl (by decide) (fr rfl) (.pointer (some ⟨pp, 2, none⟩)) (by unfold execOp; simp only [h84.eval (k := 32) (v := .pointer (some ⟨pp, 0, none⟩)) (by simp)]; exact run_v (faT_32_0_2 (pp) _)) fun a87 h86 => ?_
      refine wpk_val h86 (wanted_none rfl) rfl (by decide) (fr rfl) (.pointer (some ⟨tg, 0, none⟩)) (by unfold execOp; simp only [h86.eval (k := 33) (v := .pointer (some ⟨pp, 2, none⟩)) (by simp)]; exact run_v (loadTP (HPa.out.cells.2))) fun a89 h88 => ?_
      refine wpk_val h88 (wanted_none rfl) rfl (by decide) (fr rfl) (.int .i64 (i : Int)) (by unfold execOp; simp only [h88.eval (k := 6) (v := .int .i64 (i : Int)) (by simp)]; rfl) fun a91 h90 => ?_
      refine wpk_val h90 (wanted_none rfl) rfl (by decide) (fr rfl) (.slice a ys.length c) (by unfold execOp; simp only [h90.eval (k := 1) (v := .slice a ys.length c) (by simp)]; rfl) fun a93 h92 => ?_
      refine wpk_call h92 (wanted_none rfl) rfl (by decide) (fr rfl) (fun args => callT_6 args _) rfl #[.pointer (some ⟨tg, 0, none⟩), .int .i64 (i : Int), .slice a ys.length c] (by simp only [List.map_toArray, List.map_cons, List.map_nil, h92.eval (k := 34) (v := .pointer (some ⟨tg, 0, none⟩)) (by simp), h92.eval (k := 35) (v := .int .i64 (i : Int)) (by simp), h92.eval (k := 36) (v := .slice a ys.length c) (by simp)]) (R := fun v' w' => v' = .int .i64 (if i < 64 then 0 else 1) ∧ ∃ ta tc, TxP w' B pp tg g lg v d p dt gr ta tc mem0 (manyP ys (i + 1)) ∧ Turns (fun k => k = tg ∨ B ≤ k) aw w') ((HPa.out.store (by rw [mem0_len]; omega) hlen64 hrow hys (at_ := (i : Int)) (by unfold i64B; omega)).mono fun e w' q => by rw [many_err hys3 (by omega), many_put hys3 (by omega)] at q; exact ⟨_, q.1, rfl, q.2⟩) fun a95 v1 w1 r1 h94 => ?_
      obtain ⟨rfl, ta1, tc1, hp1, ht1⟩ := r1; have HP1 := hid hp1; have HB1 := hid (HBa.out.trans (ht1.below (B := w.heap.size) HBa.out.size (fun k hk => by have z := hn.out; omega))); clear hp1 ht1
      rw [if_pos (by omega : i < 64)] at h94
      refine wpk_val h94 (wanted_none rfl) rfl (by decide) (fr rfl) (.int .i64 0) (by unfold execOp; simp only [h94.eval (k := 37) (v := .int .i64 0) (by simp)]; rfl) fun a97 h96 => ?_
      have h98 := h96.subs (l' := [(7, .int .i64 0), (6, .int .i64 (i : Int)), (5, .pointer (some ⟨pp, 0, none⟩)), (0, .int .i64 (N : Int)), (1, .slice a ys.length c)]) rfl
      clear h96
      go_step
      go_step
      go_step
      go_step
      go_step
      refine wpk_val h98 (wanted_none rfl) rfl (by decide) (fr rfl) (.int .i64 0) (by unfold execOp; simp only [h98.eval (k := 7) (v := .int .i64 0) (by simp)]; rfl) fun a100 h99 => ?_
      refine wpk_val h99 (wanted_none rfl) rfl (by decide) (fr rfl) (.bool true) (by unfold execOp; simp only [h99.eval (k := 38) (v := .int .i64 0) (by simp)]; exact run_v (eqEP _ _ _ _ _ (beq_iff_eq.2 (by omega)))) fun a102 h101 => ?_
      refine wpk_val h101 (wanted_none rfl) rfl (by decide) (fr rfl) (.int .i64 (i : Int)) (by unfold execOp; simp only [h101.eval (k := 6) (v := .int .i64 (i : Int)) (by simp)]; rfl) fun a104 h103 => ?_
      refine wpk_val h103 (wanted_none rfl) rfl (by decide) (fr rfl) (.bool true) (by unfold execOp; simp only [h103.eval (k := 40) (v := .int .i64 (i : Int)) (by simp)]; exact run_v (ltIP _ _ _ _ _ (decide_eq_true (by omega)))) fun a106 h105 => ?_
      refine wpk_val h105 (wanted_none rfl) rfl (by decide) (fr rfl) (.bool false) (by unfold execOp; simp only [h105.eval (k := 39) (v := .bool true) (by simp), h105.eval (k := 41) (v := .bool true) (by simp)]; exact run_v (neqBT _ _ true true _ rfl)) fun a108 h107 => ?_
      refine wpk_val h107 (wanted_none rfl) rfl (by decide) (fr rfl) (.bool false) (by unfold execOp; simp only [h107.eval (k := 42) (v := .bool false) (by simp)]; rfl) fun a110 h109 => ?_
      refine wpk_val h109 (by rw [wanted_of (g := 5) (want := false) (b := false) rfl (h109.yields (prev := 43) rfl (by simp))]; rfl) rfl (by decide) (fr rfl) (.int .i64 0) (by unfold execOp; simp only [h109.eval (k := 7) (v := .int .i64 0) (by simp)]; rfl) fun a112 h111 => ?_
      refine wpk_val h111 (by rw [wanted_of (g := 5) (want := false) (b := false) rfl (h111.yields (prev := 43) rfl (by simp))]; rfl) rfl (by decide) (fr rfl) (.bool false) (by unfold execOp; simp only [h111.eval (k := 44) (v := .int .i64 0) (by simp)]; exact run_v (neEP _ _ _ _ _ (bne_eq_false_iff_eq.2 (by omega)))) fun a114 h113 => ?_
      refine wpk_val h113 (by rw [wanted_of (g := 5) (want := false) (b := false) rfl (h113.yields (prev := 43) rfl (by simp))]; rfl) rfl (by decide) (fr rfl) (.bool false) (by unfold execOp; simp only [h113.eval (k := 45) (v := .bool false) (by simp)]; rfl) fun a116 h115 => ?_
      refine wpk_skip h115 (by rw [wanted_of (g := 8) (want := true) (b := false) rfl (h115.yields (prev := 46) rfl (by simp))]; rfl) rfl (by decide) (fr rfl) fun a118 h117 => ?_
      refine wpk_skip h117 (by rw [wanted_of (g := 8) (want := true) (b := false) rfl (h117.yields (prev := 46) rfl (by simp))]; rfl) rfl (by decide) (fr rfl) fun a120 h119 => ?_
      refine wpk_val h119 (by rw [wanted_of (g := 5) (want := false) (b := false) rfl (h119.yields (prev := 43) rfl (by simp))]; rfl) rfl (by decide) (fr rfl) (.bool false) (run_pick rfl (h119.eval (k := 46) (v := .bool false) (by simp)) rfl) fun a122 h121 => ?_
      refine wpk_val h121 (wanted_none rfl) rfl (by decide) (fr rfl) (.bool false) (run_pick rfl (h121.eval (k := 43) (v := .bool false) (by simp)) (by rw [if_neg (by simp)]; exact h121.eval (k := 49) (v := .bool false) (by simp))) fun a124 h123 => ?_
      have h125 := h123.subs (l' := [(50, .bool false), (7, .int .i64 0), (6, .int .i64 (i : Int)), (5, .pointer (some ⟨pp, 0, none⟩)), (0, .int .i64 (N : Int)), (1, .slice a ys.length c)]) rfl
      clear h123
      go_step
      go_step
      go_step
      refine wp_cond (t := false) (h125.eval (k := 50) (v := .bool false) (by simp)) ?_
      simp only [Bool.false_eq_true, if_false]
      have h126 := h125.subs (l' := [(7, .int .i64 0), (6, .int .i64 (i : Int)), (5, .pointer (some ⟨pp, 0, none⟩)), (0, .int .i64 (N : Int)), (1, .slice a ys.length c)]) rfl
      clear h125
      go_step
      go_step
      go_step
      go_step
      refine wpk_val h126 (wanted_none rfl) rfl (by decide) (fr rfl) (.int .i64 (i : Int)) (by unfold execOp; simp only [h126.eval (k := 6) (v := .int .i64 (i : Int)) (by simp)]; rfl) fun a128 h127 => ?_
      refine wpk_val h127 (wanted_none rfl) rfl (by decide) (fr rfl) (.int .i64 ((i + 1 : Nat) : Int)) (by unfold execOp; simp only [h127.eval (k := 29) (v := .int .i64 (i : Int)) (by simp)]; exact run_v (addNP _ _ _ _ _ (by omega) (by omega) (by omega) _)) fun a130 h129 => ?_
      have h131 := h129.subs (l' := [(30, .int .i64 ((i + 1 : Nat) : Int)), (29, .int .i64 (i : Int)), (7, .int .i64 0), (5, .pointer (some ⟨pp, 0, none⟩)), (0, .int .i64 (N : Int)), (1, .slice a ys.length c)]) rfl
      clear h129
      refine wpk_val h131 (wanted_none rfl) rfl (by decide) (fr rfl) (.int .i64 ((i + 1 : Nat) : Int)) (by unfold execOp; simp only [h131.eval (k := 30) (v := .int .i64 ((i + 1 : Nat) : Int)) (by simp)]; rfl) fun a133 h132 => ?_
      have h134 := h132.subs (l' := [(6, .int .i64 ((i + 1 : Nat) : Int)), (7, .int .i64 0), (5, .pointer (some ⟨pp, 0, none⟩)), (0, .int .i64 (N : Int)), (1, .slice a ys.length c)]) rfl
      clear h132
      go_step
      go_step
      refine ⟨⟨i + 1, ta1, tc1, by omega, h134.subs rfl, HP1.out, HB1.out⟩, ?_⟩
      rw [h134.eval (k := 6) (v := .int .i64 ((i + 1 : Nat) : Int)) (by simp), hK.eval (k := 6) (v := .int .i64 (i : Int)) (by simp)]; simp [intOf]; omega
    case neg =>
      go_step
      go_step
      go_step
      go_step
      refine wpk_val hK (wanted_none rfl) rfl (by decide) (fr rfl) (.int .i64 (i : Int)) (by unfold execOp; simp only [hK.eval (k := 6) (v := .int .i64 (i : Int)) (by simp)]; rfl) fun a136 h135 => ?_
      refine wpk_val h135 (wanted_none rfl) rfl (by decide) (fr rfl) (.int .i64 (N : Int)) (by unfold execOp; simp only [h135.eval (k := 0) (v := .int .i64 (N : Int)) (by simp)]; rfl) fun a138 h137 => ?_
      refine wpk_val h137 (wanted_none rfl) rfl (by decide) (fr rfl) (.bool true) (by unfold execOp; simp only [h137.eval (k := 26) (v := .int .i64 (i : Int)) (by simp), h137.eval (k := 27) (v := .int .i64 (N : Int)) (by simp)]; exact run_v (ltIP _ _ _ _ _ (decide_eq_true (by omega)))) fun a140 h139 => ?_
      have h141 := h139.subs (l' := [(28, .bool true), (6, .int .i64 (i : Int)), (5, .pointer (some ⟨pp, 0, none⟩)), (0, .int .i64 (N : Int)), (1, .slice a ys.length c)]) rfl
      clear h139
      go_step
      go_step
      go_step
      refine wp_cond (t := true) (h141.eval (k := 28) (v := .bool true) (by simp)) ?_
      simp only [if_true]
      have h142 := h141.subs (l' := [(6, .int .i64 (i : Int)), (5, .pointer (some ⟨pp, 0, none⟩)), (0, .int .i64 (N : Int)), (1, .slice a ys.length c)]) rfl
      clear h141
      go_step
      go_step
      go_step
      go_step
      go_step
      go_step
      go_step
      refine wpk_val h142 (wanted_none rfl) rfl (by decide) (fr rfl) (.pointer (some ⟨pp, 0, none⟩)) (by unfold execOp; simp only [h142.eval (k := 5) (v := .pointer (some ⟨pp, 0, none⟩)) (by simp)]; rfl) fun a144 h143 => ?_
      refine wpk_val h143 (wanted_none rfl) rfl (by decide) (fr rfl) (.pointer (some ⟨pp, 0, none⟩)) (by unfold execOp; simp only [h143.eval (k := 31) (v := .pointer (some ⟨pp, 0, none⟩)) (by simp)]; exact rfl) fun a146 h145 => ?_
      refine wpk_val h145 (wanted_none rfl) rfl (by decide) (fr rfl) (.pointer (some ⟨pp, 2, none⟩)) (by unfold execOp; simp only [h145.eval (k := 32) (v := .pointer (some ⟨pp, 0, none⟩)) (by simp)]; exact run_v (faT_32_0_2 (pp) _)) fun a148 h147 => ?_
      refine wpk_val h147 (wanted_none rfl) rfl (by decide) (fr rfl) (.pointer (some ⟨tg, 0, none⟩)) (by unfold execOp; simp only [h147.eval (k := 33) (v := .pointer (some ⟨pp, 2, none⟩)) (by simp)]; exact run_v (loadTP (HPa.out.cells.2))) fun a150 h149 => ?_
      refine wpk_val h149 (wanted_none rfl) rfl (by decide) (fr rfl) (.int .i64 (i : Int)) (by unfold execOp; simp only [h149.eval (k := 6) (v := .int .i64 (i : Int)) (by simp)]; rfl) fun a152 h151 => ?_
      refine wpk_val h151 (wanted_none rfl) rfl (by decide) (fr rfl) (.slice a ys.length c) (by unfold execOp; simp only [h151.eval (k := 1) (v := .slice a ys.length c) (by simp)]; rfl) fun a154 h153 => ?_
      refine wpk_call h153 (wanted_none rfl) rfl (by decide) (fr rfl) (fun args => callT_6 args _) rfl #[.pointer (some ⟨tg, 0, none⟩), .int .i64 (i : Int), .slice a ys.length c] (by simp only [List.map_toArray, List.map_cons, List.map_nil, h153.eval (k := 34) (v := .pointer (some ⟨tg, 0, none⟩)) (by simp), h153.eval (k := 35) (v := .int .i64 (i : Int)) (by simp), h153.eval (k := 36) (v := .slice a ys.length c) (by simp)]) (R := fun v' w' => v' = .int .i64 (if i < 64 then 0 else 1) ∧ ∃ ta tc, TxP w' B pp tg g lg v d p dt gr ta tc mem0 (manyP ys (i + 1)) ∧ Turns (fun k => k = tg ∨ B ≤ k) aw w') ((HPa.out.store (by rw [mem0_len]; omega) hlen64 hrow hys (at_ := (i : Int)) (by unfold i64B; omega)).mono fun e w' q => by rw [many_err hys3 (by omega), many_put hys3 (by omega)] at q; exact ⟨_, q.1, rfl, q.2⟩) fun a156 v1 w1 r1 h155 => ?_
      obtain ⟨rfl, ta1, tc1, hp1, ht1⟩ := r1; have HP1 := hid hp1; have HB1 := hid (HBa.out.trans (ht1.below (B := w.heap.size) HBa.out.size (fun k hk => by have z := hn.out; omega))); clear hp1 ht1
      rw [if_neg (by omega : ¬ i < 64)] at h155
      refine wpk_val h155 (wanted_none rfl) rfl (by decide) (fr rfl) (.int .i64 1) (by unfold execOp; simp only [h155.eval (k := 37) (v := .int .i64 1) (by simp)]; rfl) fun a158 h157 => ?_
      have h159 := h157.subs (l' := [(7, .int .i64 1), (6, .int .i64 (i : Int)), (5, .pointer (some ⟨pp, 0, none⟩)), (0, .int .i64 (N : Int)), (1, .slice a ys.length c)]) rfl
      clear h157
      go_step
      go_step
      go_step
      go_step
      go_step
      refine wpk_val h159 (wanted_none rfl) rfl (by decide) (fr rfl) (.int .i64 1) (by unfold execOp; simp only [h159.eval (k := 7) (v := .int .i64 1) (by simp)]; rfl) fun a161 h160 => ?_
      refine wpk_val h160 (wanted_none rfl) rfl (by decide) (fr rfl) (.bool false) (by unfold execOp; simp only [h160.eval (k := 38) (v := .int .i64 1) (by simp)]; exact run_v (eqEP _ _ _ _ _ (beq_eq_false_iff_ne.2 (by omega)))) fun a163 h162 => ?_
      refine wpk_val h162 (wanted_none rfl) rfl (by decide) (fr rfl) (.int .i64 (i : Int)) (by unfold execOp; simp only [h162.eval (k := 6) (v := .int .i64 (i : Int)) (by simp)]; rfl) fun a165 h164 => ?_
      refine wpk_val h164 (wanted_none rfl) rfl (by decide) (fr rfl) (.bool false) (by unfold execOp; simp only [h164.eval (k := 40) (v := .int .i64 (i : Int)) (by simp)]; exact run_v (ltIP _ _ _ _ _ (decide_eq_false (by omega)))) fun a167 h166 => ?_
      refine wpk_val h166 (wanted_none rfl) rfl (by decide) (fr rfl) (.bool false) (by unfold execOp; simp only [h166.eval (k := 39) (v := .bool false) (by simp), h166.eval (k := 41) (v := .bool false) (by simp)]; exact run_v (neqBT _ _ false false _ rfl)) fun a169 h168 => ?_
      refine wpk_val h168 (wanted_none rfl) rfl (by decide) (fr rfl) (.bool false) (by unfold execOp; simp only [h168.eval (k := 42) (v := .bool false) (by simp)]; rfl) fun a171 h170 => ?_
      refine wpk_val h170 (by rw [wanted_of (g := 5) (want := false) (b := false) rfl (h170.yields (prev := 43) rfl (by simp))]; rfl) rfl (by decide) (fr rfl) (.int .i64 1) (by unfold execOp; simp only [h170.eval (k := 7) (v := .int .i64 1) (by simp)]; rfl) fun a173 h172 => ?_
      refine wpk_val h172 (by rw [wanted_of (g := 5) (want := false) (b := false) rfl (h172.yields (prev := 43) rfl (by simp))]; rfl) rfl (by decide) (fr rfl) (.bool true) (by unfold execOp; simp only [h172.eval (k := 44) (v := .int .i64 1) (by simp)]; exact run_v (neEP _ _ _ _ _ (bne_iff_ne.2 (by omega)))) fun a175 h174 => ?_
      refine wpk_val h174 (by rw [wanted_of (g := 5) (want := false) (b := false) rfl (h174.yields (prev := 43) rfl (by simp))]; rfl) rfl (by decide) (fr rfl) (.bool true) (by unfold execOp; simp only [h174.eval (k := 45) (v := .bool true) (by simp)]; rfl) fun a177 h176 => ?_
      refine wpk_val h176 (by rw [wanted_of (g := 8) (want := true) (b := true) rfl (h176.yields (prev := 46) rfl (by simp))]; rfl) rfl (by decide) (fr rfl) (.int .i64 1) (by unfold execOp; simp only [h176.eval (k := 7) (v := .int .i64 1) (by simp)]; rfl) fun a179 h178 => ?_
      refine wpk_val h178 (by rw [wanted_of (g := 8) (want := true) (b := true) rfl (h178.yields (prev := 46) rfl (by simp))]; rfl) rfl (by decide) (fr rfl) (.bool false) (by unfold execOp; simp only [h178.eval (k := 47) (v := .int .i64 1) (by simp)]; exact run_v (neEP _ _ _ _ _ (bne_eq_false_iff_eq.2 (by omega)))) fun a181 h180 => ?_
      refine wpk_val h180 (by rw [wanted_of (g := 5) (want := false) (b := false) rfl (h180.yields (prev := 43) rfl (by simp))]; rfl) rfl (by decide) (fr rfl) (.bool false) (run_pick rfl (h180.eval (k := 46) (v := .bool true) (by simp)) (by rw [if_pos rfl]; exact h180.eval (k := 48) (v := .bool false) (by simp))) fun a183 h182 => ?_
      refine wpk_val h182 (wanted_none rfl) rfl (by decide) (fr rfl) (.bool false) (run_pick rfl (h182.eval (k := 43) (v := .bool false) (by simp)) (by rw [if_neg (by simp)]; exact h182.eval (k := 49) (v := .bool false) (by simp))) fun a185 h184 => ?_
      have h186 := h184.subs (l' := [(50, .bool false), (7, .int .i64 1), (6, .int .i64 (i : Int)), (5, .pointer (some ⟨pp, 0, none⟩)), (0, .int .i64 (N : Int)), (1, .slice a ys.length c)]) rfl
      clear h184
      go_step
      go_step
      go_step
      refine wp_cond (t := false) (h186.eval (k := 50) (v := .bool false) (by simp)) ?_
      simp only [Bool.false_eq_true, if_false]
      have h187 := h186.subs (l' := [(7, .int .i64 1), (6, .int .i64 (i : Int)), (5, .pointer (some ⟨pp, 0, none⟩)), (0, .int .i64 (N : Int)), (1, .slice a ys.length c)]) rfl
      clear h186
      go_step
      go_step
      go_step
      go_step
      refine wpk_val h187 (wanted_none rfl) rfl (by decide) (fr rfl) (.int .i64 (i : Int)) (by unfold execOp; simp only [h187.eval (k := 6) (v := .int .i64 (i : Int)) (by simp)]; rfl) fun a189 h188 => ?_
      refine wpk_val h188 (wanted_none rfl) rfl (by decide) (fr rfl) (.int .i64 ((i + 1 : Nat) : Int)) (by unfold execOp; simp only [h188.eval (k := 29) (v := .int .i64 (i : Int)) (by simp)]; exact run_v (addNP _ _ _ _ _ (by omega) (by omega) (by omega) _)) fun a191 h190 => ?_
      have h192 := h190.subs (l' := [(30, .int .i64 ((i + 1 : Nat) : Int)), (29, .int .i64 (i : Int)), (7, .int .i64 1), (5, .pointer (some ⟨pp, 0, none⟩)), (0, .int .i64 (N : Int)), (1, .slice a ys.length c)]) rfl
      clear h190
      refine wpk_val h192 (wanted_none rfl) rfl (by decide) (fr rfl) (.int .i64 ((i + 1 : Nat) : Int)) (by unfold execOp; simp only [h192.eval (k := 30) (v := .int .i64 ((i + 1 : Nat) : Int)) (by simp)]; rfl) fun a194 h193 => ?_
      have h195 := h193.subs (l' := [(6, .int .i64 ((i + 1 : Nat) : Int)), (7, .int .i64 1), (5, .pointer (some ⟨pp, 0, none⟩)), (0, .int .i64 (N : Int)), (1, .slice a ys.length c)]) rfl
      clear h193
      go_step
      go_step
      refine ⟨⟨i + 1, ta1, tc1, by omega, h195.subs rfl, HP1.out, HB1.out⟩, ?_⟩
      rw [h195.eval (k := 6) (v := .int .i64 ((i + 1 : Nat) : Int)) (by simp), hK.eval (k := 6) (v := .int .i64 (i : Int)) (by simp)]; simp [intOf]; omega
  go_step
  go_step
  go_step
  go_step
  refine wpk_val hK (wanted_none rfl) rfl (by decide) (fr rfl) (.int .i64 (i : Int)) (by unfold execOp; simp only [hK.eval (k := 6) (v := .int .i64 (i : Int)) (by simp)]; rfl) fun a197 h196 => ?_
  refine wpk_val h196 (wanted_none rfl) rfl (by decide) (fr rfl) (.int .i64 (N : Int)) (by unfold execOp; simp only [h196.eval (k := 0) (v := .int .i64 (N : Int)) (by simp)]; rfl) fun a199 h198 => ?_
  refine wpk_val h198 (wanted_none rfl) rfl (by decide) (fr rfl) (.bool false) (by unfold execOp; simp only [h198.eval (k := 26) (v := .int .i64 (i : Int)) (by simp), h198.eval (k := 27) (v := .int .i64 (N : Int)) (by simp)]; exact run_v (ltIP _ _ _ _ _ (decide_eq_false (by omega)))) fun a201 h200 => ?_
  have h202 := h200.subs (l' := [(28, .bool false), (6, .int .i64 (i : Int)), (5, .pointer (some ⟨pp, 0, none⟩)), (0, .int .i64 (N : Int)), (1, .slice a ys.length c)]) rfl
  clear h200
  go_step
  go_step
  go_step
  refine wp_cond (t := false) (h202.eval (k := 28) (v := .bool false) (by simp)) ?_
  simp only [Bool.false_eq_true, if_false]
  have h203 := h202.subs (l' := [(6, .int .i64 (i : Int)), (5, .pointer (some ⟨pp, 0, none⟩)), (0, .int .i64 (N : Int)), (1, .slice a ys.length c)]) rfl
  clear h202
  go_step
  go_step
  go_step
  go_step
  go_step
  obtain rfl : N = i := by omega
  go_step
  go_step
  refine wpk_val h203 (wanted_none rfl) rfl (by decide) (fr rfl) (.pointer (some ⟨pp, 0, none⟩)) (by unfold execOp; simp only [h203.eval (k := 5) (v := .pointer (some ⟨pp, 0, none⟩)) (by simp)]; rfl) fun a205 h204 => ?_
  refine wpk_val h204 (wanted_none rfl) rfl (by decide) (fr rfl) (.pointer (some ⟨pp, 0, none⟩)) (by unfold execOp; simp only [h204.eval (k := 51) (v := .pointer (some ⟨pp, 0, none⟩)) (by simp)]; exact rfl) fun a207 h206 => ?_
  refine wpk_val h206 (wanted_none rfl) rfl (by decide) (fr rfl) (.pointer (some ⟨pp, 2, none⟩)) (by unfold execOp; simp only [h206.eval (k := 52) (v := .pointer (some ⟨pp, 0, none⟩)) (by simp)]; exact run_v (faT_32_0_2 (pp) _)) fun a209 h208 => ?_
  refine wpk_val h208 (wanted_none rfl) rfl (by decide) (fr rfl) (.pointer (some ⟨tg, 0, none⟩)) (by unfold execOp; simp only [h208.eval (k := 53) (v := .pointer (some ⟨pp, 2, none⟩)) (by simp)]; exact run_v (loadTP (HPa.out.cells.2))) fun a211 h210 => ?_
  refine wpk_call h210 (wanted_none rfl) rfl (by decide) (fr rfl) (fun args => callT_7 args _) rfl #[.pointer (some ⟨tg, 0, none⟩)] (by simp only [List.map_toArray, List.map_cons, List.map_nil, h210.eval (k := 54) (v := .pointer (some ⟨tg, 0, none⟩)) (by simp)]) (R := fun v' w' => ∃ la lc, v' = .slice la (manyP ys N).length lc ∧ OwnPt w' aw.heap.size la lc (manyP ys N) ∧ Below aw.heap.size aw w') ((patches_any HPa.out.t HPa.out.o.row (by rw [manyP_len]; omega)).mono fun e w' q => by obtain ⟨x, y, q1, q2⟩ := q; exact ⟨_, q1, x, y, rfl, q2⟩) fun a213 v2 w2 r2 h212 => ?_
  obtain ⟨la, lc, rfl, o2, b2⟩ := r2; have HO2 := hid o2.row; have HB2 := hid (kept_trans HBa.out b2); clear o2 b2
  refine wpk_val h212 (wanted_none rfl) rfl (by decide) (fr rfl) (.slice la (manyP ys N).length lc) (by unfold execOp; simp only [h212.eval (k := 55) (v := .slice la (manyP ys N).length lc) (by simp)]; rfl) fun a215 h214 => ?_
  have h216 := h214.subs (l' := [(8, .slice la (manyP ys N).length lc), (6, .int .i64 (N : Int)), (5, .pointer (some ⟨pp, 0, none⟩)), (0, .int .i64 (N : Int)), (1, .slice a ys.length c)]) rfl
  clear h214
  go_step
  go_step
  go_step
  go_step
  go_step
  refine wpk_val h216 (wanted_none rfl) rfl (by decide) (fr rfl) (.int .i64 (N : Int)) (by unfold execOp; simp only [h216.eval (k := 0) (v := .int .i64 (N : Int)) (by simp)]; rfl) fun a218 h217 => ?_
  refine wpk_val h217 (wanted_none rfl) rfl (by decide) (fr rfl) (.int .i64 (N : Int)) (by unfold execOp; simp only [h217.eval (k := 56) (v := .int .i64 (N : Int)) (by simp)]; rfl) fun a220 h219 => ?_
  have h221 := h219.subs (l' := [(9, .int .i64 (N : Int)), (8, .slice la (manyP ys N).length lc), (6, .int .i64 (N : Int)), (5, .pointer (some ⟨pp, 0, none⟩)), (0, .int .i64 (N : Int)), (1, .slice a ys.length c)]) rfl
  clear h219
  go_step
  go_step
  go_step
  have h222 := h221.subs (l' := [(8, .slice la (manyP ys N).length lc), (9, .int .i64 (N : Int)), (0, .int .i64 (N : Int)), (1, .slice a ys.length c)]) rfl
  clear h221
  refine wp_join (J := fun a' w' => Kn 93 [(8, .slice la (manyP ys N).length lc), (9, .int .i64 ((min N 64 : Nat) : Int)), (0, .int .i64 (N : Int)), (1, .slice a ys.length c)] a' ∧ w2 = w') ?_ ?_
  case refine_1 =>
    by_cases hbig : 64 < N
    · have hm : ((min N 64 : Nat) : Int) = 64 := by omega
      go_step
      go_step
      go_step
      refine wpk_val h222 (wanted_none rfl) rfl (by decide) (fr rfl) (.int .i64 (N : Int)) (by unfold execOp; simp only [h222.eval (k := 0) (v := .int .i64 (N : Int)) (by simp)]; rfl) fun a224 h223 => ?_
      refine wpk_val h223 (wanted_none rfl) rfl (by decide) (fr rfl) (.bool true) (by unfold execOp; simp only [h223.eval (k := 57) (v := .int .i64 (N : Int)) (by simp)]; exact run_v (gtIP _ _ _ _ _ (decide_eq_true (by omega)))) fun a226 h225 => ?_
      have h227 := h225.subs (l' := [(58, .bool true), (8, .slice la (manyP ys N).length lc), (9, .int .i64 (N : Int)), (0, .int .i64 (N : Int)), (1, .slice a ys.length c)]) rfl
      clear h225
      go_step
      go_step
      go_step
      refine wp_cond (t := true) (h227.eval (k := 58) (v := .bool true) (by simp)) ?_
      simp only [if_true]
      have h228 := h227.subs (l' := [(8, .slice la (manyP ys N).length lc), (9, .int .i64 (N : Int)), (0, .int .i64 (N : Int)), (1, .slice a ys.length c)]) rfl
      clear h227
      go_step
      have h229 := h228.subs (l' := [(8, .slice la (manyP ys N).length lc), (0, .int .i64 (N : Int)), (1, .slice a ys.length c)]) rfl
      clear h228
      refine wpk_val h229 (wanted_none rfl) rfl (by decide) (fr rfl) (.int .i64 64) rfl fun a231 h230 => ?_
      go_step
      go_step
      rw [hm]
      exact ⟨h230.subs rfl, rfl⟩
    · have hm : ((min N 64 : Nat) : Int) = (N : Int) := by omega
      go_step
      go_step
      go_step
      refine wpk_val h222 (wanted_none rfl) rfl (by decide) (fr rfl) (.int .i64 (N : Int)) (by unfold execOp; simp only [h222.eval (k := 0) (v := .int .i64 (N : Int)) (by simp)]; rfl) fun a233 h232 => ?_
      refine wpk_val h232 (wanted_none rfl) rfl (by decide) (fr rfl) (.bool false) (by unfold execOp; simp only [h232.eval (k := 57) (v := .int .i64 (N : Int)) (by simp)]; exact run_v (gtIP _ _ _ _ _ (decide_eq_false (by omega)))) fun a235 h234 => ?_
      have h236 := h234.subs (l' := [(58, .bool false), (8, .slice la (manyP ys N).length lc), (9, .int .i64 (N : Int)), (0, .int .i64 (N : Int)), (1, .slice a ys.length c)]) rfl
      clear h234
      go_step
      go_step
      go_step
      refine wp_cond (t := false) (h236.eval (k := 58) (v := .bool false) (by simp)) ?_
      simp only [Bool.false_eq_true, if_false]
      have h237 := h236.subs (l' := [(8, .slice la (manyP ys N).length lc), (9, .int .i64 (N : Int)), (0, .int .i64 (N : Int)), (1, .slice a ys.length c)]) rfl
      clear h236
      go_step
      go_step
      rw [hm]
      exact ⟨h237.subs rfl, rfl⟩
  rintro aj3 wj3 ⟨hJ3, rfl⟩
  go_step
  go_step
  go_step
  refine wpk_val hJ3 (wanted_none rfl) rfl (by decide) (fr rfl) (.int .i64 0) rfl fun a239 h238 => ?_
  go_step
  go_step
  go_step
  go_step
  refine wp_loop (I := fun a' w' => ∃ (k : Nat), k ≤ (manyP ys N).length ∧ Kn 93 [(10, .int .i64 (k : Int)), (8, .slice la (manyP ys N).length lc), (9, .int .i64 ((min N 64 : Nat) : Int)), (0, .int .i64 (N : Int)), (1, .slice a ys.length c)] a' ∧ RowPt w' la lc (manyP ys N) ∧ Below w.heap.size w w') (μ := fun a' _ => (manyP ys N).length - (intOf (a'.eval (.tmp 10))).toNat) ⟨0, by omega, h238, HO2.out, HB2.out⟩ ?_
  clear HO2 HB2 h238
  rintro aM wm ⟨k, hk, hM, hom, hbm⟩
  have HOm := hid hom; have HBm := hid hbm; clear hom hbm
  by_cases hltk : k < (manyP ys N).length
  case pos =>
    obtain ⟨qb, qo, hqa, hrg⟩ := rowPt_at HOm.out (by omega)
    have hck : wm.drew.cell? ⟨qb, qo + k * 2, none⟩ = some (.int .i64 (k : Int)) ∧ wm.drew.cell? ⟨qb, qo + k * 2 + 1, none⟩ = some (strB ys) := by
      have z := hrg k hltk; rw [manyP_get hltk] at z; exact ⟨z 0 _ rfl, z 1 _ rfl⟩
    have hst : (convert 22 9 (.slice a ys.length c)).run Tryd.prog wm.drew = .ok (strB ys) wm.drew := run_str ((HRY.out.below HBm.out).mono (Below.refl _ _).drew)
    go_step
    go_step
    go_step
    go_step
    refine wpk_val hM (wanted_none rfl) rfl (by decide) (fr rfl) (.int .i64 (k : Int)) (by unfold execOp; simp only [hM.eval (k := 10) (v := .int .i64 (k : Int)) (by simp)]; rfl) fun a241 h240 => ?_
    refine wpk_val h240 (wanted_none rfl) rfl (by decide) (fr rfl) (.slice la (manyP ys N).length lc) (by unfold execOp; simp only [h240.eval (k := 8) (v := .slice la (manyP ys N).length lc) (by simp)]; rfl) fun a243 h242 => ?_
    refine wpk_val h242 (wanted_none rfl) rfl (by decide) (fr rfl) (.int .i64 (manyP ys N).length) (run_lenP rfl (h242.eval (k := 60) (v := .slice la (manyP ys N).length lc) (by simp)) _) fun a245 h244 => ?_
    refine wpk_val h244 (wanted_none rfl) rfl (by decide) (fr rfl) (.bool true) (by unfold execOp; simp only [h244.eval (k := 59) (v := .int .i64 (k : Int)) (by simp), h244.eval (k := 61) (v := .int .i64 (manyP ys N).length) (by simp)]; exact run_v (ltIP _ _ _ _ _ (decide_eq_true (by omega)))) fun a247 h246 => ?_
    have h248 := h246.subs (l' := [(62, .bool true), (10, .int .i64 (k : Int)), (8, .slice la (manyP ys N).length lc), (9, .int .i64 ((min N 64 : Nat) : Int)), (0, .int .i64 (N : Int)), (1, .slice a ys.length c)]) rfl
    clear h246
    go_step
    go_step
    go_step
    refine wp_cond (t := true) (h248.eval (k := 62) (v := .bool true) (by simp)) ?_
    simp only [if_true]
    have h249 := h248.subs (l' := [(10, .int .i64 (k : Int)), (8, .slice la (manyP ys N).length lc), (9, .int .i64 ((min N 64 : Nat) : Int)), (0, .int .i64 (N : Int)), (1, .slice a ys.length c)]) rfl
    clear h248
    go_step
    go_step
    go_step
    go_step
    go_step
    go_step
    refine wp_region_held_drew (S := fun w' => w' = wm.drew) (by kernel_rfl) rfl (fun hS250 => ?_)
    refine wpk_take hS250 h249 0 rfl rfl (by decide) (fr rfl) (by kernel_rfl) (by kernel_rfl) (by kernel_rfl) (fun _ _ _ _ h => h) (.slice la (manyP ys N).length lc) (Or.inl ⟨Eq.refl true, fun w1 hSw => (by cases hSw; exact (by show (execOp _ (⟨_, .move (.tmp 8), _, _, _, _⟩ : Oper)).run _ _ = _; exact (by unfold execOp; simp only [h249.eval (k := 8) (v := .slice la (manyP ys N).length lc) (by simp)]; rfl)))⟩) fun a252 h251 => ?_
    refine wpk_take hS250 h251 1 rfl rfl (by decide) (fr rfl) (by kernel_rfl) (by kernel_rfl) (by kernel_rfl) (fun _ _ _ _ h => h) (.int .i64 (k : Int)) (Or.inl ⟨Eq.refl true, fun w1 hSw => (by cases hSw; exact (by show (execOp _ (⟨_, .move (.tmp 10), _, _, _, _⟩ : Oper)).run _ _ = _; exact (by unfold execOp; simp only [h251.eval (k := 10) (v := .int .i64 (k : Int)) (by simp)]; rfl)))⟩) fun a254 h253 => ?_
    refine wpk_take hS250 h253 2 rfl rfl (by decide) (fr rfl) (by kernel_rfl) (by kernel_rfl) (by kernel_rfl) (fun _ _ _ _ h => h) (.pointer (some ⟨qb, qo + k * 2, none⟩)) (Or.inl ⟨Eq.refl true, fun w1 hSw => (by cases hSw; exact (by show (execOp _ (⟨_, .indexAddr 34 (.tmp 65) (.tmp 66), _, _, _, _⟩ : Oper)).run _ _ = _; exact (by unfold execOp; simp only [h253.eval (k := 65) (v := .slice la (manyP ys N).length lc) (by simp), h253.eval (k := 66) (v := .int .i64 (k : Int)) (by simp)]; exact run_v (by rw [hqa]; exact ixP qb qo _ lc k hltk _))))⟩) fun a256 h255 => ?_
    refine wpk_take hS250 h255 3 rfl rfl (by decide) (fr rfl) (by kernel_rfl) (by kernel_rfl) (by kernel_rfl) (fun _ _ _ _ h => h) (.pointer (some ⟨qb, qo + k * 2, none⟩)) (Or.inl ⟨Eq.refl true, fun w1 hSw => (by cases hSw; exact (by show (execOp _ (⟨_, .fieldAddr 37 (.tmp 67) 0, _, _, _, _⟩ : Oper)).run _ _ = _; exact (by unfold execOp; simp only [h255.eval (k := 67) (v := .pointer (some ⟨qb, qo + k * 2, none⟩)) (by simp)]; exact run_v (faP_0 _ _ _))))⟩) fun a258 h257 => ?_
    refine wpk_take hS250 h257 4 rfl rfl (by decide) (fr rfl) (by kernel_rfl) (by kernel_rfl) (by kernel_rfl) (fun _ _ _ _ h => h) (.int .i64 (k : Int)) (Or.inl ⟨Eq.refl true, fun w1 hSw => (by cases hSw; exact (by show (execOp _ (⟨_, .load 3 (.tmp 68), _, _, _, _⟩ : Oper)).run _ _ = _; exact (by unfold execOp; simp only [h257.eval (k := 68) (v := .pointer (some ⟨qb, qo + k * 2, none⟩)) (by simp)]; exact run_v (loadIP hck.1))))⟩) fun a260 h259 => ?_
    refine wpk_take hS250 h259 5 rfl rfl (by decide) (fr rfl) (by kernel_rfl) (by kernel_rfl) (by kernel_rfl) (fun _ _ _ _ h => h) (.int .i64 (k : Int)) (Or.inl ⟨Eq.refl true, fun w1 hSw => (by cases hSw; exact (by show (execOp _ (⟨_, .move (.tmp 10), _, _, _, _⟩ : Oper)).run _ _ = _; exact (by unfold execOp; simp only [h259.eval (k := 10) (v := .int .i64 (k : Int)) (by simp)]; rfl)))⟩) fun a262 h261 => ?_
    refine wpk_take hS250 h261 6 rfl rfl (by decide) (fr rfl) (by kernel_rfl) (by kernel_rfl) (by kernel_rfl) (fun _ _ _ _ h => h) (.bool false) (Or.inl ⟨Eq.refl true, fun w1 hSw => (by cases hSw; exact (by show (execOp _ (⟨_, .binOp .neq 3 (.tmp 69) (.tmp 70) 3, _, _, _, _⟩ : Oper)).run _ _ = _; exact (by unfold execOp; simp only [h261.eval (k := 69) (v := .int .i64 (k : Int)) (by simp), h261.eval (k := 70) (v := .int .i64 (k : Int)) (by simp)]; exact run_v (neqIP _ _ _ _ _ (bne_eq_false_iff_eq.2 (by omega))))))⟩) fun a264 h263 => ?_
    refine wpk_take hS250 h263 7 rfl rfl (by decide) (fr rfl) (by kernel_rfl) (by kernel_rfl) (by kernel_rfl) (fun _ _ _ _ h => h) (.bool false) (Or.inl ⟨Eq.refl true, fun w1 hSw => (by cases hSw; exact (by show (execOp _ (⟨_, .move (.tmp 71), _, _, _, _⟩ : Oper)).run _ _ = _; exact (by unfold execOp; simp only [h263.eval (k := 71) (v := .bool false) (by simp)]; rfl)))⟩) fun a266 h265 => ?_
    refine wpk_take hS250 h265 8 rfl rfl (by decide) (fr rfl) (by kernel_rfl) (by kernel_rfl) (by kernel_rfl) (fun _ _ _ _ h => h) (.slice la (manyP ys N).length lc) (Or.inl ⟨(by rw [wanted_of (g := 7) (want := false) (b := false) rfl (h265.yields (prev := 72) rfl (by simp))]; rfl), fun w1 hSw => (by cases hSw; exact (by show (execOp _ (⟨_, .move (.tmp 8), _, _, _, _⟩ : Oper)).run _ _ = _; exact (by unfold execOp; simp only [h265.eval (k := 8) (v := .slice la (manyP ys N).length lc) (by simp)]; rfl)))⟩) fun a268 h267 => ?_
    refine wpk_take hS250 h267 9 rfl rfl (by decide) (fr rfl) (by kernel_rfl) (by kernel_rfl) (by kernel_rfl) (fun _ _ _ _ h => h) (.int .i64 (k : Int)) (Or.inl ⟨(by rw [wanted_of (g := 7) (want := false) (b := false) rfl (h267.yields (prev := 72) rfl (by simp))]; rfl), fun w1 hSw => (by cases hSw; exact (by show (execOp _ (⟨_, .move (.tmp 10), _, _, _, _⟩ : Oper)).run _ _ = _; exact (by unfold execOp; simp only [h267.eval (k := 10) (v := .int .i64 (k : Int)) (by simp)]; rfl)))⟩) fun a270 h269 => ?_
    refine wpk_take hS250 h269 10 rfl rfl (by decide) (fr rfl) (by kernel_rfl) (by kernel_rfl) (by kernel_rfl) (fun _ _ _ _ h => h) (.pointer (some ⟨qb, qo + k * 2, none⟩)) (Or.inl ⟨(by rw [wanted_of (g := 7) (want := false) (b := false) rfl (h269.yields (prev := 72) rfl (by simp))]; rfl), fun w1 hSw => (by cases hSw; exact (by show (execOp _ (⟨_, .indexAddr 34 (.tmp 73) (.tmp 74), _, _, _, _⟩ : Oper)).run _ _ = _; exact (by unfold execOp; simp only [h269.eval (k := 73) (v := .slice la (manyP ys N).length lc) (by simp), h269.eval (k := 74) (v := .int .i64 (k : Int)) (by simp)]; exact run_v (by rw [hqa]; exact ixP qb qo _ lc k hltk _))))⟩) fun a272 h271 => ?_
    refine wpk_take hS250 h271 11 rfl rfl (by decide) (fr rfl) (by kernel_rfl) (by kernel_rfl) (by kernel_rfl) (fun _ _ _ _ h => h) (.pointer (some ⟨qb, qo + k * 2 + 1, none⟩)) (Or.inl ⟨(by rw [wanted_of (g := 7) (want := false) (b := false) rfl (h271.yields (prev := 72) rfl (by simp))]; rfl), fun w1 hSw => (by cases hSw; exact (by show (execOp _ (⟨_, .fieldAddr 37 (.tmp 75) 1, _, _, _, _⟩ : Oper)).run _ _ = _; exact (by unfold execOp; simp only [h271.eval (k := 75) (v := .pointer (some ⟨qb, qo + k * 2, none⟩)) (by simp)]; exact run_v (faP_1 _ _ _))))⟩) fun a274 h273 => ?_
    refine wpk_take hS250 h273 12 rfl rfl (by decide) (fr rfl) (by kernel_rfl) (by kernel_rfl) (by kernel_rfl) (fun _ _ _ _ h => h) (strB ys) (Or.inl ⟨(by rw [wanted_of (g := 7) (want := false) (b := false) rfl (h273.yields (prev := 72) rfl (by simp))]; rfl), fun w1 hSw => (by cases hSw; exact (by show (execOp _ (⟨_, .load 9 (.tmp 76), _, _, _, _⟩ : Oper)).run _ _ = _; exact (by unfold execOp; simp only [h273.eval (k := 76) (v := .pointer (some ⟨qb, qo + k * 2 + 1, none⟩)) (by simp)]; exact run_v (loadSP hck.2))))⟩) fun a276 h275 => ?_
    refine wpk_take hS250 h275 13 rfl rfl (by decide) (fr rfl) (by kernel_rfl) (by kernel_rfl) (by kernel_rfl) (fun _ _ _ _ h => h) (.slice a ys.length c) (Or.inl ⟨(by rw [wanted_of (g := 7) (want := false) (b := false) rfl (h275.yields (prev := 72) rfl (by simp))]; rfl), fun w1 hSw => (by cases hSw; exact (by show (execOp _ (⟨_, .move (.tmp 1), _, _, _, _⟩ : Oper)).run _ _ = _; exact (by unfold execOp; simp only [h275.eval (k := 1) (v := .slice a ys.length c) (by simp)]; rfl)))⟩) fun a278 h277 => ?_
    refine wpk_take hS250 h277 14 rfl rfl (by decide) (fr rfl) (by kernel_rfl) (by kernel_rfl) (by kernel_rfl) (fun _ _ _ _ h => h) (strB ys) (Or.inl ⟨(by rw [wanted_of (g := 7) (want := false) (b := false) rfl (h277.yields (prev := 72) rfl (by simp))]; rfl), fun w1 hSw => (by cases hSw; exact (by show (execOp _ (⟨_, .convert 22 9 (.tmp 78), _, _, _, _⟩ : Oper)).run _ _ = _; exact (by unfold execOp; simp only [h277.eval (k := 78) (v := .slice a ys.length c) (by simp)]; exact run_v hst)))⟩) fun a280 h279 => ?_
    refine wpk_take hS250 h279 15 rfl rfl (by decide) (fr rfl) (by kernel_rfl) (by kernel_rfl) (by kernel_rfl) (fun _ _ _ _ h => h) (.bool false) (Or.inl ⟨(by rw [wanted_of (g := 7) (want := false) (b := false) rfl (h279.yields (prev := 72) rfl (by simp))]; rfl), fun w1 hSw => (by cases hSw; exact (by show (execOp _ (⟨_, .binOp .neq 9 (.tmp 77) (.tmp 79) 9, _, _, _, _⟩ : Oper)).run _ _ = _; exact (by unfold execOp; simp only [h279.eval (k := 77) (v := strB ys) (by simp), h279.eval (k := 79) (v := strB ys) (by simp)]; exact run_v (neSB _ _ ys _))))⟩) fun a282 h281 => ?_
    refine wpk_take hS250 h281 16 rfl rfl (by decide) (fr rfl) (by kernel_rfl) (by kernel_rfl) (by kernel_rfl) (fun _ _ _ _ h => h) (.bool false) (Or.inl ⟨Eq.refl true, fun w1 hSw => (by cases hSw; exact (by show (execOp _ (⟨_, .pick (.tmp 72) (.const (.bool true)) (.tmp 80), _, _, _, _⟩ : Oper)).run _ _ = _; exact (run_pick rfl (h281.eval (k := 72) (v := .bool false) (by simp)) (by rw [if_neg (by simp)]; exact h281.eval (k := 80) (v := .bool false) (by simp)))))⟩) fun a284 h283 => ?_
    refine wpAnyH_done (by kernel_rfl) ?_ _
    have h285 := h283.subs (l' := [(81, .bool false), (10, .int .i64 (k : Int)), (8, .slice la (manyP ys N).length lc), (9, .int .i64 ((min N 64 : Nat) : Int)), (0, .int .i64 (N : Int)), (1, .slice a ys.length c)]) rfl
    clear h283
    go_step
    go_step
    refine wp_cond (t := false) (h285.eval (k := 81) (v := .bool false) (by simp)) ?_
    simp only [Bool.false_eq_true, if_false]
    have h286 := h285.subs (l' := [(10, .int .i64 (k : Int)), (8, .slice la (manyP ys N).length lc), (9, .int .i64 ((min N 64 : Nat) : Int)), (0, .int .i64 (N : Int)), (1, .slice a ys.length c)]) rfl
    clear h285
    go_step
    go_step
    go_step
    go_step
    refine wpk_val h286 (wanted_none rfl) rfl (by decide) (fr rfl) (.int .i64 (k : Int)) (by unfold execOp; simp only [h286.eval (k := 10) (v := .int .i64 (k : Int)) (by simp)]; rfl) fun a288 h287 => ?_
    refine wpk_val h287 (wanted_none rfl) rfl (by decide) (fr rfl) (.int .i64 ((k + 1 : Nat) : Int)) (by unfold execOp; simp only [h287.eval (k := 63) (v := .int .i64 (k : Int)) (by simp)]; exact run_v (addNP _ _ _ _ _ (by omega) (by omega) (by omega) _)) fun a290 h289 => ?_
    have h291 := h289.subs (l' := [(64, .int .i64 ((k + 1 : Nat) : Int)), (63, .int .i64 (k : Int)), (8, .slice la (manyP ys N).length lc), (9, .int .i64 ((min N 64 : Nat) : Int)), (0, .int .i64 (N : Int)), (1, .slice a ys.length c)]) rfl
    clear h289
    refine wpk_val h291 (wanted_none rfl) rfl (by decide) (fr rfl) (.int .i64 ((k + 1 : Nat) : Int)) (by unfold execOp; simp only [h291.eval (k := 64) (v := .int .i64 ((k + 1 : Nat) : Int)) (by simp)]; rfl) fun a293 h292 => ?_
    have h294 := h292.subs (l' := [(10, .int .i64 ((k + 1 : Nat) : Int)), (8, .slice la (manyP ys N).length lc), (9, .int .i64 ((min N 64 : Nat) : Int)), (0, .int .i64 (N : Int)), (1, .slice a ys.length c)]) rfl
    clear h292
    go_step
    go_step
    refine ⟨⟨k + 1, by omega, h294.subs rfl, HOm.out.mono (Below.refl _ _).drew, Below.drew HBm.out⟩, ?_⟩
    rw [h294.eval (k := 10) (v := .int .i64 ((k + 1 : Nat) : Int)) (by simp), hM.eval (k := 10) (v := .int .i64 (k : Int)) (by simp)]; simp [intOf]; omega
  go_step
  go_step
  go_step
  go_step
  refine wpk_val hM (wanted_none rfl) rfl (by decide) (fr rfl) (.int .i64 (k : Int)) (by unfold execOp; simp only [hM.eval (k := 10) (v := .int .i64 (k : Int)) (by simp)]; rfl) fun a296 h295 => ?_
  refine wpk_val h295 (wanted_none rfl) rfl (by decide) (fr rfl) (.slice la (manyP ys N).length lc) (by unfold execOp; simp only [h295.eval (k := 8) (v := .slice la (manyP ys N).length lc) (by simp)]; rfl) fun a298 h297 => ?_
  refine wpk_val h297 (wanted_none rfl) rfl (by decide) (fr rfl) (.int .i64 (manyP ys N).length) (run_lenP rfl (h297.eval (k := 60) (v := .slice la (manyP ys N).length lc) (by simp)) _) fun a300 h299 => ?_
  refine wpk_val h299 (wanted_none rfl) rfl (by decide) (fr rfl) (.bool false) (by unfold execOp; simp only [h299.eval (k := 59) (v := .int .i64 (k : Int)) (by simp), h299.eval (k := 61) (v := .int .i64 (manyP ys N).length) (by simp)]; exact run_v (ltIP _ _ _ _ _ (decide_eq_false (by omega)))) fun a302 h301 => ?_
  have h303 := h301.subs (l' := [(62, .bool false), (10, .int .i64 (k : Int)), (8, .slice la (manyP ys N).length lc), (9, .int .i64 ((min N 64 : Nat) : Int)), (0, .int .i64 (N : Int)), (1, .slice a ys.length c)]) rfl
  clear h301
  go_step
  go_step
  go_step
  refine wp_cond (t := false) (h303.eval (k := 62) (v := .bool false) (by simp)) ?_
  simp only [Bool.false_eq_true, if_false]
  have h304 := h303.subs (l' := [(10, .int .i64 (k : Int)), (8, .slice la (manyP ys N).length lc), (9, .int .i64 ((min N 64 : Nat) : Int)), (0, .int .i64 (N : Int)), (1, .slice a ys.length c)]) rfl
  clear h303
  go_step
  go_step
  go_step
  go_step
  go_step
  have hlm := manyP_len ys N
  go_step
  go_step
  refine wpk_val h304 (wanted_none rfl) rfl (by decide) (fr rfl) (.slice la (manyP ys N).length lc) (by unfold execOp; simp only [h304.eval (k := 8) (v := .slice la (manyP ys N).length lc) (by simp)]; rfl) fun a306 h305 => ?_
  refine wpk_val h305 (wanted_none rfl) rfl (by decide) (fr rfl) (.int .i64 (manyP ys N).length) (run_lenP rfl (h305.eval (k := 82) (v := .slice la (manyP ys N).length lc) (by simp)) _) fun a308 h307 => ?_
  refine wpk_val h307 (wanted_none rfl) rfl (by decide) (fr rfl) (.int .i64 ((min N 64 : Nat) : Int)) (by unfold execOp; simp only [h307.eval (k := 9) (v := .int .i64 ((min N 64 : Nat) : Int)) (by simp)]; rfl) fun a310 h309 => ?_
  refine wpk_val h309 (wanted_none rfl) rfl (by decide) (fr rfl) (.bool true) (by unfold execOp; simp only [h309.eval (k := 83) (v := .int .i64 (manyP ys N).length) (by simp), h309.eval (k := 84) (v := .int .i64 ((min N 64 : Nat) : Int)) (by simp)]; exact run_v (eqIP _ _ _ _ _ (beq_iff_eq.2 (by omega)))) fun a312 h311 => ?_
  refine wpk_val h311 (wanted_none rfl) rfl (by decide) (fr rfl) (.bool true) (by unfold execOp; simp only [h311.eval (k := 85) (v := .bool true) (by simp)]; rfl) fun a314 h313 => ?_
  refine wpk_call h313 (by rw [wanted_of (g := 4) (want := true) (b := true) rfl (h313.yields (prev := 86) rfl (by simp))]; rfl) rfl (by decide) (fr rfl) (fun args => callT_8 args _) rfl #[.pointer none, .pointer none] (by simp only [List.map_toArray, List.map_cons, List.map_nil]; rfl) (R := fun v' w' => v' = .pointer none ∧ wm = w') ((newT_nil wm).mono fun e w' q => ⟨_, q.1, rfl, q.2⟩) fun a316 v3 w3 r3 h315 => ?_
  obtain ⟨rfl, rfl⟩ := r3
  refine wpk_val h315 (by rw [wanted_of (g := 4) (want := true) (b := true) rfl (h315.yields (prev := 86) rfl (by simp))]; rfl) rfl (by decide) (fr rfl) (.bool true) (by unfold execOp; simp only [h315.eval (k := 87) (v := .pointer none) (by simp)]; exact run_v (eqNnT _ _ _)) fun a318 h317 => ?_
  refine wpk_val h317 (wanted_none rfl) rfl (by decide) (fr rfl) (.bool true) (run_pick rfl (h317.eval (k := 86) (v := .bool true) (by simp)) (by rw [if_pos rfl]; exact h317.eval (k := 88) (v := .bool true) (by simp))) fun a320 h319 => ?_
  refine wpk_val h319 (wanted_none rfl) rfl (by decide) (fr rfl) (.bool true) (by unfold execOp; simp only [h319.eval (k := 89) (v := .bool true) (by simp)]; rfl) fun a322 h321 => ?_
  refine wpk_call h321 (by rw [wanted_of (g := 8) (want := true) (b := true) rfl (h321.yields (prev := 90) rfl (by simp))]; rfl) rfl (by decide) (fr rfl) (fun args => callT_9 args _) rfl #[] (by simp) (R := fun v' w' => v' = .bool true ∧ Below wm.heap.size wm w') ((lives09_any _).mono fun e w' q => ⟨_, q.1, rfl, q.2⟩) fun a324 v9 w9 r9 h323 => ?_
  obtain ⟨rfl, b9⟩ := r9; have HB9 := hid (kept_trans HBm.out b9); clear b9
  refine wpk_val h323 (wanted_none rfl) rfl (by decide) (fr rfl) (.bool true) (run_pick rfl (h323.eval (k := 90) (v := .bool true) (by simp)) (by rw [if_pos rfl]; exact h323.eval (k := 91) (v := .bool true) (by simp))) fun a326 h325 => ?_
  refine wpk_val h325 (wanted_none rfl) rfl (by decide) (fr rfl) (.bool true) (by unfold execOp; simp only [h325.eval (k := 92) (v := .bool true) (by simp)]; rfl) fun a328 h327 => ?_
  have h329 := h327.subs (l' := [(4, .bool true), (10, .int .i64 (k : Int)), (8, .slice la (manyP ys N).length lc), (9, .int .i64 ((min N 64 : Nat) : Int)), (0, .int .i64 (N : Int)), (1, .slice a ys.length c)]) rfl
  clear h327
  go_step
  go_step
  go_step
  go_step
  exact bodyPost_ret (results_tmp1 rfl (h329.known (4, .bool true) (by simp))) h329.defs ⟨rfl, HB9.out⟩
end Go.Proofs.YtcackliabemecaaDoor
