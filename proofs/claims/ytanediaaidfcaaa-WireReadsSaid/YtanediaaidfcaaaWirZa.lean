/- Packets compared: the document's Same, by links. (genWirZ.py) -/
import Derived.Test.YtanediaaidfcaaaWirMg
namespace Go.Proofs.Ytanediaaidfcaaa
open Go.RowKit
set_option linter.unusedSimpArgs false
set_option linter.unusedVariables false

def sameD (P Q : PkM) : Bool := (eqN P Q && ((P.I 0 == Q.I 0) && ((P.I 1 == Q.I 1) && ((P.I 2 == Q.I 2) && ((P.I 3 == Q.I 3) && ((P.I 4 == Q.I 4) && ((P.I 5 == Q.I 5) && ((P.I 6 == Q.I 6) && (eqS (P.S 7) (Q.S 7) && ((P.I 8 == Q.I 8) && ((P.I 9 == Q.I 9) && (eqCall P Q && ((P.I 18 == Q.I 18) && ((P.I 19 == Q.I 19) && ((P.I 27 == Q.I 27) && (eqNode P Q && ((P.I 20 == Q.I 20) && ((P.I 21 == Q.I 21) && (eqS (P.S 22) (Q.S 22) && eqInfo P Q)))))))))))))))))))
theorem sameD_eq (P Q : PkM) : sameD P Q = eqPk P Q := by
  unfold sameD eqPk eqRep eqS
  rw [Bool.eq_iff_iff]
  simp only [Bool.and_eq_true]
  constructor
  · intro h; simp only [h, and_self]
  · intro h; simp only [h, and_self]
theorem sameD_split (P Q : PkM) : sameD P Q = (!(((((((((((!decide (P.N = Q.N)) || (P.I 0 != Q.I 0)) || (P.I 1 != Q.I 1)) || (P.I 2 != Q.I 2)) || (P.I 3 != Q.I 3)) || (P.I 4 != Q.I 4)) || (P.I 5 != Q.I 5)) || (P.I 6 != Q.I 6)) || ((bsW (P.S 7)).toList != (bsW (Q.S 7)).toList)) || (P.I 8 != Q.I 8)) || (P.I 9 != Q.I 9)) && ((((((((eqCall P Q && (P.I 18 == Q.I 18)) && (P.I 19 == Q.I 19)) && (P.I 27 == Q.I 27)) && eqNode P Q) && (P.I 20 == Q.I 20)) && (P.I 21 == Q.I 21)) && ((bsW (P.S 22)).toList == (bsW (Q.S 22)).toList)) && eqInfo P Q)) := by
  unfold sameD eqS eqN
  simp only [bne, Bool.not_or, Bool.not_not, Bool.and_assoc]
theorem callSameN (args : Array Value) (w : World) : (callFunc 28 args).run Try.prog w = .ok (.enter 28 args) w := by
  have h := Try.func28
  go_simp
set_option maxRecDepth 100000 in
theorem fieldRp (f off : Nat) (h : (f, off) ∈ [(0, 20), (1, 21), (2, 22), (3, 23), (4, 24)]) (g : Nat) (w : World) : (Instr.fieldAt 29 (.pointer (some ⟨g, 20, none⟩)) f).run Try.prog w = .ok (.pointer (some ⟨g, off, none⟩)) w := by
  simp only [List.mem_cons, Prod.mk.injEq, List.not_mem_nil, or_false] at h
  rcases h with ⟨rfl, rfl⟩ | ⟨rfl, rfl⟩ | ⟨rfl, rfl⟩ | ⟨rfl, rfl⟩ | ⟨rfl, rfl⟩ <;> rfl
theorem loadN {w : World} {g off : Nat} {a : Option Addr} {n c : Nat} (h : w.cell? ⟨g, off, none⟩ = some (.slice a n c)) : (Instr.loadAt 25 (.pointer (some ⟨g, off, none⟩))).run Try.prog w = .ok (.slice a n c) w := by
  have u3 := Try.underlying25
  have a3 := Try.isAgg25
  have z3 := Try.sizeOf25
  go_simp
theorem run_not {o : Oper} {x : Operand} {t : TypeId} {w : World} (ho : o.op = .unOp .not t x) {ρ : Operand → Value} {b : Bool} (hb : ρ x = .bool b) : (execOp ρ o).run Try.prog w = .ok (.value (.bool (!b))) w := by
  unfold execOp
  rw [ho]
  simp only [hb]
  cases b <;> rfl

set_option maxRecDepth 100000 in
set_option maxHeartbeats 4000000 in
theorem samePk_any (P Q : PkM) (a b : Option Addr) (c d : Nat) (w : World) (ha : Row w 1 a P.N.length c (P.N.map strV)) (hb : Row w 1 b Q.N.length d (Q.N.map strV)) :
    Calls Try.prog 16 #[.agg (pkC P a P.N.length c).toArray, .agg (pkC Q b Q.N.length d).toArray] w fun e w' => e = .returned (.bool (eqPk P Q)) ∧ Below w.heap.size w w' := by
  have HN := hid (fun (W : World) (hW : Below w.heap.size w W) => sameN_any P.N Q.N a b c d W (ha.mono hW) (hb.mono hW))
  clear ha hb
  go_enter Try.func16, Try.ntmps16
  go_step
  go_step
  go_step
  refine wpl_boxT rfl 35 _ rfl (pkC P a P.N.length c) rfl ?_
  intro w1 k1 b1 s1
  refine wpl_boxT rfl 35 _ rfl (pkC Q b Q.N.length d) rfl ?_
  intro w2 k2 b2 s2
  have B1 := hid b1; have S1 := hid s1
  have B2 := hid (kept_trans B1.out b2); have KP0 := hid (k1.mono b2); have KQ0 := hid k2
  clear k1 b1 s1 k2 b2 s2
  go_step
  go_step
  go_step
  go_step
  go_step
  go_step
  go_step
  go_step
  refine wpk_enter (N := 154) (l := L2 2 3 w.heap.size w1.heap.size) ⟨rfl, (by intro x hx; simp only [List.mem_cons, List.not_mem_nil, or_false] at hx; rcases hx with rfl | rfl <;> rfl), rfl⟩ fun a0 h0 => ?_
  refine wpk_val h0 (wanted_none rfl) rfl (by decide) (by intro x hx; simp only [List.mem_cons, List.not_mem_nil, or_false] at hx; rcases hx with rfl | rfl <;> simp) (.pointer (some ⟨w.heap.size, 20, none⟩)) (by unfold execOp; simp only [h0.eval (k := 2) (List.mem_cons_self ..)]; exact run_v (fieldPk 13 20 (by decide) w.heap.size _)) fun a1 h1 => ?_
  refine wpk_val h1 (wanted_none rfl) rfl (by decide) (by intro x hx; simp only [List.mem_cons, List.not_mem_nil, or_false] at hx; rcases hx with rfl | rfl | rfl <;> simp) (.pointer (some ⟨w.heap.size, 23, none⟩)) (by unfold execOp; simp only [h1.eval (k := 6) (List.mem_cons_self ..)]; exact run_v (fieldRp 3 23 (by decide) w.heap.size _)) fun a2 h2 => ?_
  refine wpk_val h2 (wanted_none rfl) rfl (by decide) (by intro x hx; simp only [List.mem_cons, List.not_mem_nil, or_false] at hx; rcases hx with rfl | rfl | rfl | rfl <;> simp) (.slice a P.N.length c) (by unfold execOp; simp only [h2.eval (k := 7) (List.mem_cons_self ..)]; exact run_v (loadN (KP0.out.cell (i := 23) (by show 23 < 43; omega)))) fun a3 h3 => ?_
  refine wpk_val h3 (wanted_none rfl) rfl (by decide) (by intro x hx; simp only [List.mem_cons, List.not_mem_nil, or_false] at hx; rcases hx with rfl | rfl | rfl | rfl | rfl <;> simp) (.pointer (some ⟨w1.heap.size, 20, none⟩)) (by unfold execOp; simp only [h3.eval (k := 3) (v := .pointer (some ⟨w1.heap.size, 0, none⟩)) (by simp)]; exact run_v (fieldPk 13 20 (by decide) w1.heap.size _)) fun a4 h4 => ?_
  refine wpk_val h4 (wanted_none rfl) rfl (by decide) (by intro x hx; simp only [List.mem_cons, List.not_mem_nil, or_false] at hx; rcases hx with rfl | rfl | rfl | rfl | rfl | rfl <;> simp) (.pointer (some ⟨w1.heap.size, 23, none⟩)) (by unfold execOp; simp only [h4.eval (k := 9) (List.mem_cons_self ..)]; exact run_v (fieldRp 3 23 (by decide) w1.heap.size _)) fun a5 h5 => ?_
  refine wpk_val h5 (wanted_none rfl) rfl (by decide) (by intro x hx; simp only [List.mem_cons, List.not_mem_nil, or_false] at hx; rcases hx with rfl | rfl | rfl | rfl | rfl | rfl | rfl <;> simp) (.slice b Q.N.length d) (by unfold execOp; simp only [h5.eval (k := 10) (List.mem_cons_self ..)]; exact run_v (loadN (KQ0.out.cell (i := 23) (by show 23 < 43; omega)))) fun a6 h6 => ?_
  refine wpk_call h6 (wanted_none rfl) rfl (by decide) (by intro x hx; simp only [List.mem_cons, List.not_mem_nil, or_false] at hx; rcases hx with rfl | rfl | rfl | rfl | rfl | rfl | rfl | rfl <;> simp) (fun args => callSameN args _) rfl #[.slice a P.N.length c, .slice b Q.N.length d] (by simp only [List.map_toArray, List.map_cons, List.map_nil, h6.eval (k := 8) (v := .slice a P.N.length c) (by simp), h6.eval (k := 11) (v := .slice b Q.N.length d) (by simp)]) (R := fun v w' => v = .bool (decide (P.N = Q.N)) ∧ Below w2.heap.size w2 w') ((HN.out _ B2.out).mono fun e w' q => ⟨_, q.1, rfl, q.2⟩) fun a7 v w3 hv h7 => ?_
  obtain ⟨rfl, b3⟩ := hv
  have B3 := hid (kept_trans B2.out b3); have KP := hid (KP0.out.mono b3); have KQ := hid (KQ0.out.mono b3)
  clear b3 KP0 KQ0
  refine wpk_val h7 (wanted_none rfl) rfl (by decide) (by intro x hx; simp only [List.mem_cons, List.not_mem_nil, or_false] at hx; rcases hx with rfl | rfl | rfl | rfl | rfl | rfl | rfl | rfl | rfl <;> simp) (.bool (decide (P.N = Q.N))) (by unfold execOp; simp only [h7.eval (k := 12) (List.mem_cons_self ..)]; rfl) fun a8 h8 => ?_
  have h9 := h8.sub (l' := (5, .bool (decide (P.N = Q.N))) :: L2 2 3 w.heap.size w1.heap.size) (by intro x hx; simp only [List.mem_cons, List.not_mem_nil, or_false] at hx; rcases hx with rfl | rfl | rfl <;> simp)
  clear h0 h1 h2 h3 h4 h5 h6 h7 h8
  go_step
  go_step
  go_step
  go_step
  go_step
  go_step
  refine wpk_val h9 (wanted_none rfl) rfl (by decide) (by intro x hx; simp only [List.mem_cons, List.not_mem_nil, or_false] at hx; rcases hx with rfl | rfl | rfl <;> simp) (.bool (decide (P.N = Q.N))) (by unfold execOp; simp only [h9.eval (k := 5) (List.mem_cons_self ..)]; rfl) fun a10 h10 => ?_
  refine wpk_val h10 (wanted_none rfl) rfl (by decide) (by intro x hx; simp only [List.mem_cons, List.not_mem_nil, or_false] at hx; rcases hx with rfl | rfl | rfl | rfl <;> simp) (.bool (!decide (P.N = Q.N))) (run_not rfl (h10.eval (List.mem_cons_self ..))) fun a11 h11 => ?_
  refine wpk_val h11 (wanted_none rfl) rfl (by decide) (by intro x hx; simp only [List.mem_cons, List.not_mem_nil, or_false] at hx; rcases hx with rfl | rfl | rfl | rfl | rfl <;> simp) (.bool (!decide (P.N = Q.N))) (by unfold execOp; simp only [h11.eval (k := 14) (List.mem_cons_self ..)]; rfl) fun a12 h12 => ?_
  have g0 := h12.sub (l' := L3 15 (!decide (P.N = Q.N)) 2 3 w.heap.size w1.heap.size) (by intro x hx; simp only [List.mem_cons, List.not_mem_nil, or_false] at hx; rcases hx with rfl | rfl | rfl <;> simp)
  clear h9 h10 h11 h12
  refine wpk_link (⟨fun g => fieldPk 0 0 (by decide) g _, loadI (KP.out.cell (i := 0) (by show 0 < 43; omega)), loadI (KQ.out.cell (i := 0) (by show 0 < 43; omega)), fun x y => neI x y _ _ _⟩ : Cmp Try.prog _ 35 0 3 .neq w.heap.size w1.heap.size (P.I 0 != Q.I 0) 0 (.int .i64 (P.I 0)) (.int .i64 (Q.I 0))) false g0 rfl (by decide) (by decide) (by decide) (by decide) 3 rfl rfl rfl rfl rfl rfl rfl rfl rfl rfl rfl rfl rfl rfl rfl rfl rfl rfl rfl rfl rfl fun b1 g1 => ?_
  refine wpk_link (⟨fun g => fieldPk 1 1 (by decide) g _, loadI (KP.out.cell (i := 1) (by show 1 < 43; omega)), loadI (KQ.out.cell (i := 1) (by show 1 < 43; omega)), fun x y => neI x y _ _ _⟩ : Cmp Try.prog _ 35 1 3 .neq w.heap.size w1.heap.size (P.I 1 != Q.I 1) 1 (.int .i64 (P.I 1)) (.int .i64 (Q.I 1))) false g1 rfl (by decide) (by decide) (by decide) (by decide) 3 rfl rfl rfl rfl rfl rfl rfl rfl rfl rfl rfl rfl rfl rfl rfl rfl rfl rfl rfl rfl rfl fun b2 g2 => ?_
  refine wpk_link (⟨fun g => fieldPk 2 2 (by decide) g _, loadI (KP.out.cell (i := 2) (by show 2 < 43; omega)), loadI (KQ.out.cell (i := 2) (by show 2 < 43; omega)), fun x y => neI x y _ _ _⟩ : Cmp Try.prog _ 35 2 3 .neq w.heap.size w1.heap.size (P.I 2 != Q.I 2) 2 (.int .i64 (P.I 2)) (.int .i64 (Q.I 2))) false g2 rfl (by decide) (by decide) (by decide) (by decide) 3 rfl rfl rfl rfl rfl rfl rfl rfl rfl rfl rfl rfl rfl rfl rfl rfl rfl rfl rfl rfl rfl fun b3 g3 => ?_
  refine wpk_link (⟨fun g => fieldPk 3 3 (by decide) g _, loadI (KP.out.cell (i := 3) (by show 3 < 43; omega)), loadI (KQ.out.cell (i := 3) (by show 3 < 43; omega)), fun x y => neI x y _ _ _⟩ : Cmp Try.prog _ 35 3 3 .neq w.heap.size w1.heap.size (P.I 3 != Q.I 3) 3 (.int .i64 (P.I 3)) (.int .i64 (Q.I 3))) false g3 rfl (by decide) (by decide) (by decide) (by decide) 3 rfl rfl rfl rfl rfl rfl rfl rfl rfl rfl rfl rfl rfl rfl rfl rfl rfl rfl rfl rfl rfl fun b4 g4 => ?_
  refine wpk_link (⟨fun g => fieldPk 4 4 (by decide) g _, loadI (KP.out.cell (i := 4) (by show 4 < 43; omega)), loadI (KQ.out.cell (i := 4) (by show 4 < 43; omega)), fun x y => neI x y _ _ _⟩ : Cmp Try.prog _ 35 4 3 .neq w.heap.size w1.heap.size (P.I 4 != Q.I 4) 4 (.int .i64 (P.I 4)) (.int .i64 (Q.I 4))) false g4 rfl (by decide) (by decide) (by decide) (by decide) 3 rfl rfl rfl rfl rfl rfl rfl rfl rfl rfl rfl rfl rfl rfl rfl rfl rfl rfl rfl rfl rfl fun b5 g5 => ?_
  refine wpk_link (⟨fun g => fieldPk 5 5 (by decide) g _, loadI (KP.out.cell (i := 5) (by show 5 < 43; omega)), loadI (KQ.out.cell (i := 5) (by show 5 < 43; omega)), fun x y => neI x y _ _ _⟩ : Cmp Try.prog _ 35 5 3 .neq w.heap.size w1.heap.size (P.I 5 != Q.I 5) 5 (.int .i64 (P.I 5)) (.int .i64 (Q.I 5))) false g5 rfl (by decide) (by decide) (by decide) (by decide) 3 rfl rfl rfl rfl rfl rfl rfl rfl rfl rfl rfl rfl rfl rfl rfl rfl rfl rfl rfl rfl rfl fun b6 g6 => ?_
  refine wpk_link (⟨fun g => fieldPk 6 6 (by decide) g _, loadI (KP.out.cell (i := 6) (by show 6 < 43; omega)), loadI (KQ.out.cell (i := 6) (by show 6 < 43; omega)), fun x y => neI x y _ _ _⟩ : Cmp Try.prog _ 35 6 3 .neq w.heap.size w1.heap.size (P.I 6 != Q.I 6) 6 (.int .i64 (P.I 6)) (.int .i64 (Q.I 6))) false g6 rfl (by decide) (by decide) (by decide) (by decide) 3 rfl rfl rfl rfl rfl rfl rfl rfl rfl rfl rfl rfl rfl rfl rfl rfl rfl rfl rfl rfl rfl fun b7 g7 => ?_
  refine wpk_link (⟨fun g => fieldPk 7 7 (by decide) g _, loadS (KP.out.cell (i := 7) (by show 7 < 43; omega)), loadS (KQ.out.cell (i := 7) (by show 7 < 43; omega)), fun x y => neSt x y _ _ _⟩ : Cmp Try.prog _ 35 7 9 .neq w.heap.size w1.heap.size ((bsW (P.S 7)).toList != (bsW (Q.S 7)).toList) 7 (.string (bsW (P.S 7))) (.string (bsW (Q.S 7)))) false g7 rfl (by decide) (by decide) (by decide) (by decide) 9 rfl rfl rfl rfl rfl rfl rfl rfl rfl rfl rfl rfl rfl rfl rfl rfl rfl rfl rfl rfl rfl fun b8 g8 => ?_
  refine wpk_link (⟨fun g => fieldPk 8 8 (by decide) g _, loadI (KP.out.cell (i := 8) (by show 8 < 43; omega)), loadI (KQ.out.cell (i := 8) (by show 8 < 43; omega)), fun x y => neI x y _ _ _⟩ : Cmp Try.prog _ 35 8 3 .neq w.heap.size w1.heap.size (P.I 8 != Q.I 8) 8 (.int .i64 (P.I 8)) (.int .i64 (Q.I 8))) false g8 rfl (by decide) (by decide) (by decide) (by decide) 3 rfl rfl rfl rfl rfl rfl rfl rfl rfl rfl rfl rfl rfl rfl rfl rfl rfl rfl rfl rfl rfl fun b9 g9 => ?_
  refine wpk_link6 (⟨fun g => fieldPk 9 9 (by decide) g _, loadI (KP.out.cell (i := 9) (by show 9 < 43; omega)), loadI (KQ.out.cell (i := 9) (by show 9 < 43; omega)), fun x y => neI x y _ _ _⟩ : Cmp Try.prog _ 35 9 3 .neq w.heap.size w1.heap.size (P.I 9 != Q.I 9) 9 (.int .i64 (P.I 9)) (.int .i64 (Q.I 9))) false g9 rfl (by decide) (by decide) (by decide) (by decide) 3 rfl rfl rfl rfl rfl rfl rfl rfl rfl rfl rfl rfl rfl rfl rfl rfl rfl rfl fun b10 g10 => ?_
  simp only [Bool.false_eq_true, if_false] at g10
  obtain ⟨r, hr⟩ : ∃ r, r = (((((((((((!decide (P.N = Q.N)) || (P.I 0 != Q.I 0)) || (P.I 1 != Q.I 1)) || (P.I 2 != Q.I 2)) || (P.I 3 != Q.I 3)) || (P.I 4 != Q.I 4)) || (P.I 5 != Q.I 5)) || (P.I 6 != Q.I 6)) || ((bsW (P.S 7)).toList != (bsW (Q.S 7)).toList)) || (P.I 8 != Q.I 8)) || (P.I 9 != Q.I 9)) := ⟨_, rfl⟩
  rw [← hr] at g10
  have HR := hid hr
  clear hr
  go_step
  go_step
  go_step
  refine wp_cond (t := r) (g10.eval (List.mem_cons_self ..)) ?_
  cases r with
  | true =>
    simp only [if_true]
    go_step
    go_step
    refine wpk_val g10 (wanted_none rfl) rfl (by decide) (by intro x hx; simp only [List.mem_cons, List.not_mem_nil, or_false] at hx; rcases hx with rfl | rfl | rfl <;> simp) (.bool false) rfl fun z1 q1 => ?_
    go_step
    go_step
    go_step
    go_step
    go_step
    refine bodyPost_ret (results_tmp1 rfl (q1.known _ (List.mem_cons_self ..))) q1.defs ?_
    refine ⟨ret_bool ?_, B3.out⟩
    rw [← sameD_eq, sameD_split, ← HR.out]
    rfl
  | false =>
    simp only [Bool.false_eq_true, if_false]
    have f0 := g10.sub (l' := L2 2 3 w.heap.size w1.heap.size) (by intro x hx; simp only [List.mem_cons, List.not_mem_nil, or_false] at hx; rcases hx with rfl | rfl <;> simp)
    go_step
    go_step
    go_step
    go_step
    go_step
    refine wpk_first (⟨fun g => fieldPk 10 10 (by decide) g _, run_loadAt_mid _ _ _ _ (callC P) _ (KP.out.part 10 8 (callC P) rfl) Try.underlying23 rfl infoCal, run_loadAt_mid _ _ _ _ (callC Q) _ (KQ.out.part 10 8 (callC Q) rfl) Try.underlying23 rfl infoCal, fun x y => eqR (by simp) (run_eqCall P Q) x y _⟩ : Cmp Try.prog _ 35 10 23 .eql w.heap.size w1.heap.size (eqCall P Q) 10 (.agg (callC P).toArray) (.agg (callC Q).toArray)) f0 (by decide) (by decide) (by decide) 23 rfl rfl rfl rfl rfl rfl rfl rfl rfl rfl rfl rfl rfl rfl rfl rfl rfl rfl fun y0 u0 => ?_
    refine wpk_link (⟨fun g => fieldPk 11 18 (by decide) g _, loadI (KP.out.cell (i := 18) (by show 18 < 43; omega)), loadI (KQ.out.cell (i := 18) (by show 18 < 43; omega)), fun x y => eqI x y _ _ _⟩ : Cmp Try.prog _ 35 11 3 .eql w.heap.size w1.heap.size (P.I 18 == Q.I 18) 18 (.int .i64 (P.I 18)) (.int .i64 (Q.I 18))) true u0 rfl (by decide) (by decide) (by decide) (by decide) 3 rfl rfl rfl rfl rfl rfl rfl rfl rfl rfl rfl rfl rfl rfl rfl rfl rfl rfl rfl rfl rfl fun y1 u1 => ?_
    refine wpk_link (⟨fun g => fieldPk 12 19 (by decide) g _, loadE (KP.out.cell (i := 19) (by show 19 < 43; omega)), loadE (KQ.out.cell (i := 19) (by show 19 < 43; omega)), fun x y => eqE x y _ _ _⟩ : Cmp Try.prog _ 35 12 24 .eql w.heap.size w1.heap.size (P.I 19 == Q.I 19) 19 (.int .i64 (P.I 19)) (.int .i64 (Q.I 19))) true u1 rfl (by decide) (by decide) (by decide) (by decide) 24 rfl rfl rfl rfl rfl rfl rfl rfl rfl rfl rfl rfl rfl rfl rfl rfl rfl rfl rfl rfl rfl fun y2 u2 => ?_
    refine wpk_link (⟨fun g => fieldPk 14 27 (by decide) g _, loadI (KP.out.cell (i := 27) (by show 27 < 43; omega)), loadI (KQ.out.cell (i := 27) (by show 27 < 43; omega)), fun x y => eqI x y _ _ _⟩ : Cmp Try.prog _ 35 14 3 .eql w.heap.size w1.heap.size (P.I 27 == Q.I 27) 27 (.int .i64 (P.I 27)) (.int .i64 (Q.I 27))) true u2 rfl (by decide) (by decide) (by decide) (by decide) 3 rfl rfl rfl rfl rfl rfl rfl rfl rfl rfl rfl rfl rfl rfl rfl rfl rfl rfl rfl rfl rfl fun y3 u3 => ?_
    refine wpk_link (⟨fun g => fieldPk 15 28 (by decide) g _, run_loadAt_mid _ _ _ _ (nodeC P) _ (KP.out.part 28 15 (nodeC P) rfl) Try.underlying33 rfl infoNod, run_loadAt_mid _ _ _ _ (nodeC Q) _ (KQ.out.part 28 15 (nodeC Q) rfl) Try.underlying33 rfl infoNod, fun x y => eqR (by simp) (run_eqNode P Q) x y _⟩ : Cmp Try.prog _ 35 15 33 .eql w.heap.size w1.heap.size (eqNode P Q) 28 (.agg (nodeC P).toArray) (.agg (nodeC Q).toArray)) true u3 rfl (by decide) (by decide) (by decide) (by decide) 33 rfl rfl rfl rfl rfl rfl rfl rfl rfl rfl rfl rfl rfl rfl rfl rfl rfl rfl rfl rfl rfl fun y4 u4 => ?_
    refine wpk_deep (gp := w.heap.size) (gq := w1.heap.size) (c := (P.I 20 == Q.I 20)) (fun g => fieldPk 13 20 (by decide) g _) (fun g => fieldRp 0 20 (by decide) g _) (show (Instr.loadAt _ _).run _ _ = .ok (.int .i64 (P.I 20)) _ from loadE (KP.out.cell (i := 20) (by show 20 < 43; omega))) (show (Instr.loadAt _ _).run _ _ = .ok (.int .i64 (Q.I 20)) _ from loadE (KQ.out.cell (i := 20) (by show 20 < 43; omega))) (fun x y => eqE x y _ _ _) true u4 rfl (by decide) (by decide) (by decide) (by decide) 24 rfl rfl rfl rfl rfl rfl rfl rfl rfl rfl rfl rfl rfl rfl rfl rfl rfl rfl rfl rfl rfl rfl rfl rfl fun x0 v0 => ?_
    refine wpk_move v0 (by decide) (by decide) (by decide) (by decide) rfl rfl rfl fun z0 m0 => ?_
    refine wpk_deep (gp := w.heap.size) (gq := w1.heap.size) (c := (P.I 21 == Q.I 21)) (fun g => fieldPk 13 20 (by decide) g _) (fun g => fieldRp 1 21 (by decide) g _) (show (Instr.loadAt _ _).run _ _ = .ok (.int .i64 (P.I 21)) _ from loadI (KP.out.cell (i := 21) (by show 21 < 43; omega))) (show (Instr.loadAt _ _).run _ _ = .ok (.int .i64 (Q.I 21)) _ from loadI (KQ.out.cell (i := 21) (by show 21 < 43; omega))) (fun x y => eqI x y _ _ _) true m0 rfl (by decide) (by decide) (by decide) (by decide) 3 rfl rfl rfl rfl rfl rfl rfl rfl rfl rfl rfl rfl rfl rfl rfl rfl rfl rfl rfl rfl rfl rfl rfl rfl fun x1 v1 => ?_
    refine wpk_move v1 (by decide) (by decide) (by decide) (by decide) rfl rfl rfl fun z1 m1 => ?_
    refine wpk_deep (gp := w.heap.size) (gq := w1.heap.size) (c := ((bsW (P.S 22)).toList == (bsW (Q.S 22)).toList)) (fun g => fieldPk 13 20 (by decide) g _) (fun g => fieldRp 2 22 (by decide) g _) (show (Instr.loadAt _ _).run _ _ = .ok (.string (bsW (P.S 22))) _ from loadS (KP.out.cell (i := 22) (by show 22 < 43; omega))) (show (Instr.loadAt _ _).run _ _ = .ok (.string (bsW (Q.S 22))) _ from loadS (KQ.out.cell (i := 22) (by show 22 < 43; omega))) (fun x y => eqSt x y _ _ _) true m1 rfl (by decide) (by decide) (by decide) (by decide) 9 rfl rfl rfl rfl rfl rfl rfl rfl rfl rfl rfl rfl rfl rfl rfl rfl rfl rfl rfl rfl rfl rfl rfl rfl fun x2 v2 => ?_
    refine wpk_move v2 (by decide) (by decide) (by decide) (by decide) rfl rfl rfl fun z2 m2 => ?_
    refine wpk_deep (gp := w.heap.size) (gq := w1.heap.size) (c := eqInfo P Q) (fun g => fieldPk 13 20 (by decide) g _) (fun g => fieldRp 4 24 (by decide) g _) (run_loadAt_mid _ _ _ _ (infoC P) _ (KP.out.part 24 3 (infoC P) rfl) Try.underlying27 rfl infoInf) (run_loadAt_mid _ _ _ _ (infoC Q) _ (KQ.out.part 24 3 (infoC Q) rfl) Try.underlying27 rfl infoInf) (fun x y => eqR (by simp) (run_eqInfo P Q) x y _) true m2 rfl (by decide) (by decide) (by decide) (by decide) 27 rfl rfl rfl rfl rfl rfl rfl rfl rfl rfl rfl rfl rfl rfl rfl rfl rfl rfl rfl rfl rfl rfl rfl rfl fun x3 v3 => ?_
    refine wpk_val v3 (wanted_none rfl) rfl (by decide) (by intro x hx; simp only [List.mem_cons, List.not_mem_nil, or_false] at hx; rcases hx with rfl | rfl | rfl <;> simp) _ (by unfold execOp; simp only [v3.eval (List.mem_cons_self ..)]; rfl) fun z9 q9 => ?_
    go_step
    go_step
    go_step
    go_step
    refine bodyPost_ret (results_tmp1 rfl (q9.known _ (List.mem_cons_self ..))) q9.defs ?_
    refine ⟨ret_bool ?_, B3.out⟩
    rw [← sameD_eq, sameD_split, ← HR.out]
    simp only [if_true, Bool.not_false, Bool.true_and]
end Go.Proofs.Ytanediaaidfcaaa
