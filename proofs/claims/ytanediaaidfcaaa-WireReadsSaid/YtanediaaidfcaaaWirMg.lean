/- Merged: WirCm WirZ. -/
import Derived.Test.YtanediaaidfcaaaWirMf
import Derived.Test.YtanediaaidfcaaaLibC
/- Fields of two packets compared, one by one. -/
namespace Go.Proofs.Ytanediaaidfcaaa
open Go.RowKit
set_option linter.unusedSimpArgs false
set_option linter.unusedVariables false

theorem loadI {w : World} {g off : Nat} {x : Int} (h : w.cell? ⟨g, off, none⟩ = some (.int .i64 x)) : (Instr.loadAt 3 (.pointer (some ⟨g, off, none⟩))).run Try.prog w = .ok (.int .i64 x) w := by
  have u3 := Try.underlying3
  have a3 := Try.isAgg3
  have z3 := Try.sizeOf3
  go_simp
theorem loadE {w : World} {g off : Nat} {x : Int} (h : w.cell? ⟨g, off, none⟩ = some (.int .i64 x)) : (Instr.loadAt 24 (.pointer (some ⟨g, off, none⟩))).run Try.prog w = .ok (.int .i64 x) w := by
  have u3 := Try.underlying24
  have a3 := Try.isAgg24
  have z3 := Try.sizeOf24
  go_simp
theorem loadS {w : World} {g off : Nat} {x : ByteArray} (h : w.cell? ⟨g, off, none⟩ = some (.string x)) : (Instr.loadAt 9 (.pointer (some ⟨g, off, none⟩))).run Try.prog w = .ok (.string x) w := by
  have u3 := Try.underlying9
  have a3 := Try.isAgg9
  have z3 := Try.sizeOf9
  go_simp
theorem eqI (x y : Operand) (v u : Int) (w : World) : (do eqGuard .eql 3 x y (.int .i64 v) (.int .i64 u); binOp .eql 3 (.int .i64 v) (.int .i64 u) : Sem Value).run Try.prog w = .ok (.bool (v == u)) w := by
  have u3 := Try.underlying3
  have a3 := Try.isAgg3
  have z3 := Try.sizeOf3
  go_simp
theorem eqE (x y : Operand) (v u : Int) (w : World) : (do eqGuard .eql 24 x y (.int .i64 v) (.int .i64 u); binOp .eql 24 (.int .i64 v) (.int .i64 u) : Sem Value).run Try.prog w = .ok (.bool (v == u)) w := by
  have u3 := Try.underlying24
  have a3 := Try.isAgg24
  have z3 := Try.sizeOf24
  go_simp
theorem eqSt (x y : Operand) (v u : ByteArray) (w : World) : (do eqGuard .eql 9 x y (.string v) (.string u); binOp .eql 9 (.string v) (.string u) : Sem Value).run Try.prog w = .ok (.bool (v.toList == u.toList)) w := by
  have u3 := Try.underlying9
  have a3 := Try.isAgg9
  have z3 := Try.sizeOf9
  go_simp
theorem neI (x y : Operand) (v u : Int) (w : World) : (do eqGuard .neq 3 x y (.int .i64 v) (.int .i64 u); binOp .neq 3 (.int .i64 v) (.int .i64 u) : Sem Value).run Try.prog w = .ok (.bool (v != u)) w := by
  have u3 := Try.underlying3
  have a3 := Try.isAgg3
  have z3 := Try.sizeOf3
  go_simp
theorem neSt (x y : Operand) (v u : ByteArray) (w : World) : (do eqGuard .neq 9 x y (.string v) (.string u); binOp .neq 9 (.string v) (.string u) : Sem Value).run Try.prog w = .ok (.bool (v.toList != u.toList)) w := by
  have u3 := Try.underlying9
  have a3 := Try.isAgg9
  have z3 := Try.sizeOf9
  go_simp
  cases h : (v.toList == u.toList) <;> simp [bne, h]
theorem eqR {T : TypeId} (hT : T = 23 ∨ T = 33 ∨ T = 27) {C D : Array Value} {c : Bool} (h : ∀ w, (Op.equalIn 10000 T (.agg C) (.agg D)).run Try.prog w = .ok c w) (x y : Operand) (w : World) : (do eqGuard .eql T x y (.agg C) (.agg D); binOp .eql T (.agg C) (.agg D) : Sem Value).run Try.prog w = .ok (.bool c) w := by
  have u1 := Try.underlying23
  have u2 := Try.underlying33
  have u3 := Try.underlying27
  have a1 := Try.isAgg23
  have a2 := Try.isAgg33
  have a3 := Try.isAgg27
  rcases hT with rfl | rfl | rfl <;> go_simp
set_option maxRecDepth 100000 in
theorem fieldPk (f off : Nat) (h : (f, off) ∈ [(0, 0), (1, 1), (2, 2), (3, 3), (4, 4), (5, 5), (6, 6), (7, 7), (8, 8), (9, 9), (10, 10), (11, 18), (12, 19), (13, 20), (14, 27), (15, 28)]) (g : Nat) (w : World) : (Instr.fieldAt 35 (.pointer (some ⟨g, 0, none⟩)) f).run Try.prog w = .ok (.pointer (some ⟨g, off, none⟩)) w := by
  simp only [List.mem_cons, Prod.mk.injEq, List.not_mem_nil, or_false] at h
  rcases h with ⟨rfl, rfl⟩ | ⟨rfl, rfl⟩ | ⟨rfl, rfl⟩ | ⟨rfl, rfl⟩ | ⟨rfl, rfl⟩ | ⟨rfl, rfl⟩ | ⟨rfl, rfl⟩ | ⟨rfl, rfl⟩ | ⟨rfl, rfl⟩ | ⟨rfl, rfl⟩ | ⟨rfl, rfl⟩ | ⟨rfl, rfl⟩ | ⟨rfl, rfl⟩ | ⟨rfl, rfl⟩ | ⟨rfl, rfl⟩ | ⟨rfl, rfl⟩ <;> rfl
end Go.Proofs.Ytanediaaidfcaaa
/- Packets compared: equal, by links. (genWirZ.py) -/
namespace Go.Proofs.Ytanediaaidfcaaa
open Go.RowKit
set_option linter.unusedSimpArgs false
set_option linter.unusedVariables false

theorem callRep (args : Array Value) (w : World) : (callFunc 34 args).run Try.prog w = .ok (.enter 34 args) w := by
  have h := Try.func34
  go_simp

set_option maxRecDepth 100000 in
set_option maxHeartbeats 4000000 in
theorem equalPk_any (P Q : PkM) (a b : Option Addr) (c d : Nat) (w : World) (ha : Row w 1 a P.N.length c (P.N.map strV)) (hb : Row w 1 b Q.N.length d (Q.N.map strV)) :
    Calls Try.prog 20 #[.agg (pkC P a P.N.length c).toArray, .agg (pkC Q b Q.N.length d).toArray] w fun e w' => e = .returned (.bool (eqPk P Q)) ∧ Below w.heap.size w w' := by
  have HN := hid (fun (W : World) (hW : Below w.heap.size w W) => equalRep_any P Q a b c d W (ha.mono hW) (hb.mono hW))
  clear ha hb
  go_enter Try.func20, Try.ntmps20
  go_step
  go_step
  go_step
  refine wpl_boxT rfl 35 _ rfl (pkC P a P.N.length c) rfl ?_
  intro w1 k1 b1 s1
  refine wpl_boxT rfl 35 _ rfl (pkC Q b Q.N.length d) rfl ?_
  intro w2 k2 b2 s2
  have B1 := hid b1; have S1 := hid s1
  have B2 := hid (kept_trans B1.out b2); have KP := hid (k1.mono b2); have KQ := hid k2
  clear k1 b1 s1 k2 b2 s2
  go_step
  go_step
  go_step
  go_step
  go_step
  go_step
  go_step
  go_step
  refine wpk_first (⟨fun g => fieldPk 0 0 (by decide) g _, loadI (KP.out.cell (i := 0) (by show 0 < 43; omega)), loadI (KQ.out.cell (i := 0) (by show 0 < 43; omega)), fun x y => eqI x y _ _ _⟩ : Cmp Try.prog _ 35 0 3 .eql w.heap.size w1.heap.size (P.I 0 == Q.I 0) 0 (.int .i64 (P.I 0)) (.int .i64 (Q.I 0))) (N := 115) ⟨rfl, (by intro x hx; simp only [List.mem_cons, List.not_mem_nil, or_false] at hx; rcases hx with rfl | rfl <;> rfl), rfl⟩ (by decide) (by decide) (by decide) 3 rfl rfl rfl rfl rfl rfl rfl rfl rfl rfl rfl rfl rfl rfl rfl rfl rfl rfl fun a0 h0 => ?_
  refine wpk_link (⟨fun g => fieldPk 1 1 (by decide) g _, loadI (KP.out.cell (i := 1) (by show 1 < 43; omega)), loadI (KQ.out.cell (i := 1) (by show 1 < 43; omega)), fun x y => eqI x y _ _ _⟩ : Cmp Try.prog _ 35 1 3 .eql w.heap.size w1.heap.size (P.I 1 == Q.I 1) 1 (.int .i64 (P.I 1)) (.int .i64 (Q.I 1))) true h0 rfl (by decide) (by decide) (by decide) (by decide) 3 rfl rfl rfl rfl rfl rfl rfl rfl rfl rfl rfl rfl rfl rfl rfl rfl rfl rfl rfl rfl rfl fun a1 h1 => ?_
  refine wpk_link (⟨fun g => fieldPk 2 2 (by decide) g _, loadI (KP.out.cell (i := 2) (by show 2 < 43; omega)), loadI (KQ.out.cell (i := 2) (by show 2 < 43; omega)), fun x y => eqI x y _ _ _⟩ : Cmp Try.prog _ 35 2 3 .eql w.heap.size w1.heap.size (P.I 2 == Q.I 2) 2 (.int .i64 (P.I 2)) (.int .i64 (Q.I 2))) true h1 rfl (by decide) (by decide) (by decide) (by decide) 3 rfl rfl rfl rfl rfl rfl rfl rfl rfl rfl rfl rfl rfl rfl rfl rfl rfl rfl rfl rfl rfl fun a2 h2 => ?_
  refine wpk_link (⟨fun g => fieldPk 3 3 (by decide) g _, loadI (KP.out.cell (i := 3) (by show 3 < 43; omega)), loadI (KQ.out.cell (i := 3) (by show 3 < 43; omega)), fun x y => eqI x y _ _ _⟩ : Cmp Try.prog _ 35 3 3 .eql w.heap.size w1.heap.size (P.I 3 == Q.I 3) 3 (.int .i64 (P.I 3)) (.int .i64 (Q.I 3))) true h2 rfl (by decide) (by decide) (by decide) (by decide) 3 rfl rfl rfl rfl rfl rfl rfl rfl rfl rfl rfl rfl rfl rfl rfl rfl rfl rfl rfl rfl rfl fun a3 h3 => ?_
  refine wpk_link (⟨fun g => fieldPk 4 4 (by decide) g _, loadI (KP.out.cell (i := 4) (by show 4 < 43; omega)), loadI (KQ.out.cell (i := 4) (by show 4 < 43; omega)), fun x y => eqI x y _ _ _⟩ : Cmp Try.prog _ 35 4 3 .eql w.heap.size w1.heap.size (P.I 4 == Q.I 4) 4 (.int .i64 (P.I 4)) (.int .i64 (Q.I 4))) true h3 rfl (by decide) (by decide) (by decide) (by decide) 3 rfl rfl rfl rfl rfl rfl rfl rfl rfl rfl rfl rfl rfl rfl rfl rfl rfl rfl rfl rfl rfl fun a4 h4 => ?_
  refine wpk_link (⟨fun g => fieldPk 5 5 (by decide) g _, loadI (KP.out.cell (i := 5) (by show 5 < 43; omega)), loadI (KQ.out.cell (i := 5) (by show 5 < 43; omega)), fun x y => eqI x y _ _ _⟩ : Cmp Try.prog _ 35 5 3 .eql w.heap.size w1.heap.size (P.I 5 == Q.I 5) 5 (.int .i64 (P.I 5)) (.int .i64 (Q.I 5))) true h4 rfl (by decide) (by decide) (by decide) (by decide) 3 rfl rfl rfl rfl rfl rfl rfl rfl rfl rfl rfl rfl rfl rfl rfl rfl rfl rfl rfl rfl rfl fun a5 h5 => ?_
  refine wpk_link (⟨fun g => fieldPk 6 6 (by decide) g _, loadI (KP.out.cell (i := 6) (by show 6 < 43; omega)), loadI (KQ.out.cell (i := 6) (by show 6 < 43; omega)), fun x y => eqI x y _ _ _⟩ : Cmp Try.prog _ 35 6 3 .eql w.heap.size w1.heap.size (P.I 6 == Q.I 6) 6 (.int .i64 (P.I 6)) (.int .i64 (Q.I 6))) true h5 rfl (by decide) (by decide) (by decide) (by decide) 3 rfl rfl rfl rfl rfl rfl rfl rfl rfl rfl rfl rfl rfl rfl rfl rfl rfl rfl rfl rfl rfl fun a6 h6 => ?_
  refine wpk_link (⟨fun g => fieldPk 7 7 (by decide) g _, loadS (KP.out.cell (i := 7) (by show 7 < 43; omega)), loadS (KQ.out.cell (i := 7) (by show 7 < 43; omega)), fun x y => eqSt x y _ _ _⟩ : Cmp Try.prog _ 35 7 9 .eql w.heap.size w1.heap.size ((bsW (P.S 7)).toList == (bsW (Q.S 7)).toList) 7 (.string (bsW (P.S 7))) (.string (bsW (Q.S 7)))) true h6 rfl (by decide) (by decide) (by decide) (by decide) 9 rfl rfl rfl rfl rfl rfl rfl rfl rfl rfl rfl rfl rfl rfl rfl rfl rfl rfl rfl rfl rfl fun a7 h7 => ?_
  refine wpk_link (⟨fun g => fieldPk 8 8 (by decide) g _, loadI (KP.out.cell (i := 8) (by show 8 < 43; omega)), loadI (KQ.out.cell (i := 8) (by show 8 < 43; omega)), fun x y => eqI x y _ _ _⟩ : Cmp Try.prog _ 35 8 3 .eql w.heap.size w1.heap.size (P.I 8 == Q.I 8) 8 (.int .i64 (P.I 8)) (.int .i64 (Q.I 8))) true h7 rfl (by decide) (by decide) (by decide) (by decide) 3 rfl rfl rfl rfl rfl rfl rfl rfl rfl rfl rfl rfl rfl rfl rfl rfl rfl rfl rfl rfl rfl fun a8 h8 => ?_
  refine wpk_link (⟨fun g => fieldPk 9 9 (by decide) g _, loadI (KP.out.cell (i := 9) (by show 9 < 43; omega)), loadI (KQ.out.cell (i := 9) (by show 9 < 43; omega)), fun x y => eqI x y _ _ _⟩ : Cmp Try.prog _ 35 9 3 .eql w.heap.size w1.heap.size (P.I 9 == Q.I 9) 9 (.int .i64 (P.I 9)) (.int .i64 (Q.I 9))) true h8 rfl (by decide) (by decide) (by decide) (by decide) 3 rfl rfl rfl rfl rfl rfl rfl rfl rfl rfl rfl rfl rfl rfl rfl rfl rfl rfl rfl rfl rfl fun a9 h9 => ?_
  refine wpk_link (⟨fun g => fieldPk 10 10 (by decide) g _, run_loadAt_mid _ _ _ _ (callC P) _ (KP.out.part 10 8 (callC P) rfl) Try.underlying23 rfl infoCal, run_loadAt_mid _ _ _ _ (callC Q) _ (KQ.out.part 10 8 (callC Q) rfl) Try.underlying23 rfl infoCal, fun x y => eqR (by simp) (run_eqCall P Q) x y _⟩ : Cmp Try.prog _ 35 10 23 .eql w.heap.size w1.heap.size (eqCall P Q) 10 (.agg (callC P).toArray) (.agg (callC Q).toArray)) true h9 rfl (by decide) (by decide) (by decide) (by decide) 23 rfl rfl rfl rfl rfl rfl rfl rfl rfl rfl rfl rfl rfl rfl rfl rfl rfl rfl rfl rfl rfl fun a10 h10 => ?_
  refine wpk_link (⟨fun g => fieldPk 11 18 (by decide) g _, loadI (KP.out.cell (i := 18) (by show 18 < 43; omega)), loadI (KQ.out.cell (i := 18) (by show 18 < 43; omega)), fun x y => eqI x y _ _ _⟩ : Cmp Try.prog _ 35 11 3 .eql w.heap.size w1.heap.size (P.I 18 == Q.I 18) 18 (.int .i64 (P.I 18)) (.int .i64 (Q.I 18))) true h10 rfl (by decide) (by decide) (by decide) (by decide) 3 rfl rfl rfl rfl rfl rfl rfl rfl rfl rfl rfl rfl rfl rfl rfl rfl rfl rfl rfl rfl rfl fun a11 h11 => ?_
  refine wpk_link (⟨fun g => fieldPk 12 19 (by decide) g _, loadE (KP.out.cell (i := 19) (by show 19 < 43; omega)), loadE (KQ.out.cell (i := 19) (by show 19 < 43; omega)), fun x y => eqE x y _ _ _⟩ : Cmp Try.prog _ 35 12 24 .eql w.heap.size w1.heap.size (P.I 19 == Q.I 19) 19 (.int .i64 (P.I 19)) (.int .i64 (Q.I 19))) true h11 rfl (by decide) (by decide) (by decide) (by decide) 24 rfl rfl rfl rfl rfl rfl rfl rfl rfl rfl rfl rfl rfl rfl rfl rfl rfl rfl rfl rfl rfl fun a12 h12 => ?_
  refine wpk_link (⟨fun g => fieldPk 14 27 (by decide) g _, loadI (KP.out.cell (i := 27) (by show 27 < 43; omega)), loadI (KQ.out.cell (i := 27) (by show 27 < 43; omega)), fun x y => eqI x y _ _ _⟩ : Cmp Try.prog _ 35 14 3 .eql w.heap.size w1.heap.size (P.I 27 == Q.I 27) 27 (.int .i64 (P.I 27)) (.int .i64 (Q.I 27))) true h12 rfl (by decide) (by decide) (by decide) (by decide) 3 rfl rfl rfl rfl rfl rfl rfl rfl rfl rfl rfl rfl rfl rfl rfl rfl rfl rfl rfl rfl rfl fun a13 h13 => ?_
  refine wpk_link (⟨fun g => fieldPk 15 28 (by decide) g _, run_loadAt_mid _ _ _ _ (nodeC P) _ (KP.out.part 28 15 (nodeC P) rfl) Try.underlying33 rfl infoNod, run_loadAt_mid _ _ _ _ (nodeC Q) _ (KQ.out.part 28 15 (nodeC Q) rfl) Try.underlying33 rfl infoNod, fun x y => eqR (by simp) (run_eqNode P Q) x y _⟩ : Cmp Try.prog _ 35 15 33 .eql w.heap.size w1.heap.size (eqNode P Q) 28 (.agg (nodeC P).toArray) (.agg (nodeC Q).toArray)) true h13 rfl (by decide) (by decide) (by decide) (by decide) 33 rfl rfl rfl rfl rfl rfl rfl rfl rfl rfl rfl rfl rfl rfl rfl rfl rfl rfl rfl rfl rfl fun a14 h14 => ?_
  refine wpk_lastcall (fun g => fieldPk 13 20 (by decide) g _) (run_loadAt_mid _ _ _ _ (repC P a P.N.length c) _ (KP.out.part 20 7 (repC P a P.N.length c) rfl) Try.underlying29 rfl infoRep) (run_loadAt_mid _ _ _ _ (repC Q b Q.N.length d) _ (KQ.out.part 20 7 (repC Q b Q.N.length d) rfl) Try.underlying29 rfl infoRep) (fun args => callRep args _) (S := fun w' => Below w.heap.size w w') B2.out ((HN.out _ B2.out).mono fun e w' q => ⟨q.1, kept_trans B2.out q.2⟩) h14 rfl (by decide) (by decide) (by decide) (by decide) #[29, 29] rfl rfl rfl rfl rfl rfl rfl rfl rfl rfl rfl rfl rfl rfl rfl rfl rfl rfl fun a9 w9 s9 h9 => ?_
  refine wpk_val h9 (wanted_none rfl) rfl (by decide) (by intro x hx; simp only [List.mem_cons, List.not_mem_nil, or_false] at hx; rcases hx with rfl; show ¬ (109 + 5 = 4); decide) _ (by unfold execOp; simp only [h9.eval (List.mem_cons_self ..)]; rfl) fun a10 h10 => ?_
  go_step
  go_step
  go_step
  go_step
  refine bodyPost_ret (results_tmp1 rfl (h10.known _ (List.mem_cons_self ..))) h10.defs ?_
  refine ⟨ret_bool ?_, s9⟩
  unfold eqPk eqS
  simp only [if_true, Bool.and_assoc]
end Go.Proofs.Ytanediaaidfcaaa
