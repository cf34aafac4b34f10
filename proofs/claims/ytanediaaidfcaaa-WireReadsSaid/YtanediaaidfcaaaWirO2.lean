/- The document's others. (genWirO2.py) -/
import Derived.Test.YtanediaaidfcaaaWirZa
namespace Go.Proofs.Ytanediaaidfcaaa
open Go.RowKit
set_option linter.unusedSimpArgs false
set_option linter.unusedVariables false

theorem storeI {w : World} {g off : Nat} {u : Value} (h : w.cell? ⟨g, off, none⟩ = some u) (hz : w.frozen? ⟨g, off, none⟩ = false) (v : Int) : (Instr.storeAt 3 (.pointer (some ⟨g, off, none⟩)) (.int .i64 v)).run Try.prog w = .ok () (w.setCell ⟨g, off, none⟩ (.int .i64 v)) := by
  have u3 := Try.underlying3
  have a3 := Try.isAgg3
  have z3 := Try.sizeOf3
  go_simp
theorem storeE {w : World} {g off : Nat} {u : Value} (h : w.cell? ⟨g, off, none⟩ = some u) (hz : w.frozen? ⟨g, off, none⟩ = false) (v : Int) : (Instr.storeAt 24 (.pointer (some ⟨g, off, none⟩)) (.int .i64 v)).run Try.prog w = .ok () (w.setCell ⟨g, off, none⟩ (.int .i64 v)) := by
  have u3 := Try.underlying24
  have a3 := Try.isAgg24
  have z3 := Try.sizeOf24
  go_simp
theorem storeS {w : World} {g off : Nat} {u : Value} (h : w.cell? ⟨g, off, none⟩ = some u) (hz : w.frozen? ⟨g, off, none⟩ = false) (v : ByteArray) : (Instr.storeAt 9 (.pointer (some ⟨g, off, none⟩)) (.string v)).run Try.prog w = .ok () (w.setCell ⟨g, off, none⟩ (.string v)) := by
  have u3 := Try.underlying9
  have a3 := Try.isAgg9
  have z3 := Try.sizeOf9
  go_simp
theorem run_u {P : Program} {s : Sem Unit} {w w' : World} (h : s.run P w = .ok () w') : (do s; pure Next.skip : Sem Next).run P w = .ok .skip w' := by
  rw [Sem.run_bind, h]; rfl
theorem wpk_skipv {P : Program} {ops : Array Oper} {Q : Exit → Act → World → Prop} {rest : List Oper} {o : Oper} {a : Act} {w w' : World} {N : Nat} {l : List (Nat × Value)} (h : Kn N l a) (hw : Region.wanted o (yielded ops a.tmps) = true) (hd : o.dst = none)
    (hr : (execOp a.eval o).run P w = .ok .skip w') (k : ∀ a', Kn N l a' → wpList P ops Q rest a' w') : wpList P ops Q (o :: rest) a w := by
  refine wpList_step fun K hK => ?_
  rw [if_pos hw]
  unfold Oper.wp
  rw [hr, Oper.upon_skip, hd]
  exact hK _ _ (k _ h)
/-- a struct that is boxed -/
theorem wpk_box {ops : Array Oper} {Q : Exit → Act → World → Prop} {rest : List Oper} {o : Oper} {a : Act} {w : World} {N : Nat} {l : List (Nat × Value)} (h : Kn N l a) (hw : o.guard = none) {d : Nat} (hd : o.dst = some d) (hdN : d < N) (hf : ∀ x ∈ l, x.1 ≠ d) (T : TypeId) {x : Operand} (ho : o.op = .box T x) (L : List Value) (hx : a.eval x = .agg L.toArray)
    (k : ∀ a' w', Kn N ((d, .pointer (some ⟨w.heap.size, 0, none⟩)) :: l) a' → Blk w' w.heap.size T L → Below w.heap.size w w' → w'.heap.size = w.heap.size + 1 → wpList Try.prog ops Q rest a' w') : wpList Try.prog ops Q (o :: rest) a w :=
  wpk_val h (wanted_none hw) hd hdN hf _ (run_boxT ho _ w _ hx) fun a' h' => k a' _ h' (blk_newO rfl _ _) (albO _ _) (by simp)
/-- a struct stored into a part of a block -/
theorem wpk_storeR {P : Program} {ops : Array Oper} {Q : Exit → Act → World → Prop} {rest : List Oper} {o : Oper} {a : Act} {w : World} {N : Nat} {l : List (Nat × Value)} (h : Kn N l a) (hw : o.guard = none) (hd : o.dst = none) (T : TypeId) {x y : Operand} (ho : o.op = .store T x y) (g off : Nat) (hx : a.eval x = .pointer (some ⟨g, off, none⟩)) (vs : List Value) (hy : a.eval y = .agg vs.toArray) (hn : (P.info? T).map (·.size) = some vs.length) (h1 : ∀ v ∈ vs, v.oneCell' = true) {e : TypeId} {L : List Value} (hb : Blk w g e L) (hL : off + vs.length ≤ L.length)
    (k : ∀ a' w', Kn N l a' → Blk w' g e (splice L off vs) → w.grownBy w' (some g) → wpList P ops Q rest a' w') : wpList P ops Q (o :: rest) a w := by
  refine wpl_storeM hw T x y ho g off hx vs hy hn h1 hb hL fun w' hb' hg => ?_
  rw [hd]
  exact k a w' h hb' hg
/-- a field of one struct copied into another -/
theorem wpk_copy {T : TypeId} {f off : Nat} {Tc : TypeId} {gp gq : Nat} {v : Value} {w : World} (A : ∀ g, (Instr.fieldAt T (.pointer (some ⟨g, 0, none⟩)) f).run Try.prog w = .ok (.pointer (some ⟨g, off, none⟩)) w) (lp : (Instr.loadAt Tc (.pointer (some ⟨gp, off, none⟩))).run Try.prog w = .ok v w)
    (st : (Instr.storeAt Tc (.pointer (some ⟨gq, off, none⟩)) v).run Try.prog w = .ok () (w.setCell ⟨gq, off, none⟩ v)) {e : TypeId} {L : List Value} (KQ : Blk w gq e L)
    {ops : Array Oper} {Q : Exit → Act → World → Prop} {rest : List Oper} {a : Act} {N : Nat} {l : List (Nat × Value)} (h : Kn N l a) {d pb qb : Nat} (mp : (pb, .pointer (some ⟨gp, 0, none⟩)) ∈ l) (mq : (qb, .pointer (some ⟨gq, 0, none⟩)) ∈ l) (hl : ∀ x ∈ l, x.1 < d) (hN : d + 2 < N) {o1 o2 o3 o4 : Oper}
    (g1 : o1.guard = none) (g2 : o2.guard = none) (g3 : o3.guard = none) (g4 : o4.guard = none) (e1 : o1.dst = some d) (e2 : o2.dst = some (d + 1)) (e3 : o3.dst = some (d + 2)) (e4 : o4.dst = none)
    (p1 : o1.op = .fieldAddr T (.tmp pb) f) (p2 : o2.op = .load Tc (.tmp d)) (p3 : o3.op = .fieldAddr T (.tmp qb) f) (p4 : o4.op = .store Tc (.tmp (d + 2)) (.tmp (d + 1)))
    (k : ∀ a' w', Kn N l a' → Blk w' gq e (L.set off v) → w.grownBy w' (some gq) → wpList Try.prog ops Q rest a' w') : wpList Try.prog ops Q (o1 :: o2 :: o3 :: o4 :: rest) a w := by
  refine wpk_val h (wanted_none g1) e1 (by omega) (lt_of_mem hl) (.pointer (some ⟨gp, off, none⟩)) (by unfold execOp; rw [p1]; simp only [h.eval mp]; exact run_v (A gp)) fun a1 h1 => ?_
  have l1 := lt_cons (v := .pointer (some ⟨gp, off, none⟩)) hl
  refine wpk_val h1 (wanted_none g2) e2 (by omega) (lt_of_mem l1) v (by unfold execOp; rw [p2]; simp only [h1.eval (List.mem_cons_self ..)]; exact run_v lp) fun a2 h2 => ?_
  have l2 := lt_cons (v := v) l1
  refine wpk_val h2 (wanted_none g3) e3 (by omega) (lt_of_mem l2) (.pointer (some ⟨gq, off, none⟩)) (by unfold execOp; rw [p3]; simp only [h2.eval (List.mem_cons_of_mem _ (List.mem_cons_of_mem _ mq))]; exact run_v (A gq)) fun a3 h3 => ?_
  refine wpk_skipv h3 (wanted_none g4) e4 (w' := w.setCell ⟨gq, off, none⟩ v) (by
    unfold execOp; rw [p4]
    simp only [h3.eval (k := d + 2) (List.mem_cons_self ..), h3.eval (k := d + 1) (v := v) (List.mem_cons_of_mem _ (List.mem_cons_self ..))]
    exact run_u st) fun a4 h4 => ?_
  exact k a4 _ (h4.sub (fun x hx => List.mem_cons_of_mem _ (List.mem_cons_of_mem _ (List.mem_cons_of_mem _ hx)))) (KQ.set off v) (sg_set (sg_refl w _) off v)
set_option maxRecDepth 100000 in
set_option maxHeartbeats 1000000 in
theorem build4 (x0 x1 x2 x3 : Int) (w : World) : (Instr.build 35 #[(0, .int .i64 x0), (1, .int .i64 x1), (2, .int .i64 x2), (3, .int .i64 x3)]).run Try.prog w = .ok (.agg (pkC (setI (setI (setI (setI P0z 0 x0) 1 x1) 2 x2) 3 x3) none 0 0).toArray) w := by
  go_simp
  rfl
set_option maxRecDepth 100000 in
set_option maxHeartbeats 1000000 in
theorem buildCall (s1 s2 : ByteArray) (x3 x6 : Int) (w : World) : (Instr.build 23 #[(1, .string s1), (2, .string s2), (3, .int .i64 x3), (6, .int .i64 x6)]).run Try.prog w = .ok (.agg #[.int .i64 0, .string s1, .string s2, .int .i64 x3, .int .i64 0, .int .i64 0, .int .i64 x6, .string ⟨#[]⟩]) w := by
  go_simp
  try rfl
set_option maxRecDepth 100000 in
set_option maxHeartbeats 1000000 in
theorem buildReply (a : Option Addr) (n c : Nat) (x y z : Int) (w : World) : (Instr.build 29 #[(3, .slice a n c), (4, .agg #[.int .i64 x, .int .i64 y, .int .i64 z])]).run Try.prog w = .ok (.agg #[.int .i64 0, .int .i64 0, .string ⟨#[]⟩, .slice a n c, .int .i64 x, .int .i64 y, .int .i64 z]) w := by
  go_simp
  try rfl
set_option maxRecDepth 100000 in
set_option maxHeartbeats 1000000 in
theorem buildNode (x0 x1 x2 b0 b1 b2 b3 : Int) (w : World) : (Instr.build 33 #[(0, .int .i64 x0), (1, .int .i64 x1), (2, .int .i64 x2), (3, .agg #[.int .i64 b0, .int .i64 b1, .int .i64 b2, .int .i64 b3])]).run Try.prog w = .ok (.agg #[.int .i64 x0, .int .i64 x1, .int .i64 x2, .int .i64 b0, .int .i64 b1, .int .i64 b2, .int .i64 b3, .int .i64 0, .int .i64 0, .int .i64 0, .int .i64 0, .int .i64 0, .int .i64 0, .int .i64 0, .int .i64 0]) w := by
  go_simp
  try rfl
set_option maxRecDepth 100000 in
theorem fieldCl (f off : Nat) (h : (f, off) ∈ [(1, 11), (2, 12), (3, 13), (6, 16)]) (g : Nat) (w : World) : (Instr.fieldAt 23 (.pointer (some ⟨g, 10, none⟩)) f).run Try.prog w = .ok (.pointer (some ⟨g, off, none⟩)) w := by
  simp only [List.mem_cons, Prod.mk.injEq, List.not_mem_nil, or_false] at h
  rcases h with ⟨rfl, rfl⟩ | ⟨rfl, rfl⟩ | ⟨rfl, rfl⟩ | ⟨rfl, rfl⟩ <;> rfl
set_option maxRecDepth 100000 in
theorem fieldIn (f off : Nat) (h : (f, off) ∈ [(0, 28), (1, 29), (2, 30), (3, 31)]) (g : Nat) (w : World) : (Instr.fieldAt 33 (.pointer (some ⟨g, 28, none⟩)) f).run Try.prog w = .ok (.pointer (some ⟨g, off, none⟩)) w := by
  simp only [List.mem_cons, Prod.mk.injEq, List.not_mem_nil, or_false] at h
  rcases h with ⟨rfl, rfl⟩ | ⟨rfl, rfl⟩ | ⟨rfl, rfl⟩ | ⟨rfl, rfl⟩ <;> rfl
theorem infoA4 : (Try.prog.info? 30).map (·.size) = some 4 := by kernel_rfl
def blkC (P : PkM) : List Value := [.int .i64 (P.I 31), .int .i64 (P.I 32), .int .i64 (P.I 33), .int .i64 (P.I 34)]
theorem callSameP (args : Array Value) (w : World) : (callFunc 16 args).run Try.prog w = .ok (.enter 16 args) w := by
  have h := Try.func16
  go_simp
abbrev LO (gp gq : Nat) (P : PkM) : List (Nat × Value) := [(1, .pointer (some ⟨gp, 0, none⟩)), (3, .pointer (some ⟨gq, 0, none⟩)), (14, .int .i64 (P.I 0))]

set_option maxRecDepth 100000 in
set_option maxHeartbeats 4000000 in
theorem others_1 (P : PkM) (a : Option Addr) (c : Nat) (w : World) (ha : Row w 1 a P.N.length c (P.N.map strV)) (hk : P.I 0 = 1) :
    Calls Try.prog 42 #[.agg (pkC P a P.N.length c).toArray] w fun e w' => e = .returned (.bool (eqPk P (setL P P0z (fHead ++ fRest 1)))) ∧ Below w.heap.size w w' := by
  have e1 : (P.I 0 == 1) = true := by rw [hk]; rfl
  have e2 : (P.I 0 == 2) = false := by rw [hk]; rfl
  have e3 : (P.I 0 == 3) = false := by rw [hk]; rfl
  have e4 : (P.I 0 == 4) = false := by rw [hk]; rfl
  have e5 : (P.I 0 == 5) = false := by rw [hk]; rfl
  have HA := hid ha
  clear ha hk
  go_enter Try.func42, Try.ntmps42
  go_step
  go_step
  go_step
  refine wpl_boxT rfl 35 _ rfl (pkC P a P.N.length c) rfl ?_
  intro w1 k1 b1 s1
  have KP0 := hid k1; have B1 := hid b1; have S1 := hid s1
  have nE : ¬ w.heap.size = w1.heap.size := by omega
  clear k1 b1 s1
  go_step
  go_step
  go_step
  go_step
  go_step
  go_step
  go_step
  go_step
  refine wpk_enter (N := 118) (l := [(1, .pointer (some ⟨w.heap.size, 0, none⟩))]) ⟨rfl, (by intro x hx; simp only [List.mem_cons, List.not_mem_nil, or_false] at hx; rcases hx with rfl <;> rfl), rfl⟩ fun a0 i0 => ?_
  refine wpk_val i0 (wanted_none rfl) rfl (by decide) (by intro x hx; simp only [List.mem_cons, List.not_mem_nil, or_false] at hx; rcases hx with rfl <;> simp) (.pointer (some ⟨w.heap.size, 0, none⟩)) (by unfold execOp; simp only [i0.eval (k := 1) (v := .pointer (some ⟨w.heap.size, 0, none⟩)) (by simp)]; exact run_v (fieldPk 0 0 (by decide) w.heap.size _)) fun a1 i1 => ?_
  refine wpk_val i1 (wanted_none rfl) rfl (by decide) (by intro x hx; simp only [List.mem_cons, List.not_mem_nil, or_false] at hx; rcases hx with rfl | rfl <;> simp) (.int .i64 (P.I 0)) (by unfold execOp; simp only [i1.eval (k := 4) (List.mem_cons_self ..)]; exact run_v (loadI (KP0.out.cell (i := 0) (by show 0 < 43; omega)))) fun a2 i2 => ?_
  refine wpk_val i2 (wanted_none rfl) rfl (by decide) (by intro x hx; simp only [List.mem_cons, List.not_mem_nil, or_false] at hx; rcases hx with rfl | rfl | rfl <;> simp) (.pointer (some ⟨w.heap.size, 1, none⟩)) (by unfold execOp; simp only [i2.eval (k := 1) (v := .pointer (some ⟨w.heap.size, 0, none⟩)) (by simp)]; exact run_v (fieldPk 1 1 (by decide) w.heap.size _)) fun a3 i3 => ?_
  refine wpk_val i3 (wanted_none rfl) rfl (by decide) (by intro x hx; simp only [List.mem_cons, List.not_mem_nil, or_false] at hx; rcases hx with rfl | rfl | rfl | rfl <;> simp) (.int .i64 (P.I 1)) (by unfold execOp; simp only [i3.eval (k := 6) (List.mem_cons_self ..)]; exact run_v (loadI (KP0.out.cell (i := 1) (by show 1 < 43; omega)))) fun a4 i4 => ?_
  refine wpk_val i4 (wanted_none rfl) rfl (by decide) (by intro x hx; simp only [List.mem_cons, List.not_mem_nil, or_false] at hx; rcases hx with rfl | rfl | rfl | rfl | rfl <;> simp) (.pointer (some ⟨w.heap.size, 2, none⟩)) (by unfold execOp; simp only [i4.eval (k := 1) (v := .pointer (some ⟨w.heap.size, 0, none⟩)) (by simp)]; exact run_v (fieldPk 2 2 (by decide) w.heap.size _)) fun a5 i5 => ?_
  refine wpk_val i5 (wanted_none rfl) rfl (by decide) (by intro x hx; simp only [List.mem_cons, List.not_mem_nil, or_false] at hx; rcases hx with rfl | rfl | rfl | rfl | rfl | rfl <;> simp) (.int .i64 (P.I 2)) (by unfold execOp; simp only [i5.eval (k := 8) (List.mem_cons_self ..)]; exact run_v (loadI (KP0.out.cell (i := 2) (by show 2 < 43; omega)))) fun a6 i6 => ?_
  refine wpk_val i6 (wanted_none rfl) rfl (by decide) (by intro x hx; simp only [List.mem_cons, List.not_mem_nil, or_false] at hx; rcases hx with rfl | rfl | rfl | rfl | rfl | rfl | rfl <;> simp) (.pointer (some ⟨w.heap.size, 3, none⟩)) (by unfold execOp; simp only [i6.eval (k := 1) (v := .pointer (some ⟨w.heap.size, 0, none⟩)) (by simp)]; exact run_v (fieldPk 3 3 (by decide) w.heap.size _)) fun a7 i7 => ?_
  refine wpk_val i7 (wanted_none rfl) rfl (by decide) (by intro x hx; simp only [List.mem_cons, List.not_mem_nil, or_false] at hx; rcases hx with rfl | rfl | rfl | rfl | rfl | rfl | rfl | rfl <;> simp) (.int .i64 (P.I 3)) (by unfold execOp; simp only [i7.eval (k := 10) (List.mem_cons_self ..)]; exact run_v (loadI (KP0.out.cell (i := 3) (by show 3 < 43; omega)))) fun a8 i8 => ?_
  obtain ⟨Q0, hQ0⟩ : ∃ Q0, Q0 = setI (setI (setI (setI P0z 0 (P.I 0)) 1 (P.I 1)) 2 (P.I 2)) 3 (P.I 3) := ⟨_, rfl⟩
  refine wpk_val i8 (wanted_none rfl) rfl (by decide) (by intro x hx; simp only [List.mem_cons, List.not_mem_nil, or_false] at hx; rcases hx with rfl | rfl | rfl | rfl | rfl | rfl | rfl | rfl | rfl <;> simp) (.agg (pkC Q0 none 0 0).toArray) (by unfold execOp; simp only [i8.eval (k := 5) (v := .int .i64 (P.I 0)) (by simp), i8.eval (k := 7) (v := .int .i64 (P.I 1)) (by simp), i8.eval (k := 9) (v := .int .i64 (P.I 2)) (by simp), i8.eval (k := 11) (v := .int .i64 (P.I 3)) (by simp), List.map_toArray, List.map_cons, List.map_nil]; rw [hQ0]; exact run_v (build4 _ _ _ _ _)) fun a9 i9 => ?_
  refine wpk_val i9 (wanted_none rfl) rfl (by decide) (by intro x hx; simp only [List.mem_cons, List.not_mem_nil, or_false] at hx; rcases hx with rfl | rfl | rfl | rfl | rfl | rfl | rfl | rfl | rfl | rfl <;> simp) (.pointer (some ⟨w1.heap.size, 0, none⟩)) (run_allocPk rfl _ w1) fun a10 i10 => ?_
  have j10 := i10.sub (l' := [(1, .pointer (some ⟨w.heap.size, 0, none⟩)), (3, .pointer (some ⟨w1.heap.size, 0, none⟩)), (12, .agg (pkC Q0 none 0 0).toArray)]) (by intro x hx; simp only [List.mem_cons, List.not_mem_nil, or_false] at hx; rcases hx with rfl | rfl | rfl <;> simp)
  clear i0 i1 i2 i3 i4 i5 i6 i7 i8 i9 i10
  have z2 : Blk (w1.alloc (.cells litPk 35)) w1.heap.size 35 (pkC P0z none 0 0) := by rw [litPk_eq]; exact blk_newO rfl _ _
  have KP2 := hid (KP0.out.mono (albO w1 (.cells litPk 35))); have B2 := hid (kept_alloc B1.out (.cells litPk 35))
  generalize w1.alloc (.cells litPk 35) = w2 at *
  refine wpk_storeR j10 rfl rfl 35 rfl w1.heap.size 0 (j10.eval (k := 3) (v := .pointer (some ⟨w1.heap.size, 0, none⟩)) (by simp)) (pkC Q0 none 0 0) (j10.eval (k := 12) (v := .agg (pkC Q0 none 0 0).toArray) (by simp)) (by rw [infoPk]; rfl) (pkC_one _ _ _ _) z2 (by show 0 + 43 ≤ 43; omega) fun a11 w3 j10 k3 g3 => ?_
  rw [splice_all (by rfl)] at k3
  have KP3 := hid (KP2.out.grownS g3 nE); have B3 := hid (below_grownS B2.out g3 B1.out.size B2.out.size); have KQ3 := hid k3
  clear k3 g3 z2 KP2 B2 KP0
  go_step
  go_step
  go_step
  go_step
  go_step
  go_step
  refine wpk_val j10 (wanted_none rfl) rfl (by decide) (by intro x hx; simp only [List.mem_cons, List.not_mem_nil, or_false] at hx; rcases hx with rfl | rfl | rfl <;> simp) (.pointer (some ⟨w.heap.size, 0, none⟩)) (by unfold execOp; simp only [j10.eval (k := 1) (v := .pointer (some ⟨w.heap.size, 0, none⟩)) (by simp)]; exact run_v (fieldPk 0 0 (by decide) w.heap.size _)) fun a12 j11 => ?_
  refine wpk_val j11 (wanted_none rfl) rfl (by decide) (by intro x hx; simp only [List.mem_cons, List.not_mem_nil, or_false] at hx; rcases hx with rfl | rfl | rfl | rfl <;> simp) (.int .i64 (P.I 0)) (by unfold execOp; simp only [j11.eval (k := 13) (List.mem_cons_self ..)]; exact run_v (loadI (KP3.out.cell (i := 0) (by show 0 < 43; omega)))) fun a13 j12 => ?_
  have m0 := j12.sub (l' := LO w.heap.size w1.heap.size P) (by intro x hx; simp only [List.mem_cons, List.not_mem_nil, or_false] at hx; rcases hx with rfl | rfl | rfl <;> simp)
  clear j10 j11 j12
  go_step
  go_step
  go_step
  go_step
  go_step
  go_step
  refine wpk_val m0 (wanted_none rfl) rfl (by decide) (by intro x hx; simp only [List.mem_cons, List.not_mem_nil, or_false] at hx; rcases hx with rfl | rfl | rfl <;> simp) (.bool (P.I 0 == 1)) (by unfold execOp; simp only [m0.eval (k := 14) (v := .int .i64 (P.I 0)) (by simp)]; exact run_v (eqI _ _ _ _ _)) fun x1 y1 => ?_
  refine wpk_val y1 (wanted_none rfl) rfl (by decide) (by intro x hx; simp only [List.mem_cons, List.not_mem_nil, or_false] at hx; rcases hx with rfl | rfl | rfl | rfl <;> simp) (.bool (P.I 0 == 1)) (by unfold execOp; simp only [y1.eval (List.mem_cons_self ..)]; rfl) fun u1 v1 => ?_
  have m1 := v1.sub (l' := LO w.heap.size w1.heap.size P) (by intro x hx; simp only [List.mem_cons, List.not_mem_nil, or_false] at hx; rcases hx with rfl | rfl | rfl <;> simp)
  go_step
  go_step
  go_step
  refine wp_cond (t := P.I 0 == 1) (v1.eval (List.mem_cons_self ..)) ?_
  rw [e1]
  simp only [if_true]
  clear y1 v1 m0
  go_step
  go_step
  refine wpk_copy (gp := w.heap.size) (gq := w1.heap.size) (fun g => fieldPk 4 4 (by decide) g _) (show (Instr.loadAt _ _).run _ _ = .ok (.int .i64 (P.I 4)) _ from loadI (KP3.out.cell (i := 4) (by show 4 < 43; omega))) (storeI (KQ3.out.cell (i := 4) (by show 4 < 43; omega)) (KQ3.out.frozen 4) _) KQ3.out m1 (by simp) (by simp) (by intro x hx; simp only [List.mem_cons, List.not_mem_nil, or_false] at hx; rcases hx with rfl | rfl | rfl <;> simp) (by decide) rfl rfl rfl rfl rfl rfl rfl rfl rfl rfl rfl rfl fun c1 s1 n1 k1 g1 => ?_
  rw [pkC_setI _ _ _ _ rfl] at k1
  have KP4 := hid (KP3.out.grownS g1 nE); have B4 := hid (below_grownS B3.out g1 B1.out.size B3.out.size); have KQ4 := hid k1
  clear k1 g1 KP3 B3 KQ3 m1
  go_step
  go_step
  go_step
  go_step
  go_step
  refine wpk_copy (gp := w.heap.size) (gq := w1.heap.size) (fun g => fieldPk 5 5 (by decide) g _) (show (Instr.loadAt _ _).run _ _ = .ok (.int .i64 (P.I 5)) _ from loadI (KP4.out.cell (i := 5) (by show 5 < 43; omega))) (storeI (KQ4.out.cell (i := 5) (by show 5 < 43; omega)) (KQ4.out.frozen 5) _) KQ4.out n1 (by simp) (by simp) (by intro x hx; simp only [List.mem_cons, List.not_mem_nil, or_false] at hx; rcases hx with rfl | rfl | rfl <;> simp) (by decide) rfl rfl rfl rfl rfl rfl rfl rfl rfl rfl rfl rfl fun c2 s2 n2 k2 g2 => ?_
  rw [pkC_setI _ _ _ _ rfl] at k2
  have KP5 := hid (KP4.out.grownS g2 nE); have B5 := hid (below_grownS B4.out g2 B1.out.size B4.out.size); have KQ5 := hid k2
  clear k2 g2 KP4 B4 KQ4 n1
  go_step
  go_step
  go_step
  go_step
  go_step
  refine wpk_copy (gp := w.heap.size) (gq := w1.heap.size) (fun g => fieldPk 6 6 (by decide) g _) (show (Instr.loadAt _ _).run _ _ = .ok (.int .i64 (P.I 6)) _ from loadI (KP5.out.cell (i := 6) (by show 6 < 43; omega))) (storeI (KQ5.out.cell (i := 6) (by show 6 < 43; omega)) (KQ5.out.frozen 6) _) KQ5.out n2 (by simp) (by simp) (by intro x hx; simp only [List.mem_cons, List.not_mem_nil, or_false] at hx; rcases hx with rfl | rfl | rfl <;> simp) (by decide) rfl rfl rfl rfl rfl rfl rfl rfl rfl rfl rfl rfl fun c3 s3 n3 k3 g3 => ?_
  rw [pkC_setI _ _ _ _ rfl] at k3
  have KP6 := hid (KP5.out.grownS g3 nE); have B6 := hid (below_grownS B5.out g3 B1.out.size B5.out.size); have KQ6 := hid k3
  clear k3 g3 KP5 B5 KQ5 n2
  go_step
  go_step
  go_step
  go_step
  go_step
  refine wpk_copy (gp := w.heap.size) (gq := w1.heap.size) (fun g => fieldPk 7 7 (by decide) g _) (show (Instr.loadAt _ _).run _ _ = .ok (.string (bsW (P.S 7))) _ from loadS (KP6.out.cell (i := 7) (by show 7 < 43; omega))) (storeS (KQ6.out.cell (i := 7) (by show 7 < 43; omega)) (KQ6.out.frozen 7) _) KQ6.out n3 (by simp) (by simp) (by intro x hx; simp only [List.mem_cons, List.not_mem_nil, or_false] at hx; rcases hx with rfl | rfl | rfl <;> simp) (by decide) rfl rfl rfl rfl rfl rfl rfl rfl rfl rfl rfl rfl fun c4 s4 n4 k4 g4 => ?_
  rw [show (.string (bsW (P.S 7)) : Value) = strV (P.S 7) from rfl, pkC_setS _ _ _ _ rfl] at k4
  have KP7 := hid (KP6.out.grownS g4 nE); have B7 := hid (below_grownS B6.out g4 B1.out.size B6.out.size); have KQ7 := hid k4
  clear k4 g4 KP6 B6 KQ6 n3
  go_step
  go_step
  go_step
  go_step
  go_step
  refine wpk_copy (gp := w.heap.size) (gq := w1.heap.size) (fun g => fieldPk 8 8 (by decide) g _) (show (Instr.loadAt _ _).run _ _ = .ok (.int .i64 (P.I 8)) _ from loadI (KP7.out.cell (i := 8) (by show 8 < 43; omega))) (storeI (KQ7.out.cell (i := 8) (by show 8 < 43; omega)) (KQ7.out.frozen 8) _) KQ7.out n4 (by simp) (by simp) (by intro x hx; simp only [List.mem_cons, List.not_mem_nil, or_false] at hx; rcases hx with rfl | rfl | rfl <;> simp) (by decide) rfl rfl rfl rfl rfl rfl rfl rfl rfl rfl rfl rfl fun c5 s5 n5 k5 g5 => ?_
  rw [pkC_setI _ _ _ _ rfl] at k5
  have KP8 := hid (KP7.out.grownS g5 nE); have B8 := hid (below_grownS B7.out g5 B1.out.size B7.out.size); have KQ8 := hid k5
  clear k5 g5 KP7 B7 KQ7 n4
  go_step
  go_step
  go_step
  go_step
  refine wpk_copy (gp := w.heap.size) (gq := w1.heap.size) (fun g => fieldPk 9 9 (by decide) g _) (show (Instr.loadAt _ _).run _ _ = .ok (.int .i64 (P.I 9)) _ from loadI (KP8.out.cell (i := 9) (by show 9 < 43; omega))) (storeI (KQ8.out.cell (i := 9) (by show 9 < 43; omega)) (KQ8.out.frozen 9) _) KQ8.out n5 (by simp) (by simp) (by intro x hx; simp only [List.mem_cons, List.not_mem_nil, or_false] at hx; rcases hx with rfl | rfl | rfl <;> simp) (by decide) rfl rfl rfl rfl rfl rfl rfl rfl rfl rfl rfl rfl fun c6 s6 n6 k6 g6 => ?_
  rw [pkC_setI _ _ _ _ rfl] at k6
  have KP9 := hid (KP8.out.grownS g6 nE); have B9 := hid (below_grownS B8.out g6 B1.out.size B8.out.size); have KQ9 := hid k6
  clear k6 g6 KP8 B8 KQ8 n5
  go_step
  go_step
  go_step
  go_step
  go_step
  have KF : Hid (Blk s6 w1.heap.size 35 (pkC (setL P P0z (fHead ++ fRest 1)) none (setL P P0z (fHead ++ fRest 1)).N.length 0)) := hid (by have z := KQ9.out; rw [hQ0] at z; exact z)
  have BF := B9.out
  refine wpk_val n6 (wanted_none rfl) rfl (by decide) (by intro x hx; simp only [List.mem_cons, List.not_mem_nil, or_false] at hx; rcases hx with rfl | rfl | rfl <;> simp) (.agg (pkC P a P.N.length c).toArray) (by unfold execOp; simp only [n6.eval (k := 1) (v := .pointer (some ⟨w.heap.size, 0, none⟩)) (by simp)]; exact run_v (run_loadAt_mid _ _ _ _ (pkC P a P.N.length c) _ KP9.out.range Try.underlying35 rfl (by rw [infoPk]; rfl))) fun t1 r1 => ?_
  refine wpk_val r1 (wanted_none rfl) rfl (by decide) (by intro x hx; simp only [List.mem_cons, List.not_mem_nil, or_false] at hx; rcases hx with rfl | rfl | rfl | rfl <;> simp) (.agg (pkC (setL P P0z (fHead ++ fRest 1)) none (setL P P0z (fHead ++ fRest 1)).N.length 0).toArray) (by unfold execOp; simp only [r1.eval (k := 3) (v := .pointer (some ⟨w1.heap.size, 0, none⟩)) (by simp)]; exact run_v (run_loadAt_mid _ _ _ _ (pkC (setL P P0z (fHead ++ fRest 1)) none (setL P P0z (fHead ++ fRest 1)).N.length 0) _ KF.out.range Try.underlying35 rfl (by rw [infoPk]; rfl))) fun t2 r2 => ?_
  have hrow : Row s6 1 none (setL P P0z (fHead ++ fRest 1)).N.length 0 ((setL P P0z (fHead ++ fRest 1)).N.map strV) := Row.nil _ _
  refine wpk_call r2 (wanted_none rfl) rfl (by decide) (by intro x hx; simp only [List.mem_cons, List.not_mem_nil, or_false] at hx; rcases hx with rfl | rfl | rfl | rfl | rfl <;> simp) (fun args => callSameP args _) rfl #[.agg (pkC P a P.N.length c).toArray, .agg (pkC (setL P P0z (fHead ++ fRest 1)) none (setL P P0z (fHead ++ fRest 1)).N.length 0).toArray] (by simp only [List.map_toArray, List.map_cons, List.map_nil, r2.eval (k := 115) (v := .agg (pkC P a P.N.length c).toArray) (by simp), r2.eval (k := 116) (List.mem_cons_self ..)]) (R := fun v w' => v = .bool (eqPk P (setL P P0z (fHead ++ fRest 1))) ∧ Below s6.heap.size s6 w') ((samePk_any P (setL P P0z (fHead ++ fRest 1)) a none c 0 _ (HA.out.mono BF) hrow).mono fun e w' q => ⟨_, q.1, rfl, q.2⟩) fun t3 v w9 hv r3 => ?_
  obtain ⟨rfl, b9⟩ := hv
  refine wpk_val r3 (wanted_none rfl) rfl (by decide) (by intro x hx; simp only [List.mem_cons, List.not_mem_nil, or_false] at hx; rcases hx with rfl | rfl | rfl | rfl | rfl | rfl <;> simp) (.bool (eqPk P (setL P P0z (fHead ++ fRest 1)))) (by unfold execOp; simp only [r3.eval (k := 117) (List.mem_cons_self ..)]; rfl) fun t4 r4 => ?_
  go_step
  go_step
  go_step
  go_step
  refine bodyPost_ret (results_tmp1 rfl (r4.known _ (List.mem_cons_self ..))) r4.defs ?_
  exact ⟨rfl, kept_trans BF b9⟩

set_option maxRecDepth 100000 in
set_option maxHeartbeats 4000000 in
theorem others_2 (P : PkM) (a : Option Addr) (c : Nat) (w : World) (ha : Row w 1 a P.N.length c (P.N.map strV)) (hk : P.I 0 = 2) :
    Calls Try.prog 42 #[.agg (pkC P a P.N.length c).toArray] w fun e w' => e = .returned (.bool (eqPk P (setL P P0z (fHead ++ fRest 2)))) ∧ Below w.heap.size w w' := by
  have e1 : (P.I 0 == 1) = false := by rw [hk]; rfl
  have e2 : (P.I 0 == 2) = true := by rw [hk]; rfl
  have e3 : (P.I 0 == 3) = false := by rw [hk]; rfl
  have e4 : (P.I 0 == 4) = false := by rw [hk]; rfl
  have e5 : (P.I 0 == 5) = false := by rw [hk]; rfl
  have HA := hid ha
  clear ha hk
  go_enter Try.func42, Try.ntmps42
  go_step
  go_step
  go_step
  refine wpl_boxT rfl 35 _ rfl (pkC P a P.N.length c) rfl ?_
  intro w1 k1 b1 s1
  have KP0 := hid k1; have B1 := hid b1; have S1 := hid s1
  have nE : ¬ w.heap.size = w1.heap.size := by omega
  clear k1 b1 s1
  go_step
  go_step
  go_step
  go_step
  go_step
  go_step
  go_step
  go_step
  refine wpk_enter (N := 118) (l := [(1, .pointer (some ⟨w.heap.size, 0, none⟩))]) ⟨rfl, (by intro x hx; simp only [List.mem_cons, List.not_mem_nil, or_false] at hx; rcases hx with rfl <;> rfl), rfl⟩ fun a0 i0 => ?_
  refine wpk_val i0 (wanted_none rfl) rfl (by decide) (by intro x hx; simp only [List.mem_cons, List.not_mem_nil, or_false] at hx; rcases hx with rfl <;> simp) (.pointer (some ⟨w.heap.size, 0, none⟩)) (by unfold execOp; simp only [i0.eval (k := 1) (v := .pointer (some ⟨w.heap.size, 0, none⟩)) (by simp)]; exact run_v (fieldPk 0 0 (by decide) w.heap.size _)) fun a1 i1 => ?_
  refine wpk_val i1 (wanted_none rfl) rfl (by decide) (by intro x hx; simp only [List.mem_cons, List.not_mem_nil, or_false] at hx; rcases hx with rfl | rfl <;> simp) (.int .i64 (P.I 0)) (by unfold execOp; simp only [i1.eval (k := 4) (List.mem_cons_self ..)]; exact run_v (loadI (KP0.out.cell (i := 0) (by show 0 < 43; omega)))) fun a2 i2 => ?_
  refine wpk_val i2 (wanted_none rfl) rfl (by decide) (by intro x hx; simp only [List.mem_cons, List.not_mem_nil, or_false] at hx; rcases hx with rfl | rfl | rfl <;> simp) (.pointer (some ⟨w.heap.size, 1, none⟩)) (by unfold execOp; simp only [i2.eval (k := 1) (v := .pointer (some ⟨w.heap.size, 0, none⟩)) (by simp)]; exact run_v (fieldPk 1 1 (by decide) w.heap.size _)) fun a3 i3 => ?_
  refine wpk_val i3 (wanted_none rfl) rfl (by decide) (by intro x hx; simp only [List.mem_cons, List.not_mem_nil, or_false] at hx; rcases hx with rfl | rfl | rfl | rfl <;> simp) (.int .i64 (P.I 1)) (by unfold execOp; simp only [i3.eval (k := 6) (List.mem_cons_self ..)]; exact run_v (loadI (KP0.out.cell (i := 1) (by show 1 < 43; omega)))) fun a4 i4 => ?_
  refine wpk_val i4 (wanted_none rfl) rfl (by decide) (by intro x hx; simp only [List.mem_cons, List.not_mem_nil, or_false] at hx; rcases hx with rfl | rfl | rfl | rfl | rfl <;> simp) (.pointer (some ⟨w.heap.size, 2, none⟩)) (by unfold execOp; simp only [i4.eval (k := 1) (v := .pointer (some ⟨w.heap.size, 0, none⟩)) (by simp)]; exact run_v (fieldPk 2 2 (by decide) w.heap.size _)) fun a5 i5 => ?_
  refine wpk_val i5 (wanted_none rfl) rfl (by decide) (by intro x hx; simp only [List.mem_cons, List.not_mem_nil, or_false] at hx; rcases hx with rfl | rfl | rfl | rfl | rfl | rfl <;> simp) (.int .i64 (P.I 2)) (by unfold execOp; simp only [i5.eval (k := 8) (List.mem_cons_self ..)]; exact run_v (loadI (KP0.out.cell (i := 2) (by show 2 < 43; omega)))) fun a6 i6 => ?_
  refine wpk_val i6 (wanted_none rfl) rfl (by decide) (by intro x hx; simp only [List.mem_cons, List.not_mem_nil, or_false] at hx; rcases hx with rfl | rfl | rfl | rfl | rfl | rfl | rfl <;> simp) (.pointer (some ⟨w.heap.size, 3, none⟩)) (by unfold execOp; simp only [i6.eval (k := 1) (v := .pointer (some ⟨w.heap.size, 0, none⟩)) (by simp)]; exact run_v (fieldPk 3 3 (by decide) w.heap.size _)) fun a7 i7 => ?_
  refine wpk_val i7 (wanted_none rfl) rfl (by decide) (by intro x hx; simp only [List.mem_cons, List.not_mem_nil, or_false] at hx; rcases hx with rfl | rfl | rfl | rfl | rfl | rfl | rfl | rfl <;> simp) (.int .i64 (P.I 3)) (by unfold execOp; simp only [i7.eval (k := 10) (List.mem_cons_self ..)]; exact run_v (loadI (KP0.out.cell (i := 3) (by show 3 < 43; omega)))) fun a8 i8 => ?_
  obtain ⟨Q0, hQ0⟩ : ∃ Q0, Q0 = setI (setI (setI (setI P0z 0 (P.I 0)) 1 (P.I 1)) 2 (P.I 2)) 3 (P.I 3) := ⟨_, rfl⟩
  refine wpk_val i8 (wanted_none rfl) rfl (by decide) (by intro x hx; simp only [List.mem_cons, List.not_mem_nil, or_false] at hx; rcases hx with rfl | rfl | rfl | rfl | rfl | rfl | rfl | rfl | rfl <;> simp) (.agg (pkC Q0 none 0 0).toArray) (by unfold execOp; simp only [i8.eval (k := 5) (v := .int .i64 (P.I 0)) (by simp), i8.eval (k := 7) (v := .int .i64 (P.I 1)) (by simp), i8.eval (k := 9) (v := .int .i64 (P.I 2)) (by simp), i8.eval (k := 11) (v := .int .i64 (P.I 3)) (by simp), List.map_toArray, List.map_cons, List.map_nil]; rw [hQ0]; exact run_v (build4 _ _ _ _ _)) fun a9 i9 => ?_
  refine wpk_val i9 (wanted_none rfl) rfl (by decide) (by intro x hx; simp only [List.mem_cons, List.not_mem_nil, or_false] at hx; rcases hx with rfl | rfl | rfl | rfl | rfl | rfl | rfl | rfl | rfl | rfl <;> simp) (.pointer (some ⟨w1.heap.size, 0, none⟩)) (run_allocPk rfl _ w1) fun a10 i10 => ?_
  have j10 := i10.sub (l' := [(1, .pointer (some ⟨w.heap.size, 0, none⟩)), (3, .pointer (some ⟨w1.heap.size, 0, none⟩)), (12, .agg (pkC Q0 none 0 0).toArray)]) (by intro x hx; simp only [List.mem_cons, List.not_mem_nil, or_false] at hx; rcases hx with rfl | rfl | rfl <;> simp)
  clear i0 i1 i2 i3 i4 i5 i6 i7 i8 i9 i10
  have z2 : Blk (w1.alloc (.cells litPk 35)) w1.heap.size 35 (pkC P0z none 0 0) := by rw [litPk_eq]; exact blk_newO rfl _ _
  have KP2 := hid (KP0.out.mono (albO w1 (.cells litPk 35))); have B2 := hid (kept_alloc B1.out (.cells litPk 35))
  generalize w1.alloc (.cells litPk 35) = w2 at *
  refine wpk_storeR j10 rfl rfl 35 rfl w1.heap.size 0 (j10.eval (k := 3) (v := .pointer (some ⟨w1.heap.size, 0, none⟩)) (by simp)) (pkC Q0 none 0 0) (j10.eval (k := 12) (v := .agg (pkC Q0 none 0 0).toArray) (by simp)) (by rw [infoPk]; rfl) (pkC_one _ _ _ _) z2 (by show 0 + 43 ≤ 43; omega) fun a11 w3 j10 k3 g3 => ?_
  rw [splice_all (by rfl)] at k3
  have KP3 := hid (KP2.out.grownS g3 nE); have B3 := hid (below_grownS B2.out g3 B1.out.size B2.out.size); have KQ3 := hid k3
  clear k3 g3 z2 KP2 B2 KP0
  go_step
  go_step
  go_step
  go_step
  go_step
  go_step
  refine wpk_val j10 (wanted_none rfl) rfl (by decide) (by intro x hx; simp only [List.mem_cons, List.not_mem_nil, or_false] at hx; rcases hx with rfl | rfl | rfl <;> simp) (.pointer (some ⟨w.heap.size, 0, none⟩)) (by unfold execOp; simp only [j10.eval (k := 1) (v := .pointer (some ⟨w.heap.size, 0, none⟩)) (by simp)]; exact run_v (fieldPk 0 0 (by decide) w.heap.size _)) fun a12 j11 => ?_
  refine wpk_val j11 (wanted_none rfl) rfl (by decide) (by intro x hx; simp only [List.mem_cons, List.not_mem_nil, or_false] at hx; rcases hx with rfl | rfl | rfl | rfl <;> simp) (.int .i64 (P.I 0)) (by unfold execOp; simp only [j11.eval (k := 13) (List.mem_cons_self ..)]; exact run_v (loadI (KP3.out.cell (i := 0) (by show 0 < 43; omega)))) fun a13 j12 => ?_
  have m0 := j12.sub (l' := LO w.heap.size w1.heap.size P) (by intro x hx; simp only [List.mem_cons, List.not_mem_nil, or_false] at hx; rcases hx with rfl | rfl | rfl <;> simp)
  clear j10 j11 j12
  go_step
  go_step
  go_step
  go_step
  go_step
  go_step
  refine wpk_val m0 (wanted_none rfl) rfl (by decide) (by intro x hx; simp only [List.mem_cons, List.not_mem_nil, or_false] at hx; rcases hx with rfl | rfl | rfl <;> simp) (.bool (P.I 0 == 1)) (by unfold execOp; simp only [m0.eval (k := 14) (v := .int .i64 (P.I 0)) (by simp)]; exact run_v (eqI _ _ _ _ _)) fun x1 y1 => ?_
  refine wpk_val y1 (wanted_none rfl) rfl (by decide) (by intro x hx; simp only [List.mem_cons, List.not_mem_nil, or_false] at hx; rcases hx with rfl | rfl | rfl | rfl <;> simp) (.bool (P.I 0 == 1)) (by unfold execOp; simp only [y1.eval (List.mem_cons_self ..)]; rfl) fun u1 v1 => ?_
  have m1 := v1.sub (l' := LO w.heap.size w1.heap.size P) (by intro x hx; simp only [List.mem_cons, List.not_mem_nil, or_false] at hx; rcases hx with rfl | rfl | rfl <;> simp)
  go_step
  go_step
  go_step
  refine wp_cond (t := P.I 0 == 1) (v1.eval (List.mem_cons_self ..)) ?_
  rw [e1]
  simp only [Bool.false_eq_true, if_false]
  clear y1 v1 m0
  go_step
  go_step
  refine wpk_val m1 (wanted_none rfl) rfl (by decide) (by intro x hx; simp only [List.mem_cons, List.not_mem_nil, or_false] at hx; rcases hx with rfl | rfl | rfl <;> simp) (.bool (P.I 0 == 2)) (by unfold execOp; simp only [m1.eval (k := 14) (v := .int .i64 (P.I 0)) (by simp)]; exact run_v (eqI _ _ _ _ _)) fun x2 y2 => ?_
  refine wpk_val y2 (wanted_none rfl) rfl (by decide) (by intro x hx; simp only [List.mem_cons, List.not_mem_nil, or_false] at hx; rcases hx with rfl | rfl | rfl | rfl <;> simp) (.bool (P.I 0 == 2)) (by unfold execOp; simp only [y2.eval (List.mem_cons_self ..)]; rfl) fun u2 v2 => ?_
  have m2 := v2.sub (l' := LO w.heap.size w1.heap.size P) (by intro x hx; simp only [List.mem_cons, List.not_mem_nil, or_false] at hx; rcases hx with rfl | rfl | rfl <;> simp)
  go_step
  go_step
  go_step
  refine wp_cond (t := P.I 0 == 2) (v2.eval (List.mem_cons_self ..)) ?_
  rw [e2]
  simp only [if_true]
  clear y2 v2 m1
  go_step
  go_step
  refine wpk_copy (gp := w.heap.size) (gq := w1.heap.size) (fun g => fieldPk 4 4 (by decide) g _) (show (Instr.loadAt _ _).run _ _ = .ok (.int .i64 (P.I 4)) _ from loadI (KP3.out.cell (i := 4) (by show 4 < 43; omega))) (storeI (KQ3.out.cell (i := 4) (by show 4 < 43; omega)) (KQ3.out.frozen 4) _) KQ3.out m2 (by simp) (by simp) (by intro x hx; simp only [List.mem_cons, List.not_mem_nil, or_false] at hx; rcases hx with rfl | rfl | rfl <;> simp) (by decide) rfl rfl rfl rfl rfl rfl rfl rfl rfl rfl rfl rfl fun c1 s1 n1 k1 g1 => ?_
  rw [pkC_setI _ _ _ _ rfl] at k1
  have KP4 := hid (KP3.out.grownS g1 nE); have B4 := hid (below_grownS B3.out g1 B1.out.size B3.out.size); have KQ4 := hid k1
  clear k1 g1 KP3 B3 KQ3 m2
  go_step
  go_step
  go_step
  go_step
  go_step
  refine wpk_copy (gp := w.heap.size) (gq := w1.heap.size) (fun g => fieldPk 12 19 (by decide) g _) (show (Instr.loadAt _ _).run _ _ = .ok (.int .i64 (P.I 19)) _ from loadE (KP4.out.cell (i := 19) (by show 19 < 43; omega))) (storeE (KQ4.out.cell (i := 19) (by show 19 < 43; omega)) (KQ4.out.frozen 19) _) KQ4.out n1 (by simp) (by simp) (by intro x hx; simp only [List.mem_cons, List.not_mem_nil, or_false] at hx; rcases hx with rfl | rfl | rfl <;> simp) (by decide) rfl rfl rfl rfl rfl rfl rfl rfl rfl rfl rfl rfl fun c2 s2 n2 k2 g2 => ?_
  rw [pkC_setI _ _ _ _ rfl] at k2
  have KP5 := hid (KP4.out.grownS g2 nE); have B5 := hid (below_grownS B4.out g2 B1.out.size B4.out.size); have KQ5 := hid k2
  clear k2 g2 KP4 B4 KQ4 n1
  go_step
  go_step
  go_step
  go_step
  go_step
  refine wpk_copy (gp := w.heap.size) (gq := w1.heap.size) (fun g => fieldPk 7 7 (by decide) g _) (show (Instr.loadAt _ _).run _ _ = .ok (.string (bsW (P.S 7))) _ from loadS (KP5.out.cell (i := 7) (by show 7 < 43; omega))) (storeS (KQ5.out.cell (i := 7) (by show 7 < 43; omega)) (KQ5.out.frozen 7) _) KQ5.out n2 (by simp) (by simp) (by intro x hx; simp only [List.mem_cons, List.not_mem_nil, or_false] at hx; rcases hx with rfl | rfl | rfl <;> simp) (by decide) rfl rfl rfl rfl rfl rfl rfl rfl rfl rfl rfl rfl fun c3 s3 n3 k3 g3 => ?_
  rw [show (.string (bsW (P.S 7)) : Value) = strV (P.S 7) from rfl, pkC_setS _ _ _ _ rfl] at k3
  have KP6 := hid (KP5.out.grownS g3 nE); have B6 := hid (below_grownS B5.out g3 B1.out.size B5.out.size); have KQ6 := hid k3
  clear k3 g3 KP5 B5 KQ5 n2
  go_step
  go_step
  go_step
  go_step
  refine wpk_copy (gp := w.heap.size) (gq := w1.heap.size) (fun g => fieldPk 8 8 (by decide) g _) (show (Instr.loadAt _ _).run _ _ = .ok (.int .i64 (P.I 8)) _ from loadI (KP6.out.cell (i := 8) (by show 8 < 43; omega))) (storeI (KQ6.out.cell (i := 8) (by show 8 < 43; omega)) (KQ6.out.frozen 8) _) KQ6.out n3 (by simp) (by simp) (by intro x hx; simp only [List.mem_cons, List.not_mem_nil, or_false] at hx; rcases hx with rfl | rfl | rfl <;> simp) (by decide) rfl rfl rfl rfl rfl rfl rfl rfl rfl rfl rfl rfl fun c4 s4 n4 k4 g4 => ?_
  rw [pkC_setI _ _ _ _ rfl] at k4
  have KP7 := hid (KP6.out.grownS g4 nE); have B7 := hid (below_grownS B6.out g4 B1.out.size B6.out.size); have KQ7 := hid k4
  clear k4 g4 KP6 B6 KQ6 n3
  go_step
  go_step
  go_step
  go_step
  go_step
  have KF : Hid (Blk s4 w1.heap.size 35 (pkC (setL P P0z (fHead ++ fRest 2)) none (setL P P0z (fHead ++ fRest 2)).N.length 0)) := hid (by have z := KQ7.out; rw [hQ0] at z; exact z)
  have BF := B7.out
  refine wpk_val n4 (wanted_none rfl) rfl (by decide) (by intro x hx; simp only [List.mem_cons, List.not_mem_nil, or_false] at hx; rcases hx with rfl | rfl | rfl <;> simp) (.agg (pkC P a P.N.length c).toArray) (by unfold execOp; simp only [n4.eval (k := 1) (v := .pointer (some ⟨w.heap.size, 0, none⟩)) (by simp)]; exact run_v (run_loadAt_mid _ _ _ _ (pkC P a P.N.length c) _ KP7.out.range Try.underlying35 rfl (by rw [infoPk]; rfl))) fun t1 r1 => ?_
  refine wpk_val r1 (wanted_none rfl) rfl (by decide) (by intro x hx; simp only [List.mem_cons, List.not_mem_nil, or_false] at hx; rcases hx with rfl | rfl | rfl | rfl <;> simp) (.agg (pkC (setL P P0z (fHead ++ fRest 2)) none (setL P P0z (fHead ++ fRest 2)).N.length 0).toArray) (by unfold execOp; simp only [r1.eval (k := 3) (v := .pointer (some ⟨w1.heap.size, 0, none⟩)) (by simp)]; exact run_v (run_loadAt_mid _ _ _ _ (pkC (setL P P0z (fHead ++ fRest 2)) none (setL P P0z (fHead ++ fRest 2)).N.length 0) _ KF.out.range Try.underlying35 rfl (by rw [infoPk]; rfl))) fun t2 r2 => ?_
  have hrow : Row s4 1 none (setL P P0z (fHead ++ fRest 2)).N.length 0 ((setL P P0z (fHead ++ fRest 2)).N.map strV) := Row.nil _ _
  refine wpk_call r2 (wanted_none rfl) rfl (by decide) (by intro x hx; simp only [List.mem_cons, List.not_mem_nil, or_false] at hx; rcases hx with rfl | rfl | rfl | rfl | rfl <;> simp) (fun args => callSameP args _) rfl #[.agg (pkC P a P.N.length c).toArray, .agg (pkC (setL P P0z (fHead ++ fRest 2)) none (setL P P0z (fHead ++ fRest 2)).N.length 0).toArray] (by simp only [List.map_toArray, List.map_cons, List.map_nil, r2.eval (k := 115) (v := .agg (pkC P a P.N.length c).toArray) (by simp), r2.eval (k := 116) (List.mem_cons_self ..)]) (R := fun v w' => v = .bool (eqPk P (setL P P0z (fHead ++ fRest 2))) ∧ Below s4.heap.size s4 w') ((samePk_any P (setL P P0z (fHead ++ fRest 2)) a none c 0 _ (HA.out.mono BF) hrow).mono fun e w' q => ⟨_, q.1, rfl, q.2⟩) fun t3 v w9 hv r3 => ?_
  obtain ⟨rfl, b9⟩ := hv
  refine wpk_val r3 (wanted_none rfl) rfl (by decide) (by intro x hx; simp only [List.mem_cons, List.not_mem_nil, or_false] at hx; rcases hx with rfl | rfl | rfl | rfl | rfl | rfl <;> simp) (.bool (eqPk P (setL P P0z (fHead ++ fRest 2)))) (by unfold execOp; simp only [r3.eval (k := 117) (List.mem_cons_self ..)]; rfl) fun t4 r4 => ?_
  go_step
  go_step
  go_step
  go_step
  refine bodyPost_ret (results_tmp1 rfl (r4.known _ (List.mem_cons_self ..))) r4.defs ?_
  exact ⟨rfl, kept_trans BF b9⟩

set_option maxRecDepth 100000 in
set_option maxHeartbeats 4000000 in
theorem others_3 (P : PkM) (a : Option Addr) (c : Nat) (w : World) (ha : Row w 1 a P.N.length c (P.N.map strV)) (hk : P.I 0 = 3) :
    Calls Try.prog 42 #[.agg (pkC P a P.N.length c).toArray] w fun e w' => e = .returned (.bool (eqPk P (setL P P0z (fHead ++ fRest 3)))) ∧ Below w.heap.size w w' := by
  have e1 : (P.I 0 == 1) = false := by rw [hk]; rfl
  have e2 : (P.I 0 == 2) = false := by rw [hk]; rfl
  have e3 : (P.I 0 == 3) = true := by rw [hk]; rfl
  have e4 : (P.I 0 == 4) = false := by rw [hk]; rfl
  have e5 : (P.I 0 == 5) = false := by rw [hk]; rfl
  have HA := hid ha
  clear ha hk
  go_enter Try.func42, Try.ntmps42
  go_step
  go_step
  go_step
  refine wpl_boxT rfl 35 _ rfl (pkC P a P.N.length c) rfl ?_
  intro w1 k1 b1 s1
  have KP0 := hid k1; have B1 := hid b1; have S1 := hid s1
  have nE : ¬ w.heap.size = w1.heap.size := by omega
  clear k1 b1 s1
  go_step
  go_step
  go_step
  go_step
  go_step
  go_step
  go_step
  go_step
  refine wpk_enter (N := 118) (l := [(1, .pointer (some ⟨w.heap.size, 0, none⟩))]) ⟨rfl, (by intro x hx; simp only [List.mem_cons, List.not_mem_nil, or_false] at hx; rcases hx with rfl <;> rfl), rfl⟩ fun a0 i0 => ?_
  refine wpk_val i0 (wanted_none rfl) rfl (by decide) (by intro x hx; simp only [List.mem_cons, List.not_mem_nil, or_false] at hx; rcases hx with rfl <;> simp) (.pointer (some ⟨w.heap.size, 0, none⟩)) (by unfold execOp; simp only [i0.eval (k := 1) (v := .pointer (some ⟨w.heap.size, 0, none⟩)) (by simp)]; exact run_v (fieldPk 0 0 (by decide) w.heap.size _)) fun a1 i1 => ?_
  refine wpk_val i1 (wanted_none rfl) rfl (by decide) (by intro x hx; simp only [List.mem_cons, List.not_mem_nil, or_false] at hx; rcases hx with rfl | rfl <;> simp) (.int .i64 (P.I 0)) (by unfold execOp; simp only [i1.eval (k := 4) (List.mem_cons_self ..)]; exact run_v (loadI (KP0.out.cell (i := 0) (by show 0 < 43; omega)))) fun a2 i2 => ?_
  refine wpk_val i2 (wanted_none rfl) rfl (by decide) (by intro x hx; simp only [List.mem_cons, List.not_mem_nil, or_false] at hx; rcases hx with rfl | rfl | rfl <;> simp) (.pointer (some ⟨w.heap.size, 1, none⟩)) (by unfold execOp; simp only [i2.eval (k := 1) (v := .pointer (some ⟨w.heap.size, 0, none⟩)) (by simp)]; exact run_v (fieldPk 1 1 (by decide) w.heap.size _)) fun a3 i3 => ?_
  refine wpk_val i3 (wanted_none rfl) rfl (by decide) (by intro x hx; simp only [List.mem_cons, List.not_mem_nil, or_false] at hx; rcases hx with rfl | rfl | rfl | rfl <;> simp) (.int .i64 (P.I 1)) (by unfold execOp; simp only [i3.eval (k := 6) (List.mem_cons_self ..)]; exact run_v (loadI (KP0.out.cell (i := 1) (by show 1 < 43; omega)))) fun a4 i4 => ?_
  refine wpk_val i4 (wanted_none rfl) rfl (by decide) (by intro x hx; simp only [List.mem_cons, List.not_mem_nil, or_false] at hx; rcases hx with rfl | rfl | rfl | rfl | rfl <;> simp) (.pointer (some ⟨w.heap.size, 2, none⟩)) (by unfold execOp; simp only [i4.eval (k := 1) (v := .pointer (some ⟨w.heap.size, 0, none⟩)) (by simp)]; exact run_v (fieldPk 2 2 (by decide) w.heap.size _)) fun a5 i5 => ?_
  refine wpk_val i5 (wanted_none rfl) rfl (by decide) (by intro x hx; simp only [List.mem_cons, List.not_mem_nil, or_false] at hx; rcases hx with rfl | rfl | rfl | rfl | rfl | rfl <;> simp) (.int .i64 (P.I 2)) (by unfold execOp; simp only [i5.eval (k := 8) (List.mem_cons_self ..)]; exact run_v (loadI (KP0.out.cell (i := 2) (by show 2 < 43; omega)))) fun a6 i6 => ?_
  refine wpk_val i6 (wanted_none rfl) rfl (by decide) (by intro x hx; simp only [List.mem_cons, List.not_mem_nil, or_false] at hx; rcases hx with rfl | rfl | rfl | rfl | rfl | rfl | rfl <;> simp) (.pointer (some ⟨w.heap.size, 3, none⟩)) (by unfold execOp; simp only [i6.eval (k := 1) (v := .pointer (some ⟨w.heap.size, 0, none⟩)) (by simp)]; exact run_v (fieldPk 3 3 (by decide) w.heap.size _)) fun a7 i7 => ?_
  refine wpk_val i7 (wanted_none rfl) rfl (by decide) (by intro x hx; simp only [List.mem_cons, List.not_mem_nil, or_false] at hx; rcases hx with rfl | rfl | rfl | rfl | rfl | rfl | rfl | rfl <;> simp) (.int .i64 (P.I 3)) (by unfold execOp; simp only [i7.eval (k := 10) (List.mem_cons_self ..)]; exact run_v (loadI (KP0.out.cell (i := 3) (by show 3 < 43; omega)))) fun a8 i8 => ?_
  obtain ⟨Q0, hQ0⟩ : ∃ Q0, Q0 = setI (setI (setI (setI P0z 0 (P.I 0)) 1 (P.I 1)) 2 (P.I 2)) 3 (P.I 3) := ⟨_, rfl⟩
  refine wpk_val i8 (wanted_none rfl) rfl (by decide) (by intro x hx; simp only [List.mem_cons, List.not_mem_nil, or_false] at hx; rcases hx with rfl | rfl | rfl | rfl | rfl | rfl | rfl | rfl | rfl <;> simp) (.agg (pkC Q0 none 0 0).toArray) (by unfold execOp; simp only [i8.eval (k := 5) (v := .int .i64 (P.I 0)) (by simp), i8.eval (k := 7) (v := .int .i64 (P.I 1)) (by simp), i8.eval (k := 9) (v := .int .i64 (P.I 2)) (by simp), i8.eval (k := 11) (v := .int .i64 (P.I 3)) (by simp), List.map_toArray, List.map_cons, List.map_nil]; rw [hQ0]; exact run_v (build4 _ _ _ _ _)) fun a9 i9 => ?_
  refine wpk_val i9 (wanted_none rfl) rfl (by decide) (by intro x hx; simp only [List.mem_cons, List.not_mem_nil, or_false] at hx; rcases hx with rfl | rfl | rfl | rfl | rfl | rfl | rfl | rfl | rfl | rfl <;> simp) (.pointer (some ⟨w1.heap.size, 0, none⟩)) (run_allocPk rfl _ w1) fun a10 i10 => ?_
  have j10 := i10.sub (l' := [(1, .pointer (some ⟨w.heap.size, 0, none⟩)), (3, .pointer (some ⟨w1.heap.size, 0, none⟩)), (12, .agg (pkC Q0 none 0 0).toArray)]) (by intro x hx; simp only [List.mem_cons, List.not_mem_nil, or_false] at hx; rcases hx with rfl | rfl | rfl <;> simp)
  clear i0 i1 i2 i3 i4 i5 i6 i7 i8 i9 i10
  have z2 : Blk (w1.alloc (.cells litPk 35)) w1.heap.size 35 (pkC P0z none 0 0) := by rw [litPk_eq]; exact blk_newO rfl _ _
  have KP2 := hid (KP0.out.mono (albO w1 (.cells litPk 35))); have B2 := hid (kept_alloc B1.out (.cells litPk 35))
  generalize w1.alloc (.cells litPk 35) = w2 at *
  refine wpk_storeR j10 rfl rfl 35 rfl w1.heap.size 0 (j10.eval (k := 3) (v := .pointer (some ⟨w1.heap.size, 0, none⟩)) (by simp)) (pkC Q0 none 0 0) (j10.eval (k := 12) (v := .agg (pkC Q0 none 0 0).toArray) (by simp)) (by rw [infoPk]; rfl) (pkC_one _ _ _ _) z2 (by show 0 + 43 ≤ 43; omega) fun a11 w3 j10 k3 g3 => ?_
  rw [splice_all (by rfl)] at k3
  have KP3 := hid (KP2.out.grownS g3 nE); have B3 := hid (below_grownS B2.out g3 B1.out.size B2.out.size); have KQ3 := hid k3
  clear k3 g3 z2 KP2 B2 KP0
  go_step
  go_step
  go_step
  go_step
  go_step
  go_step
  refine wpk_val j10 (wanted_none rfl) rfl (by decide) (by intro x hx; simp only [List.mem_cons, List.not_mem_nil, or_false] at hx; rcases hx with rfl | rfl | rfl <;> simp) (.pointer (some ⟨w.heap.size, 0, none⟩)) (by unfold execOp; simp only [j10.eval (k := 1) (v := .pointer (some ⟨w.heap.size, 0, none⟩)) (by simp)]; exact run_v (fieldPk 0 0 (by decide) w.heap.size _)) fun a12 j11 => ?_
  refine wpk_val j11 (wanted_none rfl) rfl (by decide) (by intro x hx; simp only [List.mem_cons, List.not_mem_nil, or_false] at hx; rcases hx with rfl | rfl | rfl | rfl <;> simp) (.int .i64 (P.I 0)) (by unfold execOp; simp only [j11.eval (k := 13) (List.mem_cons_self ..)]; exact run_v (loadI (KP3.out.cell (i := 0) (by show 0 < 43; omega)))) fun a13 j12 => ?_
  have m0 := j12.sub (l' := LO w.heap.size w1.heap.size P) (by intro x hx; simp only [List.mem_cons, List.not_mem_nil, or_false] at hx; rcases hx with rfl | rfl | rfl <;> simp)
  clear j10 j11 j12
  go_step
  go_step
  go_step
  go_step
  go_step
  go_step
  refine wpk_val m0 (wanted_none rfl) rfl (by decide) (by intro x hx; simp only [List.mem_cons, List.not_mem_nil, or_false] at hx; rcases hx with rfl | rfl | rfl <;> simp) (.bool (P.I 0 == 1)) (by unfold execOp; simp only [m0.eval (k := 14) (v := .int .i64 (P.I 0)) (by simp)]; exact run_v (eqI _ _ _ _ _)) fun x1 y1 => ?_
  refine wpk_val y1 (wanted_none rfl) rfl (by decide) (by intro x hx; simp only [List.mem_cons, List.not_mem_nil, or_false] at hx; rcases hx with rfl | rfl | rfl | rfl <;> simp) (.bool (P.I 0 == 1)) (by unfold execOp; simp only [y1.eval (List.mem_cons_self ..)]; rfl) fun u1 v1 => ?_
  have m1 := v1.sub (l' := LO w.heap.size w1.heap.size P) (by intro x hx; simp only [List.mem_cons, List.not_mem_nil, or_false] at hx; rcases hx with rfl | rfl | rfl <;> simp)
  go_step
  go_step
  go_step
  refine wp_cond (t := P.I 0 == 1) (v1.eval (List.mem_cons_self ..)) ?_
  rw [e1]
  simp only [Bool.false_eq_true, if_false]
  clear y1 v1 m0
  go_step
  go_step
  refine wpk_val m1 (wanted_none rfl) rfl (by decide) (by intro x hx; simp only [List.mem_cons, List.not_mem_nil, or_false] at hx; rcases hx with rfl | rfl | rfl <;> simp) (.bool (P.I 0 == 2)) (by unfold execOp; simp only [m1.eval (k := 14) (v := .int .i64 (P.I 0)) (by simp)]; exact run_v (eqI _ _ _ _ _)) fun x2 y2 => ?_
  refine wpk_val y2 (wanted_none rfl) rfl (by decide) (by intro x hx; simp only [List.mem_cons, List.not_mem_nil, or_false] at hx; rcases hx with rfl | rfl | rfl | rfl <;> simp) (.bool (P.I 0 == 2)) (by unfold execOp; simp only [y2.eval (List.mem_cons_self ..)]; rfl) fun u2 v2 => ?_
  have m2 := v2.sub (l' := LO w.heap.size w1.heap.size P) (by intro x hx; simp only [List.mem_cons, List.not_mem_nil, or_false] at hx; rcases hx with rfl | rfl | rfl <;> simp)
  go_step
  go_step
  go_step
  refine wp_cond (t := P.I 0 == 2) (v2.eval (List.mem_cons_self ..)) ?_
  rw [e2]
  simp only [Bool.false_eq_true, if_false]
  clear y2 v2 m1
  go_step
  go_step
  refine wpk_val m2 (wanted_none rfl) rfl (by decide) (by intro x hx; simp only [List.mem_cons, List.not_mem_nil, or_false] at hx; rcases hx with rfl | rfl | rfl <;> simp) (.bool (P.I 0 == 3)) (by unfold execOp; simp only [m2.eval (k := 14) (v := .int .i64 (P.I 0)) (by simp)]; exact run_v (eqI _ _ _ _ _)) fun x3 y3 => ?_
  refine wpk_val y3 (wanted_none rfl) rfl (by decide) (by intro x hx; simp only [List.mem_cons, List.not_mem_nil, or_false] at hx; rcases hx with rfl | rfl | rfl | rfl <;> simp) (.bool (P.I 0 == 3)) (by unfold execOp; simp only [y3.eval (List.mem_cons_self ..)]; rfl) fun u3 v3 => ?_
  have m3 := v3.sub (l' := LO w.heap.size w1.heap.size P) (by intro x hx; simp only [List.mem_cons, List.not_mem_nil, or_false] at hx; rcases hx with rfl | rfl | rfl <;> simp)
  go_step
  go_step
  go_step
  refine wp_cond (t := P.I 0 == 3) (v3.eval (List.mem_cons_self ..)) ?_
  rw [e3]
  simp only [if_true]
  clear y3 v3 m2
  go_step
  go_step
  refine wpk_copy (gp := w.heap.size) (gq := w1.heap.size) (fun g => fieldPk 4 4 (by decide) g _) (show (Instr.loadAt _ _).run _ _ = .ok (.int .i64 (P.I 4)) _ from loadI (KP3.out.cell (i := 4) (by show 4 < 43; omega))) (storeI (KQ3.out.cell (i := 4) (by show 4 < 43; omega)) (KQ3.out.frozen 4) _) KQ3.out m3 (by simp) (by simp) (by intro x hx; simp only [List.mem_cons, List.not_mem_nil, or_false] at hx; rcases hx with rfl | rfl | rfl <;> simp) (by decide) rfl rfl rfl rfl rfl rfl rfl rfl rfl rfl rfl rfl fun c1 s1 n1 k1 g1 => ?_
  rw [pkC_setI _ _ _ _ rfl] at k1
  have KP4 := hid (KP3.out.grownS g1 nE); have B4 := hid (below_grownS B3.out g1 B1.out.size B3.out.size); have KQ4 := hid k1
  clear k1 g1 KP3 B3 KQ3 m3
  go_step
  go_step
  go_step
  go_step
  go_step
  refine wpk_copy (gp := w.heap.size) (gq := w1.heap.size) (fun g => fieldPk 11 18 (by decide) g _) (show (Instr.loadAt _ _).run _ _ = .ok (.int .i64 (P.I 18)) _ from loadI (KP4.out.cell (i := 18) (by show 18 < 43; omega))) (storeI (KQ4.out.cell (i := 18) (by show 18 < 43; omega)) (KQ4.out.frozen 18) _) KQ4.out n1 (by simp) (by simp) (by intro x hx; simp only [List.mem_cons, List.not_mem_nil, or_false] at hx; rcases hx with rfl | rfl | rfl <;> simp) (by decide) rfl rfl rfl rfl rfl rfl rfl rfl rfl rfl rfl rfl fun c2 s2 n2 k2 g2 => ?_
  rw [pkC_setI _ _ _ _ rfl] at k2
  have KP5 := hid (KP4.out.grownS g2 nE); have B5 := hid (below_grownS B4.out g2 B1.out.size B4.out.size); have KQ5 := hid k2
  clear k2 g2 KP4 B4 KQ4 n1
  go_step
  go_step
  go_step
  go_step
  refine wpk_val n2 (wanted_none rfl) rfl (by decide) (by intro x hx; simp only [List.mem_cons, List.not_mem_nil, or_false] at hx; rcases hx with rfl | rfl | rfl <;> simp) (.pointer (some ⟨w.heap.size, 10, none⟩)) (by unfold execOp; simp only [n2.eval (k := 1) (v := .pointer (some ⟨w.heap.size, 0, none⟩)) (by simp)]; exact run_v (fieldPk 10 10 (by decide) w.heap.size _)) fun t0 r0 => ?_
  refine wpk_val r0 (wanted_none rfl) rfl (by decide) (by intro x hx; simp only [List.mem_cons, List.not_mem_nil, or_false] at hx; rcases hx with rfl | rfl | rfl | rfl <;> simp) (.pointer (some ⟨w.heap.size, 11, none⟩)) (by unfold execOp; simp only [r0.eval (k := 57) (List.mem_cons_self ..)]; exact run_v (fieldCl 1 11 (by decide) w.heap.size _)) fun t1 r1 => ?_
  refine wpk_val r1 (wanted_none rfl) rfl (by decide) (by intro x hx; simp only [List.mem_cons, List.not_mem_nil, or_false] at hx; rcases hx with rfl | rfl | rfl | rfl | rfl <;> simp) (.string (bsW (P.S 11))) (by unfold execOp; simp only [r1.eval (k := 58) (List.mem_cons_self ..)]; exact run_v (loadS (KP5.out.cell (i := 11) (by show 11 < 43; omega)))) fun t2 r2 => ?_
  refine wpk_val r2 (wanted_none rfl) rfl (by decide) (by intro x hx; simp only [List.mem_cons, List.not_mem_nil, or_false] at hx; rcases hx with rfl | rfl | rfl | rfl | rfl | rfl <;> simp) (.pointer (some ⟨w.heap.size, 10, none⟩)) (by unfold execOp; simp only [r2.eval (k := 1) (v := .pointer (some ⟨w.heap.size, 0, none⟩)) (by simp)]; exact run_v (fieldPk 10 10 (by decide) w.heap.size _)) fun t3 r3 => ?_
  refine wpk_val r3 (wanted_none rfl) rfl (by decide) (by intro x hx; simp only [List.mem_cons, List.not_mem_nil, or_false] at hx; rcases hx with rfl | rfl | rfl | rfl | rfl | rfl | rfl <;> simp) (.pointer (some ⟨w.heap.size, 12, none⟩)) (by unfold execOp; simp only [r3.eval (k := 60) (List.mem_cons_self ..)]; exact run_v (fieldCl 2 12 (by decide) w.heap.size _)) fun t4 r4 => ?_
  refine wpk_val r4 (wanted_none rfl) rfl (by decide) (by intro x hx; simp only [List.mem_cons, List.not_mem_nil, or_false] at hx; rcases hx with rfl | rfl | rfl | rfl | rfl | rfl | rfl | rfl <;> simp) (.string (bsW (P.S 12))) (by unfold execOp; simp only [r4.eval (k := 61) (List.mem_cons_self ..)]; exact run_v (loadS (KP5.out.cell (i := 12) (by show 12 < 43; omega)))) fun t5 r5 => ?_
  refine wpk_val r5 (wanted_none rfl) rfl (by decide) (by intro x hx; simp only [List.mem_cons, List.not_mem_nil, or_false] at hx; rcases hx with rfl | rfl | rfl | rfl | rfl | rfl | rfl | rfl | rfl <;> simp) (.pointer (some ⟨w.heap.size, 10, none⟩)) (by unfold execOp; simp only [r5.eval (k := 1) (v := .pointer (some ⟨w.heap.size, 0, none⟩)) (by simp)]; exact run_v (fieldPk 10 10 (by decide) w.heap.size _)) fun t6 r6 => ?_
  refine wpk_val r6 (wanted_none rfl) rfl (by decide) (by intro x hx; simp only [List.mem_cons, List.not_mem_nil, or_false] at hx; rcases hx with rfl | rfl | rfl | rfl | rfl | rfl | rfl | rfl | rfl | rfl <;> simp) (.pointer (some ⟨w.heap.size, 13, none⟩)) (by unfold execOp; simp only [r6.eval (k := 63) (List.mem_cons_self ..)]; exact run_v (fieldCl 3 13 (by decide) w.heap.size _)) fun t7 r7 => ?_
  refine wpk_val r7 (wanted_none rfl) rfl (by decide) (by intro x hx; simp only [List.mem_cons, List.not_mem_nil, or_false] at hx; rcases hx with rfl | rfl | rfl | rfl | rfl | rfl | rfl | rfl | rfl | rfl | rfl <;> simp) (.int .i64 (P.I 13)) (by unfold execOp; simp only [r7.eval (k := 64) (List.mem_cons_self ..)]; exact run_v (loadI (KP5.out.cell (i := 13) (by show 13 < 43; omega)))) fun t8 r8 => ?_
  refine wpk_val r8 (wanted_none rfl) rfl (by decide) (by intro x hx; simp only [List.mem_cons, List.not_mem_nil, or_false] at hx; rcases hx with rfl | rfl | rfl | rfl | rfl | rfl | rfl | rfl | rfl | rfl | rfl | rfl <;> simp) (.pointer (some ⟨w.heap.size, 10, none⟩)) (by unfold execOp; simp only [r8.eval (k := 1) (v := .pointer (some ⟨w.heap.size, 0, none⟩)) (by simp)]; exact run_v (fieldPk 10 10 (by decide) w.heap.size _)) fun t9 r9 => ?_
  refine wpk_val r9 (wanted_none rfl) rfl (by decide) (by intro x hx; simp only [List.mem_cons, List.not_mem_nil, or_false] at hx; rcases hx with rfl | rfl | rfl | rfl | rfl | rfl | rfl | rfl | rfl | rfl | rfl | rfl | rfl <;> simp) (.pointer (some ⟨w.heap.size, 16, none⟩)) (by unfold execOp; simp only [r9.eval (k := 66) (List.mem_cons_self ..)]; exact run_v (fieldCl 6 16 (by decide) w.heap.size _)) fun t10 r10 => ?_
  refine wpk_val r10 (wanted_none rfl) rfl (by decide) (by intro x hx; simp only [List.mem_cons, List.not_mem_nil, or_false] at hx; rcases hx with rfl | rfl | rfl | rfl | rfl | rfl | rfl | rfl | rfl | rfl | rfl | rfl | rfl | rfl <;> simp) (.int .i64 (P.I 16)) (by unfold execOp; simp only [r10.eval (k := 67) (List.mem_cons_self ..)]; exact run_v (loadI (KP5.out.cell (i := 16) (by show 16 < 43; omega)))) fun t11 r11 => ?_
  refine wpk_val r11 (wanted_none rfl) rfl (by decide) (by intro x hx; simp only [List.mem_cons, List.not_mem_nil, or_false] at hx; rcases hx with rfl | rfl | rfl | rfl | rfl | rfl | rfl | rfl | rfl | rfl | rfl | rfl | rfl | rfl | rfl <;> simp) (.agg ([.int .i64 0, .string (bsW (P.S 11)), .string (bsW (P.S 12)), .int .i64 (P.I 13), .int .i64 0, .int .i64 0, .int .i64 (P.I 16), .string ⟨#[]⟩] : List Value).toArray) (by unfold execOp; simp only [r11.eval (k := 59) (v := .string (bsW (P.S 11))) (by simp), r11.eval (k := 62) (v := .string (bsW (P.S 12))) (by simp), r11.eval (k := 65) (v := .int .i64 (P.I 13)) (by simp), r11.eval (k := 68) (v := .int .i64 (P.I 16)) (by simp), List.map_toArray, List.map_cons, List.map_nil]; exact run_v (buildCall _ _ _ _ _)) fun t12 r12 => ?_
  refine wpk_val r12 (wanted_none rfl) rfl (by decide) (by intro x hx; simp only [List.mem_cons, List.not_mem_nil, or_false] at hx; rcases hx with rfl | rfl | rfl | rfl | rfl | rfl | rfl | rfl | rfl | rfl | rfl | rfl | rfl | rfl | rfl | rfl <;> simp) (.pointer (some ⟨w1.heap.size, 10, none⟩)) (by unfold execOp; simp only [r12.eval (k := 3) (v := .pointer (some ⟨w1.heap.size, 0, none⟩)) (by simp)]; exact run_v (fieldPk 10 10 (by decide) w1.heap.size _)) fun t13 r13 => ?_
  refine wpk_storeR r13 rfl rfl 23 rfl w1.heap.size 10 (r13.eval (k := 70) (List.mem_cons_self ..)) [.int .i64 0, .string (bsW (P.S 11)), .string (bsW (P.S 12)), .int .i64 (P.I 13), .int .i64 0, .int .i64 0, .int .i64 (P.I 16), .string ⟨#[]⟩] (r13.eval (k := 69) (by simp)) (by rw [infoCal]; rfl) (by intro v hv; have : (([.int .i64 0, .string (bsW (P.S 11)), .string (bsW (P.S 12)), .int .i64 (P.I 13), .int .i64 0, .int .i64 0, .int .i64 (P.I 16), .string ⟨#[]⟩] : List Value).all fun v => v.oneCell') = true := rfl; exact List.all_eq_true.1 this v hv) KQ5.out (by show 10 + _ ≤ 43; simp) fun c3 s3 n3 k3 g3 => ?_
  have n3 := n3.sub (l' := LO w.heap.size w1.heap.size P) (by intro x hx; simp only [List.mem_cons, List.not_mem_nil, or_false] at hx; rcases hx with rfl | rfl | rfl <;> simp)
  have KP6 := hid (KP5.out.grownS g3 nE); have B6 := hid (below_grownS B5.out g3 B1.out.size B5.out.size); have KQ6 := hid k3
  clear k3 g3 KP5 B5 KQ5 n2 r0 r1 r2 r3 r4 r5 r6 r7 r8 r9 r10 r11 r12 r13
  go_step
  go_step
  go_step
  go_step
  go_step
  have KF : Hid (Blk s3 w1.heap.size 35 (pkC (setL P P0z (fHead ++ fRest 3)) none (setL P P0z (fHead ++ fRest 3)).N.length 0)) := hid (by have z := KQ6.out; rw [hQ0] at z; exact z)
  have BF := B6.out
  refine wpk_val n3 (wanted_none rfl) rfl (by decide) (by intro x hx; simp only [List.mem_cons, List.not_mem_nil, or_false] at hx; rcases hx with rfl | rfl | rfl <;> simp) (.agg (pkC P a P.N.length c).toArray) (by unfold execOp; simp only [n3.eval (k := 1) (v := .pointer (some ⟨w.heap.size, 0, none⟩)) (by simp)]; exact run_v (run_loadAt_mid _ _ _ _ (pkC P a P.N.length c) _ KP6.out.range Try.underlying35 rfl (by rw [infoPk]; rfl))) fun t1 r1 => ?_
  refine wpk_val r1 (wanted_none rfl) rfl (by decide) (by intro x hx; simp only [List.mem_cons, List.not_mem_nil, or_false] at hx; rcases hx with rfl | rfl | rfl | rfl <;> simp) (.agg (pkC (setL P P0z (fHead ++ fRest 3)) none (setL P P0z (fHead ++ fRest 3)).N.length 0).toArray) (by unfold execOp; simp only [r1.eval (k := 3) (v := .pointer (some ⟨w1.heap.size, 0, none⟩)) (by simp)]; exact run_v (run_loadAt_mid _ _ _ _ (pkC (setL P P0z (fHead ++ fRest 3)) none (setL P P0z (fHead ++ fRest 3)).N.length 0) _ KF.out.range Try.underlying35 rfl (by rw [infoPk]; rfl))) fun t2 r2 => ?_
  have hrow : Row s3 1 none (setL P P0z (fHead ++ fRest 3)).N.length 0 ((setL P P0z (fHead ++ fRest 3)).N.map strV) := Row.nil _ _
  refine wpk_call r2 (wanted_none rfl) rfl (by decide) (by intro x hx; simp only [List.mem_cons, List.not_mem_nil, or_false] at hx; rcases hx with rfl | rfl | rfl | rfl | rfl <;> simp) (fun args => callSameP args _) rfl #[.agg (pkC P a P.N.length c).toArray, .agg (pkC (setL P P0z (fHead ++ fRest 3)) none (setL P P0z (fHead ++ fRest 3)).N.length 0).toArray] (by simp only [List.map_toArray, List.map_cons, List.map_nil, r2.eval (k := 115) (v := .agg (pkC P a P.N.length c).toArray) (by simp), r2.eval (k := 116) (List.mem_cons_self ..)]) (R := fun v w' => v = .bool (eqPk P (setL P P0z (fHead ++ fRest 3))) ∧ Below s3.heap.size s3 w') ((samePk_any P (setL P P0z (fHead ++ fRest 3)) a none c 0 _ (HA.out.mono BF) hrow).mono fun e w' q => ⟨_, q.1, rfl, q.2⟩) fun t3 v w9 hv r3 => ?_
  obtain ⟨rfl, b9⟩ := hv
  refine wpk_val r3 (wanted_none rfl) rfl (by decide) (by intro x hx; simp only [List.mem_cons, List.not_mem_nil, or_false] at hx; rcases hx with rfl | rfl | rfl | rfl | rfl | rfl <;> simp) (.bool (eqPk P (setL P P0z (fHead ++ fRest 3)))) (by unfold execOp; simp only [r3.eval (k := 117) (List.mem_cons_self ..)]; rfl) fun t4 r4 => ?_
  go_step
  go_step
  go_step
  go_step
  refine bodyPost_ret (results_tmp1 rfl (r4.known _ (List.mem_cons_self ..))) r4.defs ?_
  exact ⟨rfl, kept_trans BF b9⟩

set_option maxRecDepth 100000 in
set_option maxHeartbeats 4000000 in
theorem others_4 (P : PkM) (a : Option Addr) (c : Nat) (w : World) (ha : Row w 1 a P.N.length c (P.N.map strV)) (hk : P.I 0 = 4) :
    Calls Try.prog 42 #[.agg (pkC P a P.N.length c).toArray] w fun e w' => e = .returned (.bool (eqPk P (setL P P0z (fHead ++ fRest 4)))) ∧ Below w.heap.size w w' := by
  have e1 : (P.I 0 == 1) = false := by rw [hk]; rfl
  have e2 : (P.I 0 == 2) = false := by rw [hk]; rfl
  have e3 : (P.I 0 == 3) = false := by rw [hk]; rfl
  have e4 : (P.I 0 == 4) = true := by rw [hk]; rfl
  have e5 : (P.I 0 == 5) = false := by rw [hk]; rfl
  have HA := hid ha
  clear ha hk
  go_enter Try.func42, Try.ntmps42
  go_step
  go_step
  go_step
  refine wpl_boxT rfl 35 _ rfl (pkC P a P.N.length c) rfl ?_
  intro w1 k1 b1 s1
  have KP0 := hid k1; have B1 := hid b1; have S1 := hid s1
  have nE : ¬ w.heap.size = w1.heap.size := by omega
  clear k1 b1 s1
  go_step
  go_step
  go_step
  go_step
  go_step
  go_step
  go_step
  go_step
  refine wpk_enter (N := 118) (l := [(1, .pointer (some ⟨w.heap.size, 0, none⟩))]) ⟨rfl, (by intro x hx; simp only [List.mem_cons, List.not_mem_nil, or_false] at hx; rcases hx with rfl <;> rfl), rfl⟩ fun a0 i0 => ?_
  refine wpk_val i0 (wanted_none rfl) rfl (by decide) (by intro x hx; simp only [List.mem_cons, List.not_mem_nil, or_false] at hx; rcases hx with rfl <;> simp) (.pointer (some ⟨w.heap.size, 0, none⟩)) (by unfold execOp; simp only [i0.eval (k := 1) (v := .pointer (some ⟨w.heap.size, 0, none⟩)) (by simp)]; exact run_v (fieldPk 0 0 (by decide) w.heap.size _)) fun a1 i1 => ?_
  refine wpk_val i1 (wanted_none rfl) rfl (by decide) (by intro x hx; simp only [List.mem_cons, List.not_mem_nil, or_false] at hx; rcases hx with rfl | rfl <;> simp) (.int .i64 (P.I 0)) (by unfold execOp; simp only [i1.eval (k := 4) (List.mem_cons_self ..)]; exact run_v (loadI (KP0.out.cell (i := 0) (by show 0 < 43; omega)))) fun a2 i2 => ?_
  refine wpk_val i2 (wanted_none rfl) rfl (by decide) (by intro x hx; simp only [List.mem_cons, List.not_mem_nil, or_false] at hx; rcases hx with rfl | rfl | rfl <;> simp) (.pointer (some ⟨w.heap.size, 1, none⟩)) (by unfold execOp; simp only [i2.eval (k := 1) (v := .pointer (some ⟨w.heap.size, 0, none⟩)) (by simp)]; exact run_v (fieldPk 1 1 (by decide) w.heap.size _)) fun a3 i3 => ?_
  refine wpk_val i3 (wanted_none rfl) rfl (by decide) (by intro x hx; simp only [List.mem_cons, List.not_mem_nil, or_false] at hx; rcases hx with rfl | rfl | rfl | rfl <;> simp) (.int .i64 (P.I 1)) (by unfold execOp; simp only [i3.eval (k := 6) (List.mem_cons_self ..)]; exact run_v (loadI (KP0.out.cell (i := 1) (by show 1 < 43; omega)))) fun a4 i4 => ?_
  refine wpk_val i4 (wanted_none rfl) rfl (by decide) (by intro x hx; simp only [List.mem_cons, List.not_mem_nil, or_false] at hx; rcases hx with rfl | rfl | rfl | rfl | rfl <;> simp) (.pointer (some ⟨w.heap.size, 2, none⟩)) (by unfold execOp; simp only [i4.eval (k := 1) (v := .pointer (some ⟨w.heap.size, 0, none⟩)) (by simp)]; exact run_v (fieldPk 2 2 (by decide) w.heap.size _)) fun a5 i5 => ?_
  refine wpk_val i5 (wanted_none rfl) rfl (by decide) (by intro x hx; simp only [List.mem_cons, List.not_mem_nil, or_false] at hx; rcases hx with rfl | rfl | rfl | rfl | rfl | rfl <;> simp) (.int .i64 (P.I 2)) (by unfold execOp; simp only [i5.eval (k := 8) (List.mem_cons_self ..)]; exact run_v (loadI (KP0.out.cell (i := 2) (by show 2 < 43; omega)))) fun a6 i6 => ?_
  refine wpk_val i6 (wanted_none rfl) rfl (by decide) (by intro x hx; simp only [List.mem_cons, List.not_mem_nil, or_false] at hx; rcases hx with rfl | rfl | rfl | rfl | rfl | rfl | rfl <;> simp) (.pointer (some ⟨w.heap.size, 3, none⟩)) (by unfold execOp; simp only [i6.eval (k := 1) (v := .pointer (some ⟨w.heap.size, 0, none⟩)) (by simp)]; exact run_v (fieldPk 3 3 (by decide) w.heap.size _)) fun a7 i7 => ?_
  refine wpk_val i7 (wanted_none rfl) rfl (by decide) (by intro x hx; simp only [List.mem_cons, List.not_mem_nil, or_false] at hx; rcases hx with rfl | rfl | rfl | rfl | rfl | rfl | rfl | rfl <;> simp) (.int .i64 (P.I 3)) (by unfold execOp; simp only [i7.eval (k := 10) (List.mem_cons_self ..)]; exact run_v (loadI (KP0.out.cell (i := 3) (by show 3 < 43; omega)))) fun a8 i8 => ?_
  obtain ⟨Q0, hQ0⟩ : ∃ Q0, Q0 = setI (setI (setI (setI P0z 0 (P.I 0)) 1 (P.I 1)) 2 (P.I 2)) 3 (P.I 3) := ⟨_, rfl⟩
  refine wpk_val i8 (wanted_none rfl) rfl (by decide) (by intro x hx; simp only [List.mem_cons, List.not_mem_nil, or_false] at hx; rcases hx with rfl | rfl | rfl | rfl | rfl | rfl | rfl | rfl | rfl <;> simp) (.agg (pkC Q0 none 0 0).toArray) (by unfold execOp; simp only [i8.eval (k := 5) (v := .int .i64 (P.I 0)) (by simp), i8.eval (k := 7) (v := .int .i64 (P.I 1)) (by simp), i8.eval (k := 9) (v := .int .i64 (P.I 2)) (by simp), i8.eval (k := 11) (v := .int .i64 (P.I 3)) (by simp), List.map_toArray, List.map_cons, List.map_nil]; rw [hQ0]; exact run_v (build4 _ _ _ _ _)) fun a9 i9 => ?_
  refine wpk_val i9 (wanted_none rfl) rfl (by decide) (by intro x hx; simp only [List.mem_cons, List.not_mem_nil, or_false] at hx; rcases hx with rfl | rfl | rfl | rfl | rfl | rfl | rfl | rfl | rfl | rfl <;> simp) (.pointer (some ⟨w1.heap.size, 0, none⟩)) (run_allocPk rfl _ w1) fun a10 i10 => ?_
  have j10 := i10.sub (l' := [(1, .pointer (some ⟨w.heap.size, 0, none⟩)), (3, .pointer (some ⟨w1.heap.size, 0, none⟩)), (12, .agg (pkC Q0 none 0 0).toArray)]) (by intro x hx; simp only [List.mem_cons, List.not_mem_nil, or_false] at hx; rcases hx with rfl | rfl | rfl <;> simp)
  clear i0 i1 i2 i3 i4 i5 i6 i7 i8 i9 i10
  have z2 : Blk (w1.alloc (.cells litPk 35)) w1.heap.size 35 (pkC P0z none 0 0) := by rw [litPk_eq]; exact blk_newO rfl _ _
  have KP2 := hid (KP0.out.mono (albO w1 (.cells litPk 35))); have B2 := hid (kept_alloc B1.out (.cells litPk 35))
  generalize w1.alloc (.cells litPk 35) = w2 at *
  refine wpk_storeR j10 rfl rfl 35 rfl w1.heap.size 0 (j10.eval (k := 3) (v := .pointer (some ⟨w1.heap.size, 0, none⟩)) (by simp)) (pkC Q0 none 0 0) (j10.eval (k := 12) (v := .agg (pkC Q0 none 0 0).toArray) (by simp)) (by rw [infoPk]; rfl) (pkC_one _ _ _ _) z2 (by show 0 + 43 ≤ 43; omega) fun a11 w3 j10 k3 g3 => ?_
  rw [splice_all (by rfl)] at k3
  have KP3 := hid (KP2.out.grownS g3 nE); have B3 := hid (below_grownS B2.out g3 B1.out.size B2.out.size); have KQ3 := hid k3
  clear k3 g3 z2 KP2 B2 KP0
  go_step
  go_step
  go_step
  go_step
  go_step
  go_step
  refine wpk_val j10 (wanted_none rfl) rfl (by decide) (by intro x hx; simp only [List.mem_cons, List.not_mem_nil, or_false] at hx; rcases hx with rfl | rfl | rfl <;> simp) (.pointer (some ⟨w.heap.size, 0, none⟩)) (by unfold execOp; simp only [j10.eval (k := 1) (v := .pointer (some ⟨w.heap.size, 0, none⟩)) (by simp)]; exact run_v (fieldPk 0 0 (by decide) w.heap.size _)) fun a12 j11 => ?_
  refine wpk_val j11 (wanted_none rfl) rfl (by decide) (by intro x hx; simp only [List.mem_cons, List.not_mem_nil, or_false] at hx; rcases hx with rfl | rfl | rfl | rfl <;> simp) (.int .i64 (P.I 0)) (by unfold execOp; simp only [j11.eval (k := 13) (List.mem_cons_self ..)]; exact run_v (loadI (KP3.out.cell (i := 0) (by show 0 < 43; omega)))) fun a13 j12 => ?_
  have m0 := j12.sub (l' := LO w.heap.size w1.heap.size P) (by intro x hx; simp only [List.mem_cons, List.not_mem_nil, or_false] at hx; rcases hx with rfl | rfl | rfl <;> simp)
  clear j10 j11 j12
  go_step
  go_step
  go_step
  go_step
  go_step
  go_step
  refine wpk_val m0 (wanted_none rfl) rfl (by decide) (by intro x hx; simp only [List.mem_cons, List.not_mem_nil, or_false] at hx; rcases hx with rfl | rfl | rfl <;> simp) (.bool (P.I 0 == 1)) (by unfold execOp; simp only [m0.eval (k := 14) (v := .int .i64 (P.I 0)) (by simp)]; exact run_v (eqI _ _ _ _ _)) fun x1 y1 => ?_
  refine wpk_val y1 (wanted_none rfl) rfl (by decide) (by intro x hx; simp only [List.mem_cons, List.not_mem_nil, or_false] at hx; rcases hx with rfl | rfl | rfl | rfl <;> simp) (.bool (P.I 0 == 1)) (by unfold execOp; simp only [y1.eval (List.mem_cons_self ..)]; rfl) fun u1 v1 => ?_
  have m1 := v1.sub (l' := LO w.heap.size w1.heap.size P) (by intro x hx; simp only [List.mem_cons, List.not_mem_nil, or_false] at hx; rcases hx with rfl | rfl | rfl <;> simp)
  go_step
  go_step
  go_step
  refine wp_cond (t := P.I 0 == 1) (v1.eval (List.mem_cons_self ..)) ?_
  rw [e1]
  simp only [Bool.false_eq_true, if_false]
  clear y1 v1 m0
  go_step
  go_step
  refine wpk_val m1 (wanted_none rfl) rfl (by decide) (by intro x hx; simp only [List.mem_cons, List.not_mem_nil, or_false] at hx; rcases hx with rfl | rfl | rfl <;> simp) (.bool (P.I 0 == 2)) (by unfold execOp; simp only [m1.eval (k := 14) (v := .int .i64 (P.I 0)) (by simp)]; exact run_v (eqI _ _ _ _ _)) fun x2 y2 => ?_
  refine wpk_val y2 (wanted_none rfl) rfl (by decide) (by intro x hx; simp only [List.mem_cons, List.not_mem_nil, or_false] at hx; rcases hx with rfl | rfl | rfl | rfl <;> simp) (.bool (P.I 0 == 2)) (by unfold execOp; simp only [y2.eval (List.mem_cons_self ..)]; rfl) fun u2 v2 => ?_
  have m2 := v2.sub (l' := LO w.heap.size w1.heap.size P) (by intro x hx; simp only [List.mem_cons, List.not_mem_nil, or_false] at hx; rcases hx with rfl | rfl | rfl <;> simp)
  go_step
  go_step
  go_step
  refine wp_cond (t := P.I 0 == 2) (v2.eval (List.mem_cons_self ..)) ?_
  rw [e2]
  simp only [Bool.false_eq_true, if_false]
  clear y2 v2 m1
  go_step
  go_step
  refine wpk_val m2 (wanted_none rfl) rfl (by decide) (by intro x hx; simp only [List.mem_cons, List.not_mem_nil, or_false] at hx; rcases hx with rfl | rfl | rfl <;> simp) (.bool (P.I 0 == 3)) (by unfold execOp; simp only [m2.eval (k := 14) (v := .int .i64 (P.I 0)) (by simp)]; exact run_v (eqI _ _ _ _ _)) fun x3 y3 => ?_
  refine wpk_val y3 (wanted_none rfl) rfl (by decide) (by intro x hx; simp only [List.mem_cons, List.not_mem_nil, or_false] at hx; rcases hx with rfl | rfl | rfl | rfl <;> simp) (.bool (P.I 0 == 3)) (by unfold execOp; simp only [y3.eval (List.mem_cons_self ..)]; rfl) fun u3 v3 => ?_
  have m3 := v3.sub (l' := LO w.heap.size w1.heap.size P) (by intro x hx; simp only [List.mem_cons, List.not_mem_nil, or_false] at hx; rcases hx with rfl | rfl | rfl <;> simp)
  go_step
  go_step
  go_step
  refine wp_cond (t := P.I 0 == 3) (v3.eval (List.mem_cons_self ..)) ?_
  rw [e3]
  simp only [Bool.false_eq_true, if_false]
  clear y3 v3 m2
  go_step
  go_step
  refine wpk_val m3 (wanted_none rfl) rfl (by decide) (by intro x hx; simp only [List.mem_cons, List.not_mem_nil, or_false] at hx; rcases hx with rfl | rfl | rfl <;> simp) (.bool (P.I 0 == 4)) (by unfold execOp; simp only [m3.eval (k := 14) (v := .int .i64 (P.I 0)) (by simp)]; exact run_v (eqI _ _ _ _ _)) fun x4 y4 => ?_
  refine wpk_val y4 (wanted_none rfl) rfl (by decide) (by intro x hx; simp only [List.mem_cons, List.not_mem_nil, or_false] at hx; rcases hx with rfl | rfl | rfl | rfl <;> simp) (.bool (P.I 0 == 4)) (by unfold execOp; simp only [y4.eval (List.mem_cons_self ..)]; rfl) fun u4 v4 => ?_
  have m4 := v4.sub (l' := LO w.heap.size w1.heap.size P) (by intro x hx; simp only [List.mem_cons, List.not_mem_nil, or_false] at hx; rcases hx with rfl | rfl | rfl <;> simp)
  go_step
  go_step
  go_step
  refine wp_cond (t := P.I 0 == 4) (v4.eval (List.mem_cons_self ..)) ?_
  rw [e4]
  simp only [if_true]
  clear y4 v4 m3
  go_step
  go_step
  refine wpk_copy (gp := w.heap.size) (gq := w1.heap.size) (fun g => fieldPk 4 4 (by decide) g _) (show (Instr.loadAt _ _).run _ _ = .ok (.int .i64 (P.I 4)) _ from loadI (KP3.out.cell (i := 4) (by show 4 < 43; omega))) (storeI (KQ3.out.cell (i := 4) (by show 4 < 43; omega)) (KQ3.out.frozen 4) _) KQ3.out m4 (by simp) (by simp) (by intro x hx; simp only [List.mem_cons, List.not_mem_nil, or_false] at hx; rcases hx with rfl | rfl | rfl <;> simp) (by decide) rfl rfl rfl rfl rfl rfl rfl rfl rfl rfl rfl rfl fun c1 s1 n1 k1 g1 => ?_
  rw [pkC_setI _ _ _ _ rfl] at k1
  have KP4 := hid (KP3.out.grownS g1 nE); have B4 := hid (below_grownS B3.out g1 B1.out.size B3.out.size); have KQ4 := hid k1
  clear k1 g1 KP3 B3 KQ3 m4
  go_step
  go_step
  go_step
  go_step
  go_step
  refine wpk_copy (gp := w.heap.size) (gq := w1.heap.size) (fun g => fieldPk 12 19 (by decide) g _) (show (Instr.loadAt _ _).run _ _ = .ok (.int .i64 (P.I 19)) _ from loadE (KP4.out.cell (i := 19) (by show 19 < 43; omega))) (storeE (KQ4.out.cell (i := 19) (by show 19 < 43; omega)) (KQ4.out.frozen 19) _) KQ4.out n1 (by simp) (by simp) (by intro x hx; simp only [List.mem_cons, List.not_mem_nil, or_false] at hx; rcases hx with rfl | rfl | rfl <;> simp) (by decide) rfl rfl rfl rfl rfl rfl rfl rfl rfl rfl rfl rfl fun c2 s2 n2 k2 g2 => ?_
  rw [pkC_setI _ _ _ _ rfl] at k2
  have KP5 := hid (KP4.out.grownS g2 nE); have B5 := hid (below_grownS B4.out g2 B1.out.size B4.out.size); have KQ5 := hid k2
  clear k2 g2 KP4 B4 KQ4 n1
  go_step
  go_step
  go_step
  go_step
  go_step
  refine wpk_copy (gp := w.heap.size) (gq := w1.heap.size) (fun g => fieldPk 11 18 (by decide) g _) (show (Instr.loadAt _ _).run _ _ = .ok (.int .i64 (P.I 18)) _ from loadI (KP5.out.cell (i := 18) (by show 18 < 43; omega))) (storeI (KQ5.out.cell (i := 18) (by show 18 < 43; omega)) (KQ5.out.frozen 18) _) KQ5.out n2 (by simp) (by simp) (by intro x hx; simp only [List.mem_cons, List.not_mem_nil, or_false] at hx; rcases hx with rfl | rfl | rfl <;> simp) (by decide) rfl rfl rfl rfl rfl rfl rfl rfl rfl rfl rfl rfl fun c3 s3 n3 k3 g3 => ?_
  rw [pkC_setI _ _ _ _ rfl] at k3
  have KP6 := hid (KP5.out.grownS g3 nE); have B6 := hid (below_grownS B5.out g3 B1.out.size B5.out.size); have KQ6 := hid k3
  clear k3 g3 KP5 B5 KQ5 n2
  go_step
  go_step
  go_step
  go_step
  go_step
  refine wpk_copy (gp := w.heap.size) (gq := w1.heap.size) (fun g => fieldPk 14 27 (by decide) g _) (show (Instr.loadAt _ _).run _ _ = .ok (.int .i64 (P.I 27)) _ from loadI (KP6.out.cell (i := 27) (by show 27 < 43; omega))) (storeI (KQ6.out.cell (i := 27) (by show 27 < 43; omega)) (KQ6.out.frozen 27) _) KQ6.out n3 (by simp) (by simp) (by intro x hx; simp only [List.mem_cons, List.not_mem_nil, or_false] at hx; rcases hx with rfl | rfl | rfl <;> simp) (by decide) rfl rfl rfl rfl rfl rfl rfl rfl rfl rfl rfl rfl fun c4 s4 n4 k4 g4 => ?_
  rw [pkC_setI _ _ _ _ rfl] at k4
  have KP7 := hid (KP6.out.grownS g4 nE); have B7 := hid (below_grownS B6.out g4 B1.out.size B6.out.size); have KQ7 := hid k4
  clear k4 g4 KP6 B6 KQ6 n3
  go_step
  go_step
  go_step
  go_step
  go_step
  refine wpk_copy (gp := w.heap.size) (gq := w1.heap.size) (fun g => fieldPk 5 5 (by decide) g _) (show (Instr.loadAt _ _).run _ _ = .ok (.int .i64 (P.I 5)) _ from loadI (KP7.out.cell (i := 5) (by show 5 < 43; omega))) (storeI (KQ7.out.cell (i := 5) (by show 5 < 43; omega)) (KQ7.out.frozen 5) _) KQ7.out n4 (by simp) (by simp) (by intro x hx; simp only [List.mem_cons, List.not_mem_nil, or_false] at hx; rcases hx with rfl | rfl | rfl <;> simp) (by decide) rfl rfl rfl rfl rfl rfl rfl rfl rfl rfl rfl rfl fun c5 s5 n5 k5 g5 => ?_
  rw [pkC_setI _ _ _ _ rfl] at k5
  have KP8 := hid (KP7.out.grownS g5 nE); have B8 := hid (below_grownS B7.out g5 B1.out.size B7.out.size); have KQ8 := hid k5
  clear k5 g5 KP7 B7 KQ7 n4
  go_step
  go_step
  go_step
  go_step
  go_step
  refine wpk_val n5 (wanted_none rfl) rfl (by decide) (by intro x hx; simp only [List.mem_cons, List.not_mem_nil, or_false] at hx; rcases hx with rfl | rfl | rfl <;> simp) (.pointer (some ⟨w.heap.size, 20, none⟩)) (by unfold execOp; simp only [n5.eval (k := 1) (v := .pointer (some ⟨w.heap.size, 0, none⟩)) (by simp)]; exact run_v (fieldPk 13 20 (by decide) w.heap.size _)) fun t0 r0 => ?_
  refine wpk_val r0 (wanted_none rfl) rfl (by decide) (by intro x hx; simp only [List.mem_cons, List.not_mem_nil, or_false] at hx; rcases hx with rfl | rfl | rfl | rfl <;> simp) (.pointer (some ⟨w.heap.size, 23, none⟩)) (by unfold execOp; simp only [r0.eval (k := 88) (List.mem_cons_self ..)]; exact run_v (fieldRp 3 23 (by decide) w.heap.size _)) fun t1 r1 => ?_
  refine wpk_val r1 (wanted_none rfl) rfl (by decide) (by intro x hx; simp only [List.mem_cons, List.not_mem_nil, or_false] at hx; rcases hx with rfl | rfl | rfl | rfl | rfl <;> simp) (.slice a P.N.length c) (by unfold execOp; simp only [r1.eval (k := 89) (List.mem_cons_self ..)]; exact run_v (loadN (KP8.out.cell (i := 23) (by show 23 < 43; omega)))) fun t2 r2 => ?_
  refine wpk_val r2 (wanted_none rfl) rfl (by decide) (by intro x hx; simp only [List.mem_cons, List.not_mem_nil, or_false] at hx; rcases hx with rfl | rfl | rfl | rfl | rfl | rfl <;> simp) (.pointer (some ⟨w.heap.size, 20, none⟩)) (by unfold execOp; simp only [r2.eval (k := 1) (v := .pointer (some ⟨w.heap.size, 0, none⟩)) (by simp)]; exact run_v (fieldPk 13 20 (by decide) w.heap.size _)) fun t3 r3 => ?_
  refine wpk_val r3 (wanted_none rfl) rfl (by decide) (by intro x hx; simp only [List.mem_cons, List.not_mem_nil, or_false] at hx; rcases hx with rfl | rfl | rfl | rfl | rfl | rfl | rfl <;> simp) (.pointer (some ⟨w.heap.size, 24, none⟩)) (by unfold execOp; simp only [r3.eval (k := 91) (List.mem_cons_self ..)]; exact run_v (fieldRp 4 24 (by decide) w.heap.size _)) fun t4 r4 => ?_
  refine wpk_val r4 (wanted_none rfl) rfl (by decide) (by intro x hx; simp only [List.mem_cons, List.not_mem_nil, or_false] at hx; rcases hx with rfl | rfl | rfl | rfl | rfl | rfl | rfl | rfl <;> simp) (.agg (infoC P).toArray) (by unfold execOp; simp only [r4.eval (k := 92) (List.mem_cons_self ..)]; exact run_v (run_loadAt_mid _ _ _ _ (infoC P) _ (KP8.out.part 24 3 (infoC P) rfl) Try.underlying27 rfl infoInf)) fun t5 r5 => ?_
  refine wpk_val r5 (wanted_none rfl) rfl (by decide) (by intro x hx; simp only [List.mem_cons, List.not_mem_nil, or_false] at hx; rcases hx with rfl | rfl | rfl | rfl | rfl | rfl | rfl | rfl | rfl <;> simp) (.agg ([.int .i64 0, .int .i64 0, .string ⟨#[]⟩, .slice a P.N.length c, .int .i64 (P.I 24), .int .i64 (P.I 25), .int .i64 (P.I 26)] : List Value).toArray) (by unfold execOp; simp only [r5.eval (k := 90) (v := .slice a P.N.length c) (by simp), r5.eval (k := 93) (v := .agg (infoC P).toArray) (by simp), List.map_toArray, List.map_cons, List.map_nil]; exact run_v (buildReply _ _ _ _ _ _ _)) fun t6 r6 => ?_
  refine wpk_val r6 (wanted_none rfl) rfl (by decide) (by intro x hx; simp only [List.mem_cons, List.not_mem_nil, or_false] at hx; rcases hx with rfl | rfl | rfl | rfl | rfl | rfl | rfl | rfl | rfl | rfl <;> simp) (.pointer (some ⟨w1.heap.size, 20, none⟩)) (by unfold execOp; simp only [r6.eval (k := 3) (v := .pointer (some ⟨w1.heap.size, 0, none⟩)) (by simp)]; exact run_v (fieldPk 13 20 (by decide) w1.heap.size _)) fun t7 r7 => ?_
  refine wpk_storeR r7 rfl rfl 29 rfl w1.heap.size 20 (r7.eval (k := 95) (List.mem_cons_self ..)) [.int .i64 0, .int .i64 0, .string ⟨#[]⟩, .slice a P.N.length c, .int .i64 (P.I 24), .int .i64 (P.I 25), .int .i64 (P.I 26)] (r7.eval (k := 94) (by simp)) (by rw [infoRep]; rfl) (by intro v hv; have : (([.int .i64 0, .int .i64 0, .string ⟨#[]⟩, .slice a P.N.length c, .int .i64 (P.I 24), .int .i64 (P.I 25), .int .i64 (P.I 26)] : List Value).all fun v => v.oneCell') = true := rfl; exact List.all_eq_true.1 this v hv) KQ8.out (by show 20 + _ ≤ 43; simp) fun c6 s6 n6 k6 g6 => ?_
  have n6 := n6.sub (l' := LO w.heap.size w1.heap.size P) (by intro x hx; simp only [List.mem_cons, List.not_mem_nil, or_false] at hx; rcases hx with rfl | rfl | rfl <;> simp)
  have KP9 := hid (KP8.out.grownS g6 nE); have B9 := hid (below_grownS B8.out g6 B1.out.size B8.out.size); have KQ9 := hid k6
  clear k6 g6 KP8 B8 KQ8 n5 r0 r1 r2 r3 r4 r5 r6 r7
  go_step
  go_step
  go_step
  go_step
  refine wpk_val n6 (wanted_none rfl) rfl (by decide) (by intro x hx; simp only [List.mem_cons, List.not_mem_nil, or_false] at hx; rcases hx with rfl | rfl | rfl <;> simp) (.pointer (some ⟨w.heap.size, 28, none⟩)) (by unfold execOp; simp only [n6.eval (k := 1) (v := .pointer (some ⟨w.heap.size, 0, none⟩)) (by simp)]; exact run_v (fieldPk 15 28 (by decide) w.heap.size _)) fun t0 r0 => ?_
  refine wpk_val r0 (wanted_none rfl) rfl (by decide) (by intro x hx; simp only [List.mem_cons, List.not_mem_nil, or_false] at hx; rcases hx with rfl | rfl | rfl | rfl <;> simp) (.pointer (some ⟨w.heap.size, 28, none⟩)) (by unfold execOp; simp only [r0.eval (k := 96) (List.mem_cons_self ..)]; exact run_v (fieldIn 0 28 (by decide) w.heap.size _)) fun t1 r1 => ?_
  refine wpk_val r1 (wanted_none rfl) rfl (by decide) (by intro x hx; simp only [List.mem_cons, List.not_mem_nil, or_false] at hx; rcases hx with rfl | rfl | rfl | rfl | rfl <;> simp) (.int .i64 (P.I 28)) (by unfold execOp; simp only [r1.eval (k := 97) (List.mem_cons_self ..)]; exact run_v (loadI (KP9.out.cell (i := 28) (by show 28 < 43; omega)))) fun t2 r2 => ?_
  refine wpk_val r2 (wanted_none rfl) rfl (by decide) (by intro x hx; simp only [List.mem_cons, List.not_mem_nil, or_false] at hx; rcases hx with rfl | rfl | rfl | rfl | rfl | rfl <;> simp) (.pointer (some ⟨w.heap.size, 28, none⟩)) (by unfold execOp; simp only [r2.eval (k := 1) (v := .pointer (some ⟨w.heap.size, 0, none⟩)) (by simp)]; exact run_v (fieldPk 15 28 (by decide) w.heap.size _)) fun t3 r3 => ?_
  refine wpk_val r3 (wanted_none rfl) rfl (by decide) (by intro x hx; simp only [List.mem_cons, List.not_mem_nil, or_false] at hx; rcases hx with rfl | rfl | rfl | rfl | rfl | rfl | rfl <;> simp) (.pointer (some ⟨w.heap.size, 29, none⟩)) (by unfold execOp; simp only [r3.eval (k := 99) (List.mem_cons_self ..)]; exact run_v (fieldIn 1 29 (by decide) w.heap.size _)) fun t4 r4 => ?_
  refine wpk_val r4 (wanted_none rfl) rfl (by decide) (by intro x hx; simp only [List.mem_cons, List.not_mem_nil, or_false] at hx; rcases hx with rfl | rfl | rfl | rfl | rfl | rfl | rfl | rfl <;> simp) (.int .i64 (P.I 29)) (by unfold execOp; simp only [r4.eval (k := 100) (List.mem_cons_self ..)]; exact run_v (loadI (KP9.out.cell (i := 29) (by show 29 < 43; omega)))) fun t5 r5 => ?_
  refine wpk_val r5 (wanted_none rfl) rfl (by decide) (by intro x hx; simp only [List.mem_cons, List.not_mem_nil, or_false] at hx; rcases hx with rfl | rfl | rfl | rfl | rfl | rfl | rfl | rfl | rfl <;> simp) (.pointer (some ⟨w.heap.size, 28, none⟩)) (by unfold execOp; simp only [r5.eval (k := 1) (v := .pointer (some ⟨w.heap.size, 0, none⟩)) (by simp)]; exact run_v (fieldPk 15 28 (by decide) w.heap.size _)) fun t6 r6 => ?_
  refine wpk_val r6 (wanted_none rfl) rfl (by decide) (by intro x hx; simp only [List.mem_cons, List.not_mem_nil, or_false] at hx; rcases hx with rfl | rfl | rfl | rfl | rfl | rfl | rfl | rfl | rfl | rfl <;> simp) (.pointer (some ⟨w.heap.size, 30, none⟩)) (by unfold execOp; simp only [r6.eval (k := 102) (List.mem_cons_self ..)]; exact run_v (fieldIn 2 30 (by decide) w.heap.size _)) fun t7 r7 => ?_
  refine wpk_val r7 (wanted_none rfl) rfl (by decide) (by intro x hx; simp only [List.mem_cons, List.not_mem_nil, or_false] at hx; rcases hx with rfl | rfl | rfl | rfl | rfl | rfl | rfl | rfl | rfl | rfl | rfl <;> simp) (.int .i64 (P.I 30)) (by unfold execOp; simp only [r7.eval (k := 103) (List.mem_cons_self ..)]; exact run_v (loadI (KP9.out.cell (i := 30) (by show 30 < 43; omega)))) fun t8 r8 => ?_
  refine wpk_val r8 (wanted_none rfl) rfl (by decide) (by intro x hx; simp only [List.mem_cons, List.not_mem_nil, or_false] at hx; rcases hx with rfl | rfl | rfl | rfl | rfl | rfl | rfl | rfl | rfl | rfl | rfl | rfl <;> simp) (.pointer (some ⟨w.heap.size, 28, none⟩)) (by unfold execOp; simp only [r8.eval (k := 1) (v := .pointer (some ⟨w.heap.size, 0, none⟩)) (by simp)]; exact run_v (fieldPk 15 28 (by decide) w.heap.size _)) fun t9 r9 => ?_
  refine wpk_val r9 (wanted_none rfl) rfl (by decide) (by intro x hx; simp only [List.mem_cons, List.not_mem_nil, or_false] at hx; rcases hx with rfl | rfl | rfl | rfl | rfl | rfl | rfl | rfl | rfl | rfl | rfl | rfl | rfl <;> simp) (.pointer (some ⟨w.heap.size, 31, none⟩)) (by unfold execOp; simp only [r9.eval (k := 105) (List.mem_cons_self ..)]; exact run_v (fieldIn 3 31 (by decide) w.heap.size _)) fun t10 r10 => ?_
  refine wpk_val r10 (wanted_none rfl) rfl (by decide) (by intro x hx; simp only [List.mem_cons, List.not_mem_nil, or_false] at hx; rcases hx with rfl | rfl | rfl | rfl | rfl | rfl | rfl | rfl | rfl | rfl | rfl | rfl | rfl | rfl <;> simp) (.agg (blkC P).toArray) (by unfold execOp; simp only [r10.eval (k := 106) (List.mem_cons_self ..)]; exact run_v (run_loadAt_mid _ _ _ _ (blkC P) _ (KP9.out.part 31 4 (blkC P) rfl) Try.underlying30 rfl infoA4)) fun t11 r11 => ?_
  refine wpk_val r11 (wanted_none rfl) rfl (by decide) (by intro x hx; simp only [List.mem_cons, List.not_mem_nil, or_false] at hx; rcases hx with rfl | rfl | rfl | rfl | rfl | rfl | rfl | rfl | rfl | rfl | rfl | rfl | rfl | rfl | rfl <;> simp) (.agg ([.int .i64 (P.I 28), .int .i64 (P.I 29), .int .i64 (P.I 30), .int .i64 (P.I 31), .int .i64 (P.I 32), .int .i64 (P.I 33), .int .i64 (P.I 34), .int .i64 0, .int .i64 0, .int .i64 0, .int .i64 0, .int .i64 0, .int .i64 0, .int .i64 0, .int .i64 0] : List Value).toArray) (by unfold execOp; simp only [r11.eval (k := 98) (v := .int .i64 (P.I 28)) (by simp), r11.eval (k := 101) (v := .int .i64 (P.I 29)) (by simp), r11.eval (k := 104) (v := .int .i64 (P.I 30)) (by simp), r11.eval (k := 107) (v := .agg (blkC P).toArray) (by simp), List.map_toArray, List.map_cons, List.map_nil]; exact run_v (buildNode _ _ _ _ _ _ _ _)) fun t12 r12 => ?_
  refine wpk_val r12 (wanted_none rfl) rfl (by decide) (by intro x hx; simp only [List.mem_cons, List.not_mem_nil, or_false] at hx; rcases hx with rfl | rfl | rfl | rfl | rfl | rfl | rfl | rfl | rfl | rfl | rfl | rfl | rfl | rfl | rfl | rfl <;> simp) (.pointer (some ⟨w1.heap.size, 28, none⟩)) (by unfold execOp; simp only [r12.eval (k := 3) (v := .pointer (some ⟨w1.heap.size, 0, none⟩)) (by simp)]; exact run_v (fieldPk 15 28 (by decide) w1.heap.size _)) fun t13 r13 => ?_
  refine wpk_storeR r13 rfl rfl 33 rfl w1.heap.size 28 (r13.eval (k := 109) (List.mem_cons_self ..)) [.int .i64 (P.I 28), .int .i64 (P.I 29), .int .i64 (P.I 30), .int .i64 (P.I 31), .int .i64 (P.I 32), .int .i64 (P.I 33), .int .i64 (P.I 34), .int .i64 0, .int .i64 0, .int .i64 0, .int .i64 0, .int .i64 0, .int .i64 0, .int .i64 0, .int .i64 0] (r13.eval (k := 108) (by simp)) (by rw [infoNod]; rfl) (by intro v hv; have : (([.int .i64 (P.I 28), .int .i64 (P.I 29), .int .i64 (P.I 30), .int .i64 (P.I 31), .int .i64 (P.I 32), .int .i64 (P.I 33), .int .i64 (P.I 34), .int .i64 0, .int .i64 0, .int .i64 0, .int .i64 0, .int .i64 0, .int .i64 0, .int .i64 0, .int .i64 0] : List Value).all fun v => v.oneCell') = true := rfl; exact List.all_eq_true.1 this v hv) KQ9.out (by show 28 + _ ≤ 43; simp) fun c7 s7 n7 k7 g7 => ?_
  have n7 := n7.sub (l' := LO w.heap.size w1.heap.size P) (by intro x hx; simp only [List.mem_cons, List.not_mem_nil, or_false] at hx; rcases hx with rfl | rfl | rfl <;> simp)
  have KP10 := hid (KP9.out.grownS g7 nE); have B10 := hid (below_grownS B9.out g7 B1.out.size B9.out.size); have KQ10 := hid k7
  clear k7 g7 KP9 B9 KQ9 n6 r0 r1 r2 r3 r4 r5 r6 r7 r8 r9 r10 r11 r12 r13
  go_step
  go_step
  go_step
  go_step
  go_step
  have KF : Hid (Blk s7 w1.heap.size 35 (pkC (setL P P0z (fHead ++ fRest 4)) a (setL P P0z (fHead ++ fRest 4)).N.length c)) := hid (by have z := KQ10.out; rw [hQ0] at z; exact z)
  have BF := B10.out
  refine wpk_val n7 (wanted_none rfl) rfl (by decide) (by intro x hx; simp only [List.mem_cons, List.not_mem_nil, or_false] at hx; rcases hx with rfl | rfl | rfl <;> simp) (.agg (pkC P a P.N.length c).toArray) (by unfold execOp; simp only [n7.eval (k := 1) (v := .pointer (some ⟨w.heap.size, 0, none⟩)) (by simp)]; exact run_v (run_loadAt_mid _ _ _ _ (pkC P a P.N.length c) _ KP10.out.range Try.underlying35 rfl (by rw [infoPk]; rfl))) fun t1 r1 => ?_
  refine wpk_val r1 (wanted_none rfl) rfl (by decide) (by intro x hx; simp only [List.mem_cons, List.not_mem_nil, or_false] at hx; rcases hx with rfl | rfl | rfl | rfl <;> simp) (.agg (pkC (setL P P0z (fHead ++ fRest 4)) a (setL P P0z (fHead ++ fRest 4)).N.length c).toArray) (by unfold execOp; simp only [r1.eval (k := 3) (v := .pointer (some ⟨w1.heap.size, 0, none⟩)) (by simp)]; exact run_v (run_loadAt_mid _ _ _ _ (pkC (setL P P0z (fHead ++ fRest 4)) a (setL P P0z (fHead ++ fRest 4)).N.length c) _ KF.out.range Try.underlying35 rfl (by rw [infoPk]; rfl))) fun t2 r2 => ?_
  have hrow : Row s7 1 a (setL P P0z (fHead ++ fRest 4)).N.length c ((setL P P0z (fHead ++ fRest 4)).N.map strV) := HA.out.mono BF
  refine wpk_call r2 (wanted_none rfl) rfl (by decide) (by intro x hx; simp only [List.mem_cons, List.not_mem_nil, or_false] at hx; rcases hx with rfl | rfl | rfl | rfl | rfl <;> simp) (fun args => callSameP args _) rfl #[.agg (pkC P a P.N.length c).toArray, .agg (pkC (setL P P0z (fHead ++ fRest 4)) a (setL P P0z (fHead ++ fRest 4)).N.length c).toArray] (by simp only [List.map_toArray, List.map_cons, List.map_nil, r2.eval (k := 115) (v := .agg (pkC P a P.N.length c).toArray) (by simp), r2.eval (k := 116) (List.mem_cons_self ..)]) (R := fun v w' => v = .bool (eqPk P (setL P P0z (fHead ++ fRest 4))) ∧ Below s7.heap.size s7 w') ((samePk_any P (setL P P0z (fHead ++ fRest 4)) a a c c _ (HA.out.mono BF) hrow).mono fun e w' q => ⟨_, q.1, rfl, q.2⟩) fun t3 v w9 hv r3 => ?_
  obtain ⟨rfl, b9⟩ := hv
  refine wpk_val r3 (wanted_none rfl) rfl (by decide) (by intro x hx; simp only [List.mem_cons, List.not_mem_nil, or_false] at hx; rcases hx with rfl | rfl | rfl | rfl | rfl | rfl <;> simp) (.bool (eqPk P (setL P P0z (fHead ++ fRest 4)))) (by unfold execOp; simp only [r3.eval (k := 117) (List.mem_cons_self ..)]; rfl) fun t4 r4 => ?_
  go_step
  go_step
  go_step
  go_step
  refine bodyPost_ret (results_tmp1 rfl (r4.known _ (List.mem_cons_self ..))) r4.defs ?_
  exact ⟨rfl, kept_trans BF b9⟩

set_option maxRecDepth 100000 in
set_option maxHeartbeats 4000000 in
theorem others_5 (P : PkM) (a : Option Addr) (c : Nat) (w : World) (ha : Row w 1 a P.N.length c (P.N.map strV)) (hk : P.I 0 = 5) :
    Calls Try.prog 42 #[.agg (pkC P a P.N.length c).toArray] w fun e w' => e = .returned (.bool (eqPk P (setL P P0z (fHead ++ fRest 5)))) ∧ Below w.heap.size w w' := by
  have e1 : (P.I 0 == 1) = false := by rw [hk]; rfl
  have e2 : (P.I 0 == 2) = false := by rw [hk]; rfl
  have e3 : (P.I 0 == 3) = false := by rw [hk]; rfl
  have e4 : (P.I 0 == 4) = false := by rw [hk]; rfl
  have e5 : (P.I 0 == 5) = true := by rw [hk]; rfl
  have HA := hid ha
  clear ha hk
  go_enter Try.func42, Try.ntmps42
  go_step
  go_step
  go_step
  refine wpl_boxT rfl 35 _ rfl (pkC P a P.N.length c) rfl ?_
  intro w1 k1 b1 s1
  have KP0 := hid k1; have B1 := hid b1; have S1 := hid s1
  have nE : ¬ w.heap.size = w1.heap.size := by omega
  clear k1 b1 s1
  go_step
  go_step
  go_step
  go_step
  go_step
  go_step
  go_step
  go_step
  refine wpk_enter (N := 118) (l := [(1, .pointer (some ⟨w.heap.size, 0, none⟩))]) ⟨rfl, (by intro x hx; simp only [List.mem_cons, List.not_mem_nil, or_false] at hx; rcases hx with rfl <;> rfl), rfl⟩ fun a0 i0 => ?_
  refine wpk_val i0 (wanted_none rfl) rfl (by decide) (by intro x hx; simp only [List.mem_cons, List.not_mem_nil, or_false] at hx; rcases hx with rfl <;> simp) (.pointer (some ⟨w.heap.size, 0, none⟩)) (by unfold execOp; simp only [i0.eval (k := 1) (v := .pointer (some ⟨w.heap.size, 0, none⟩)) (by simp)]; exact run_v (fieldPk 0 0 (by decide) w.heap.size _)) fun a1 i1 => ?_
  refine wpk_val i1 (wanted_none rfl) rfl (by decide) (by intro x hx; simp only [List.mem_cons, List.not_mem_nil, or_false] at hx; rcases hx with rfl | rfl <;> simp) (.int .i64 (P.I 0)) (by unfold execOp; simp only [i1.eval (k := 4) (List.mem_cons_self ..)]; exact run_v (loadI (KP0.out.cell (i := 0) (by show 0 < 43; omega)))) fun a2 i2 => ?_
  refine wpk_val i2 (wanted_none rfl) rfl (by decide) (by intro x hx; simp only [List.mem_cons, List.not_mem_nil, or_false] at hx; rcases hx with rfl | rfl | rfl <;> simp) (.pointer (some ⟨w.heap.size, 1, none⟩)) (by unfold execOp; simp only [i2.eval (k := 1) (v := .pointer (some ⟨w.heap.size, 0, none⟩)) (by simp)]; exact run_v (fieldPk 1 1 (by decide) w.heap.size _)) fun a3 i3 => ?_
  refine wpk_val i3 (wanted_none rfl) rfl (by decide) (by intro x hx; simp only [List.mem_cons, List.not_mem_nil, or_false] at hx; rcases hx with rfl | rfl | rfl | rfl <;> simp) (.int .i64 (P.I 1)) (by unfold execOp; simp only [i3.eval (k := 6) (List.mem_cons_self ..)]; exact run_v (loadI (KP0.out.cell (i := 1) (by show 1 < 43; omega)))) fun a4 i4 => ?_
  refine wpk_val i4 (wanted_none rfl) rfl (by decide) (by intro x hx; simp only [List.mem_cons, List.not_mem_nil, or_false] at hx; rcases hx with rfl | rfl | rfl | rfl | rfl <;> simp) (.pointer (some ⟨w.heap.size, 2, none⟩)) (by unfold execOp; simp only [i4.eval (k := 1) (v := .pointer (some ⟨w.heap.size, 0, none⟩)) (by simp)]; exact run_v (fieldPk 2 2 (by decide) w.heap.size _)) fun a5 i5 => ?_
  refine wpk_val i5 (wanted_none rfl) rfl (by decide) (by intro x hx; simp only [List.mem_cons, List.not_mem_nil, or_false] at hx; rcases hx with rfl | rfl | rfl | rfl | rfl | rfl <;> simp) (.int .i64 (P.I 2)) (by unfold execOp; simp only [i5.eval (k := 8) (List.mem_cons_self ..)]; exact run_v (loadI (KP0.out.cell (i := 2) (by show 2 < 43; omega)))) fun a6 i6 => ?_
  refine wpk_val i6 (wanted_none rfl) rfl (by decide) (by intro x hx; simp only [List.mem_cons, List.not_mem_nil, or_false] at hx; rcases hx with rfl | rfl | rfl | rfl | rfl | rfl | rfl <;> simp) (.pointer (some ⟨w.heap.size, 3, none⟩)) (by unfold execOp; simp only [i6.eval (k := 1) (v := .pointer (some ⟨w.heap.size, 0, none⟩)) (by simp)]; exact run_v (fieldPk 3 3 (by decide) w.heap.size _)) fun a7 i7 => ?_
  refine wpk_val i7 (wanted_none rfl) rfl (by decide) (by intro x hx; simp only [List.mem_cons, List.not_mem_nil, or_false] at hx; rcases hx with rfl | rfl | rfl | rfl | rfl | rfl | rfl | rfl <;> simp) (.int .i64 (P.I 3)) (by unfold execOp; simp only [i7.eval (k := 10) (List.mem_cons_self ..)]; exact run_v (loadI (KP0.out.cell (i := 3) (by show 3 < 43; omega)))) fun a8 i8 => ?_
  obtain ⟨Q0, hQ0⟩ : ∃ Q0, Q0 = setI (setI (setI (setI P0z 0 (P.I 0)) 1 (P.I 1)) 2 (P.I 2)) 3 (P.I 3) := ⟨_, rfl⟩
  refine wpk_val i8 (wanted_none rfl) rfl (by decide) (by intro x hx; simp only [List.mem_cons, List.not_mem_nil, or_false] at hx; rcases hx with rfl | rfl | rfl | rfl | rfl | rfl | rfl | rfl | rfl <;> simp) (.agg (pkC Q0 none 0 0).toArray) (by unfold execOp; simp only [i8.eval (k := 5) (v := .int .i64 (P.I 0)) (by simp), i8.eval (k := 7) (v := .int .i64 (P.I 1)) (by simp), i8.eval (k := 9) (v := .int .i64 (P.I 2)) (by simp), i8.eval (k := 11) (v := .int .i64 (P.I 3)) (by simp), List.map_toArray, List.map_cons, List.map_nil]; rw [hQ0]; exact run_v (build4 _ _ _ _ _)) fun a9 i9 => ?_
  refine wpk_val i9 (wanted_none rfl) rfl (by decide) (by intro x hx; simp only [List.mem_cons, List.not_mem_nil, or_false] at hx; rcases hx with rfl | rfl | rfl | rfl | rfl | rfl | rfl | rfl | rfl | rfl <;> simp) (.pointer (some ⟨w1.heap.size, 0, none⟩)) (run_allocPk rfl _ w1) fun a10 i10 => ?_
  have j10 := i10.sub (l' := [(1, .pointer (some ⟨w.heap.size, 0, none⟩)), (3, .pointer (some ⟨w1.heap.size, 0, none⟩)), (12, .agg (pkC Q0 none 0 0).toArray)]) (by intro x hx; simp only [List.mem_cons, List.not_mem_nil, or_false] at hx; rcases hx with rfl | rfl | rfl <;> simp)
  clear i0 i1 i2 i3 i4 i5 i6 i7 i8 i9 i10
  have z2 : Blk (w1.alloc (.cells litPk 35)) w1.heap.size 35 (pkC P0z none 0 0) := by rw [litPk_eq]; exact blk_newO rfl _ _
  have KP2 := hid (KP0.out.mono (albO w1 (.cells litPk 35))); have B2 := hid (kept_alloc B1.out (.cells litPk 35))
  generalize w1.alloc (.cells litPk 35) = w2 at *
  refine wpk_storeR j10 rfl rfl 35 rfl w1.heap.size 0 (j10.eval (k := 3) (v := .pointer (some ⟨w1.heap.size, 0, none⟩)) (by simp)) (pkC Q0 none 0 0) (j10.eval (k := 12) (v := .agg (pkC Q0 none 0 0).toArray) (by simp)) (by rw [infoPk]; rfl) (pkC_one _ _ _ _) z2 (by show 0 + 43 ≤ 43; omega) fun a11 w3 j10 k3 g3 => ?_
  rw [splice_all (by rfl)] at k3
  have KP3 := hid (KP2.out.grownS g3 nE); have B3 := hid (below_grownS B2.out g3 B1.out.size B2.out.size); have KQ3 := hid k3
  clear k3 g3 z2 KP2 B2 KP0
  go_step
  go_step
  go_step
  go_step
  go_step
  go_step
  refine wpk_val j10 (wanted_none rfl) rfl (by decide) (by intro x hx; simp only [List.mem_cons, List.not_mem_nil, or_false] at hx; rcases hx with rfl | rfl | rfl <;> simp) (.pointer (some ⟨w.heap.size, 0, none⟩)) (by unfold execOp; simp only [j10.eval (k := 1) (v := .pointer (some ⟨w.heap.size, 0, none⟩)) (by simp)]; exact run_v (fieldPk 0 0 (by decide) w.heap.size _)) fun a12 j11 => ?_
  refine wpk_val j11 (wanted_none rfl) rfl (by decide) (by intro x hx; simp only [List.mem_cons, List.not_mem_nil, or_false] at hx; rcases hx with rfl | rfl | rfl | rfl <;> simp) (.int .i64 (P.I 0)) (by unfold execOp; simp only [j11.eval (k := 13) (List.mem_cons_self ..)]; exact run_v (loadI (KP3.out.cell (i := 0) (by show 0 < 43; omega)))) fun a13 j12 => ?_
  have m0 := j12.sub (l' := LO w.heap.size w1.heap.size P) (by intro x hx; simp only [List.mem_cons, List.not_mem_nil, or_false] at hx; rcases hx with rfl | rfl | rfl <;> simp)
  clear j10 j11 j12
  go_step
  go_step
  go_step
  go_step
  go_step
  go_step
  refine wpk_val m0 (wanted_none rfl) rfl (by decide) (by intro x hx; simp only [List.mem_cons, List.not_mem_nil, or_false] at hx; rcases hx with rfl | rfl | rfl <;> simp) (.bool (P.I 0 == 1)) (by unfold execOp; simp only [m0.eval (k := 14) (v := .int .i64 (P.I 0)) (by simp)]; exact run_v (eqI _ _ _ _ _)) fun x1 y1 => ?_
  refine wpk_val y1 (wanted_none rfl) rfl (by decide) (by intro x hx; simp only [List.mem_cons, List.not_mem_nil, or_false] at hx; rcases hx with rfl | rfl | rfl | rfl <;> simp) (.bool (P.I 0 == 1)) (by unfold execOp; simp only [y1.eval (List.mem_cons_self ..)]; rfl) fun u1 v1 => ?_
  have m1 := v1.sub (l' := LO w.heap.size w1.heap.size P) (by intro x hx; simp only [List.mem_cons, List.not_mem_nil, or_false] at hx; rcases hx with rfl | rfl | rfl <;> simp)
  go_step
  go_step
  go_step
  refine wp_cond (t := P.I 0 == 1) (v1.eval (List.mem_cons_self ..)) ?_
  rw [e1]
  simp only [Bool.false_eq_true, if_false]
  clear y1 v1 m0
  go_step
  go_step
  refine wpk_val m1 (wanted_none rfl) rfl (by decide) (by intro x hx; simp only [List.mem_cons, List.not_mem_nil, or_false] at hx; rcases hx with rfl | rfl | rfl <;> simp) (.bool (P.I 0 == 2)) (by unfold execOp; simp only [m1.eval (k := 14) (v := .int .i64 (P.I 0)) (by simp)]; exact run_v (eqI _ _ _ _ _)) fun x2 y2 => ?_
  refine wpk_val y2 (wanted_none rfl) rfl (by decide) (by intro x hx; simp only [List.mem_cons, List.not_mem_nil, or_false] at hx; rcases hx with rfl | rfl | rfl | rfl <;> simp) (.bool (P.I 0 == 2)) (by unfold execOp; simp only [y2.eval (List.mem_cons_self ..)]; rfl) fun u2 v2 => ?_
  have m2 := v2.sub (l' := LO w.heap.size w1.heap.size P) (by intro x hx; simp only [List.mem_cons, List.not_mem_nil, or_false] at hx; rcases hx with rfl | rfl | rfl <;> simp)
  go_step
  go_step
  go_step
  refine wp_cond (t := P.I 0 == 2) (v2.eval (List.mem_cons_self ..)) ?_
  rw [e2]
  simp only [Bool.false_eq_true, if_false]
  clear y2 v2 m1
  go_step
  go_step
  refine wpk_val m2 (wanted_none rfl) rfl (by decide) (by intro x hx; simp only [List.mem_cons, List.not_mem_nil, or_false] at hx; rcases hx with rfl | rfl | rfl <;> simp) (.bool (P.I 0 == 3)) (by unfold execOp; simp only [m2.eval (k := 14) (v := .int .i64 (P.I 0)) (by simp)]; exact run_v (eqI _ _ _ _ _)) fun x3 y3 => ?_
  refine wpk_val y3 (wanted_none rfl) rfl (by decide) (by intro x hx; simp only [List.mem_cons, List.not_mem_nil, or_false] at hx; rcases hx with rfl | rfl | rfl | rfl <;> simp) (.bool (P.I 0 == 3)) (by unfold execOp; simp only [y3.eval (List.mem_cons_self ..)]; rfl) fun u3 v3 => ?_
  have m3 := v3.sub (l' := LO w.heap.size w1.heap.size P) (by intro x hx; simp only [List.mem_cons, List.not_mem_nil, or_false] at hx; rcases hx with rfl | rfl | rfl <;> simp)
  go_step
  go_step
  go_step
  refine wp_cond (t := P.I 0 == 3) (v3.eval (List.mem_cons_self ..)) ?_
  rw [e3]
  simp only [Bool.false_eq_true, if_false]
  clear y3 v3 m2
  go_step
  go_step
  refine wpk_val m3 (wanted_none rfl) rfl (by decide) (by intro x hx; simp only [List.mem_cons, List.not_mem_nil, or_false] at hx; rcases hx with rfl | rfl | rfl <;> simp) (.bool (P.I 0 == 4)) (by unfold execOp; simp only [m3.eval (k := 14) (v := .int .i64 (P.I 0)) (by simp)]; exact run_v (eqI _ _ _ _ _)) fun x4 y4 => ?_
  refine wpk_val y4 (wanted_none rfl) rfl (by decide) (by intro x hx; simp only [List.mem_cons, List.not_mem_nil, or_false] at hx; rcases hx with rfl | rfl | rfl | rfl <;> simp) (.bool (P.I 0 == 4)) (by unfold execOp; simp only [y4.eval (List.mem_cons_self ..)]; rfl) fun u4 v4 => ?_
  have m4 := v4.sub (l' := LO w.heap.size w1.heap.size P) (by intro x hx; simp only [List.mem_cons, List.not_mem_nil, or_false] at hx; rcases hx with rfl | rfl | rfl <;> simp)
  go_step
  go_step
  go_step
  refine wp_cond (t := P.I 0 == 4) (v4.eval (List.mem_cons_self ..)) ?_
  rw [e4]
  simp only [Bool.false_eq_true, if_false]
  clear y4 v4 m3
  go_step
  go_step
  refine wpk_val m4 (wanted_none rfl) rfl (by decide) (by intro x hx; simp only [List.mem_cons, List.not_mem_nil, or_false] at hx; rcases hx with rfl | rfl | rfl <;> simp) (.bool (P.I 0 == 5)) (by unfold execOp; simp only [m4.eval (k := 14) (v := .int .i64 (P.I 0)) (by simp)]; exact run_v (eqI _ _ _ _ _)) fun x5 y5 => ?_
  refine wpk_val y5 (wanted_none rfl) rfl (by decide) (by intro x hx; simp only [List.mem_cons, List.not_mem_nil, or_false] at hx; rcases hx with rfl | rfl | rfl | rfl <;> simp) (.bool (P.I 0 == 5)) (by unfold execOp; simp only [y5.eval (List.mem_cons_self ..)]; rfl) fun u5 v5 => ?_
  have m5 := v5.sub (l' := LO w.heap.size w1.heap.size P) (by intro x hx; simp only [List.mem_cons, List.not_mem_nil, or_false] at hx; rcases hx with rfl | rfl | rfl <;> simp)
  go_step
  go_step
  go_step
  refine wp_cond (t := P.I 0 == 5) (v5.eval (List.mem_cons_self ..)) ?_
  rw [e5]
  simp only [if_true]
  clear y5 v5 m4
  go_step
  refine wpk_copy (gp := w.heap.size) (gq := w1.heap.size) (fun g => fieldPk 11 18 (by decide) g _) (show (Instr.loadAt _ _).run _ _ = .ok (.int .i64 (P.I 18)) _ from loadI (KP3.out.cell (i := 18) (by show 18 < 43; omega))) (storeI (KQ3.out.cell (i := 18) (by show 18 < 43; omega)) (KQ3.out.frozen 18) _) KQ3.out m5 (by simp) (by simp) (by intro x hx; simp only [List.mem_cons, List.not_mem_nil, or_false] at hx; rcases hx with rfl | rfl | rfl <;> simp) (by decide) rfl rfl rfl rfl rfl rfl rfl rfl rfl rfl rfl rfl fun c1 s1 n1 k1 g1 => ?_
  rw [pkC_setI _ _ _ _ rfl] at k1
  have KP4 := hid (KP3.out.grownS g1 nE); have B4 := hid (below_grownS B3.out g1 B1.out.size B3.out.size); have KQ4 := hid k1
  clear k1 g1 KP3 B3 KQ3 m5
  go_step
  go_step
  go_step
  go_step
  go_step
  have KF : Hid (Blk s1 w1.heap.size 35 (pkC (setL P P0z (fHead ++ fRest 5)) none (setL P P0z (fHead ++ fRest 5)).N.length 0)) := hid (by have z := KQ4.out; rw [hQ0] at z; exact z)
  have BF := B4.out
  refine wpk_val n1 (wanted_none rfl) rfl (by decide) (by intro x hx; simp only [List.mem_cons, List.not_mem_nil, or_false] at hx; rcases hx with rfl | rfl | rfl <;> simp) (.agg (pkC P a P.N.length c).toArray) (by unfold execOp; simp only [n1.eval (k := 1) (v := .pointer (some ⟨w.heap.size, 0, none⟩)) (by simp)]; exact run_v (run_loadAt_mid _ _ _ _ (pkC P a P.N.length c) _ KP4.out.range Try.underlying35 rfl (by rw [infoPk]; rfl))) fun t1 r1 => ?_
  refine wpk_val r1 (wanted_none rfl) rfl (by decide) (by intro x hx; simp only [List.mem_cons, List.not_mem_nil, or_false] at hx; rcases hx with rfl | rfl | rfl | rfl <;> simp) (.agg (pkC (setL P P0z (fHead ++ fRest 5)) none (setL P P0z (fHead ++ fRest 5)).N.length 0).toArray) (by unfold execOp; simp only [r1.eval (k := 3) (v := .pointer (some ⟨w1.heap.size, 0, none⟩)) (by simp)]; exact run_v (run_loadAt_mid _ _ _ _ (pkC (setL P P0z (fHead ++ fRest 5)) none (setL P P0z (fHead ++ fRest 5)).N.length 0) _ KF.out.range Try.underlying35 rfl (by rw [infoPk]; rfl))) fun t2 r2 => ?_
  have hrow : Row s1 1 none (setL P P0z (fHead ++ fRest 5)).N.length 0 ((setL P P0z (fHead ++ fRest 5)).N.map strV) := Row.nil _ _
  refine wpk_call r2 (wanted_none rfl) rfl (by decide) (by intro x hx; simp only [List.mem_cons, List.not_mem_nil, or_false] at hx; rcases hx with rfl | rfl | rfl | rfl | rfl <;> simp) (fun args => callSameP args _) rfl #[.agg (pkC P a P.N.length c).toArray, .agg (pkC (setL P P0z (fHead ++ fRest 5)) none (setL P P0z (fHead ++ fRest 5)).N.length 0).toArray] (by simp only [List.map_toArray, List.map_cons, List.map_nil, r2.eval (k := 115) (v := .agg (pkC P a P.N.length c).toArray) (by simp), r2.eval (k := 116) (List.mem_cons_self ..)]) (R := fun v w' => v = .bool (eqPk P (setL P P0z (fHead ++ fRest 5))) ∧ Below s1.heap.size s1 w') ((samePk_any P (setL P P0z (fHead ++ fRest 5)) a none c 0 _ (HA.out.mono BF) hrow).mono fun e w' q => ⟨_, q.1, rfl, q.2⟩) fun t3 v w9 hv r3 => ?_
  obtain ⟨rfl, b9⟩ := hv
  refine wpk_val r3 (wanted_none rfl) rfl (by decide) (by intro x hx; simp only [List.mem_cons, List.not_mem_nil, or_false] at hx; rcases hx with rfl | rfl | rfl | rfl | rfl | rfl <;> simp) (.bool (eqPk P (setL P P0z (fHead ++ fRest 5)))) (by unfold execOp; simp only [r3.eval (k := 117) (List.mem_cons_self ..)]; rfl) fun t4 r4 => ?_
  go_step
  go_step
  go_step
  go_step
  refine bodyPost_ret (results_tmp1 rfl (r4.known _ (List.mem_cons_self ..))) r4.defs ?_
  exact ⟨rfl, kept_trans BF b9⟩

set_option maxRecDepth 100000 in
set_option maxHeartbeats 4000000 in
theorem others_none (P : PkM) (a : Option Addr) (c : Nat) (w : World) (ha : Row w 1 a P.N.length c (P.N.map strV)) (hk : ¬ (1 ≤ P.I 0 ∧ P.I 0 ≤ 5)) :
    Calls Try.prog 42 #[.agg (pkC P a P.N.length c).toArray] w fun e w' => e = .returned (.bool (eqPk P (setL P P0z fHead))) ∧ Below w.heap.size w w' := by
  have e1 : (P.I 0 == 1) = false := by simp; omega
  have e2 : (P.I 0 == 2) = false := by simp; omega
  have e3 : (P.I 0 == 3) = false := by simp; omega
  have e4 : (P.I 0 == 4) = false := by simp; omega
  have e5 : (P.I 0 == 5) = false := by simp; omega
  have HA := hid ha
  clear ha hk
  go_enter Try.func42, Try.ntmps42
  go_step
  go_step
  go_step
  refine wpl_boxT rfl 35 _ rfl (pkC P a P.N.length c) rfl ?_
  intro w1 k1 b1 s1
  have KP0 := hid k1; have B1 := hid b1; have S1 := hid s1
  have nE : ¬ w.heap.size = w1.heap.size := by omega
  clear k1 b1 s1
  go_step
  go_step
  go_step
  go_step
  go_step
  go_step
  go_step
  go_step
  refine wpk_enter (N := 118) (l := [(1, .pointer (some ⟨w.heap.size, 0, none⟩))]) ⟨rfl, (by intro x hx; simp only [List.mem_cons, List.not_mem_nil, or_false] at hx; rcases hx with rfl <;> rfl), rfl⟩ fun a0 i0 => ?_
  refine wpk_val i0 (wanted_none rfl) rfl (by decide) (by intro x hx; simp only [List.mem_cons, List.not_mem_nil, or_false] at hx; rcases hx with rfl <;> simp) (.pointer (some ⟨w.heap.size, 0, none⟩)) (by unfold execOp; simp only [i0.eval (k := 1) (v := .pointer (some ⟨w.heap.size, 0, none⟩)) (by simp)]; exact run_v (fieldPk 0 0 (by decide) w.heap.size _)) fun a1 i1 => ?_
  refine wpk_val i1 (wanted_none rfl) rfl (by decide) (by intro x hx; simp only [List.mem_cons, List.not_mem_nil, or_false] at hx; rcases hx with rfl | rfl <;> simp) (.int .i64 (P.I 0)) (by unfold execOp; simp only [i1.eval (k := 4) (List.mem_cons_self ..)]; exact run_v (loadI (KP0.out.cell (i := 0) (by show 0 < 43; omega)))) fun a2 i2 => ?_
  refine wpk_val i2 (wanted_none rfl) rfl (by decide) (by intro x hx; simp only [List.mem_cons, List.not_mem_nil, or_false] at hx; rcases hx with rfl | rfl | rfl <;> simp) (.pointer (some ⟨w.heap.size, 1, none⟩)) (by unfold execOp; simp only [i2.eval (k := 1) (v := .pointer (some ⟨w.heap.size, 0, none⟩)) (by simp)]; exact run_v (fieldPk 1 1 (by decide) w.heap.size _)) fun a3 i3 => ?_
  refine wpk_val i3 (wanted_none rfl) rfl (by decide) (by intro x hx; simp only [List.mem_cons, List.not_mem_nil, or_false] at hx; rcases hx with rfl | rfl | rfl | rfl <;> simp) (.int .i64 (P.I 1)) (by unfold execOp; simp only [i3.eval (k := 6) (List.mem_cons_self ..)]; exact run_v (loadI (KP0.out.cell (i := 1) (by show 1 < 43; omega)))) fun a4 i4 => ?_
  refine wpk_val i4 (wanted_none rfl) rfl (by decide) (by intro x hx; simp only [List.mem_cons, List.not_mem_nil, or_false] at hx; rcases hx with rfl | rfl | rfl | rfl | rfl <;> simp) (.pointer (some ⟨w.heap.size, 2, none⟩)) (by unfold execOp; simp only [i4.eval (k := 1) (v := .pointer (some ⟨w.heap.size, 0, none⟩)) (by simp)]; exact run_v (fieldPk 2 2 (by decide) w.heap.size _)) fun a5 i5 => ?_
  refine wpk_val i5 (wanted_none rfl) rfl (by decide) (by intro x hx; simp only [List.mem_cons, List.not_mem_nil, or_false] at hx; rcases hx with rfl | rfl | rfl | rfl | rfl | rfl <;> simp) (.int .i64 (P.I 2)) (by unfold execOp; simp only [i5.eval (k := 8) (List.mem_cons_self ..)]; exact run_v (loadI (KP0.out.cell (i := 2) (by show 2 < 43; omega)))) fun a6 i6 => ?_
  refine wpk_val i6 (wanted_none rfl) rfl (by decide) (by intro x hx; simp only [List.mem_cons, List.not_mem_nil, or_false] at hx; rcases hx with rfl | rfl | rfl | rfl | rfl | rfl | rfl <;> simp) (.pointer (some ⟨w.heap.size, 3, none⟩)) (by unfold execOp; simp only [i6.eval (k := 1) (v := .pointer (some ⟨w.heap.size, 0, none⟩)) (by simp)]; exact run_v (fieldPk 3 3 (by decide) w.heap.size _)) fun a7 i7 => ?_
  refine wpk_val i7 (wanted_none rfl) rfl (by decide) (by intro x hx; simp only [List.mem_cons, List.not_mem_nil, or_false] at hx; rcases hx with rfl | rfl | rfl | rfl | rfl | rfl | rfl | rfl <;> simp) (.int .i64 (P.I 3)) (by unfold execOp; simp only [i7.eval (k := 10) (List.mem_cons_self ..)]; exact run_v (loadI (KP0.out.cell (i := 3) (by show 3 < 43; omega)))) fun a8 i8 => ?_
  obtain ⟨Q0, hQ0⟩ : ∃ Q0, Q0 = setI (setI (setI (setI P0z 0 (P.I 0)) 1 (P.I 1)) 2 (P.I 2)) 3 (P.I 3) := ⟨_, rfl⟩
  refine wpk_val i8 (wanted_none rfl) rfl (by decide) (by intro x hx; simp only [List.mem_cons, List.not_mem_nil, or_false] at hx; rcases hx with rfl | rfl | rfl | rfl | rfl | rfl | rfl | rfl | rfl <;> simp) (.agg (pkC Q0 none 0 0).toArray) (by unfold execOp; simp only [i8.eval (k := 5) (v := .int .i64 (P.I 0)) (by simp), i8.eval (k := 7) (v := .int .i64 (P.I 1)) (by simp), i8.eval (k := 9) (v := .int .i64 (P.I 2)) (by simp), i8.eval (k := 11) (v := .int .i64 (P.I 3)) (by simp), List.map_toArray, List.map_cons, List.map_nil]; rw [hQ0]; exact run_v (build4 _ _ _ _ _)) fun a9 i9 => ?_
  refine wpk_val i9 (wanted_none rfl) rfl (by decide) (by intro x hx; simp only [List.mem_cons, List.not_mem_nil, or_false] at hx; rcases hx with rfl | rfl | rfl | rfl | rfl | rfl | rfl | rfl | rfl | rfl <;> simp) (.pointer (some ⟨w1.heap.size, 0, none⟩)) (run_allocPk rfl _ w1) fun a10 i10 => ?_
  have j10 := i10.sub (l' := [(1, .pointer (some ⟨w.heap.size, 0, none⟩)), (3, .pointer (some ⟨w1.heap.size, 0, none⟩)), (12, .agg (pkC Q0 none 0 0).toArray)]) (by intro x hx; simp only [List.mem_cons, List.not_mem_nil, or_false] at hx; rcases hx with rfl | rfl | rfl <;> simp)
  clear i0 i1 i2 i3 i4 i5 i6 i7 i8 i9 i10
  have z2 : Blk (w1.alloc (.cells litPk 35)) w1.heap.size 35 (pkC P0z none 0 0) := by rw [litPk_eq]; exact blk_newO rfl _ _
  have KP2 := hid (KP0.out.mono (albO w1 (.cells litPk 35))); have B2 := hid (kept_alloc B1.out (.cells litPk 35))
  generalize w1.alloc (.cells litPk 35) = w2 at *
  refine wpk_storeR j10 rfl rfl 35 rfl w1.heap.size 0 (j10.eval (k := 3) (v := .pointer (some ⟨w1.heap.size, 0, none⟩)) (by simp)) (pkC Q0 none 0 0) (j10.eval (k := 12) (v := .agg (pkC Q0 none 0 0).toArray) (by simp)) (by rw [infoPk]; rfl) (pkC_one _ _ _ _) z2 (by show 0 + 43 ≤ 43; omega) fun a11 w3 j10 k3 g3 => ?_
  rw [splice_all (by rfl)] at k3
  have KP3 := hid (KP2.out.grownS g3 nE); have B3 := hid (below_grownS B2.out g3 B1.out.size B2.out.size); have KQ3 := hid k3
  clear k3 g3 z2 KP2 B2 KP0
  go_step
  go_step
  go_step
  go_step
  go_step
  go_step
  refine wpk_val j10 (wanted_none rfl) rfl (by decide) (by intro x hx; simp only [List.mem_cons, List.not_mem_nil, or_false] at hx; rcases hx with rfl | rfl | rfl <;> simp) (.pointer (some ⟨w.heap.size, 0, none⟩)) (by unfold execOp; simp only [j10.eval (k := 1) (v := .pointer (some ⟨w.heap.size, 0, none⟩)) (by simp)]; exact run_v (fieldPk 0 0 (by decide) w.heap.size _)) fun a12 j11 => ?_
  refine wpk_val j11 (wanted_none rfl) rfl (by decide) (by intro x hx; simp only [List.mem_cons, List.not_mem_nil, or_false] at hx; rcases hx with rfl | rfl | rfl | rfl <;> simp) (.int .i64 (P.I 0)) (by unfold execOp; simp only [j11.eval (k := 13) (List.mem_cons_self ..)]; exact run_v (loadI (KP3.out.cell (i := 0) (by show 0 < 43; omega)))) fun a13 j12 => ?_
  have m0 := j12.sub (l' := LO w.heap.size w1.heap.size P) (by intro x hx; simp only [List.mem_cons, List.not_mem_nil, or_false] at hx; rcases hx with rfl | rfl | rfl <;> simp)
  clear j10 j11 j12
  go_step
  go_step
  go_step
  go_step
  go_step
  go_step
  refine wpk_val m0 (wanted_none rfl) rfl (by decide) (by intro x hx; simp only [List.mem_cons, List.not_mem_nil, or_false] at hx; rcases hx with rfl | rfl | rfl <;> simp) (.bool (P.I 0 == 1)) (by unfold execOp; simp only [m0.eval (k := 14) (v := .int .i64 (P.I 0)) (by simp)]; exact run_v (eqI _ _ _ _ _)) fun x1 y1 => ?_
  refine wpk_val y1 (wanted_none rfl) rfl (by decide) (by intro x hx; simp only [List.mem_cons, List.not_mem_nil, or_false] at hx; rcases hx with rfl | rfl | rfl | rfl <;> simp) (.bool (P.I 0 == 1)) (by unfold execOp; simp only [y1.eval (List.mem_cons_self ..)]; rfl) fun u1 v1 => ?_
  have m1 := v1.sub (l' := LO w.heap.size w1.heap.size P) (by intro x hx; simp only [List.mem_cons, List.not_mem_nil, or_false] at hx; rcases hx with rfl | rfl | rfl <;> simp)
  go_step
  go_step
  go_step
  refine wp_cond (t := P.I 0 == 1) (v1.eval (List.mem_cons_self ..)) ?_
  rw [e1]
  simp only [Bool.false_eq_true, if_false]
  clear y1 v1 m0
  go_step
  go_step
  refine wpk_val m1 (wanted_none rfl) rfl (by decide) (by intro x hx; simp only [List.mem_cons, List.not_mem_nil, or_false] at hx; rcases hx with rfl | rfl | rfl <;> simp) (.bool (P.I 0 == 2)) (by unfold execOp; simp only [m1.eval (k := 14) (v := .int .i64 (P.I 0)) (by simp)]; exact run_v (eqI _ _ _ _ _)) fun x2 y2 => ?_
  refine wpk_val y2 (wanted_none rfl) rfl (by decide) (by intro x hx; simp only [List.mem_cons, List.not_mem_nil, or_false] at hx; rcases hx with rfl | rfl | rfl | rfl <;> simp) (.bool (P.I 0 == 2)) (by unfold execOp; simp only [y2.eval (List.mem_cons_self ..)]; rfl) fun u2 v2 => ?_
  have m2 := v2.sub (l' := LO w.heap.size w1.heap.size P) (by intro x hx; simp only [List.mem_cons, List.not_mem_nil, or_false] at hx; rcases hx with rfl | rfl | rfl <;> simp)
  go_step
  go_step
  go_step
  refine wp_cond (t := P.I 0 == 2) (v2.eval (List.mem_cons_self ..)) ?_
  rw [e2]
  simp only [Bool.false_eq_true, if_false]
  clear y2 v2 m1
  go_step
  go_step
  refine wpk_val m2 (wanted_none rfl) rfl (by decide) (by intro x hx; simp only [List.mem_cons, List.not_mem_nil, or_false] at hx; rcases hx with rfl | rfl | rfl <;> simp) (.bool (P.I 0 == 3)) (by unfold execOp; simp only [m2.eval (k := 14) (v := .int .i64 (P.I 0)) (by simp)]; exact run_v (eqI _ _ _ _ _)) fun x3 y3 => ?_
  refine wpk_val y3 (wanted_none rfl) rfl (by decide) (by intro x hx; simp only [List.mem_cons, List.not_mem_nil, or_false] at hx; rcases hx with rfl | rfl | rfl | rfl <;> simp) (.bool (P.I 0 == 3)) (by unfold execOp; simp only [y3.eval (List.mem_cons_self ..)]; rfl) fun u3 v3 => ?_
  have m3 := v3.sub (l' := LO w.heap.size w1.heap.size P) (by intro x hx; simp only [List.mem_cons, List.not_mem_nil, or_false] at hx; rcases hx with rfl | rfl | rfl <;> simp)
  go_step
  go_step
  go_step
  refine wp_cond (t := P.I 0 == 3) (v3.eval (List.mem_cons_self ..)) ?_
  rw [e3]
  simp only [Bool.false_eq_true, if_false]
  clear y3 v3 m2
  go_step
  go_step
  refine wpk_val m3 (wanted_none rfl) rfl (by decide) (by intro x hx; simp only [List.mem_cons, List.not_mem_nil, or_false] at hx; rcases hx with rfl | rfl | rfl <;> simp) (.bool (P.I 0 == 4)) (by unfold execOp; simp only [m3.eval (k := 14) (v := .int .i64 (P.I 0)) (by simp)]; exact run_v (eqI _ _ _ _ _)) fun x4 y4 => ?_
  refine wpk_val y4 (wanted_none rfl) rfl (by decide) (by intro x hx; simp only [List.mem_cons, List.not_mem_nil, or_false] at hx; rcases hx with rfl | rfl | rfl | rfl <;> simp) (.bool (P.I 0 == 4)) (by unfold execOp; simp only [y4.eval (List.mem_cons_self ..)]; rfl) fun u4 v4 => ?_
  have m4 := v4.sub (l' := LO w.heap.size w1.heap.size P) (by intro x hx; simp only [List.mem_cons, List.not_mem_nil, or_false] at hx; rcases hx with rfl | rfl | rfl <;> simp)
  go_step
  go_step
  go_step
  refine wp_cond (t := P.I 0 == 4) (v4.eval (List.mem_cons_self ..)) ?_
  rw [e4]
  simp only [Bool.false_eq_true, if_false]
  clear y4 v4 m3
  go_step
  go_step
  refine wpk_val m4 (wanted_none rfl) rfl (by decide) (by intro x hx; simp only [List.mem_cons, List.not_mem_nil, or_false] at hx; rcases hx with rfl | rfl | rfl <;> simp) (.bool (P.I 0 == 5)) (by unfold execOp; simp only [m4.eval (k := 14) (v := .int .i64 (P.I 0)) (by simp)]; exact run_v (eqI _ _ _ _ _)) fun x5 y5 => ?_
  refine wpk_val y5 (wanted_none rfl) rfl (by decide) (by intro x hx; simp only [List.mem_cons, List.not_mem_nil, or_false] at hx; rcases hx with rfl | rfl | rfl | rfl <;> simp) (.bool (P.I 0 == 5)) (by unfold execOp; simp only [y5.eval (List.mem_cons_self ..)]; rfl) fun u5 v5 => ?_
  have m5 := v5.sub (l' := LO w.heap.size w1.heap.size P) (by intro x hx; simp only [List.mem_cons, List.not_mem_nil, or_false] at hx; rcases hx with rfl | rfl | rfl <;> simp)
  go_step
  go_step
  go_step
  refine wp_cond (t := P.I 0 == 5) (v5.eval (List.mem_cons_self ..)) ?_
  rw [e5]
  simp only [Bool.false_eq_true, if_false]
  clear y5 v5 m4
  go_step
  go_step
  go_step
  go_step
  go_step
  have KF : Hid (Blk w3 w1.heap.size 35 (pkC (setL P P0z fHead) none (setL P P0z fHead).N.length 0)) := hid (by have z := KQ3.out; rw [hQ0] at z; exact z)
  have BF := B3.out
  refine wpk_val m5 (wanted_none rfl) rfl (by decide) (by intro x hx; simp only [List.mem_cons, List.not_mem_nil, or_false] at hx; rcases hx with rfl | rfl | rfl <;> simp) (.agg (pkC P a P.N.length c).toArray) (by unfold execOp; simp only [m5.eval (k := 1) (v := .pointer (some ⟨w.heap.size, 0, none⟩)) (by simp)]; exact run_v (run_loadAt_mid _ _ _ _ (pkC P a P.N.length c) _ KP3.out.range Try.underlying35 rfl (by rw [infoPk]; rfl))) fun t1 r1 => ?_
  refine wpk_val r1 (wanted_none rfl) rfl (by decide) (by intro x hx; simp only [List.mem_cons, List.not_mem_nil, or_false] at hx; rcases hx with rfl | rfl | rfl | rfl <;> simp) (.agg (pkC (setL P P0z fHead) none (setL P P0z fHead).N.length 0).toArray) (by unfold execOp; simp only [r1.eval (k := 3) (v := .pointer (some ⟨w1.heap.size, 0, none⟩)) (by simp)]; exact run_v (run_loadAt_mid _ _ _ _ (pkC (setL P P0z fHead) none (setL P P0z fHead).N.length 0) _ KF.out.range Try.underlying35 rfl (by rw [infoPk]; rfl))) fun t2 r2 => ?_
  have hrow : Row w3 1 none (setL P P0z fHead).N.length 0 ((setL P P0z fHead).N.map strV) := Row.nil _ _
  refine wpk_call r2 (wanted_none rfl) rfl (by decide) (by intro x hx; simp only [List.mem_cons, List.not_mem_nil, or_false] at hx; rcases hx with rfl | rfl | rfl | rfl | rfl <;> simp) (fun args => callSameP args _) rfl #[.agg (pkC P a P.N.length c).toArray, .agg (pkC (setL P P0z fHead) none (setL P P0z fHead).N.length 0).toArray] (by simp only [List.map_toArray, List.map_cons, List.map_nil, r2.eval (k := 115) (v := .agg (pkC P a P.N.length c).toArray) (by simp), r2.eval (k := 116) (List.mem_cons_self ..)]) (R := fun v w' => v = .bool (eqPk P (setL P P0z fHead)) ∧ Below w3.heap.size w3 w') ((samePk_any P (setL P P0z fHead) a none c 0 _ (HA.out.mono BF) hrow).mono fun e w' q => ⟨_, q.1, rfl, q.2⟩) fun t3 v w9 hv r3 => ?_
  obtain ⟨rfl, b9⟩ := hv
  refine wpk_val r3 (wanted_none rfl) rfl (by decide) (by intro x hx; simp only [List.mem_cons, List.not_mem_nil, or_false] at hx; rcases hx with rfl | rfl | rfl | rfl | rfl | rfl <;> simp) (.bool (eqPk P (setL P P0z fHead))) (by unfold execOp; simp only [r3.eval (k := 117) (List.mem_cons_self ..)]; rfl) fun t4 r4 => ?_
  go_step
  go_step
  go_step
  go_step
  refine bodyPost_ret (results_tmp1 rfl (r4.known _ (List.mem_cons_self ..))) r4.defs ?_
  exact ⟨rfl, kept_trans BF b9⟩
end Go.Proofs.Ytanediaaidfcaaa
