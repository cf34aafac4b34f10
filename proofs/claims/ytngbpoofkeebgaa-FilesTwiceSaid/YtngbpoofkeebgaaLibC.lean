/- Long regions walked over an act of which only some slots are known. -/
import Derived.Test.YtngbpoofkeebgaaLibO
import Derived.Test.YtngbpoofkeebgaaLibR
namespace Go.Proofs.Ytngbpoofkeebgaa
open Go.RowKit
set_option linter.unusedSimpArgs false
set_option linter.unusedVariables false

/-- an act of N slots, some of them known -/
structure Kn (N : Nat) (l : List (Nat × Value)) (a : Act) : Prop where
  size : a.tmps.size = N
  known : ∀ x ∈ l, a.tmps[x.1]? = some x.2
  defs : a.defers = []
theorem Kn.eval {N : Nat} {l : List (Nat × Value)} {a : Act} (h : Kn N l a) {k : Nat} {v : Value} (hm : (k, v) ∈ l) : a.eval (.tmp k) = v := by
  have := h.known _ hm
  show a.tmps.getD k undef = v
  rw [Array.getD_eq_getD_getElem?, this]; rfl
/-- the value of a slot, looked up -/
theorem Kn.ev {N : Nat} {l : List (Nat × Value)} {a : Act} (h : Kn N l a) (k : Nat) {v : Value} (hm : l.find? (fun y => y.1 == k) = some (k, v)) : a.eval (.tmp k) = v := h.eval (List.mem_of_find?_eq_some hm)
theorem Kn.put {N : Nat} {l : List (Nat × Value)} {a : Act} (h : Kn N l a) {d : Nat} (hd : d < N) (hf : ∀ x ∈ l, x.1 ≠ d) (v : Value) : Kn N ((d, v) :: l) (a.put (some d) v) := by
  refine ⟨by show (a.tmps.setIfInBounds d v).size = N; rw [Array.size_setIfInBounds]; exact h.size, fun x hx => ?_, h.defs⟩
  show (a.tmps.setIfInBounds d v)[x.1]? = some x.2
  rw [Array.getElem?_setIfInBounds]
  rcases List.mem_cons.1 hx with rfl | hx
  · rw [if_pos rfl, if_pos (by rw [h.size]; exact hd)]
  · rw [if_neg (fun e => hf x hx e.symm)]; exact h.known x hx
theorem Kn.sub {N : Nat} {l l' : List (Nat × Value)} {a : Act} (h : Kn N l a) (hs : ∀ x ∈ l', x ∈ l) : Kn N l' a := ⟨h.size, fun x hx => h.known x (hs x hx), h.defs⟩
/-- freshness of a slot, by a look -/
theorem fr {l : List (Nat × Value)} {d : Nat} (h : l.all (fun x => !(x.1 == d)) = true) : ∀ x ∈ l, x.1 ≠ d := fun x hx e => by
  have := List.all_eq_true.1 h x hx
  simp [e] at this
/-- some of what is known, by slots -/
theorem Kn.subs {N : Nat} {l l' : List (Nat × Value)} {a : Act} (h : Kn N l a) (hs : (l'.map fun x => l.find? fun y => y.1 == x.1) = l'.map some) : Kn N l' a := h.sub fun x hx => by
  have : some x ∈ l'.map some := List.mem_map.2 ⟨x, hx, rfl⟩
  rw [← hs] at this
  obtain ⟨i, _, hi⟩ := List.mem_map.1 this
  exact List.mem_of_find?_eq_some hi
theorem Kn.yields {N : Nat} {l : List (Nat × Value)} {a : Act} (h : Kn N l a) {ops : Array Oper} {g prev : Nat} {b : Bool} (hg : (ops[g]?).bind (·.dst) = some prev) (hm : (prev, .bool b) ∈ l) : yielded ops a.tmps g = some b := by
  unfold yielded
  rw [hg, Option.bind_some]
  have := h.known _ hm
  show (match a.tmps[prev]? with | some (.bool b) => some b | _ => none) = some b
  rw [this]
theorem wanted_of {o : Oper} {y : Nat → Option Bool} {g : Nat} {want b : Bool} (hg : o.guard = some (g, want)) (hy : y g = some b) : Region.wanted o y = (b == want) := by
  unfold Region.wanted
  rw [hg]
  simp only [hy]
  cases b <;> cases want <;> rfl
theorem wpk_val {P : Program} {ops : Array Oper} {Q : Exit → Act → World → Prop} {rest : List Oper} {o : Oper} {a : Act} {w w' : World} {N : Nat} {l : List (Nat × Value)} (h : Kn N l a) (hw : Region.wanted o (yielded ops a.tmps) = true) {d : Nat} (hd : o.dst = some d) (hdN : d < N) (hf : ∀ x ∈ l, x.1 ≠ d) (v : Value)
    (hr : (execOp a.eval o).run P w = .ok (.value v) w') (k : ∀ a', Kn N ((d, v) :: l) a' → wpList P ops Q rest a' w') : wpList P ops Q (o :: rest) a w := by
  refine wpList_step fun K hK => ?_
  rw [if_pos hw]
  unfold Oper.wp
  rw [hr, Oper.upon_value, hd]
  exact hK _ _ (k _ (h.put hdN hf v))
theorem wpk_skip {P : Program} {ops : Array Oper} {Q : Exit → Act → World → Prop} {rest : List Oper} {o : Oper} {a : Act} {w : World} {N : Nat} {l : List (Nat × Value)} (h : Kn N l a) (hw : Region.wanted o (yielded ops a.tmps) = false) {d : Nat} (hd : o.dst = some d) (hdN : d < N) (hf : ∀ x ∈ l, x.1 ≠ d)
    (k : ∀ a', Kn N ((d, undef) :: l) a' → wpList P ops Q rest a' w) : wpList P ops Q (o :: rest) a w := by
  refine wpList_skip hw ?_
  rw [hd]
  exact k _ (h.put hdN hf undef)
theorem wanted_none {o : Oper} {y : Nat → Option Bool} (hg : o.guard = none) : Region.wanted o y = true := by unfold Region.wanted; rw [hg]
/-- a struct or a number loaded from a place -/
theorem wpk_wp {P : Program} {ops : Array Oper} {Q : Exit → Act → World → Prop} {rest : List Oper} {o : Oper} {a : Act} {w : World} {N : Nat} {l : List (Nat × Value)} (h : Kn N l a) (hw : Region.wanted o (yielded ops a.tmps) = true) {d : Nat} (hd : o.dst = some d) (hdN : d < N) (hf : ∀ x ∈ l, x.1 ≠ d) (v : Value)
    (hr : ∀ K : Act → World → Prop, K (a.put o.dst v) w → o.wp P a w K Q) (k : ∀ a', Kn N ((d, v) :: l) a' → wpList P ops Q rest a' w) : wpList P ops Q (o :: rest) a w := by
  refine wpList_step fun K hK => ?_
  rw [if_pos hw]
  exact hr K (hK _ _ (by rw [hd]; exact k _ (h.put hdN hf v)))
/-- a field of two structs compared: what the five operations come to -/
structure Cmp (P : Program) (w : World) (T : TypeId) (f : Nat) (Tf : TypeId) (op : BinOp) (gp gq : Nat) (c : Bool) (off : Nat) (vp vq : Value) : Prop where
  addr : ∀ g, (Instr.fieldAt T (.pointer (some ⟨g, 0, none⟩)) f).run P w = .ok (.pointer (some ⟨g, off, none⟩)) w
  lp : (Instr.loadAt Tf (.pointer (some ⟨gp, off, none⟩))).run P w = .ok vp w
  lq : (Instr.loadAt Tf (.pointer (some ⟨gq, off, none⟩))).run P w = .ok vq w
  cmp : ∀ x y, (do eqGuard op Tf x y vp vq; binOp op Tf vp vq : Sem Value).run P w = .ok (.bool c) w
theorem run_v {P : Program} {s : Sem Value} {v : Value} {w w' : World} (h : s.run P w = .ok v w') : (do pure (Next.value (← s)) : Sem Next).run P w = .ok (.value v) w' := by
  rw [Sem.run_bind, h]; rfl
theorem run_pick {P : Program} {o : Oper} {x y z : Operand} {w : World} (ho : o.op = .pick x y z) {ρ : Operand → Value} {b : Bool} (hb : ρ x = .bool b) {v : Value} (hv : (if b = true then ρ y else ρ z) = v) : (execOp ρ o).run P w = .ok (.value v) w := by
  subst hv
  unfold execOp
  rw [ho]
  simp only [hb]
  cases b <;> rfl
abbrev L3 (prev : Nat) (b : Bool) (pb qb gp gq : Nat) : List (Nat × Value) := [(prev, .bool b), (pb, .pointer (some ⟨gp, 0, none⟩)), (qb, .pointer (some ⟨gq, 0, none⟩))]
/-- the pointers of two structs -/
abbrev L2 (pb qb gp gq : Nat) : List (Nat × Value) := [(pb, .pointer (some ⟨gp, 0, none⟩)), (qb, .pointer (some ⟨gq, 0, none⟩))]
theorem lt_of_mem {l : List (Nat × Value)} {d : Nat} (h : ∀ x ∈ l, x.1 < d) : ∀ x ∈ l, x.1 ≠ d := fun x hx e => by have := h x hx; omega
theorem lt_cons {l : List (Nat × Value)} {d : Nat} {v : Value} (h : ∀ x ∈ l, x.1 < d) : ∀ x ∈ (d, v) :: l, x.1 < d + 1 := fun x hx => by
  rcases List.mem_cons.1 hx with rfl | hx
  · exact Nat.lt_succ_self _
  · have := h x hx; omega
/-- the five operations, all carried out -/
theorem wpk_five {P : Program} {w : World} {T : TypeId} {f : Nat} {Tf : TypeId} {op : BinOp} {gp gq off : Nat} {vp vq : Value} {c : Bool} (C : Cmp P w T f Tf op gp gq c off vp vq) {ops : Array Oper} {Q : Exit → Act → World → Prop} {rest : List Oper} {a : Act} {N : Nat} {l : List (Nat × Value)} (h : Kn N l a) {d pb qb : Nat}
    (mp : (pb, .pointer (some ⟨gp, 0, none⟩)) ∈ l) (mq : (qb, .pointer (some ⟨gq, 0, none⟩)) ∈ l) (hl : ∀ x ∈ l, x.1 < d) (hN : d + 4 < N) {o1 o2 o3 o4 o5 : Oper} (yt : TypeId)
    (g : Option (Nat × Bool)) (hw : ∀ a' o, Kn N l a' → o.guard = g → Region.wanted o (yielded ops a'.tmps) = true) (g1 : o1.guard = g) (g2 : o2.guard = g) (g3 : o3.guard = g) (g4 : o4.guard = g) (g5 : o5.guard = g)
    (e1 : o1.dst = some d) (e2 : o2.dst = some (d + 1)) (e3 : o3.dst = some (d + 2)) (e4 : o4.dst = some (d + 3)) (e5 : o5.dst = some (d + 4))
    (p1 : o1.op = .fieldAddr T (.tmp pb) f) (p2 : o2.op = .load Tf (.tmp d)) (p3 : o3.op = .fieldAddr T (.tmp qb) f) (p4 : o4.op = .load Tf (.tmp (d + 2))) (p5 : o5.op = .binOp op Tf (.tmp (d + 1)) (.tmp (d + 3)) yt)
    (k : ∀ a', Kn N ((d + 4, .bool c) :: l) a' → wpList P ops Q rest a' w) : wpList P ops Q (o1 :: o2 :: o3 :: o4 :: o5 :: rest) a w := by
  refine wpk_val h (hw a o1 h g1) e1 (by omega) (lt_of_mem hl) (.pointer (some ⟨gp, off, none⟩)) (by unfold execOp; rw [p1]; simp only [h.eval mp]; exact run_v (C.addr gp)) fun a1 h1 => ?_
  have l1 := lt_cons (v := .pointer (some ⟨gp, off, none⟩)) hl
  refine wpk_val h1 (hw a1 o2 (h1.sub (fun x hx => List.mem_cons_of_mem _ hx)) g2) e2 (by omega) (lt_of_mem l1) vp (by unfold execOp; rw [p2]; simp only [h1.eval (List.mem_cons_self ..)]; exact run_v C.lp) fun a2 h2 => ?_
  have l2 := lt_cons (v := vp) l1
  refine wpk_val h2 (hw a2 o3 (h2.sub (fun x hx => List.mem_cons_of_mem _ (List.mem_cons_of_mem _ hx))) g3) e3 (by omega) (lt_of_mem l2) (.pointer (some ⟨gq, off, none⟩)) (by unfold execOp; rw [p3]; simp only [h2.eval (List.mem_cons_of_mem _ (List.mem_cons_of_mem _ mq))]; exact run_v (C.addr gq)) fun a3 h3 => ?_
  have l3 := lt_cons (v := .pointer (some ⟨gq, off, none⟩)) l2
  refine wpk_val h3 (hw a3 o4 (h3.sub (fun x hx => List.mem_cons_of_mem _ (List.mem_cons_of_mem _ (List.mem_cons_of_mem _ hx)))) g4) e4 (by omega) (lt_of_mem l3) vq (by unfold execOp; rw [p4]; simp only [h3.eval (List.mem_cons_self ..)]; exact run_v C.lq) fun a4 h4 => ?_
  have l4 := lt_cons (v := vq) l3
  refine wpk_val h4 (hw a4 o5 (h4.sub (fun x hx => List.mem_cons_of_mem _ (List.mem_cons_of_mem _ (List.mem_cons_of_mem _ (List.mem_cons_of_mem _ hx))))) g5) e5 (by omega) (lt_of_mem l4) (.bool c) (by
    unfold execOp; rw [p5]
    simp only [h4.eval (k := d + 3) (List.mem_cons_self ..), h4.eval (k := d + 1) (v := vp) (List.mem_cons_of_mem _ (List.mem_cons_of_mem _ (List.mem_cons_self ..)))]
    exact run_v (C.cmp _ _)) fun a5 h5 => ?_
  refine k a5 (h5.sub (fun x hx => ?_))
  rcases List.mem_cons.1 hx with rfl | hx
  · exact List.mem_cons_self ..
  · exact List.mem_cons_of_mem _ (List.mem_cons_of_mem _ (List.mem_cons_of_mem _ (List.mem_cons_of_mem _ (List.mem_cons_of_mem _ hx))))
/-- the five operations, none carried out -/
theorem wpk_none {P : Program} {w : World} {ops : Array Oper} {Q : Exit → Act → World → Prop} {rest : List Oper} {a : Act} {N : Nat} {l : List (Nat × Value)} (h : Kn N l a) {d : Nat} (hl : ∀ x ∈ l, x.1 < d) (hN : d + 4 < N) {o1 o2 o3 o4 o5 : Oper}
    (g : Option (Nat × Bool)) (hw : ∀ a' o, Kn N l a' → o.guard = g → Region.wanted o (yielded ops a'.tmps) = false) (g1 : o1.guard = g) (g2 : o2.guard = g) (g3 : o3.guard = g) (g4 : o4.guard = g) (g5 : o5.guard = g)
    (e1 : o1.dst = some d) (e2 : o2.dst = some (d + 1)) (e3 : o3.dst = some (d + 2)) (e4 : o4.dst = some (d + 3)) (e5 : o5.dst = some (d + 4))
    (k : ∀ a', Kn N ((d + 4, undef) :: l) a' → wpList P ops Q rest a' w) : wpList P ops Q (o1 :: o2 :: o3 :: o4 :: o5 :: rest) a w := by
  refine wpk_skip h (hw a o1 h g1) e1 (by omega) (lt_of_mem hl) fun a1 h1 => ?_
  have l1 := lt_cons (v := undef) hl
  refine wpk_skip h1 (hw a1 o2 (h1.sub (fun x hx => List.mem_cons_of_mem _ hx)) g2) e2 (by omega) (lt_of_mem l1) fun a2 h2 => ?_
  have l2 := lt_cons (v := undef) l1
  refine wpk_skip h2 (hw a2 o3 (h2.sub (fun x hx => List.mem_cons_of_mem _ (List.mem_cons_of_mem _ hx))) g3) e3 (by omega) (lt_of_mem l2) fun a3 h3 => ?_
  have l3 := lt_cons (v := undef) l2
  refine wpk_skip h3 (hw a3 o4 (h3.sub (fun x hx => List.mem_cons_of_mem _ (List.mem_cons_of_mem _ (List.mem_cons_of_mem _ hx)))) g4) e4 (by omega) (lt_of_mem l3) fun a4 h4 => ?_
  have l4 := lt_cons (v := undef) l3
  refine wpk_skip h4 (hw a4 o5 (h4.sub (fun x hx => List.mem_cons_of_mem _ (List.mem_cons_of_mem _ (List.mem_cons_of_mem _ (List.mem_cons_of_mem _ hx))))) g5) e5 (by omega) (lt_of_mem l4) fun a5 h5 => ?_
  refine k a5 (h5.sub (fun x hx => ?_))
  rcases List.mem_cons.1 hx with rfl | hx
  · exact List.mem_cons_self ..
  · exact List.mem_cons_of_mem _ (List.mem_cons_of_mem _ (List.mem_cons_of_mem _ (List.mem_cons_of_mem _ (List.mem_cons_of_mem _ hx))))
/-- all but some slots are forgotten -/
theorem wpk_enter {P : Program} {ops : Array Oper} {Q : Exit → Act → World → Prop} {rest : List Oper} {a : Act} {w : World} {N : Nat} {l : List (Nat × Value)} (h : Kn N l a) (k : ∀ a', Kn N l a' → wpList P ops Q rest a' w) : wpList P ops Q rest a w := k a h
/-- a look at the goal: six operations at least -/
theorem wpk_six {P : Program} {ops : Array Oper} {Q : Exit → Act → World → Prop} {o1 o2 o3 o4 o5 o6 : Oper} {rest : List Oper} {a : Act} {w : World} (h : wpList P ops Q (o1 :: o2 :: o3 :: o4 :: o5 :: o6 :: rest) a w) : wpList P ops Q (o1 :: o2 :: o3 :: o4 :: o5 :: o6 :: rest) a w := h
/-- the first link of a chain -/
theorem wpk_first {P : Program} {w : World} {T : TypeId} {f : Nat} {Tf : TypeId} {op : BinOp} {gp gq off : Nat} {vp vq : Value} {c : Bool} (C : Cmp P w T f Tf op gp gq c off vp vq) {ops : Array Oper} {Q : Exit → Act → World → Prop} {rest : List Oper} {a : Act} {N : Nat} {d pb qb : Nat} (h : Kn N (L2 pb qb gp gq) a)
    (hp : pb < d) (hq : qb < d) (hN : d + 5 < N) {o1 o2 o3 o4 o5 o6 : Oper} (yt : TypeId)
    (g1 : o1.guard = none) (g2 : o2.guard = none) (g3 : o3.guard = none) (g4 : o4.guard = none) (g5 : o5.guard = none) (g6 : o6.guard = none)
    (e1 : o1.dst = some d) (e2 : o2.dst = some (d + 1)) (e3 : o3.dst = some (d + 2)) (e4 : o4.dst = some (d + 3)) (e5 : o5.dst = some (d + 4)) (e6 : o6.dst = some (d + 5))
    (p1 : o1.op = .fieldAddr T (.tmp pb) f) (p2 : o2.op = .load Tf (.tmp d)) (p3 : o3.op = .fieldAddr T (.tmp qb) f) (p4 : o4.op = .load Tf (.tmp (d + 2))) (p5 : o5.op = .binOp op Tf (.tmp (d + 1)) (.tmp (d + 3)) yt) (p6 : o6.op = .move (.tmp (d + 4)))
    (k : ∀ a', Kn N (L3 (d + 5) c pb qb gp gq) a' → wpList P ops Q rest a' w) : wpList P ops Q (o1 :: o2 :: o3 :: o4 :: o5 :: o6 :: rest) a w := by
  have hl : ∀ x ∈ L2 pb qb gp gq, x.1 < d := by
    intro x hx
    simp only [List.mem_cons, List.not_mem_nil, or_false] at hx
    rcases hx with rfl | rfl <;> assumption
  refine wpk_five C h (List.mem_cons_self ..) (List.mem_cons_of_mem _ (List.mem_cons_self ..)) hl (by omega) yt none (fun a' o _ hg => wanted_none hg) g1 g2 g3 g4 g5 e1 e2 e3 e4 e5 p1 p2 p3 p4 p5 fun a1 h1 => ?_
  refine wpk_val h1 (wanted_none g6) e6 hN (lt_of_mem ?_) (.bool c) (by unfold execOp; rw [p6]; simp only [h1.eval (List.mem_cons_self ..)]; rfl) fun a2 h2 => ?_
  · intro x hx
    rcases List.mem_cons.1 hx with rfl | hx
    · exact Nat.lt_succ_self _
    · have := hl x hx; omega
  · exact k a2 (h2.sub (fun x hx => by
      rcases List.mem_cons.1 hx with rfl | hx
      · exact List.mem_cons_self ..
      · exact List.mem_cons_of_mem _ (List.mem_cons_of_mem _ hx)))
/-- a link of a chain of 'and' (want = true) or 'or' -/
theorem wpk_link {P : Program} {w : World} {T : TypeId} {f : Nat} {Tf : TypeId} {op : BinOp} {gp gq off : Nat} {vp vq : Value} {c : Bool} (C : Cmp P w T f Tf op gp gq c off vp vq) {ops : Array Oper} {Q : Exit → Act → World → Prop} {rest : List Oper} {a : Act} {N : Nat} {d pb qb prev g : Nat} {b : Bool} (want : Bool) (h : Kn N (L3 prev b pb qb gp gq) a)
    (hg : (ops[g]?).bind (·.dst) = some prev) (hb : prev < d) (hp : pb < d) (hq : qb < d) (hN : d + 6 < N) {o1 o2 o3 o4 o5 o6 o7 : Oper} (yt : TypeId)
    (g1 : o1.guard = some (g, want)) (g2 : o2.guard = some (g, want)) (g3 : o3.guard = some (g, want)) (g4 : o4.guard = some (g, want)) (g5 : o5.guard = some (g, want)) (g6 : o6.guard = none) (g7 : o7.guard = none)
    (e1 : o1.dst = some d) (e2 : o2.dst = some (d + 1)) (e3 : o3.dst = some (d + 2)) (e4 : o4.dst = some (d + 3)) (e5 : o5.dst = some (d + 4)) (e6 : o6.dst = some (d + 5)) (e7 : o7.dst = some (d + 6))
    (p1 : o1.op = .fieldAddr T (.tmp pb) f) (p2 : o2.op = .load Tf (.tmp d)) (p3 : o3.op = .fieldAddr T (.tmp qb) f) (p4 : o4.op = .load Tf (.tmp (d + 2))) (p5 : o5.op = .binOp op Tf (.tmp (d + 1)) (.tmp (d + 3)) yt)
    (p6 : o6.op = .pick (.tmp prev) (if want then .tmp (d + 4) else .const (.bool true)) (if want then .const (.bool false) else .tmp (d + 4))) (p7 : o7.op = .move (.tmp (d + 5)))
    (k : ∀ a', Kn N (L3 (d + 6) (if want then b && c else b || c) pb qb gp gq) a' → wpList P ops Q rest a' w) : wpList P ops Q (o1 :: o2 :: o3 :: o4 :: o5 :: o6 :: o7 :: rest) a w := by
  have hl : ∀ x ∈ L3 prev b pb qb gp gq, x.1 < d := by
    intro x hx
    simp only [List.mem_cons, List.not_mem_nil, or_false] at hx
    rcases hx with rfl | rfl | rfl <;> assumption
  have fin : ∀ (u : Value) (a1 : Act), Kn N ((d + 4, u) :: L3 prev b pb qb gp gq) a1 → (b = want → u = .bool c) → wpList P ops Q (o6 :: o7 :: rest) a1 w := by
    intro u a1 h1 hu
    have e0 : a1.eval (.tmp (d + 4)) = u := h1.eval (List.mem_cons_self ..)
    have eb : a1.eval (.tmp prev) = .bool b := h1.eval (List.mem_cons_of_mem _ (List.mem_cons_self ..))
    have l1 : ∀ x ∈ (d + 4, u) :: L3 prev b pb qb gp gq, x.1 < d + 5 := by
      intro x hx
      rcases List.mem_cons.1 hx with rfl | hx
      · exact Nat.lt_succ_self _
      · have := hl x hx; omega
    refine wpk_val h1 (wanted_none g6) e6 (by omega) (lt_of_mem l1) (.bool (if want then b && c else b || c)) (run_pick p6 eb ?_) fun a2 h2 => ?_
    · cases want <;> cases b
      · simp [Act.eval] at *; rw [← hu]; exact e0
      · rfl
      · rfl
      · simp [Act.eval] at *; rw [← hu]; exact e0
    · refine wpk_val h2 (wanted_none g7) e7 hN (lt_of_mem (lt_cons l1)) (.bool (if want then b && c else b || c)) (by unfold execOp; rw [p7]; simp only [h2.eval (List.mem_cons_self ..)]; rfl) fun a3 h3 => ?_
      exact k a3 (h3.sub (fun x hx => by
        rcases List.mem_cons.1 hx with rfl | hx
        · exact List.mem_cons_self ..
        · exact List.mem_cons_of_mem _ (List.mem_cons_of_mem _ (List.mem_cons_of_mem _ (List.mem_cons_of_mem _ hx)))))
  have hw : ∀ a' o, Kn N (L3 prev b pb qb gp gq) a' → o.guard = some (g, want) → Region.wanted o (yielded ops a'.tmps) = (b == want) := fun a' o h' ho => wanted_of ho (h'.yields hg (List.mem_cons_self ..))
  by_cases hbw : b = want
  · exact wpk_five C h (List.mem_cons_of_mem _ (List.mem_cons_self ..)) (List.mem_cons_of_mem _ (List.mem_cons_of_mem _ (List.mem_cons_self ..))) hl (by omega) yt (some (g, want)) (fun a' o h' ho => by rw [hw a' o h' ho, hbw]; simp) g1 g2 g3 g4 g5 e1 e2 e3 e4 e5 p1 p2 p3 p4 p5 fun a1 h1 => fin _ a1 h1 (fun _ => rfl)
  · exact wpk_none h hl (by omega) (some (g, want)) (fun a' o h' ho => by rw [hw a' o h' ho]; simpa using hbw) g1 g2 g3 g4 g5 e1 e2 e3 e4 e5 fun a1 h1 => fin _ a1 h1 (fun q => absurd q hbw)
/-- what picks behind a link of a chain -/
theorem wpk_pick {P : Program} {w : World} {c : Bool} {ops : Array Oper} {Q : Exit → Act → World → Prop} {rest : List Oper} {a : Act} {N : Nat} {m prev pb qb gp gq : Nat} {b : Bool} (want : Bool) {u : Value} (h : Kn N ((m, u) :: L3 prev b pb qb gp gq) a) (hu : b = want → u = .bool c)
    (hb : prev < m) (hp : pb < m) (hq : qb < m) (hN : m + 1 < N) {o6 : Oper} (g6 : o6.guard = none) (e6 : o6.dst = some (m + 1))
    (p6 : o6.op = .pick (.tmp prev) (if want then .tmp m else .const (.bool true)) (if want then .const (.bool false) else .tmp m))
    (k : ∀ a', Kn N (L3 (m + 1) (if want then b && c else b || c) pb qb gp gq) a' → wpList P ops Q rest a' w) : wpList P ops Q (o6 :: rest) a w := by
  have e0 : a.eval (.tmp m) = u := h.eval (List.mem_cons_self ..)
  have eb : a.eval (.tmp prev) = .bool b := h.eval (List.mem_cons_of_mem _ (List.mem_cons_self ..))
  have l1 : ∀ x ∈ (m, u) :: L3 prev b pb qb gp gq, x.1 < m + 1 := by
    intro x hx
    simp only [List.mem_cons, List.not_mem_nil, or_false] at hx
    rcases hx with rfl | rfl | rfl | rfl <;> simp <;> omega
  refine wpk_val h (wanted_none g6) e6 hN (lt_of_mem l1) (.bool (if want then b && c else b || c)) (run_pick p6 eb ?_) fun a2 h2 => ?_
  · cases want <;> cases b
    · simp [Act.eval] at *; rw [← hu]; exact e0
    · rfl
    · rfl
    · simp [Act.eval] at *; rw [← hu]; exact e0
  · exact k a2 (h2.sub (fun x hx => by
      rcases List.mem_cons.1 hx with rfl | hx
      · exact List.mem_cons_self ..
      · exact List.mem_cons_of_mem _ (List.mem_cons_of_mem _ (List.mem_cons_of_mem _ hx))))
/-- a value moved on -/
theorem wpk_move {P : Program} {w : World} {ops : Array Oper} {Q : Exit → Act → World → Prop} {rest : List Oper} {a : Act} {N : Nat} {m prev pb qb gp gq : Nat} {b : Bool} (h : Kn N (L3 prev b pb qb gp gq) a) (hb : prev < m) (hp : pb < m) (hq : qb < m) (hN : m < N) {o : Oper} (g : o.guard = none) (e : o.dst = some m) (p : o.op = .move (.tmp prev))
    (k : ∀ a', Kn N (L3 m b pb qb gp gq) a' → wpList P ops Q rest a' w) : wpList P ops Q (o :: rest) a w := by
  have l1 : ∀ x ∈ L3 prev b pb qb gp gq, x.1 < m := by
    intro x hx
    simp only [List.mem_cons, List.not_mem_nil, or_false] at hx
    rcases hx with rfl | rfl | rfl <;> assumption
  refine wpk_val h (wanted_none g) e hN (lt_of_mem l1) (.bool b) (by unfold execOp; rw [p]; simp only [h.eval (k := prev) (List.mem_cons_self ..)]; rfl) fun a2 h2 => ?_
  exact k a2 (h2.sub (fun x hx => by
    rcases List.mem_cons.1 hx with rfl | hx
    · exact List.mem_cons_self ..
    · exact List.mem_cons_of_mem _ (List.mem_cons_of_mem _ hx)))
/-- a link, its pick the last -/
theorem wpk_link6 {P : Program} {w : World} {T : TypeId} {f : Nat} {Tf : TypeId} {op : BinOp} {gp gq off : Nat} {vp vq : Value} {c : Bool} (C : Cmp P w T f Tf op gp gq c off vp vq) {ops : Array Oper} {Q : Exit → Act → World → Prop} {rest : List Oper} {a : Act} {N : Nat} {d pb qb prev g : Nat} {b : Bool} (want : Bool) (h : Kn N (L3 prev b pb qb gp gq) a)
    (hg : (ops[g]?).bind (·.dst) = some prev) (hb : prev < d) (hp : pb < d) (hq : qb < d) (hN : d + 5 < N) {o1 o2 o3 o4 o5 o6 : Oper} (yt : TypeId)
    (g1 : o1.guard = some (g, want)) (g2 : o2.guard = some (g, want)) (g3 : o3.guard = some (g, want)) (g4 : o4.guard = some (g, want)) (g5 : o5.guard = some (g, want)) (g6 : o6.guard = none)
    (e1 : o1.dst = some d) (e2 : o2.dst = some (d + 1)) (e3 : o3.dst = some (d + 2)) (e4 : o4.dst = some (d + 3)) (e5 : o5.dst = some (d + 4)) (e6 : o6.dst = some (d + 5))
    (p1 : o1.op = .fieldAddr T (.tmp pb) f) (p2 : o2.op = .load Tf (.tmp d)) (p3 : o3.op = .fieldAddr T (.tmp qb) f) (p4 : o4.op = .load Tf (.tmp (d + 2))) (p5 : o5.op = .binOp op Tf (.tmp (d + 1)) (.tmp (d + 3)) yt)
    (p6 : o6.op = .pick (.tmp prev) (if want then .tmp (d + 4) else .const (.bool true)) (if want then .const (.bool false) else .tmp (d + 4)))
    (k : ∀ a', Kn N (L3 (d + 5) (if want then b && c else b || c) pb qb gp gq) a' → wpList P ops Q rest a' w) : wpList P ops Q (o1 :: o2 :: o3 :: o4 :: o5 :: o6 :: rest) a w := by
  have hl : ∀ x ∈ L3 prev b pb qb gp gq, x.1 < d := by
    intro x hx
    simp only [List.mem_cons, List.not_mem_nil, or_false] at hx
    rcases hx with rfl | rfl | rfl <;> assumption
  have hw : ∀ a' o, Kn N (L3 prev b pb qb gp gq) a' → o.guard = some (g, want) → Region.wanted o (yielded ops a'.tmps) = (b == want) := fun a' o h' ho => wanted_of ho (h'.yields hg (List.mem_cons_self ..))
  by_cases hbw : b = want
  · exact wpk_five C h (List.mem_cons_of_mem _ (List.mem_cons_self ..)) (List.mem_cons_of_mem _ (List.mem_cons_of_mem _ (List.mem_cons_self ..))) hl (by omega) yt (some (g, want)) (fun a' o h' ho => by rw [hw a' o h' ho, hbw]; simp) g1 g2 g3 g4 g5 e1 e2 e3 e4 e5 p1 p2 p3 p4 p5 fun a1 h1 => wpk_pick want h1 (fun _ => rfl) (by omega) (by omega) (by omega) hN g6 e6 p6 k
  · exact wpk_none h hl (by omega) (some (g, want)) (fun a' o h' ho => by rw [hw a' o h' ho]; simpa using hbw) g1 g2 g3 g4 g5 e1 e2 e3 e4 e5 fun a1 h1 => wpk_pick want h1 (fun q => absurd q hbw) (by omega) (by omega) (by omega) hN g6 e6 p6 k
/-- a link at a field of a field, its pick the last -/
theorem wpk_deep {P : Program} {w : World} {T : TypeId} {f : Nat} {T2 : TypeId} {f2 : Nat} {Tf : TypeId} {op : BinOp} {gp gq off1 off : Nat} {vp vq : Value} {c : Bool} (A1 : ∀ g, (Instr.fieldAt T (.pointer (some ⟨g, 0, none⟩)) f).run P w = .ok (.pointer (some ⟨g, off1, none⟩)) w) (A2 : ∀ g, (Instr.fieldAt T2 (.pointer (some ⟨g, off1, none⟩)) f2).run P w = .ok (.pointer (some ⟨g, off, none⟩)) w)
    (lp : (Instr.loadAt Tf (.pointer (some ⟨gp, off, none⟩))).run P w = .ok vp w) (lq : (Instr.loadAt Tf (.pointer (some ⟨gq, off, none⟩))).run P w = .ok vq w) (cmp : ∀ x y, (do eqGuard op Tf x y vp vq; binOp op Tf vp vq : Sem Value).run P w = .ok (.bool c) w)
    {ops : Array Oper} {Q : Exit → Act → World → Prop} {rest : List Oper} {a : Act} {N : Nat} {d pb qb prev g : Nat} {b : Bool} (want : Bool) (h : Kn N (L3 prev b pb qb gp gq) a)
    (hg : (ops[g]?).bind (·.dst) = some prev) (hb : prev < d) (hp : pb < d) (hq : qb < d) (hN : d + 7 < N) {o1 o2 o3 o4 o5 o6 o7 o8 : Oper} (yt : TypeId)
    (g1 : o1.guard = some (g, want)) (g2 : o2.guard = some (g, want)) (g3 : o3.guard = some (g, want)) (g4 : o4.guard = some (g, want)) (g5 : o5.guard = some (g, want)) (g6 : o6.guard = some (g, want)) (g7 : o7.guard = some (g, want)) (g8 : o8.guard = none)
    (e1 : o1.dst = some d) (e2 : o2.dst = some (d + 1)) (e3 : o3.dst = some (d + 2)) (e4 : o4.dst = some (d + 3)) (e5 : o5.dst = some (d + 4)) (e6 : o6.dst = some (d + 5)) (e7 : o7.dst = some (d + 6)) (e8 : o8.dst = some (d + 7))
    (p1 : o1.op = .fieldAddr T (.tmp pb) f) (p2 : o2.op = .fieldAddr T2 (.tmp d) f2) (p3 : o3.op = .load Tf (.tmp (d + 1))) (p4 : o4.op = .fieldAddr T (.tmp qb) f) (p5 : o5.op = .fieldAddr T2 (.tmp (d + 3)) f2) (p6 : o6.op = .load Tf (.tmp (d + 4))) (p7 : o7.op = .binOp op Tf (.tmp (d + 2)) (.tmp (d + 5)) yt)
    (p8 : o8.op = .pick (.tmp prev) (if want then .tmp (d + 6) else .const (.bool true)) (if want then .const (.bool false) else .tmp (d + 6)))
    (k : ∀ a', Kn N (L3 (d + 7) (if want then b && c else b || c) pb qb gp gq) a' → wpList P ops Q rest a' w) : wpList P ops Q (o1 :: o2 :: o3 :: o4 :: o5 :: o6 :: o7 :: o8 :: rest) a w := by
  have hl : ∀ x ∈ L3 prev b pb qb gp gq, x.1 < d := by
    intro x hx
    simp only [List.mem_cons, List.not_mem_nil, or_false] at hx
    rcases hx with rfl | rfl | rfl <;> assumption
  have hw : ∀ a' o, Kn N (L3 prev b pb qb gp gq) a' → o.guard = some (g, want) → Region.wanted o (yielded ops a'.tmps) = (b == want) := fun a' o h' ho => wanted_of ho (h'.yields hg (List.mem_cons_self ..))
  have sub1 : ∀ (l : List (Nat × Value)) (x : Nat × Value), (∀ y ∈ L3 prev b pb qb gp gq, y ∈ l) → ∀ y ∈ L3 prev b pb qb gp gq, y ∈ x :: l := fun l x hs y hy => List.mem_cons_of_mem _ (hs y hy)
  by_cases hbw : b = want
  · have hw1 : ∀ a' o, Kn N (L3 prev b pb qb gp gq) a' → o.guard = some (g, want) → Region.wanted o (yielded ops a'.tmps) = true := fun a' o h' ho => by rw [hw a' o h' ho, hbw]; simp
    have s0 : ∀ y ∈ L3 prev b pb qb gp gq, y ∈ L3 prev b pb qb gp gq := fun y hy => hy
    refine wpk_val h (hw1 a o1 h g1) e1 (by omega) (lt_of_mem hl) (.pointer (some ⟨gp, off1, none⟩)) (by unfold execOp; rw [p1]; simp only [h.eval (k := pb) (List.mem_cons_of_mem _ (List.mem_cons_self ..))]; exact run_v (A1 gp)) fun a1 h1 => ?_
    have l1 := lt_cons (v := .pointer (some ⟨gp, off1, none⟩)) hl
    have s1 := sub1 _ (d, .pointer (some ⟨gp, off1, none⟩)) s0
    refine wpk_val h1 (hw1 a1 o2 (h1.sub s1) g2) e2 (by omega) (lt_of_mem l1) (.pointer (some ⟨gp, off, none⟩)) (by unfold execOp; rw [p2]; simp only [h1.eval (k := d) (List.mem_cons_self ..)]; exact run_v (A2 gp)) fun a2 h2 => ?_
    have l2 := lt_cons (v := .pointer (some ⟨gp, off, none⟩)) l1
    have s2 := sub1 _ (d + 1, .pointer (some ⟨gp, off, none⟩)) s1
    refine wpk_val h2 (hw1 a2 o3 (h2.sub s2) g3) e3 (by omega) (lt_of_mem l2) vp (by unfold execOp; rw [p3]; simp only [h2.eval (k := d + 1) (List.mem_cons_self ..)]; exact run_v lp) fun a3 h3 => ?_
    have l3 := lt_cons (v := vp) l2
    have s3 := sub1 _ (d + 2, vp) s2
    refine wpk_val h3 (hw1 a3 o4 (h3.sub s3) g4) e4 (by omega) (lt_of_mem l3) (.pointer (some ⟨gq, off1, none⟩)) (by unfold execOp; rw [p4]; simp only [(h3.sub s3).eval (k := qb) (List.mem_cons_of_mem _ (List.mem_cons_of_mem _ (List.mem_cons_self ..)))]; exact run_v (A1 gq)) fun a4 h4 => ?_
    have l4 := lt_cons (v := .pointer (some ⟨gq, off1, none⟩)) l3
    have s4 := sub1 _ (d + 3, .pointer (some ⟨gq, off1, none⟩)) s3
    refine wpk_val h4 (hw1 a4 o5 (h4.sub s4) g5) e5 (by omega) (lt_of_mem l4) (.pointer (some ⟨gq, off, none⟩)) (by unfold execOp; rw [p5]; simp only [h4.eval (k := d + 3) (List.mem_cons_self ..)]; exact run_v (A2 gq)) fun a5 h5 => ?_
    have l5 := lt_cons (v := .pointer (some ⟨gq, off, none⟩)) l4
    have s5 := sub1 _ (d + 4, .pointer (some ⟨gq, off, none⟩)) s4
    refine wpk_val h5 (hw1 a5 o6 (h5.sub s5) g6) e6 (by omega) (lt_of_mem l5) vq (by unfold execOp; rw [p6]; simp only [h5.eval (k := d + 4) (List.mem_cons_self ..)]; exact run_v lq) fun a6 h6 => ?_
    have l6 := lt_cons (v := vq) l5
    have s6 := sub1 _ (d + 5, vq) s5
    refine wpk_val h6 (hw1 a6 o7 (h6.sub s6) g7) e7 (by omega) (lt_of_mem l6) (.bool c) (by
      unfold execOp; rw [p7]
      simp only [h6.eval (k := d + 5) (List.mem_cons_self ..), h6.eval (k := d + 2) (v := vp) (List.mem_cons_of_mem _ (List.mem_cons_of_mem _ (List.mem_cons_of_mem _ (List.mem_cons_self ..))))]
      exact run_v (cmp _ _)) fun a7 h7 => ?_
    exact wpk_pick want (h7.sub (fun x hx => by
      rcases List.mem_cons.1 hx with rfl | hx
      · exact List.mem_cons_self ..
      · exact sub1 _ _ s6 x hx)) (fun _ => rfl) (by omega) (by omega) (by omega) hN g8 e8 p8 k
  · have hw1 : ∀ a' o, Kn N (L3 prev b pb qb gp gq) a' → o.guard = some (g, want) → Region.wanted o (yielded ops a'.tmps) = false := fun a' o h' ho => by rw [hw a' o h' ho]; simpa using hbw
    refine wpk_none h hl (by omega) (some (g, want)) hw1 g1 g2 g3 g4 g5 e1 e2 e3 e4 e5 fun a1 h1 => ?_
    have l1 : ∀ x ∈ (d + 4, undef) :: L3 prev b pb qb gp gq, x.1 < d + 5 := by
      intro x hx
      rcases List.mem_cons.1 hx with rfl | hx
      · exact Nat.lt_succ_self _
      · have := hl x hx; omega
    refine wpk_skip h1 (hw1 a1 o6 (h1.sub (fun x hx => List.mem_cons_of_mem _ hx)) g6) e6 (by omega) (lt_of_mem l1) fun a2 h2 => ?_
    refine wpk_skip h2 (hw1 a2 o7 (h2.sub (fun x hx => List.mem_cons_of_mem _ (List.mem_cons_of_mem _ hx))) g7) e7 (by omega) (lt_of_mem (lt_cons l1)) fun a3 h3 => ?_
    exact wpk_pick want (h3.sub (fun x hx => by
      rcases List.mem_cons.1 hx with rfl | hx
      · exact List.mem_cons_self ..
      · exact List.mem_cons_of_mem _ (List.mem_cons_of_mem _ (List.mem_cons_of_mem _ hx)))) (fun q => absurd q hbw) (by omega) (by omega) (by omega) hN g8 e8 p8 k
/-- a call of a function of its own contract -/
theorem wpk_call {P : Program} {ops : Array Oper} {Q : Exit → Act → World → Prop} {rest : List Oper} {o : Oper} {a : Act} {w : World} {N : Nat} {l : List (Nat × Value)} (h : Kn N l a) (hw : Region.wanted o (yielded ops a.tmps) = true) {d : Nat} (hd : o.dst = some d) (hdN : d < N) (hf : ∀ x ∈ l, x.1 ≠ d)
    {fn : FuncId} (hcf : ∀ args, (callFunc fn args).run P w = .ok (.enter fn args) w) {xs : Array Operand} {ts : Array TypeId} (p : o.op = .call { callee := .value (.func fn), args := xs, argTypes := ts }) (vs : Array Value) (hx : xs.map a.eval = vs)
    {R : Value → World → Prop} (HC : Calls P fn vs w fun e w' => ∃ v, e = .returned v ∧ R v w') (k : ∀ a' v w', R v w' → Kn N ((d, v) :: l) a' → wpList P ops Q rest a' w') : wpList P ops Q (o :: rest) a w := by
  refine wpList_step fun K hK => ?_
  rw [if_pos hw]
  have hrun : (execOp a.eval o).run P w = .ok (.enter fn vs) w := by
    unfold execOp; rw [p]
    simp [resolve, invoke, Deferred.ofValue, hx, hcf]
    simp [Act.eval, hcf]
  unfold Oper.wp
  rw [hrun, Oper.upon_enter]
  refine HC.mono ?_
  rintro e w' ⟨v, rfl, hv⟩
  simp only
  refine hK _ _ ?_
  rw [hd]
  exact k _ v w' hv (h.put hdN hf v)
/-- in a region that draws its order: an operation that yields under S -/
theorem wpk_take {P : Program} {ops : Array Oper} {Q : Exit → Act → World → Prop} {md : Region.Mode} {S : World → Prop} {oi : Oper} {fuel : Nat} {listed : Array Bool} {a : Act} {w : World} {N : Nat} {l : List (Nat × Value)} (hS : S w) (h : Kn N l a) (i : Nat) (hi : ops[i]? = some oi) {d : Nat} (hd : oi.dst = some d) (hdN : d < N) (hf : ∀ x ∈ l, x.1 ≠ d)
    (hs : Region.noSelect ops = true) (hfr : Region.free md ops listed i = true) (hr : (Region.ready md ops listed).contains i = true) (hQ : ∀ c a w v, Q (.panic c) (a.put oi.dst v) w → Q (.panic c) a w) (v : Value) (hy : YieldsIf P ops S oi v a)
    (k : ∀ a', Kn N ((d, v) :: l) a' → wpAnyH P md ops Q S fuel (listed.setIfInBounds i true) a' w) : wpAnyH P md ops Q S (fuel + 1) listed a w :=
  takeR hi hd hs hfr hr (fun c a w => hQ c a w v) hy hS (k _ (h.put hdN hf v))
theorem results_tmp2 {P : Program} {fn : Func} {c d : Nat} (h : fn.results = #[.tmp c, .tmp d]) {tmps : Array Value} {w : World} {v u : Value} (hc : tmps[c]? = some v) (hd : tmps[d]? = some u) : (results fn tmps).run P w = .ok (.tuple #[v, u]) w := by
  simp [results, h, hc, hd]
theorem results_tmp1 {P : Program} {fn : Func} {c : Nat} (h : fn.results = #[.tmp c]) {tmps : Array Value} {w : World} {v : Value} (hc : tmps[c]? = some v) : (results fn tmps).run P w = .ok v w := by
  simp [results, h, hc]
/-- the last link of a chain of 'and': a call with both loaded parts; then what picks -/
theorem wpk_lastcall {P : Program} {w : World} {T : TypeId} {f : Nat} {Tf : TypeId} {gp gq off : Nat} {vp vq : Value} {c : Bool} (addr : ∀ g, (Instr.fieldAt T (.pointer (some ⟨g, 0, none⟩)) f).run P w = .ok (.pointer (some ⟨g, off, none⟩)) w) (lp : (Instr.loadAt Tf (.pointer (some ⟨gp, off, none⟩))).run P w = .ok vp w) (lq : (Instr.loadAt Tf (.pointer (some ⟨gq, off, none⟩))).run P w = .ok vq w)
    {fn : FuncId} (hcf : ∀ args, (callFunc fn args).run P w = .ok (.enter fn args) w) {S : World → Prop} (hS : S w) (HC : Calls P fn #[vp, vq] w fun e w' => e = .returned (.bool c) ∧ S w') {ops : Array Oper} {Q : Exit → Act → World → Prop} {rest : List Oper} {a : Act} {N : Nat} {d pb qb prev g : Nat} {b : Bool} (h : Kn N (L3 prev b pb qb gp gq) a)
    (hg : (ops[g]?).bind (·.dst) = some prev) (hb : prev < d) (hp : pb < d) (hq : qb < d) (hN : d + 5 < N) {o1 o2 o3 o4 o5 o6 : Oper} (ts : Array TypeId)
    (g1 : o1.guard = some (g, true)) (g2 : o2.guard = some (g, true)) (g3 : o3.guard = some (g, true)) (g4 : o4.guard = some (g, true)) (g5 : o5.guard = some (g, true)) (g6 : o6.guard = none)
    (e1 : o1.dst = some d) (e2 : o2.dst = some (d + 1)) (e3 : o3.dst = some (d + 2)) (e4 : o4.dst = some (d + 3)) (e5 : o5.dst = some (d + 4)) (e6 : o6.dst = some (d + 5))
    (p1 : o1.op = .fieldAddr T (.tmp pb) f) (p2 : o2.op = .load Tf (.tmp d)) (p3 : o3.op = .fieldAddr T (.tmp qb) f) (p4 : o4.op = .load Tf (.tmp (d + 2))) (p5 : o5.op = .call { callee := .value (.func fn), args := #[.tmp (d + 1), .tmp (d + 3)], argTypes := ts })
    (p6 : o6.op = .pick (.tmp prev) (.tmp (d + 4)) (.const (.bool false)))
    (k : ∀ a' w', S w' → Kn N [(d + 5, .bool (b && c))] a' → wpList P ops Q rest a' w') : wpList P ops Q (o1 :: o2 :: o3 :: o4 :: o5 :: o6 :: rest) a w := by
  have hl : ∀ x ∈ L3 prev b pb qb gp gq, x.1 < d := by
    intro x hx
    simp only [List.mem_cons, List.not_mem_nil, or_false] at hx
    rcases hx with rfl | rfl | rfl <;> assumption
  have fin : ∀ (u : Value) (a1 : Act) (w' : World), S w' → Kn N ((d + 4, u) :: L3 prev b pb qb gp gq) a1 → (b = true → u = .bool c) → wpList P ops Q (o6 :: rest) a1 w' := by
    intro u a1 w' hw' h1 hu
    have e0 : a1.eval (.tmp (d + 4)) = u := h1.eval (List.mem_cons_self ..)
    have eb : a1.eval (.tmp prev) = .bool b := h1.eval (List.mem_cons_of_mem _ (List.mem_cons_self ..))
    have l1 : ∀ x ∈ (d + 4, u) :: L3 prev b pb qb gp gq, x.1 < d + 5 := by
      intro x hx
      rcases List.mem_cons.1 hx with rfl | hx
      · exact Nat.lt_succ_self _
      · have := hl x hx; omega
    refine wpk_val h1 (wanted_none g6) e6 hN (lt_of_mem l1) (.bool (b && c)) (run_pick p6 eb ?_) fun a2 h2 => ?_
    · cases b
      · rfl
      · rw [if_pos rfl, e0]; exact hu rfl
    · exact k a2 w' hw' (h2.sub (fun x hx => by
        rcases List.mem_cons.1 hx with rfl | hx
        · exact List.mem_cons_self ..
        · cases hx))
  have hw : ∀ a' o, Kn N (L3 prev b pb qb gp gq) a' → o.guard = some (g, true) → Region.wanted o (yielded ops a'.tmps) = (b == true) := fun a' o h' ho => wanted_of ho (h'.yields hg (List.mem_cons_self ..))
  cases hb' : b with
  | true =>
    have hw1 : ∀ a' o, Kn N (L3 prev b pb qb gp gq) a' → o.guard = some (g, true) → Region.wanted o (yielded ops a'.tmps) = true := fun a' o h' ho => by rw [hw a' o h' ho, hb']; rfl
    refine wpk_val h (hw1 a o1 h g1) e1 (by omega) (lt_of_mem hl) (.pointer (some ⟨gp, off, none⟩)) (by unfold execOp; rw [p1]; simp only [h.eval (k := pb) (List.mem_cons_of_mem _ (List.mem_cons_self ..))]; exact run_v (addr gp)) fun a1 h1 => ?_
    have l1 := lt_cons (v := .pointer (some ⟨gp, off, none⟩)) hl
    refine wpk_val h1 (hw1 a1 o2 (h1.sub (fun x hx => List.mem_cons_of_mem _ hx)) g2) e2 (by omega) (lt_of_mem l1) vp (by unfold execOp; rw [p2]; simp only [h1.eval (List.mem_cons_self ..)]; exact run_v lp) fun a2 h2 => ?_
    have l2 := lt_cons (v := vp) l1
    refine wpk_val h2 (hw1 a2 o3 (h2.sub (fun x hx => List.mem_cons_of_mem _ (List.mem_cons_of_mem _ hx))) g3) e3 (by omega) (lt_of_mem l2) (.pointer (some ⟨gq, off, none⟩)) (by unfold execOp; rw [p3]; simp only [h2.eval (k := qb) (List.mem_cons_of_mem _ (List.mem_cons_of_mem _ (List.mem_cons_of_mem _ (List.mem_cons_of_mem _ (List.mem_cons_self ..)))))]; exact run_v (addr gq)) fun a3 h3 => ?_
    have l3 := lt_cons (v := .pointer (some ⟨gq, off, none⟩)) l2
    refine wpk_val h3 (hw1 a3 o4 (h3.sub (fun x hx => List.mem_cons_of_mem _ (List.mem_cons_of_mem _ (List.mem_cons_of_mem _ hx)))) g4) e4 (by omega) (lt_of_mem l3) vq (by unfold execOp; rw [p4]; simp only [h3.eval (List.mem_cons_self ..)]; exact run_v lq) fun a4 h4 => ?_
    have l4 := lt_cons (v := vq) l3
    refine wpList_step fun K hK => ?_
    rw [if_pos (hw1 a4 o5 (h4.sub (fun x hx => List.mem_cons_of_mem _ (List.mem_cons_of_mem _ (List.mem_cons_of_mem _ (List.mem_cons_of_mem _ hx))))) g5)]
    have hrun : (execOp a4.eval o5).run P w = .ok (.enter fn #[vp, vq]) w := by
      unfold execOp; rw [p5]
      have f3 : a4.tmps[d + 3]? = some vq := h4.known (d + 3, vq) (List.mem_cons_self ..)
      have f1 : a4.tmps[d + 1]? = some vp := h4.known (d + 1, vp) (List.mem_cons_of_mem _ (List.mem_cons_of_mem _ (List.mem_cons_self ..)))
      simp [resolve, invoke, Deferred.ofValue, Act.eval, f1, f3, hcf]
    unfold Oper.wp
    rw [hrun, Oper.upon_enter]
    refine HC.mono ?_
    rintro e w' ⟨rfl, hw'⟩
    simp only
    refine hK _ _ (fin (.bool c) _ w' hw' ?_ (fun _ => rfl))
    rw [e5]
    refine (h4.put (by omega) (lt_of_mem l4) (.bool c)).sub (fun x hx => ?_)
    rcases List.mem_cons.1 hx with rfl | hx
    · exact List.mem_cons_self ..
    · exact List.mem_cons_of_mem _ (List.mem_cons_of_mem _ (List.mem_cons_of_mem _ (List.mem_cons_of_mem _ (List.mem_cons_of_mem _ hx))))
  | false =>
    refine wpk_none h hl (by omega) (some (g, true)) (fun a' o h' ho => by rw [hw a' o h' ho, hb']; rfl) g1 g2 g3 g4 g5 e1 e2 e3 e4 e5 fun a1 h1 => fin _ a1 w hS h1 (fun q => by rw [hb'] at q; cases q)
/-- shorter: an operation under no guard -/
theorem wv {P : Program} {ops : Array Oper} {Q : Exit → Act → World → Prop} {rest : List Oper} {o : Oper} {a : Act} {w w' : World} {N : Nat} {l : List (Nat × Value)} (h : Kn N l a) (hg : o.guard = none) {d : Nat} (hd : o.dst = some d) (hdN : decide (d < N) = true) (hf : l.all (fun x => !(x.1 == d)) = true) (v : Value)
    (hr : (execOp a.eval o).run P w = .ok (.value v) w') (k : ∀ a', Kn N ((d, v) :: l) a' → wpList P ops Q rest a' w') : wpList P ops Q (o :: rest) a w :=
  wpk_val h (wanted_none hg) hd (of_decide_eq_true hdN) (fr hf) v hr k
/-- shorter: a slot's value taken over -/
theorem wmv {P : Program} {ops : Array Oper} {Q : Exit → Act → World → Prop} {rest : List Oper} {o : Oper} {a : Act} {w : World} {N : Nat} {l : List (Nat × Value)} (h : Kn N l a) (hg : o.guard = none) {d : Nat} (hd : o.dst = some d) (hdN : decide (d < N) = true) (hf : l.all (fun x => !(x.1 == d)) = true) {k : Nat} (v : Value) (hm : (k, v) ∈ l)
    (ho : ∀ ρ : Operand → Value, execOp ρ o = pure (.value (ρ (.tmp k)))) (K : ∀ a', Kn N ((d, v) :: l) a' → wpList P ops Q rest a' w) : wpList P ops Q (o :: rest) a w :=
  wpk_val h (wanted_none hg) hd (of_decide_eq_true hdN) (fr hf) v (by rw [ho, h.eval hm]; rfl) K
theorem wmk {P : Program} {ops : Array Oper} {Q : Exit → Act → World → Prop} {rest : List Oper} {o : Oper} {a : Act} {w : World} {N : Nat} {l : List (Nat × Value)} (h : Kn N l a) (hg : o.guard = none) {d : Nat} (hd : o.dst = some d) (hdN : decide (d < N) = true) (hf : l.all (fun x => !(x.1 == d)) = true) (k : Nat) {v : Value} (hm : l.find? (fun y => y.1 == k) = some (k, v))
    (ho : ∀ ρ : Operand → Value, execOp ρ o = pure (.value (ρ (.tmp k)))) (K : ∀ a', Kn N ((d, v) :: l) a' → wpList P ops Q rest a' w) : wpList P ops Q (o :: rest) a w :=
  wpk_val h (wanted_none hg) hd (of_decide_eq_true hdN) (fr hf) v (by rw [ho, h.ev k hm]; rfl) K
end Go.Proofs.Ytngbpoofkeebgaa
