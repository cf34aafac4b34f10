/- does. (genPlgDo.py) -/
import Derived.Test.YtkhhoognemjibaaGreatDoorPlgLz
import Derived.Test.YtkhhoognemjibaaGreatDoorPlgFw
import Derived.Test.YtkhhoognemjibaaGreatDoorPlgEn
namespace Go.Proofs.YtkhhoognemjibaaGreatDoor
open Go.RowKit
set_option linter.unusedSimpArgs false
set_option linter.unusedVariables false
set_option maxRecDepth 100000

theorem Code.wp_weak {P : Program} {c : Code} {Q Q' : Exit → Act → World → Prop} {a : Act} {w : World} (h : c.wp P Q a w) (k : ∀ e a w, Q e a w → Q' e a w) : c.wp P Q' a w := fun b kk cs => by
  obtain ⟨e, a', w', hq, har⟩ := h b kk cs
  exact ⟨e, a', w', k _ _ _ hq, har⟩
theorem wp_join {P : Program} {c y : Code} {Q : Exit → Act → World → Prop} {a : Act} {w : World} (J : Act → World → Prop) (h1 : c.wp P (Exit.then J Q) a w) (h2 : ∀ a' w', J a' w' → y.wp P Q a' w') : (Code.seq c y).wp P Q a w :=
  wp_seq (Code.wp_weak h1 fun e a w hq => by
    cases e with
    | normal => exact h2 _ _ hq
    | _ => exact hq)
structure DeedT where
  kind : Int
  pa : Option Addr
  pc : Nat
  P : List PtM
  at_ : Int
  da : Option Addr
  dc : Nat
  D : List UInt8
  ia : Option Addr
  ic : Nat
  I : List Int
def deedC (x : DeedT) : List Value := [.int .i64 x.kind, .slice x.pa x.P.length x.pc, .int .i64 x.at_, .slice x.da x.D.length x.dc, .slice x.ia x.I.length x.ic]
theorem deedC_one (x : DeedT) : ∀ v ∈ deedC x, v.oneCell' = true := by intro v hv; simp [deedC] at hv; rcases hv with rfl | rfl | rfl | rfl | rfl <;> rfl
theorem infoDeed : (Tryz.prog.info? 30).map (·.size) = some 5 := by kernel_rfl
structure DeedIn (W : World) (x : DeedT) : Prop where
  p : RowPt W x.pa x.pc x.P
  k : inPts x.P
  d : RowB W x.da x.dc x.D
  i : RowI W x.ia x.ic x.I
  ok : intsOk x.I
  a : i64B x.at_
theorem logOk_of {M : MemM} (h : M.V.length = 1024) : LogOk 512 512 M := ⟨by omega, by omega, by omega, by omega⟩
theorem rowI_take {w : World} {a : Option Addr} {c : Nat} {xs : List Int} (h : RowI w a c xs) (n : Nat) : RowI w a c (xs.take n) := by
  obtain ⟨h1, h2, h3, h4, h5⟩ := h
  have hl : (xs.take n).length ≤ xs.length := by rw [List.length_take]; omega
  refine ⟨by simp, by omega, h3, h4, fun hp => ?_⟩
  obtain ⟨b, off, e, hlt, hc⟩ := h5 (by omega)
  refine ⟨b, off, e, hlt, fun j u hu => hc j u ?_⟩
  rw [List.map_take] at hu
  rw [List.getElem?_take] at hu
  split at hu
  · exact hu
  · cases hu
theorem rowLt {w : World} {sz n c : Nat} {a : Option Addr} {cs : List Value} (h : Row w sz a n c cs) (hn : 0 < n) {b off : Nat} (e : a = some ⟨b, off, none⟩) : b < w.heap.size := by
  obtain ⟨b', off', e', hlt, _⟩ := h.2.2.2.2 hn
  rw [e] at e'
  cases e'
  exact hlt
theorem loadIS {w : World} {g off : Nat} {a : Option Addr} {n c : Nat} (h : w.cell? ⟨g, off, none⟩ = some (.slice a n c)) : (Instr.loadAt 28 (.pointer (some ⟨g, off, none⟩))).run Tryz.prog w = .ok (.slice a n c) w := by
  have u3 := Tryz.underlying28
  have a3 := Tryz.isAgg28
  have z3 := Tryz.sizeOf28
  go_simp
theorem storeIS {w : World} {g off : Nat} {u : Value} (h : w.cell? ⟨g, off, none⟩ = some u) (hz : w.frozen? ⟨g, off, none⟩ = false) (a : Option Addr) (n c : Nat) : (Instr.storeAt 28 (.pointer (some ⟨g, off, none⟩)) (.slice a n c)).run Tryz.prog w = .ok () (w.setCell ⟨g, off, none⟩ (.slice a n c)) := by
  have u3 := Tryz.underlying28
  have a3 := Tryz.isAgg28
  have z3 := Tryz.sizeOf28
  go_simp
theorem storeYP {w : World} {g off : Nat} {u : Value} (h : w.cell? ⟨g, off, none⟩ = some u) (hz : w.frozen? ⟨g, off, none⟩ = false) (a : Option Addr) (n c : Nat) : (Instr.storeAt 27 (.pointer (some ⟨g, off, none⟩)) (.slice a n c)).run Tryz.prog w = .ok () (w.setCell ⟨g, off, none⟩ (.slice a n c)) := by
  have u3 := Tryz.underlying27
  have a3 := Tryz.isAgg27
  have z3 := Tryz.sizeOf27
  go_simp
theorem run_lenIS {o : Oper} {x : Operand} (ho : o.op = .call { callee := .builtin .len, args := #[x], argTypes := #[28] }) {ρ : Operand → Value} {a : Option Addr} {n c : Nat} (hx : ρ x = .slice a n c) (w : World) : (execOp ρ o).run Tryz.prog w = .ok (.value (.int .i64 (n : Int))) w := by
  unfold execOp; rw [ho]
  have u3 := Tryz.underlying28
  simp [resolve, invoke, builtin, hx]
  go_simp
theorem szI (w : World) : (sizeOf 3).run Tryz.prog w = .ok 1 w := by kernel_rfl
theorem elI : Tryz.prog.elem 28 = 3 := by kernel_rfl
theorem unI : Tryz.prog.underlying 28 = some (.slice (Tryz.prog.elem 28)) := by rw [elI]; exact Tryz.underlying28
theorem sliceHI {w : World} {a : Option Addr} {c : Nat} {xs : List Int} (r : RowI w a c xs) (hi : Nat) (h2 : hi ≤ xs.length) (W : World) : (Instr.sliceAt 28 (.slice a xs.length c) none (some (.int .i64 (hi : Int))) none).run Tryz.prog W = .ok (.slice a hi c) W := by
  have hc := r.2.1
  rw [run_sliceAt_slice W _ _ _ _ _ unI, run_slice_h W _ _ _ _ unI _ _ (by omega) (by omega), elI, szI]
  show Result.ok (sliced _ _ _ _ _) W = _
  rw [Int.toNat_natCast]
  unfold sliced
  simp only [Nat.sub_zero, Nat.zero_mul]
  split
  · rfl
  · cases a with
    | none => rfl
    | some p => simp [Addr.add]
theorem wpl_boxD {w : World} {ops : Array Oper} {rest : List Oper} {o : Oper} {act : Act} {Q : Exit → Act → World → Prop} (hgd : o.guard = none) {y : Operand} (ho : o.op = .box 30 y) (x : DeedT) (hy : act.eval y = .agg (deedC x).toArray)
    (h : ∀ gb w', gb = w.heap.size ∧ Blk w' gb 30 (deedC x) → Below w.heap.size w w' → wpList Tryz.prog ops Q rest (act.put o.dst (.pointer (some ⟨gb, 0, none⟩))) w') : wpList Tryz.prog ops Q (o :: rest) act w := by
  have hrun : (execOp act.eval o).run Tryz.prog w = .ok (.value (.pointer (some ⟨w.heap.size, 0, none⟩))) (w.alloc (.cells (deedC x).toArray 30)) := by
    unfold execOp; rw [ho]; simp only [hy]; rfl
  exact wpl_runTo hgd _ _ hrun (h _ _ ⟨rfl, blk_newO rfl _ _⟩ (albO _ _))
theorem deed_cut3 (x : DeedT) (h : 60 < x.D.length) : deedC { x with D := x.D.take 60 } = (deedC x).set 3 (.slice x.da 60 x.dc) := by
  have : (x.D.take 60).length = 60 := by rw [List.length_take]; omega
  unfold deedC
  dsimp only
  rw [this]; rfl
theorem deed_cut4 (x : DeedT) (h : 200 < x.I.length) : deedC { x with I := x.I.take 200 } = (deedC x).set 4 (.slice x.ia 200 x.ic) := by
  have : (x.I.take 200).length = 200 := by rw [List.length_take]; omega
  unfold deedC
  dsimp only
  rw [this]; rfl
theorem deed_keep3 (x : DeedT) (h : x.D.length ≤ 60) : { x with D := x.D.take 60 } = x := by rw [List.take_of_length_le h]
theorem deed_keep4 (x : DeedT) (h : x.I.length ≤ 200) : { x with I := x.I.take 200 } = x := by rw [List.take_of_length_le h]
/-- two logs, each as it is -/
structure Sides (w : World) (B : Nat) (K : PK) (M M' : MemM) : Prop where
  l : LogP w K.lg K.g K.v K.d K.p 512 512 M
  r : LogRP w K.lr K.gr K.vr K.dr K.ar 512 512 M'
  b : Blk w K.pp 39 (pairC K)
  f : K.from B
  n : K.v ≠ K.vr ∧ K.v ≠ K.dr ∧ K.d ≠ K.vr ∧ K.d ≠ K.dr
theorem Sides.of {w : World} {B : Nat} {K : PK} {M : MemM} (h : PairP w B K M) : Sides w B K M M := ⟨h.l, h.r, h.b, h.f, h.n⟩
theorem Sides.pair {w : World} {B : Nat} {K : PK} {M : MemM} (h : Sides w B K M M) : PairP w B K M := ⟨h.l, h.r, h.b, h.f, h.n⟩
theorem Sides.mono {w w' : World} {B : Nat} {K : PK} {M M' : MemM} (h : Sides w B K M M') (b : Below w.heap.size w w') : Sides w' B K M M' := ⟨h.l.mono b, h.r.mono b, h.b.mono b, h.f, h.n⟩
theorem Sides.nL {w : World} {B : Nat} {K : PK} {M M' : MemM} (h : Sides w B K M M') : ¬ XM K.v K.d K.p K.lr ∧ ¬ XM K.v K.d K.p K.gr ∧ ¬ XM K.v K.d K.p K.vr ∧ ¬ XM K.v K.d K.p K.dr ∧ ¬ XM K.v K.d K.p K.ar ∧ ¬ XM K.v K.d K.p K.pp := by
  obtain ⟨_, _, _, v1, d1, p1⟩ := h.l.m
  obtain ⟨_, _, g2, v2, d2, r2⟩ := h.r.m
  obtain ⟨n1, n2, n3, n4⟩ := h.n
  refine ⟨?_, ?_, ?_, ?_, ?_, ?_⟩ <;> rintro (e | e | e)
  · exact blk_ne h.r.l v1 (by decide) e
  · exact blk_ne h.r.l d1 (by decide) e
  · exact pend_neP p1 h.r.l e
  · exact blk_ne g2 v1 (by decide) e
  · exact blk_ne g2 d1 (by decide) e
  · exact pend_neP p1 g2 e
  · exact n1 e.symm
  · exact n3 e.symm
  · exact pend_neP p1 v2 e
  · exact n2 e.symm
  · exact n4 e.symm
  · exact pend_neP p1 d2 e
  · exact blk_ne r2 v1 (by decide) e
  · exact blk_ne r2 d1 (by decide) e
  · exact pend_neP p1 r2 e
  · exact blk_ne h.b v1 (by decide) e
  · exact blk_ne h.b d1 (by decide) e
  · exact pend_neP p1 h.b e
theorem Sides.nR {w : World} {B : Nat} {K : PK} {M M' : MemM} (h : Sides w B K M M') : ¬ XM K.vr K.dr K.ar K.lg ∧ ¬ XM K.vr K.dr K.ar K.g ∧ ¬ XM K.vr K.dr K.ar K.v ∧ ¬ XM K.vr K.dr K.ar K.d ∧ ¬ XM K.vr K.dr K.ar K.p ∧ ¬ XM K.vr K.dr K.ar K.pp := by
  obtain ⟨_, _, g1, v1, d1, p1⟩ := h.l.m
  obtain ⟨_, _, g2, v2, d2, r2⟩ := h.r.m
  obtain ⟨n1, n2, n3, n4⟩ := h.n
  refine ⟨?_, ?_, ?_, ?_, ?_, ?_⟩ <;> rintro (e | e | e)
  · exact blk_ne h.l.l v2 (by decide) e
  · exact blk_ne h.l.l d2 (by decide) e
  · exact blk_ne h.l.l r2 (by decide) e
  · exact blk_ne g1 v2 (by decide) e
  · exact blk_ne g1 d2 (by decide) e
  · exact blk_ne g1 r2 (by decide) e
  · exact n1 e
  · exact n2 e
  · exact blk_ne v1 r2 (by decide) e
  · exact n3 e
  · exact n4 e
  · exact blk_ne d1 r2 (by decide) e
  · exact pend_neP p1 v2 e.symm
  · exact pend_neP p1 d2 e.symm
  · exact pend_neP p1 r2 e.symm
  · exact blk_ne h.b v2 (by decide) e
  · exact blk_ne h.b d2 (by decide) e
  · exact blk_ne h.b r2 (by decide) e
theorem Sides.left {w w' : World} {B : Nat} {K : PK} {M M' N : MemM} (h : Sides w B K M M') (l : LogP w' K.lg K.g K.v K.d K.p 512 512 N) (t : Turns (XM K.v K.d K.p) w w') : Sides w' B K N M' := by
  obtain ⟨n1, n2, n3, n4, n5, n6⟩ := h.nL
  exact ⟨l, ⟨t.blk h.r.l n1, h.r.m.turns t n2 n3 n4 n5⟩, t.blk h.b n6, h.f, h.n⟩
theorem Sides.right {w w' : World} {B : Nat} {K : PK} {M M' N : MemM} (h : Sides w B K M M') (r : LogRP w' K.lr K.gr K.vr K.dr K.ar 512 512 N) (t : Turns (XM K.vr K.dr K.ar) w w') : Sides w' B K M N := by
  obtain ⟨n1, n2, n3, n4, n5, n6⟩ := h.nR
  exact ⟨⟨t.blk h.l.l n1, h.l.m.turns t n2 n3 n4 n5⟩, r, t.blk h.b n6, h.f, h.n⟩
theorem Sides.deed {w : World} {B g : Nat} {K : PK} {M M' : MemM} {L : List Value} (h : Sides w B K M M') (hd : Blk w g 30 L) : ¬ XM K.v K.d K.p g ∧ ¬ XM K.vr K.dr K.ar g := by
  obtain ⟨_, _, _, v1, d1, p1⟩ := h.l.m
  obtain ⟨_, _, g2, v2, d2, r2⟩ := h.r.m
  refine ⟨?_, ?_⟩ <;> rintro (e | e | e)
  · exact blk_ne hd v1 (by decide) e
  · exact blk_ne hd d1 (by decide) e
  · exact pend_neP p1 hd e
  · exact blk_ne hd v2 (by decide) e
  · exact blk_ne hd d2 (by decide) e
  · exact blk_ne hd r2 (by decide) e
theorem Sides.other {w w' : World} {B g : Nat} {K : PK} {M M' : MemM} {L : List Value} (h : Sides w B K M M') (hb : Blk w g 30 L) (t : Turns (fun k => k = g) w w') : Sides w' B K M M' := by
  obtain ⟨_, _, g1, v1, d1, p1⟩ := h.l.m
  obtain ⟨_, _, g2, v2, d2, r2⟩ := h.r.m
  exact ⟨⟨t.blk h.l.l (blk_ne h.l.l hb (by decide)), h.l.m.turns t (blk_ne g1 hb (by decide)) (blk_ne v1 hb (by decide)) (blk_ne d1 hb (by decide)) (fun e => pend_neP p1 hb e.symm)⟩, ⟨t.blk h.r.l (blk_ne h.r.l hb (by decide)), h.r.m.turns t (blk_ne g2 hb (by decide)) (blk_ne v2 hb (by decide)) (blk_ne d2 hb (by decide)) (blk_ne r2 hb (by decide))⟩, t.blk h.b (blk_ne h.b hb (by decide)), h.f, h.n⟩
theorem sides_lt {w : World} {B : Nat} {K : PK} {M M' : MemM} (h : Sides w B K M M') : ∀ k, K.all k → k < w.heap.size := by
  obtain ⟨_, _, q1, q2, q3⟩ := h.l.lt
  obtain ⟨_, _, q4, q5, q6⟩ := h.r.lt
  intro k hk
  rcases hk with (e | e | e) | (e | e | e) <;> rw [e] <;> assumption
theorem sides_belowL {w0 w w' : World} {K : PK} {M M' : MemM} (h : Sides w w0.heap.size K M M') (b : Below w0.heap.size w0 w) (t : Turns (XM K.v K.d K.p) w w') : Below w0.heap.size w0 w' := by
  obtain ⟨h1, h2, h3, h4, h5, h6, h7, h8, h9, h10, h11⟩ := h.f
  exact b.trans (t.below b.size (fun k hk => by rcases hk with e | e | e <;> rw [e] <;> assumption))
theorem sides_belowR {w0 w w' : World} {K : PK} {M M' : MemM} (h : Sides w w0.heap.size K M M') (b : Below w0.heap.size w0 w) (t : Turns (XM K.vr K.dr K.ar) w w') : Below w0.heap.size w0 w' := by
  obtain ⟨h1, h2, h3, h4, h5, h6, h7, h8, h9, h10, h11⟩ := h.f
  exact b.trans (t.below b.size (fun k hk => by rcases hk with e | e | e <;> rw [e] <;> assumption))
theorem below_other {w0 w w' : World} {g : Nat} (b : Below w0.heap.size w0 w) (t : Turns (fun k => k = g) w w') (hg : w0.heap.size ≤ g) : Below w0.heap.size w0 w' :=
  b.trans (t.below b.size (fun k hk => by rw [hk]; exact hg))
theorem crashM_len {M : MemM} (h : M.ok) (P : List Int) : (crashM M P).V.length = M.V.length := by
  show (crashD M P).length = _
  rw [crashD_len]; exact h.1
theorem callP_21 (args : Array Value) (w : World) : (callFunc 12 args).run Tryz.prog w = .ok (.enter 12 args) w := by
  have h := Tryz.func12
  go_simp
theorem callP_22 (args : Array Value) (w : World) : (callFunc 14 args).run Tryz.prog w = .ok (.enter 14 args) w := by
  have h := Tryz.func14
  go_simp
theorem callP_24 (args : Array Value) (w : World) : (callFunc 15 args).run Tryz.prog w = .ok (.enter 15 args) w := by
  have h := Tryz.func15
  go_simp
theorem callP_25 (args : Array Value) (w : World) : (callFunc 28 args).run Tryz.prog w = .ok (.enter 28 args) w := by
  have h := Tryz.func28
  go_simp
theorem callP_28 (args : Array Value) (w : World) : (callFunc 25 args).run Tryz.prog w = .ok (.enter 25 args) w := by
  have h := Tryz.func25
  go_simp
theorem callP_1029 (args : Array Value) (w : World) : (callFunc 29 args).run Tryz.prog w = .ok (.enter 29 args) w := by
  have h := Tryz.func29
  go_simp
theorem callP_1030 (args : Array Value) (w : World) : (callFunc 30 args).run Tryz.prog w = .ok (.enter 30 args) w := by
  have h := Tryz.func30
  go_simp
theorem fa_1030_0_0 (g : Nat) (w : World) : (Instr.fieldAt 30 (.pointer (some ⟨g, 0, none⟩)) 0).run Tryz.prog w = .ok (.pointer (some ⟨g, 0, none⟩)) w := rfl
theorem fa_1030_0_1 (g : Nat) (w : World) : (Instr.fieldAt 30 (.pointer (some ⟨g, 0, none⟩)) 1).run Tryz.prog w = .ok (.pointer (some ⟨g, 1, none⟩)) w := rfl
theorem fa_1030_0_2 (g : Nat) (w : World) : (Instr.fieldAt 30 (.pointer (some ⟨g, 0, none⟩)) 2).run Tryz.prog w = .ok (.pointer (some ⟨g, 2, none⟩)) w := rfl
theorem fa_1030_0_3 (g : Nat) (w : World) : (Instr.fieldAt 30 (.pointer (some ⟨g, 0, none⟩)) 3).run Tryz.prog w = .ok (.pointer (some ⟨g, 3, none⟩)) w := rfl
theorem fa_1030_0_4 (g : Nat) (w : World) : (Instr.fieldAt 30 (.pointer (some ⟨g, 0, none⟩)) 4).run Tryz.prog w = .ok (.pointer (some ⟨g, 4, none⟩)) w := rfl

set_option maxHeartbeats 16000000 in
theorem does_any {w0 w : World} {K : PK} {M : MemM} (hp : PairP w w0.heap.size K M) (hb0 : Below w0.heap.size w0 w) (hl : M.V.length = 1024) (x : DeedT) (hx : DeedIn w0 x) :
    Calls Tryz.prog 7 #[.pointer (some ⟨K.pp, 0, none⟩), .agg (deedC x).toArray] w fun e w' => ∃ M', e = .returned (.bool true) ∧ PairP w' w0.heap.size K M' ∧ M'.V.length = M.V.length ∧ Below w0.heap.size w0 w' ∧ (x.kind = 0 → M' = appM M 512 512 (cutP 6 40 x.P)) := by
  have HX := hid hx
  obtain ⟨x1, hx1⟩ : ∃ y : DeedT, y = { x with D := x.D.take 60 } := ⟨_, rfl⟩
  obtain ⟨x2, hx2⟩ : ∃ y : DeedT, y = { x1 with I := x1.I.take 200 } := ⟨_, rfl⟩
  have HX1 : Hid (DeedIn w0 x1) := hid (by rw [hx1]; exact ⟨hx.p, hx.k, rowB_take hx.d 60, hx.i, hx.ok, hx.a⟩)
  have HX2 : Hid (DeedIn w0 x2) := hid (by rw [hx2]; exact ⟨HX1.out.p, HX1.out.k, HX1.out.d, rowI_take HX1.out.i 200, fun y hy => HX1.out.ok y (List.mem_of_mem_take hy), HX1.out.a⟩)
  obtain ⟨C, hC⟩ : ∃ C, cutP 6 40 x.P = C := ⟨_, rfl⟩
  have okC : okPts C := by rw [← hC]; exact cutP_ok hx.k.1
  have lenC : C.length ≤ 6 := by rw [← hC]; exact cutP_len _ _ _
  have hL9 : x.P.length ≤ 9223372036854775807 := Nat.le_trans hx.k.2.2 (by unfold maxLen; omega)
  rw [hC]
  clear hx
  go_enter Tryz.func7, Tryz.ntmps7
  iterate 3 go_step
  refine wpl_boxD rfl rfl x rfl ?_
  rintro gb wb ⟨hgb0, kb⟩ bb
  have hgb : w0.heap.size ≤ gb := by rw [hgb0]; exact hb0.size
  clear hgb0
  have HDb := hid kb; have HBb : Hid (Below w0.heap.size w0 wb) := hid (kept_trans hb0 bb); have HSb := hid ((Sides.of hp).mono bb); clear kb bb
  refine wpk_enter (N := 126) (l := [(3, .pointer (some ⟨gb, 0, none⟩)), (0, .pointer (some ⟨K.pp, 0, none⟩))]) ⟨rfl, (by intro x hx; simp only [List.mem_cons, List.not_mem_nil, or_false] at hx; rcases hx with rfl | rfl <;> rfl), rfl⟩ fun a2 h1 => ?_
  refine wv h1 rfl rfl rfl rfl (.bool false) rfl fun a4 h3 => ?_
  iterate 3 go_step
  have h5 := h3.subs (l' := [(3, _), (0, _)]) rfl
  clear h3
  refine wp_join (J := fun a' w' => Kn 126 [(3, .pointer (some ⟨gb, 0, none⟩)), (0, .pointer (some ⟨K.pp, 0, none⟩))] a' ∧ Blk w' gb 30 (deedC x1) ∧ Below w0.heap.size w0 w' ∧ Sides w' w0.heap.size K M M) ?_ ?_
  · by_cases hlen : 60 < x.D.length
    · have hbig : decide ((60 : Int) < (x.D.length : Int)) = true := decide_eq_true (by omega)
      iterate 3 go_step
      refine wv h5 rfl rfl rfl rfl (.pointer (some ⟨gb, 3, none⟩)) (by unfold execOp; simp only [h5.ev 3 rfl]; exact run_v (fa_1030_0_3 (gb) _)) fun a7 h6 => ?_
      refine wv h6 rfl rfl rfl rfl (.slice x.da x.D.length x.dc) (by unfold execOp; simp only [h6.ev 6 rfl]; exact run_v (loadYP (HDb.out.cell (i := 3) (by show 3 < 5; omega)))) fun a9 h8 => ?_
      refine wv h8 rfl rfl rfl rfl (.int .i64 (x.D.length : Int)) (run_lenBP rfl (h8.ev 7 rfl) _) fun a11 h10 => ?_
      refine wv h10 rfl rfl rfl rfl (.bool true) (by unfold execOp; simp only [h10.ev 8 rfl]; exact run_v (gtIP _ _ _ _ _ hbig)) fun a13 h12 => ?_
      have h14 := h12.subs (l' := [(9, _), (3, _), (0, _)]) rfl
      clear h12
      iterate 3 go_step
      refine wp_cond (t := true) (h14.ev 9 rfl) ?_
      simp only [if_true]
      have h15 := h14.subs (l' := [(3, _), (0, _)]) rfl
      clear h14
      go_step
      refine wv h15 rfl rfl rfl rfl (.pointer (some ⟨gb, 3, none⟩)) (by unfold execOp; simp only [h15.ev 3 rfl]; exact run_v (fa_1030_0_3 (gb) _)) fun a17 h16 => ?_
      refine wv h16 rfl rfl rfl rfl (.slice x.da x.D.length x.dc) (by unfold execOp; simp only [h16.ev 10 rfl]; exact run_v (loadYP (HDb.out.cell (i := 3) (by show 3 < 5; omega)))) fun a19 h18 => ?_
      refine wv h18 rfl rfl rfl rfl (.slice x.da 60 x.dc) (by unfold execOp; simp only [Option.map_some, Option.map_none, h18.ev 11 rfl]; exact run_v ((sliceH (HX.out.d) 60 (by omega)).1 _)) fun a21 h20 => ?_
      refine wv h20 rfl rfl rfl rfl (.pointer (some ⟨gb, 3, none⟩)) (by unfold execOp; simp only [h20.ev 3 rfl]; exact run_v (fa_1030_0_3 (gb) _)) fun a23 h22 => ?_
      obtain ⟨ws, hws⟩ : ∃ y, y = wb.setCell ⟨gb, 3, none⟩ (.slice x.da 60 x.dc) := ⟨_, rfl⟩
      refine wpk_skipvP h22 (wanted_none rfl) rfl (w' := ws) (by rw [hws]; unfold execOp; simp only [h22.ev 13 rfl, h22.ev 12 rfl]; exact run_uP (storeYP (HDb.out.cell (i := 3) (by show 3 < 5; omega)) (HDb.out.frozen 3) _ _ _)) fun a25 h24 => ?_
      have h26 := h24.subs (l' := [(3, _), (0, _)]) rfl
      clear h24
      iterate 2 go_step
      have gs : wb.grownBy ws (some gb) := by rw [hws]; exact sg_set (sg_refl wb (some gb)) _ _
      have ts : Turns (fun k => k = gb) wb ws := Turns.of_grown gs rfl
      refine ⟨h26, ?_, ?_, HSb.out.other HDb.out ts⟩
      · have e : deedC x1 = (deedC x).set 3 (.slice x.da 60 x.dc) := by rw [hx1]; exact deed_cut3 x (by omega)
        rw [e, hws]; exact HDb.out.set _ _
      · exact below_other (HBb.out) ts hgb
    · have hbig : decide ((60 : Int) < (x.D.length : Int)) = false := decide_eq_false (by omega)
      iterate 3 go_step
      refine wv h5 rfl rfl rfl rfl (.pointer (some ⟨gb, 3, none⟩)) (by unfold execOp; simp only [h5.ev 3 rfl]; exact run_v (fa_1030_0_3 (gb) _)) fun a28 h27 => ?_
      refine wv h27 rfl rfl rfl rfl (.slice x.da x.D.length x.dc) (by unfold execOp; simp only [h27.ev 6 rfl]; exact run_v (loadYP (HDb.out.cell (i := 3) (by show 3 < 5; omega)))) fun a30 h29 => ?_
      refine wv h29 rfl rfl rfl rfl (.int .i64 (x.D.length : Int)) (run_lenBP rfl (h29.ev 7 rfl) _) fun a32 h31 => ?_
      refine wv h31 rfl rfl rfl rfl (.bool false) (by unfold execOp; simp only [h31.ev 8 rfl]; exact run_v (gtIP _ _ _ _ _ hbig)) fun a34 h33 => ?_
      have h35 := h33.subs (l' := [(9, _), (3, _), (0, _)]) rfl
      clear h33
      iterate 3 go_step
      refine wp_cond (t := false) (h35.ev 9 rfl) ?_
      simp only [Bool.false_eq_true, if_false]
      have h36 := h35.subs (l' := [(3, _), (0, _)]) rfl
      clear h35
      iterate 2 go_step
      refine ⟨h36, ?_, HBb.out, HSb.out⟩
      have e : x1 = x := by rw [hx1]; exact deed_keep3 x (by omega)
      rw [e]; exact HDb.out
  rintro aJ1 wJ1 ⟨hJ1, kd, kb, ks⟩
  have HDJ1 := hid kd; have HBJ1 := hid kb; have HSJ1 := hid ks; clear kd kb ks
  refine wp_join (J := fun a' w' => Kn 126 [(3, .pointer (some ⟨gb, 0, none⟩)), (0, .pointer (some ⟨K.pp, 0, none⟩))] a' ∧ Blk w' gb 30 (deedC x2) ∧ Below w0.heap.size w0 w' ∧ Sides w' w0.heap.size K M M) ?_ ?_
  · by_cases hlen : 200 < x1.I.length
    · have hbig : decide ((200 : Int) < (x1.I.length : Int)) = true := decide_eq_true (by omega)
      iterate 3 go_step
      refine wv hJ1 rfl rfl rfl rfl (.pointer (some ⟨gb, 4, none⟩)) (by unfold execOp; simp only [hJ1.ev 3 rfl]; exact run_v (fa_1030_0_4 (gb) _)) fun a38 h37 => ?_
      refine wv h37 rfl rfl rfl rfl (.slice x1.ia x1.I.length x1.ic) (by unfold execOp; simp only [h37.ev 14 rfl]; exact run_v (loadIS (HDJ1.out.cell (i := 4) (by show 4 < 5; omega)))) fun a40 h39 => ?_
      refine wv h39 rfl rfl rfl rfl (.int .i64 (x1.I.length : Int)) (run_lenIS rfl (h39.ev 15 rfl) _) fun a42 h41 => ?_
      refine wv h41 rfl rfl rfl rfl (.bool true) (by unfold execOp; simp only [h41.ev 16 rfl]; exact run_v (gtIP _ _ _ _ _ hbig)) fun a44 h43 => ?_
      have h45 := h43.subs (l' := [(17, _), (3, _), (0, _)]) rfl
      clear h43
      iterate 3 go_step
      refine wp_cond (t := true) (h45.ev 17 rfl) ?_
      simp only [if_true]
      have h46 := h45.subs (l' := [(3, _), (0, _)]) rfl
      clear h45
      go_step
      refine wv h46 rfl rfl rfl rfl (.pointer (some ⟨gb, 4, none⟩)) (by unfold execOp; simp only [h46.ev 3 rfl]; exact run_v (fa_1030_0_4 (gb) _)) fun a48 h47 => ?_
      refine wv h47 rfl rfl rfl rfl (.slice x1.ia x1.I.length x1.ic) (by unfold execOp; simp only [h47.ev 18 rfl]; exact run_v (loadIS (HDJ1.out.cell (i := 4) (by show 4 < 5; omega)))) fun a50 h49 => ?_
      refine wv h49 rfl rfl rfl rfl (.slice x1.ia 200 x1.ic) (by unfold execOp; simp only [Option.map_some, Option.map_none, h49.ev 19 rfl]; exact run_v (sliceHI (HX1.out.i) 200 (by omega) _)) fun a52 h51 => ?_
      refine wv h51 rfl rfl rfl rfl (.pointer (some ⟨gb, 4, none⟩)) (by unfold execOp; simp only [h51.ev 3 rfl]; exact run_v (fa_1030_0_4 (gb) _)) fun a54 h53 => ?_
      obtain ⟨ws, hws⟩ : ∃ y, y = wJ1.setCell ⟨gb, 4, none⟩ (.slice x1.ia 200 x1.ic) := ⟨_, rfl⟩
      refine wpk_skipvP h53 (wanted_none rfl) rfl (w' := ws) (by rw [hws]; unfold execOp; simp only [h53.ev 21 rfl, h53.ev 20 rfl]; exact run_uP (storeIS (HDJ1.out.cell (i := 4) (by show 4 < 5; omega)) (HDJ1.out.frozen 4) _ _ _)) fun a56 h55 => ?_
      have h57 := h55.subs (l' := [(3, _), (0, _)]) rfl
      clear h55
      iterate 2 go_step
      have gs : wJ1.grownBy ws (some gb) := by rw [hws]; exact sg_set (sg_refl wJ1 (some gb)) _ _
      have ts : Turns (fun k => k = gb) wJ1 ws := Turns.of_grown gs rfl
      refine ⟨h57, ?_, ?_, HSJ1.out.other HDJ1.out ts⟩
      · have e : deedC x2 = (deedC x1).set 4 (.slice x1.ia 200 x1.ic) := by rw [hx2]; exact deed_cut4 x1 (by omega)
        rw [e, hws]; exact HDJ1.out.set _ _
      · exact below_other (HBJ1.out) ts hgb
    · have hbig : decide ((200 : Int) < (x1.I.length : Int)) = false := decide_eq_false (by omega)
      iterate 3 go_step
      refine wv hJ1 rfl rfl rfl rfl (.pointer (some ⟨gb, 4, none⟩)) (by unfold execOp; simp only [hJ1.ev 3 rfl]; exact run_v (fa_1030_0_4 (gb) _)) fun a59 h58 => ?_
      refine wv h58 rfl rfl rfl rfl (.slice x1.ia x1.I.length x1.ic) (by unfold execOp; simp only [h58.ev 14 rfl]; exact run_v (loadIS (HDJ1.out.cell (i := 4) (by show 4 < 5; omega)))) fun a61 h60 => ?_
      refine wv h60 rfl rfl rfl rfl (.int .i64 (x1.I.length : Int)) (run_lenIS rfl (h60.ev 15 rfl) _) fun a63 h62 => ?_
      refine wv h62 rfl rfl rfl rfl (.bool false) (by unfold execOp; simp only [h62.ev 16 rfl]; exact run_v (gtIP _ _ _ _ _ hbig)) fun a65 h64 => ?_
      have h66 := h64.subs (l' := [(17, _), (3, _), (0, _)]) rfl
      clear h64
      iterate 3 go_step
      refine wp_cond (t := false) (h66.ev 17 rfl) ?_
      simp only [Bool.false_eq_true, if_false]
      have h67 := h66.subs (l' := [(3, _), (0, _)]) rfl
      clear h66
      iterate 2 go_step
      refine ⟨h67, ?_, HBJ1.out, HSJ1.out⟩
      have e : x2 = x1 := by rw [hx2]; exact deed_keep4 x1 (by omega)
      rw [e]; exact HDJ1.out
  rintro aJ2 wJ2 ⟨hJ2, kd, kb, ks⟩
  have HDJ2 := hid kd; have HBJ2 := hid kb; have HSJ2 := hid ks; clear kd kb ks
  have hkd : x2.kind = x.kind := by rw [hx2, hx1]
  have hpp : x2.P = x.P ∧ x2.pa = x.pa ∧ x2.pc = x.pc := by rw [hx2, hx1]; exact ⟨rfl, rfl, rfl⟩
  have hC2 : cutP 6 40 x2.P = C := by rw [hpp.1]; exact hC
  have hL9b : x2.P.length ≤ 9223372036854775807 := by rw [hpp.1]; exact hL9
  go_step
  by_cases e0 : x.kind = 0
  case pos =>
    have hk0 : (x2.kind == 0) = true := by rw [hkd, e0]; rfl
    iterate 2 go_step
    refine wv hJ2 rfl rfl rfl rfl (.pointer (some ⟨gb, 0, none⟩)) (by unfold execOp; simp only [hJ2.ev 3 rfl]; exact run_v (fa_1030_0_0 (gb) _)) fun a69 h68 => ?_
    refine wv h68 rfl rfl rfl rfl (.int .i64 x2.kind) (by unfold execOp; simp only [h68.ev 22 rfl]; exact run_v (loadIP (HDJ2.out.cell (i := 0) (by show 0 < 5; omega)))) fun a71 h70 => ?_
    have h72 := h70.subs (l' := [(23, _), (3, _), (0, _)]) rfl
    clear h70
    iterate 6 go_step
    refine wv h72 rfl rfl rfl rfl (.bool true) (by unfold execOp; simp only [h72.ev 23 rfl]; exact run_v (eqIP _ _ _ _ _ hk0)) fun a74 h73 => ?_
    refine wmk h73 rfl rfl rfl rfl 25 rfl (fun _ => rfl) fun a76 h75 => ?_
    have h77 := h75.subs (l' := [(24, _), (23, _), (3, _), (0, _)]) rfl
    clear h75
    iterate 3 go_step
    refine wp_cond (t := true) (h77.ev 24 rfl) ?_
    simp only [if_true]
    have h78 := h77.subs (l' := [(23, _), (3, _), (0, _)]) rfl
    clear h77
    iterate 2 go_step
    refine wv h78 rfl rfl rfl rfl (.pointer (some ⟨gb, 1, none⟩)) (by unfold execOp; simp only [h78.ev 3 rfl]; exact run_v (fa_1030_0_1 (gb) _)) fun a80 h79 => ?_
    refine wv h79 rfl rfl rfl rfl (.slice x2.pa x2.P.length x2.pc) (by unfold execOp; simp only [h79.ev 26 rfl]; exact run_v (loadRP (HDJ2.out.cell (i := 1) (by show 1 < 5; omega)))) fun a82 h81 => ?_
    refine wpk_call h81 (wanted_none rfl) rfl (by decide) (fr rfl) (fun args => callP_21 args _) rfl #[.slice x2.pa x2.P.length x2.pc] (by simp only [List.map_toArray, List.map_cons, List.map_nil, h81.ev 27 rfl]) (R := fun v' w' => ∃ la lc, v' = .slice la (cutP 6 40 x2.P).length lc ∧ OwnPt w' wJ2.heap.size la lc (cutP 6 40 x2.P) ∧ Below wJ2.heap.size wJ2 w') ((little_any (HX2.out.p.below (HBJ2.out)) hL9b).mono fun e w' q => by obtain ⟨x, y, q1, q2⟩ := q; exact ⟨_, q1, x, y, rfl, q2⟩) fun a84 v1 w1 r1 h83 => ?_
    obtain ⟨la, lc, rfl, o1, b1⟩ := r1; rw [hC2] at o1 h83; have HS1 := hid (HSJ2.out.mono b1); have HB1 := hid (kept_trans (HBJ2.out) b1); have HD1 := hid (HDJ2.out.mono b1); have hlt1 := sides_lt HSJ2.out; have R1 := hid o1; clear b1 o1
    refine wmk h83 rfl rfl rfl rfl 28 rfl (fun _ => rfl) fun a86 h85 => ?_
    have h87 := h85.subs (l' := [(5, _), (23, _), (3, _), (0, _)]) rfl
    clear h85
    iterate 4 go_step
    have HSd := hid (HS1.out.mono (Below.refl _ _).drew); have HDd := hid (HD1.out.mono (Below.refl _ _).drew); have HBd : Hid (Below w0.heap.size w0 w1.drew) := hid (Below.drew (HB1.out))
    refine wp_region_held_drew (S := fun w' => Blk w' K.pp 39 (pairC K) ∧ Blk w' gb 30 (deedC x2)) (by kernel_rfl) ⟨HSd.out.b, HDd.out⟩ (fun hS1 => ?_)
    have RC := hid (Own.mono R1.out (Below.refl _ _).drew)
    refine wpk_take hS1 h87 0 rfl rfl (by decide) (fr rfl) (by kernel_rfl) (by kernel_rfl) (by kernel_rfl) (fun _ _ _ _ h => h) (.pointer (some ⟨K.pp, 0, none⟩)) (Or.inl ⟨Eq.refl true, fun w1 hSw => (by show (execOp _ (⟨_, .move (.tmp 0), _, _, _, _⟩ : Oper)).run _ _ = _; exact (by unfold execOp; simp only [h87.ev 0 rfl]; exact rfl))⟩) fun a89 h88 => ?_
    refine wpk_take hS1 h88 1 rfl rfl (by decide) (fr rfl) (by kernel_rfl) (by kernel_rfl) (by kernel_rfl) (fun _ _ _ _ h => h) (.pointer (some ⟨K.pp, 0, none⟩)) (Or.inl ⟨Eq.refl true, fun w1 hSw => (by show (execOp _ (⟨_, .nilCheck (.tmp 29), _, _, _, _⟩ : Oper)).run _ _ = _; exact (by unfold execOp; simp only [h88.ev 29 rfl]; exact rfl))⟩) fun a91 h90 => ?_
    refine wpk_take hS1 h90 2 rfl rfl (by decide) (fr rfl) (by kernel_rfl) (by kernel_rfl) (by kernel_rfl) (fun _ _ _ _ h => h) (.pointer (some ⟨K.pp, 1, none⟩)) (Or.inl ⟨Eq.refl true, fun w1 hSw => (by show (execOp _ (⟨_, .fieldAddr 39 (.tmp 30) 1, _, _, _, _⟩ : Oper)).run _ _ = _; exact (by unfold execOp; simp only [h90.ev 30 rfl]; exact run_v (fa_50_0_1 (K.pp) _)))⟩) fun a93 h92 => ?_
    refine wpk_take hS1 h92 3 rfl rfl (by decide) (fr rfl) (by kernel_rfl) (by kernel_rfl) (by kernel_rfl) (fun _ _ _ _ h => h) (.pointer (some ⟨K.lg, 0, none⟩)) (Or.inl ⟨Eq.refl true, fun w1 hSw => (by show (execOp _ (⟨_, .load 35 (.tmp 31), _, _, _, _⟩ : Oper)).run _ _ = _; exact (by unfold execOp; simp only [h92.ev 31 rfl]; exact run_v (loadLP (hSw.1.cell (i := 1) (by show 1 < 4; omega)))))⟩) fun a95 h94 => ?_
    refine wpk_take hS1 h94 4 rfl rfl (by decide) (fr rfl) (by kernel_rfl) (by kernel_rfl) (by kernel_rfl) (fun _ _ _ _ h => h) (.slice la C.length lc) (Or.inl ⟨Eq.refl true, fun w1 hSw => (by show (execOp _ (⟨_, .move (.tmp 5), _, _, _, _⟩ : Oper)).run _ _ = _; exact (by unfold execOp; simp only [h94.ev 5 rfl]; exact rfl))⟩) fun a97 h96 => ?_
    refine wpk_take hS1 h96 6 rfl rfl (by decide) (fr rfl) (by kernel_rfl) (by kernel_rfl) (by kernel_rfl) (fun _ _ _ _ h => h) (.pointer (some ⟨K.pp, 0, none⟩)) (Or.inl ⟨Eq.refl true, fun w1 hSw => (by show (execOp _ (⟨_, .move (.tmp 0), _, _, _, _⟩ : Oper)).run _ _ = _; exact (by unfold execOp; simp only [h96.ev 0 rfl]; exact rfl))⟩) fun a99 h98 => ?_
    refine wpk_take hS1 h98 7 rfl rfl (by decide) (fr rfl) (by kernel_rfl) (by kernel_rfl) (by kernel_rfl) (fun _ _ _ _ h => h) (.pointer (some ⟨K.pp, 0, none⟩)) (Or.inl ⟨Eq.refl true, fun w1 hSw => (by show (execOp _ (⟨_, .nilCheck (.tmp 35), _, _, _, _⟩ : Oper)).run _ _ = _; exact (by unfold execOp; simp only [h98.ev 35 rfl]; exact rfl))⟩) fun a101 h100 => ?_
    refine wpk_take hS1 h100 8 rfl rfl (by decide) (fr rfl) (by kernel_rfl) (by kernel_rfl) (by kernel_rfl) (fun _ _ _ _ h => h) (.pointer (some ⟨K.pp, 3, none⟩)) (Or.inl ⟨Eq.refl true, fun w1 hSw => (by show (execOp _ (⟨_, .fieldAddr 39 (.tmp 36) 3, _, _, _, _⟩ : Oper)).run _ _ = _; exact (by unfold execOp; simp only [h100.ev 36 rfl]; exact run_v (fa_50_0_3 (K.pp) _)))⟩) fun a103 h102 => ?_
    refine wpk_take hS1 h102 9 rfl rfl (by decide) (fr rfl) (by kernel_rfl) (by kernel_rfl) (by kernel_rfl) (fun _ _ _ _ h => h) (.pointer (some ⟨K.lr, 0, none⟩)) (Or.inl ⟨Eq.refl true, fun w1 hSw => (by show (execOp _ (⟨_, .load 37 (.tmp 37), _, _, _, _⟩ : Oper)).run _ _ = _; exact (by unfold execOp; simp only [h102.ev 37 rfl]; exact run_v (loadLR (hSw.1.cell (i := 3) (by show 3 < 4; omega)))))⟩) fun a105 h104 => ?_
    refine wpk_take hS1 h104 10 rfl rfl (by decide) (fr rfl) (by kernel_rfl) (by kernel_rfl) (by kernel_rfl) (fun _ _ _ _ h => h) (.slice la C.length lc) (Or.inl ⟨Eq.refl true, fun w1 hSw => (by show (execOp _ (⟨_, .move (.tmp 5), _, _, _, _⟩ : Oper)).run _ _ = _; exact (by unfold execOp; simp only [h104.ev 5 rfl]; exact rfl))⟩) fun a107 h106 => ?_
    refine wpk_only 5 rfl rfl (by kernel_rfl) fun KK hK => op_call h106 rfl (by decide) (fr rfl) (fun args => callP_22 args _) rfl #[.pointer (some ⟨K.lg, 0, none⟩), .slice la C.length lc] (by simp only [List.map_toArray, List.map_cons, List.map_nil, h106.ev 32 rfl, h106.ev 33 rfl]) (R := fun v' w' => v' = .int .i64 (appE M 512 512 C) ∧ LogP w' K.lg K.g K.v K.d K.p 512 512 (appM M 512 512 C) ∧ Turns (XM K.v K.d K.p) w1.drew w') (append_any HSd.out.l (logOk_of hl) RC.out.row okC (by omega)) fun a109 vl wl rl h108 => hK _ _ (⟨rl.2.2.blk hS1.1 HSd.out.nL.2.2.2.2.2, rl.2.2.blk hS1.2 (HSd.out.deed HDd.out).1⟩) fun hS2 => ?_
    clear hK KK
    obtain ⟨rfl, l2, t2⟩ := rl; have HSl := hid (HSd.out.left l2 t2); have HDl := hid hS2.2; have HBl := hid (sides_belowL HSd.out HBd.out t2); have Tl := hid t2; clear l2 t2
    refine wpk_only 11 rfl rfl (by kernel_rfl) fun KK hK => op_call h108 rfl (by decide) (fr rfl) (fun args => callP_28 args _) rfl #[.pointer (some ⟨K.lr, 0, none⟩), .slice la C.length lc] (by simp only [List.map_toArray, List.map_cons, List.map_nil, h108.ev 38 rfl, h108.ev 39 rfl]) (R := fun v' w' => v' = .int .i64 (appE M 512 512 C) ∧ LogRP w' K.lr K.gr K.vr K.dr K.ar 512 512 (appM M 512 512 C) ∧ Turns (XM K.vr K.dr K.ar) wl w') (appendR_any HSl.out.r (logOk_of hl) (Tl.out.own RC.out (by intro k hk; exact hlt1 k (.inl hk))).row okC (by omega)) fun a111 vr_ wr_ rr_ h110 => hK _ _ (⟨rr_.2.2.blk hS2.1 HSl.out.nR.2.2.2.2.2, rr_.2.2.blk hS2.2 (HSl.out.deed HDl.out).2⟩) fun hS3 => ?_
    clear hK KK
    obtain ⟨rfl, l3, t3⟩ := rr_; have HSr := hid (HSl.out.right l3 t3); have HDr := hid hS3.2; have HBr := hid (sides_belowR HSl.out HBl.out t3); clear l3 t3
    refine wpk_take hS3 h110 12 rfl rfl (by decide) (fr rfl) (by kernel_rfl) (by kernel_rfl) (by kernel_rfl) (fun _ _ _ _ h => h) (.bool true) (Or.inl ⟨Eq.refl true, fun w1 hSw => (by show (execOp _ (⟨_, .binOp .eql 33 (.tmp 34) (.tmp 40) 33, _, _, _, _⟩ : Oper)).run _ _ = _; exact (by unfold execOp; simp only [h110.ev 34 rfl, h110.ev 40 rfl]; exact run_v (eqEP _ _ _ _ _ (by simp))))⟩) fun a113 h112 => ?_
    refine wpk_take hS3 h112 13 rfl rfl (by decide) (fr rfl) (by kernel_rfl) (by kernel_rfl) (by kernel_rfl) (fun _ _ _ _ h => h) (.bool true) (Or.inl ⟨Eq.refl true, fun w1 hSw => (by show (execOp _ (⟨_, .assign (.tmp 41), _, _, _, _⟩ : Oper)).run _ _ = _; exact (by unfold execOp; simp only [h112.ev 41 rfl]; exact rfl))⟩) fun a115 h114 => ?_
    refine wpAnyH_done (by kernel_rfl) ?_ _
    have h116 := h114.subs (l' := [(4, _), (5, _), (23, _), (3, _), (0, _)]) rfl
    clear h114
    iterate 3 go_step
    simp only [Exit.then, Exit.inBlock]
    exact bodyPost_ret (results_tmp1 rfl (h116.known (4, .bool true) (by simp))) h116.defs ⟨appM M 512 512 C, rfl, HSr.out.pair, (appM_len _ _ _ _), HBr.out, fun e => rfl⟩
  by_cases e1 : x.kind = 1
  case pos =>
    have hk0 : (x2.kind == 0) = false := by rw [hkd, e1]; rfl
    have hk1 : (x2.kind == 1) = true := by rw [hkd, e1]; rfl
    iterate 2 go_step
    refine wv hJ2 rfl rfl rfl rfl (.pointer (some ⟨gb, 0, none⟩)) (by unfold execOp; simp only [hJ2.ev 3 rfl]; exact run_v (fa_1030_0_0 (gb) _)) fun a118 h117 => ?_
    refine wv h117 rfl rfl rfl rfl (.int .i64 x2.kind) (by unfold execOp; simp only [h117.ev 22 rfl]; exact run_v (loadIP (HDJ2.out.cell (i := 0) (by show 0 < 5; omega)))) fun a120 h119 => ?_
    have h121 := h119.subs (l' := [(23, _), (3, _), (0, _)]) rfl
    clear h119
    iterate 6 go_step
    refine wv h121 rfl rfl rfl rfl (.bool false) (by unfold execOp; simp only [h121.ev 23 rfl]; exact run_v (eqIP _ _ _ _ _ hk0)) fun a123 h122 => ?_
    refine wmk h122 rfl rfl rfl rfl 25 rfl (fun _ => rfl) fun a125 h124 => ?_
    have h126 := h124.subs (l' := [(24, _), (23, _), (3, _), (0, _)]) rfl
    clear h124
    iterate 3 go_step
    refine wp_cond (t := false) (h126.ev 24 rfl) ?_
    simp only [Bool.false_eq_true, if_false]
    have h127 := h126.subs (l' := [(23, _), (3, _), (0, _)]) rfl
    clear h126
    iterate 2 go_step
    refine wv h127 rfl rfl rfl rfl (.bool true) (by unfold execOp; simp only [h127.ev 23 rfl]; exact run_v (eqIP _ _ _ _ _ hk1)) fun a129 h128 => ?_
    refine wmk h128 rfl rfl rfl rfl 43 rfl (fun _ => rfl) fun a131 h130 => ?_
    have h132 := h130.subs (l' := [(42, _), (23, _), (3, _), (0, _)]) rfl
    clear h130
    iterate 3 go_step
    refine wp_cond (t := true) (h132.ev 42 rfl) ?_
    simp only [if_true]
    have h133 := h132.subs (l' := [(23, _), (3, _), (0, _)]) rfl
    clear h132
    iterate 2 go_step
    refine wmk h133 rfl rfl rfl rfl 0 rfl (fun _ => rfl) fun a135 h134 => ?_
    refine wv h134 rfl rfl rfl rfl (.pointer (some ⟨K.pp, 0, none⟩)) (by unfold execOp; simp only [h134.ev 44 rfl]; exact rfl) fun a137 h136 => ?_
    refine wv h136 rfl rfl rfl rfl (.pointer (some ⟨K.pp, 1, none⟩)) (by unfold execOp; simp only [h136.ev 45 rfl]; exact run_v (fa_50_0_1 (K.pp) _)) fun a139 h138 => ?_
    refine wv h138 rfl rfl rfl rfl (.pointer (some ⟨K.lg, 0, none⟩)) (by unfold execOp; simp only [h138.ev 46 rfl]; exact run_v (loadLP (HSJ2.out.b.cell (i := 1) (by show 1 < 4; omega)))) fun a141 h140 => ?_
    refine wpk_call h140 (wanted_none rfl) rfl (by decide) (fr rfl) (fun args => callP_53 args _) rfl #[.pointer (some ⟨K.lg, 0, none⟩)] (by simp only [List.map_toArray, List.map_cons, List.map_nil, h140.ev 47 rfl]) (R := fun v' w' => LogP w' K.lg K.g K.v K.d K.p 512 512 (setM M 512 0) ∧ Turns (XM K.v K.d K.p) wJ2 w') (clear_any HSJ2.out.l (by omega)) fun a143 vu0 u0 ru0 h142 => ?_
    have HSu0 := hid (HSJ2.out.left ru0.1 ru0.2); have HDu0 := hid (ru0.2.blk HDJ2.out (HSJ2.out.deed HDJ2.out).1); have HBu0 := hid (sides_belowL HSJ2.out (HBJ2.out) ru0.2); clear ru0
    have h144 := h142.subs (l' := [(23, _), (3, _), (0, _)]) rfl
    clear h142
    iterate 4 go_step
    refine wmk h144 rfl rfl rfl rfl 0 rfl (fun _ => rfl) fun a146 h145 => ?_
    refine wv h145 rfl rfl rfl rfl (.pointer (some ⟨K.pp, 0, none⟩)) (by unfold execOp; simp only [h145.ev 49 rfl]; exact rfl) fun a148 h147 => ?_
    refine wv h147 rfl rfl rfl rfl (.pointer (some ⟨K.pp, 3, none⟩)) (by unfold execOp; simp only [h147.ev 50 rfl]; exact run_v (fa_50_0_3 (K.pp) _)) fun a150 h149 => ?_
    refine wv h149 rfl rfl rfl rfl (.pointer (some ⟨K.lr, 0, none⟩)) (by unfold execOp; simp only [h149.ev 51 rfl]; exact run_v (loadLR (HSu0.out.b.cell (i := 3) (by show 3 < 4; omega)))) fun a152 h151 => ?_
    refine wpk_call h151 (wanted_none rfl) rfl (by decide) (fr rfl) (fun args => callP_120 args _) rfl #[.pointer (some ⟨K.lr, 0, none⟩)] (by simp only [List.map_toArray, List.map_cons, List.map_nil, h151.ev 52 rfl]) (R := fun v' w' => LogRP w' K.lr K.gr K.vr K.dr K.ar 512 512 (setM M 512 0) ∧ Turns (XM K.vr K.dr K.ar) u0 w') (clearR_any HSu0.out.r (logOk_of hl)) fun a154 vu1 u1 ru1 h153 => ?_
    have HSu1 := hid (HSu0.out.right ru1.1 ru1.2); have HDu1 := hid (ru1.2.blk HDu0.out (HSu0.out.deed HDu0.out).2); have HBu1 := hid (sides_belowR HSu0.out (HBu0.out) ru1.2); clear ru1
    have h155 := h153.subs (l' := [(23, _), (3, _), (0, _)]) rfl
    clear h153
    iterate 5 go_step
    refine wv h155 rfl rfl rfl rfl (.bool true) rfl fun a157 h156 => ?_
    iterate 4 go_step
    exact bodyPost_ret (results_tmp1 rfl (h156.known (4, .bool true) (by simp))) h156.defs ⟨setM M 512 0, rfl, HSu1.out.pair, (setM_len _ _ _), HBu1.out, fun e => absurd e (by omega)⟩
  by_cases e2 : x.kind = 2
  case pos =>
    have hk0 : (x2.kind == 0) = false := by rw [hkd, e2]; rfl
    have hk1 : (x2.kind == 1) = false := by rw [hkd, e2]; rfl
    have hk2 : (x2.kind == 2) = true := by rw [hkd, e2]; rfl
    iterate 2 go_step
    refine wv hJ2 rfl rfl rfl rfl (.pointer (some ⟨gb, 0, none⟩)) (by unfold execOp; simp only [hJ2.ev 3 rfl]; exact run_v (fa_1030_0_0 (gb) _)) fun a159 h158 => ?_
    refine wv h158 rfl rfl rfl rfl (.int .i64 x2.kind) (by unfold execOp; simp only [h158.ev 22 rfl]; exact run_v (loadIP (HDJ2.out.cell (i := 0) (by show 0 < 5; omega)))) fun a161 h160 => ?_
    have h162 := h160.subs (l' := [(23, _), (3, _), (0, _)]) rfl
    clear h160
    iterate 6 go_step
    refine wv h162 rfl rfl rfl rfl (.bool false) (by unfold execOp; simp only [h162.ev 23 rfl]; exact run_v (eqIP _ _ _ _ _ hk0)) fun a164 h163 => ?_
    refine wmk h163 rfl rfl rfl rfl 25 rfl (fun _ => rfl) fun a166 h165 => ?_
    have h167 := h165.subs (l' := [(24, _), (23, _), (3, _), (0, _)]) rfl
    clear h165
    iterate 3 go_step
    refine wp_cond (t := false) (h167.ev 24 rfl) ?_
    simp only [Bool.false_eq_true, if_false]
    have h168 := h167.subs (l' := [(23, _), (3, _), (0, _)]) rfl
    clear h167
    iterate 2 go_step
    refine wv h168 rfl rfl rfl rfl (.bool false) (by unfold execOp; simp only [h168.ev 23 rfl]; exact run_v (eqIP _ _ _ _ _ hk1)) fun a170 h169 => ?_
    refine wmk h169 rfl rfl rfl rfl 43 rfl (fun _ => rfl) fun a172 h171 => ?_
    have h173 := h171.subs (l' := [(42, _), (23, _), (3, _), (0, _)]) rfl
    clear h171
    iterate 3 go_step
    refine wp_cond (t := false) (h173.ev 42 rfl) ?_
    simp only [Bool.false_eq_true, if_false]
    have h174 := h173.subs (l' := [(23, _), (3, _), (0, _)]) rfl
    clear h173
    iterate 2 go_step
    refine wv h174 rfl rfl rfl rfl (.bool true) (by unfold execOp; simp only [h174.ev 23 rfl]; exact run_v (eqIP _ _ _ _ _ hk2)) fun a176 h175 => ?_
    refine wmk h175 rfl rfl rfl rfl 55 rfl (fun _ => rfl) fun a178 h177 => ?_
    have h179 := h177.subs (l' := [(54, _), (23, _), (3, _), (0, _)]) rfl
    clear h177
    iterate 3 go_step
    refine wp_cond (t := true) (h179.ev 54 rfl) ?_
    simp only [if_true]
    have h180 := h179.subs (l' := [(23, _), (3, _), (0, _)]) rfl
    clear h179
    go_step
    have HSd := hid (HSJ2.out.mono (Below.refl _ _).drew); have HDd := hid (HDJ2.out.mono (Below.refl _ _).drew); have HBd : Hid (Below w0.heap.size w0 wJ2.drew) := hid (Below.drew (HBJ2.out))
    refine wp_region_held_drew (S := fun w' => Blk w' K.pp 39 (pairC K) ∧ Blk w' gb 30 (deedC x2)) (by kernel_rfl) ⟨HSd.out.b, HDd.out⟩ (fun hS1 => ?_)
    refine wpk_take hS1 h180 0 rfl rfl (by decide) (fr rfl) (by kernel_rfl) (by kernel_rfl) (by kernel_rfl) (fun _ _ _ _ h => h) (.pointer (some ⟨K.pp, 0, none⟩)) (Or.inl ⟨Eq.refl true, fun w1 hSw => (by show (execOp _ (⟨_, .move (.tmp 0), _, _, _, _⟩ : Oper)).run _ _ = _; exact (by unfold execOp; simp only [h180.ev 0 rfl]; exact rfl))⟩) fun a182 h181 => ?_
    refine wpk_take hS1 h181 1 rfl rfl (by decide) (fr rfl) (by kernel_rfl) (by kernel_rfl) (by kernel_rfl) (fun _ _ _ _ h => h) (.pointer (some ⟨K.pp, 0, none⟩)) (Or.inl ⟨Eq.refl true, fun w1 hSw => (by show (execOp _ (⟨_, .nilCheck (.tmp 56), _, _, _, _⟩ : Oper)).run _ _ = _; exact (by unfold execOp; simp only [h181.ev 56 rfl]; exact rfl))⟩) fun a184 h183 => ?_
    refine wpk_take hS1 h183 2 rfl rfl (by decide) (fr rfl) (by kernel_rfl) (by kernel_rfl) (by kernel_rfl) (fun _ _ _ _ h => h) (.pointer (some ⟨K.pp, 1, none⟩)) (Or.inl ⟨Eq.refl true, fun w1 hSw => (by show (execOp _ (⟨_, .fieldAddr 39 (.tmp 57) 1, _, _, _, _⟩ : Oper)).run _ _ = _; exact (by unfold execOp; simp only [h183.ev 57 rfl]; exact run_v (fa_50_0_1 (K.pp) _)))⟩) fun a186 h185 => ?_
    refine wpk_take hS1 h185 3 rfl rfl (by decide) (fr rfl) (by kernel_rfl) (by kernel_rfl) (by kernel_rfl) (fun _ _ _ _ h => h) (.pointer (some ⟨K.lg, 0, none⟩)) (Or.inl ⟨Eq.refl true, fun w1 hSw => (by show (execOp _ (⟨_, .load 35 (.tmp 58), _, _, _, _⟩ : Oper)).run _ _ = _; exact (by unfold execOp; simp only [h185.ev 58 rfl]; exact run_v (loadLP (hSw.1.cell (i := 1) (by show 1 < 4; omega)))))⟩) fun a188 h187 => ?_
    refine wpk_take hS1 h187 5 rfl rfl (by decide) (fr rfl) (by kernel_rfl) (by kernel_rfl) (by kernel_rfl) (fun _ _ _ _ h => h) (.pointer (some ⟨K.pp, 0, none⟩)) (Or.inl ⟨Eq.refl true, fun w1 hSw => (by show (execOp _ (⟨_, .move (.tmp 0), _, _, _, _⟩ : Oper)).run _ _ = _; exact (by unfold execOp; simp only [h187.ev 0 rfl]; exact rfl))⟩) fun a190 h189 => ?_
    refine wpk_take hS1 h189 6 rfl rfl (by decide) (fr rfl) (by kernel_rfl) (by kernel_rfl) (by kernel_rfl) (fun _ _ _ _ h => h) (.pointer (some ⟨K.pp, 0, none⟩)) (Or.inl ⟨Eq.refl true, fun w1 hSw => (by show (execOp _ (⟨_, .nilCheck (.tmp 61), _, _, _, _⟩ : Oper)).run _ _ = _; exact (by unfold execOp; simp only [h189.ev 61 rfl]; exact rfl))⟩) fun a192 h191 => ?_
    refine wpk_take hS1 h191 7 rfl rfl (by decide) (fr rfl) (by kernel_rfl) (by kernel_rfl) (by kernel_rfl) (fun _ _ _ _ h => h) (.pointer (some ⟨K.pp, 3, none⟩)) (Or.inl ⟨Eq.refl true, fun w1 hSw => (by show (execOp _ (⟨_, .fieldAddr 39 (.tmp 62) 3, _, _, _, _⟩ : Oper)).run _ _ = _; exact (by unfold execOp; simp only [h191.ev 62 rfl]; exact run_v (fa_50_0_3 (K.pp) _)))⟩) fun a194 h193 => ?_
    refine wpk_take hS1 h193 8 rfl rfl (by decide) (fr rfl) (by kernel_rfl) (by kernel_rfl) (by kernel_rfl) (fun _ _ _ _ h => h) (.pointer (some ⟨K.lr, 0, none⟩)) (Or.inl ⟨Eq.refl true, fun w1 hSw => (by show (execOp _ (⟨_, .load 37 (.tmp 63), _, _, _, _⟩ : Oper)).run _ _ = _; exact (by unfold execOp; simp only [h193.ev 63 rfl]; exact run_v (loadLR (hSw.1.cell (i := 3) (by show 3 < 4; omega)))))⟩) fun a196 h195 => ?_
    refine wpk_only 4 rfl rfl (by kernel_rfl) fun KK hK => op_call h195 rfl (by decide) (fr rfl) (fun args => callP_25 args _) rfl #[.pointer (some ⟨K.lg, 0, none⟩)] (by simp only [List.map_toArray, List.map_cons, List.map_nil, h195.ev 59 rfl]) (R := fun v' w' => v' = .int .i64 ((logR M.V 512 512).1.length : Int) ∧ LogP w' K.lg K.g K.v K.d K.p 512 512 (redoM M 512 512) ∧ Turns (XM K.v K.d K.p) wJ2.drew w') (redo_any HSd.out.l (logOk_of hl)) fun a198 vl wl rl h197 => hK _ _ (⟨rl.2.2.blk hS1.1 HSd.out.nL.2.2.2.2.2, rl.2.2.blk hS1.2 (HSd.out.deed HDd.out).1⟩) fun hS2 => ?_
    clear hK KK
    obtain ⟨rfl, l2, t2⟩ := rl; have HSl := hid (HSd.out.left l2 t2); have HDl := hid hS2.2; have HBl := hid (sides_belowL HSd.out HBd.out t2); have Tl := hid t2; clear l2 t2
    refine wpk_only 9 rfl rfl (by kernel_rfl) fun KK hK => op_call h197 rfl (by decide) (fr rfl) (fun args => callP_1029 args _) rfl #[.pointer (some ⟨K.lr, 0, none⟩)] (by simp only [List.map_toArray, List.map_cons, List.map_nil, h197.ev 64 rfl]) (R := fun v' w' => v' = .int .i64 ((logR M.V 512 512).1.length : Int) ∧ LogRP w' K.lr K.gr K.vr K.dr K.ar 512 512 (redoM M 512 512) ∧ Turns (XM K.vr K.dr K.ar) wl w') (redoR_any HSl.out.r (logOk_of hl)) fun a200 vr_ wr_ rr_ h199 => hK _ _ (⟨rr_.2.2.blk hS2.1 HSl.out.nR.2.2.2.2.2, rr_.2.2.blk hS2.2 (HSl.out.deed HDl.out).2⟩) fun hS3 => ?_
    clear hK KK
    obtain ⟨rfl, l3, t3⟩ := rr_; have HSr := hid (HSl.out.right l3 t3); have HDr := hid hS3.2; have HBr := hid (sides_belowR HSl.out HBl.out t3); clear l3 t3
    refine wpk_take hS3 h199 10 rfl rfl (by decide) (fr rfl) (by kernel_rfl) (by kernel_rfl) (by kernel_rfl) (fun _ _ _ _ h => h) (.bool true) (Or.inl ⟨Eq.refl true, fun w1 hSw => (by show (execOp _ (⟨_, .binOp .eql 3 (.tmp 60) (.tmp 65) 3, _, _, _, _⟩ : Oper)).run _ _ = _; exact (by unfold execOp; simp only [h199.ev 60 rfl, h199.ev 65 rfl]; exact run_v (eqIP _ _ _ _ _ (by simp))))⟩) fun a202 h201 => ?_
    refine wpk_take hS3 h201 11 rfl rfl (by decide) (fr rfl) (by kernel_rfl) (by kernel_rfl) (by kernel_rfl) (fun _ _ _ _ h => h) (.bool true) (Or.inl ⟨Eq.refl true, fun w1 hSw => (by show (execOp _ (⟨_, .assign (.tmp 66), _, _, _, _⟩ : Oper)).run _ _ = _; exact (by unfold execOp; simp only [h201.ev 66 rfl]; exact rfl))⟩) fun a204 h203 => ?_
    refine wpAnyH_done (by kernel_rfl) ?_ _
    have h205 := h203.subs (l' := [(4, _), (23, _), (3, _), (0, _)]) rfl
    clear h203
    iterate 3 go_step
    simp only [Exit.then, Exit.inBlock]
    exact bodyPost_ret (results_tmp1 rfl (h205.known (4, .bool true) (by simp))) h205.defs ⟨redoM M 512 512, rfl, HSr.out.pair, (redoM_len _ _ _), HBr.out, fun e => absurd e (by omega)⟩
  by_cases e3 : x.kind = 3
  case pos =>
    have hk0 : (x2.kind == 0) = false := by rw [hkd, e3]; rfl
    have hk1 : (x2.kind == 1) = false := by rw [hkd, e3]; rfl
    have hk2 : (x2.kind == 2) = false := by rw [hkd, e3]; rfl
    have hk3 : (x2.kind == 3) = true := by rw [hkd, e3]; rfl
    iterate 2 go_step
    refine wv hJ2 rfl rfl rfl rfl (.pointer (some ⟨gb, 0, none⟩)) (by unfold execOp; simp only [hJ2.ev 3 rfl]; exact run_v (fa_1030_0_0 (gb) _)) fun a207 h206 => ?_
    refine wv h206 rfl rfl rfl rfl (.int .i64 x2.kind) (by unfold execOp; simp only [h206.ev 22 rfl]; exact run_v (loadIP (HDJ2.out.cell (i := 0) (by show 0 < 5; omega)))) fun a209 h208 => ?_
    have h210 := h208.subs (l' := [(23, _), (3, _), (0, _)]) rfl
    clear h208
    iterate 6 go_step
    refine wv h210 rfl rfl rfl rfl (.bool false) (by unfold execOp; simp only [h210.ev 23 rfl]; exact run_v (eqIP _ _ _ _ _ hk0)) fun a212 h211 => ?_
    refine wmk h211 rfl rfl rfl rfl 25 rfl (fun _ => rfl) fun a214 h213 => ?_
    have h215 := h213.subs (l' := [(24, _), (23, _), (3, _), (0, _)]) rfl
    clear h213
    iterate 3 go_step
    refine wp_cond (t := false) (h215.ev 24 rfl) ?_
    simp only [Bool.false_eq_true, if_false]
    have h216 := h215.subs (l' := [(23, _), (3, _), (0, _)]) rfl
    clear h215
    iterate 2 go_step
    refine wv h216 rfl rfl rfl rfl (.bool false) (by unfold execOp; simp only [h216.ev 23 rfl]; exact run_v (eqIP _ _ _ _ _ hk1)) fun a218 h217 => ?_
    refine wmk h217 rfl rfl rfl rfl 43 rfl (fun _ => rfl) fun a220 h219 => ?_
    have h221 := h219.subs (l' := [(42, _), (23, _), (3, _), (0, _)]) rfl
    clear h219
    iterate 3 go_step
    refine wp_cond (t := false) (h221.ev 42 rfl) ?_
    simp only [Bool.false_eq_true, if_false]
    have h222 := h221.subs (l' := [(23, _), (3, _), (0, _)]) rfl
    clear h221
    iterate 2 go_step
    refine wv h222 rfl rfl rfl rfl (.bool false) (by unfold execOp; simp only [h222.ev 23 rfl]; exact run_v (eqIP _ _ _ _ _ hk2)) fun a224 h223 => ?_
    refine wmk h223 rfl rfl rfl rfl 55 rfl (fun _ => rfl) fun a226 h225 => ?_
    have h227 := h225.subs (l' := [(54, _), (23, _), (3, _), (0, _)]) rfl
    clear h225
    iterate 3 go_step
    refine wp_cond (t := false) (h227.ev 54 rfl) ?_
    simp only [Bool.false_eq_true, if_false]
    have h228 := h227.subs (l' := [(23, _), (3, _), (0, _)]) rfl
    clear h227
    iterate 2 go_step
    refine wv h228 rfl rfl rfl rfl (.bool true) (by unfold execOp; simp only [h228.ev 23 rfl]; exact run_v (eqIP _ _ _ _ _ hk3)) fun a230 h229 => ?_
    refine wmk h229 rfl rfl rfl rfl 68 rfl (fun _ => rfl) fun a232 h231 => ?_
    have h233 := h231.subs (l' := [(67, _), (23, _), (3, _), (0, _)]) rfl
    clear h231
    iterate 3 go_step
    refine wp_cond (t := true) (h233.ev 67 rfl) ?_
    simp only [if_true]
    have h234 := h233.subs (l' := [(23, _), (3, _), (0, _)]) rfl
    clear h233
    go_step
    have HSd := hid (HSJ2.out.mono (Below.refl _ _).drew); have HDd := hid (HDJ2.out.mono (Below.refl _ _).drew); have HBd : Hid (Below w0.heap.size w0 wJ2.drew) := hid (Below.drew (HBJ2.out))
    refine wp_region_held_drew (S := fun w' => Blk w' K.pp 39 (pairC K) ∧ Blk w' gb 30 (deedC x2)) (by kernel_rfl) ⟨HSd.out.b, HDd.out⟩ (fun hS1 => ?_)
    refine wpk_take hS1 h234 0 rfl rfl (by decide) (fr rfl) (by kernel_rfl) (by kernel_rfl) (by kernel_rfl) (fun _ _ _ _ h => h) (.pointer (some ⟨K.pp, 0, none⟩)) (Or.inl ⟨Eq.refl true, fun w1 hSw => (by show (execOp _ (⟨_, .move (.tmp 0), _, _, _, _⟩ : Oper)).run _ _ = _; exact (by unfold execOp; simp only [h234.ev 0 rfl]; exact rfl))⟩) fun a236 h235 => ?_
    refine wpk_take hS1 h235 1 rfl rfl (by decide) (fr rfl) (by kernel_rfl) (by kernel_rfl) (by kernel_rfl) (fun _ _ _ _ h => h) (.pointer (some ⟨K.pp, 0, none⟩)) (Or.inl ⟨Eq.refl true, fun w1 hSw => (by show (execOp _ (⟨_, .nilCheck (.tmp 69), _, _, _, _⟩ : Oper)).run _ _ = _; exact (by unfold execOp; simp only [h235.ev 69 rfl]; exact rfl))⟩) fun a238 h237 => ?_
    refine wpk_take hS1 h237 2 rfl rfl (by decide) (fr rfl) (by kernel_rfl) (by kernel_rfl) (by kernel_rfl) (fun _ _ _ _ h => h) (.pointer (some ⟨K.pp, 0, none⟩)) (Or.inl ⟨Eq.refl true, fun w1 hSw => (by show (execOp _ (⟨_, .fieldAddr 39 (.tmp 70) 0, _, _, _, _⟩ : Oper)).run _ _ = _; exact (by unfold execOp; simp only [h237.ev 70 rfl]; exact run_v (fa_50_0_0 (K.pp) _)))⟩) fun a240 h239 => ?_
    refine wpk_take hS1 h239 3 rfl rfl (by decide) (fr rfl) (by kernel_rfl) (by kernel_rfl) (by kernel_rfl) (fun _ _ _ _ h => h) (.pointer (some ⟨K.g, 0, none⟩)) (Or.inl ⟨Eq.refl true, fun w1 hSw => (by show (execOp _ (⟨_, .load 34 (.tmp 71), _, _, _, _⟩ : Oper)).run _ _ = _; exact (by unfold execOp; simp only [h239.ev 71 rfl]; exact run_v (loadMP (hSw.1.cell (i := 0) (by show 0 < 4; omega)))))⟩) fun a242 h241 => ?_
    refine wpk_take hS1 h241 4 rfl rfl (by decide) (fr rfl) (by kernel_rfl) (by kernel_rfl) (by kernel_rfl) (fun _ _ _ _ h => h) (.pointer (some ⟨gb, 4, none⟩)) (Or.inl ⟨Eq.refl true, fun w1 hSw => (by show (execOp _ (⟨_, .fieldAddr 30 (.tmp 3) 4, _, _, _, _⟩ : Oper)).run _ _ = _; exact (by unfold execOp; simp only [h241.ev 3 rfl]; exact run_v (fa_1030_0_4 (gb) _)))⟩) fun a244 h243 => ?_
    refine wpk_take hS1 h243 5 rfl rfl (by decide) (fr rfl) (by kernel_rfl) (by kernel_rfl) (by kernel_rfl) (fun _ _ _ _ h => h) (.slice x2.ia x2.I.length x2.ic) (Or.inl ⟨Eq.refl true, fun w1 hSw => (by show (execOp _ (⟨_, .load 28 (.tmp 73), _, _, _, _⟩ : Oper)).run _ _ = _; exact (by unfold execOp; simp only [h243.ev 73 rfl]; exact run_v (loadIS (hSw.2.cell (i := 4) (by show 4 < 5; omega)))))⟩) fun a246 h245 => ?_
    refine wpk_only 6 rfl rfl (by kernel_rfl) fun KK hK => op_call h245 rfl (by decide) (fr rfl) (fun args => callP_24 args _) rfl #[.pointer (some ⟨K.g, 0, none⟩), .slice x2.ia x2.I.length x2.ic] (by simp only [List.map_toArray, List.map_cons, List.map_nil, h245.ev 72 rfl, h245.ev 74 rfl]) (R := fun v' w' => LogP w' K.lg K.g K.v K.d K.p 512 512 (crashM M x2.I) ∧ Turns (XM K.v K.d K.p) wJ2.drew w') ((crash_any HSd.out.l.m x2.I x2.ia x2.ic (HX2.out.i.below HBd.out) HX2.out.ok (fun hn k hk => by obtain ⟨off, e⟩ := hk; have z := rowLt HX2.out.i hn e; have f := HSd.out.f; unfold PK.from at f; omega)).mono fun e w' q => by obtain ⟨⟨y, q1⟩, q2, q3⟩ := q; exact ⟨y, q1, HSd.out.l.next q2 q3 (by intro k hk; exact hk), q3⟩) fun a248 vl wl rl h247 => hK _ _ (⟨rl.2.blk hS1.1 HSd.out.nL.2.2.2.2.2, rl.2.blk hS1.2 (HSd.out.deed HDd.out).1⟩) fun hS2 => ?_
    clear hK KK
    have HSl := hid (HSd.out.left rl.1 rl.2); have HDl := hid hS2.2; have HBl := hid (sides_belowL HSd.out HBd.out rl.2); clear rl
    refine wpAnyH_done (by kernel_rfl) ?_ _
    have h249 := h247.subs (l' := [(23, _), (3, _), (0, _)]) rfl
    clear h247
    iterate 2 go_step
    have HSd := hid (HSl.out.mono (Below.refl _ _).drew); have HDd := hid (HDl.out.mono (Below.refl _ _).drew); have HBd : Hid (Below w0.heap.size w0 wl.drew) := hid (Below.drew (HBl.out))
    refine wp_region_held_drew (S := fun w' => Blk w' K.pp 39 (pairC K) ∧ Blk w' gb 30 (deedC x2)) (by kernel_rfl) ⟨HSd.out.b, HDd.out⟩ (fun hS1 => ?_)
    refine wpk_take hS1 h249 0 rfl rfl (by decide) (fr rfl) (by kernel_rfl) (by kernel_rfl) (by kernel_rfl) (fun _ _ _ _ h => h) (.pointer (some ⟨K.pp, 0, none⟩)) (Or.inl ⟨Eq.refl true, fun w1 hSw => (by show (execOp _ (⟨_, .move (.tmp 0), _, _, _, _⟩ : Oper)).run _ _ = _; exact (by unfold execOp; simp only [h249.ev 0 rfl]; exact rfl))⟩) fun a251 h250 => ?_
    refine wpk_take hS1 h250 1 rfl rfl (by decide) (fr rfl) (by kernel_rfl) (by kernel_rfl) (by kernel_rfl) (fun _ _ _ _ h => h) (.pointer (some ⟨K.pp, 0, none⟩)) (Or.inl ⟨Eq.refl true, fun w1 hSw => (by show (execOp _ (⟨_, .nilCheck (.tmp 76), _, _, _, _⟩ : Oper)).run _ _ = _; exact (by unfold execOp; simp only [h250.ev 76 rfl]; exact rfl))⟩) fun a253 h252 => ?_
    refine wpk_take hS1 h252 2 rfl rfl (by decide) (fr rfl) (by kernel_rfl) (by kernel_rfl) (by kernel_rfl) (fun _ _ _ _ h => h) (.pointer (some ⟨K.pp, 2, none⟩)) (Or.inl ⟨Eq.refl true, fun w1 hSw => (by show (execOp _ (⟨_, .fieldAddr 39 (.tmp 77) 2, _, _, _, _⟩ : Oper)).run _ _ = _; exact (by unfold execOp; simp only [h252.ev 77 rfl]; exact run_v (fa_50_0_2 (K.pp) _)))⟩) fun a255 h254 => ?_
    refine wpk_take hS1 h254 3 rfl rfl (by decide) (fr rfl) (by kernel_rfl) (by kernel_rfl) (by kernel_rfl) (fun _ _ _ _ h => h) (.pointer (some ⟨K.gr, 0, none⟩)) (Or.inl ⟨Eq.refl true, fun w1 hSw => (by show (execOp _ (⟨_, .load 36 (.tmp 78), _, _, _, _⟩ : Oper)).run _ _ = _; exact (by unfold execOp; simp only [h254.ev 78 rfl]; exact run_v (loadMR (hSw.1.cell (i := 2) (by show 2 < 4; omega)))))⟩) fun a257 h256 => ?_
    refine wpk_take hS1 h256 4 rfl rfl (by decide) (fr rfl) (by kernel_rfl) (by kernel_rfl) (by kernel_rfl) (fun _ _ _ _ h => h) (.pointer (some ⟨gb, 4, none⟩)) (Or.inl ⟨Eq.refl true, fun w1 hSw => (by show (execOp _ (⟨_, .fieldAddr 30 (.tmp 3) 4, _, _, _, _⟩ : Oper)).run _ _ = _; exact (by unfold execOp; simp only [h256.ev 3 rfl]; exact run_v (fa_1030_0_4 (gb) _)))⟩) fun a259 h258 => ?_
    refine wpk_take hS1 h258 5 rfl rfl (by decide) (fr rfl) (by kernel_rfl) (by kernel_rfl) (by kernel_rfl) (fun _ _ _ _ h => h) (.slice x2.ia x2.I.length x2.ic) (Or.inl ⟨Eq.refl true, fun w1 hSw => (by show (execOp _ (⟨_, .load 28 (.tmp 80), _, _, _, _⟩ : Oper)).run _ _ = _; exact (by unfold execOp; simp only [h258.ev 80 rfl]; exact run_v (loadIS (hSw.2.cell (i := 4) (by show 4 < 5; omega)))))⟩) fun a261 h260 => ?_
    refine wpk_only 6 rfl rfl (by kernel_rfl) fun KK hK => op_call h260 rfl (by decide) (fr rfl) (fun args => callP_1030 args _) rfl #[.pointer (some ⟨K.gr, 0, none⟩), .slice x2.ia x2.I.length x2.ic] (by simp only [List.map_toArray, List.map_cons, List.map_nil, h260.ev 79 rfl, h260.ev 81 rfl]) (R := fun v' w' => LogRP w' K.lr K.gr K.vr K.dr K.ar 512 512 (crashM M x2.I) ∧ Turns (XM K.vr K.dr K.ar) wl.drew w') ((crashR_any HSd.out.r.m x2.I x2.ia x2.ic (HX2.out.i.below HBd.out) HX2.out.ok (fun hn k hk => by obtain ⟨off, e⟩ := hk; have z := rowLt HX2.out.i hn e; have f := HSd.out.f; unfold PK.from at f; omega)).mono fun e w' q => by obtain ⟨⟨y, q1⟩, q2, q3⟩ := q; exact ⟨y, q1, HSd.out.r.next q2 q3 (by intro k hk; exact hk), q3⟩) fun a263 vr_ wr_ rr_ h262 => hK _ _ (⟨rr_.2.blk hS1.1 HSd.out.nR.2.2.2.2.2, rr_.2.blk hS1.2 (HSd.out.deed HDd.out).2⟩) fun hS2 => ?_
    clear hK KK
    have HSr := hid (HSd.out.right rr_.1 rr_.2); have HDr := hid hS2.2; have HBr := hid (sides_belowR HSd.out HBd.out rr_.2); clear rr_
    refine wpAnyH_done (by kernel_rfl) ?_ _
    have h264 := h262.subs (l' := [(23, _), (3, _), (0, _)]) rfl
    clear h262
    iterate 4 go_step
    refine wv h264 rfl rfl rfl rfl (.bool true) rfl fun a266 h265 => ?_
    iterate 4 go_step
    exact bodyPost_ret (results_tmp1 rfl (h265.known (4, .bool true) (by simp))) h265.defs ⟨crashM M x2.I, rfl, HSr.out.pair, (crashM_len (HSJ2.out.l.m.1) _), HBr.out, fun e => absurd e (by omega)⟩
  by_cases e4 : x.kind = 4
  case pos =>
    have hk0 : (x2.kind == 0) = false := by rw [hkd, e4]; rfl
    have hk1 : (x2.kind == 1) = false := by rw [hkd, e4]; rfl
    have hk2 : (x2.kind == 2) = false := by rw [hkd, e4]; rfl
    have hk3 : (x2.kind == 3) = false := by rw [hkd, e4]; rfl
    have hk4 : (x2.kind == 4) = true := by rw [hkd, e4]; rfl
    iterate 2 go_step
    refine wv hJ2 rfl rfl rfl rfl (.pointer (some ⟨gb, 0, none⟩)) (by unfold execOp; simp only [hJ2.ev 3 rfl]; exact run_v (fa_1030_0_0 (gb) _)) fun a268 h267 => ?_
    refine wv h267 rfl rfl rfl rfl (.int .i64 x2.kind) (by unfold execOp; simp only [h267.ev 22 rfl]; exact run_v (loadIP (HDJ2.out.cell (i := 0) (by show 0 < 5; omega)))) fun a270 h269 => ?_
    have h271 := h269.subs (l' := [(23, _), (3, _), (0, _)]) rfl
    clear h269
    iterate 6 go_step
    refine wv h271 rfl rfl rfl rfl (.bool false) (by unfold execOp; simp only [h271.ev 23 rfl]; exact run_v (eqIP _ _ _ _ _ hk0)) fun a273 h272 => ?_
    refine wmk h272 rfl rfl rfl rfl 25 rfl (fun _ => rfl) fun a275 h274 => ?_
    have h276 := h274.subs (l' := [(24, _), (23, _), (3, _), (0, _)]) rfl
    clear h274
    iterate 3 go_step
    refine wp_cond (t := false) (h276.ev 24 rfl) ?_
    simp only [Bool.false_eq_true, if_false]
    have h277 := h276.subs (l' := [(23, _), (3, _), (0, _)]) rfl
    clear h276
    iterate 2 go_step
    refine wv h277 rfl rfl rfl rfl (.bool false) (by unfold execOp; simp only [h277.ev 23 rfl]; exact run_v (eqIP _ _ _ _ _ hk1)) fun a279 h278 => ?_
    refine wmk h278 rfl rfl rfl rfl 43 rfl (fun _ => rfl) fun a281 h280 => ?_
    have h282 := h280.subs (l' := [(42, _), (23, _), (3, _), (0, _)]) rfl
    clear h280
    iterate 3 go_step
    refine wp_cond (t := false) (h282.ev 42 rfl) ?_
    simp only [Bool.false_eq_true, if_false]
    have h283 := h282.subs (l' := [(23, _), (3, _), (0, _)]) rfl
    clear h282
    iterate 2 go_step
    refine wv h283 rfl rfl rfl rfl (.bool false) (by unfold execOp; simp only [h283.ev 23 rfl]; exact run_v (eqIP _ _ _ _ _ hk2)) fun a285 h284 => ?_
    refine wmk h284 rfl rfl rfl rfl 55 rfl (fun _ => rfl) fun a287 h286 => ?_
    have h288 := h286.subs (l' := [(54, _), (23, _), (3, _), (0, _)]) rfl
    clear h286
    iterate 3 go_step
    refine wp_cond (t := false) (h288.ev 54 rfl) ?_
    simp only [Bool.false_eq_true, if_false]
    have h289 := h288.subs (l' := [(23, _), (3, _), (0, _)]) rfl
    clear h288
    iterate 2 go_step
    refine wv h289 rfl rfl rfl rfl (.bool false) (by unfold execOp; simp only [h289.ev 23 rfl]; exact run_v (eqIP _ _ _ _ _ hk3)) fun a291 h290 => ?_
    refine wmk h290 rfl rfl rfl rfl 68 rfl (fun _ => rfl) fun a293 h292 => ?_
    have h294 := h292.subs (l' := [(67, _), (23, _), (3, _), (0, _)]) rfl
    clear h292
    iterate 3 go_step
    refine wp_cond (t := false) (h294.ev 67 rfl) ?_
    simp only [Bool.false_eq_true, if_false]
    have h295 := h294.subs (l' := [(23, _), (3, _), (0, _)]) rfl
    clear h294
    iterate 2 go_step
    refine wv h295 rfl rfl rfl rfl (.bool true) (by unfold execOp; simp only [h295.ev 23 rfl]; exact run_v (eqIP _ _ _ _ _ hk4)) fun a297 h296 => ?_
    refine wmk h296 rfl rfl rfl rfl 84 rfl (fun _ => rfl) fun a299 h298 => ?_
    have h300 := h298.subs (l' := [(83, _), (23, _), (3, _), (0, _)]) rfl
    clear h298
    iterate 3 go_step
    refine wp_cond (t := true) (h300.ev 83 rfl) ?_
    simp only [if_true]
    have h301 := h300.subs (l' := [(23, _), (3, _), (0, _)]) rfl
    clear h300
    go_step
    have HSd := hid (HSJ2.out.mono (Below.refl _ _).drew); have HDd := hid (HDJ2.out.mono (Below.refl _ _).drew); have HBd : Hid (Below w0.heap.size w0 wJ2.drew) := hid (Below.drew (HBJ2.out))
    refine wp_region_held_drew (S := fun w' => Blk w' K.pp 39 (pairC K) ∧ Blk w' gb 30 (deedC x2)) (by kernel_rfl) ⟨HSd.out.b, HDd.out⟩ (fun hS1 => ?_)
    refine wpk_take hS1 h301 0 rfl rfl (by decide) (fr rfl) (by kernel_rfl) (by kernel_rfl) (by kernel_rfl) (fun _ _ _ _ h => h) (.pointer (some ⟨K.pp, 0, none⟩)) (Or.inl ⟨Eq.refl true, fun w1 hSw => (by show (execOp _ (⟨_, .move (.tmp 0), _, _, _, _⟩ : Oper)).run _ _ = _; exact (by unfold execOp; simp only [h301.ev 0 rfl]; exact rfl))⟩) fun a303 h302 => ?_
    refine wpk_take hS1 h302 1 rfl rfl (by decide) (fr rfl) (by kernel_rfl) (by kernel_rfl) (by kernel_rfl) (fun _ _ _ _ h => h) (.pointer (some ⟨K.pp, 0, none⟩)) (Or.inl ⟨Eq.refl true, fun w1 hSw => (by show (execOp _ (⟨_, .nilCheck (.tmp 85), _, _, _, _⟩ : Oper)).run _ _ = _; exact (by unfold execOp; simp only [h302.ev 85 rfl]; exact rfl))⟩) fun a305 h304 => ?_
    refine wpk_take hS1 h304 2 rfl rfl (by decide) (fr rfl) (by kernel_rfl) (by kernel_rfl) (by kernel_rfl) (fun _ _ _ _ h => h) (.pointer (some ⟨K.pp, 0, none⟩)) (Or.inl ⟨Eq.refl true, fun w1 hSw => (by show (execOp _ (⟨_, .fieldAddr 39 (.tmp 86) 0, _, _, _, _⟩ : Oper)).run _ _ = _; exact (by unfold execOp; simp only [h304.ev 86 rfl]; exact run_v (fa_50_0_0 (K.pp) _)))⟩) fun a307 h306 => ?_
    refine wpk_take hS1 h306 3 rfl rfl (by decide) (fr rfl) (by kernel_rfl) (by kernel_rfl) (by kernel_rfl) (fun _ _ _ _ h => h) (.pointer (some ⟨K.g, 0, none⟩)) (Or.inl ⟨Eq.refl true, fun w1 hSw => (by show (execOp _ (⟨_, .load 34 (.tmp 87), _, _, _, _⟩ : Oper)).run _ _ = _; exact (by unfold execOp; simp only [h306.ev 87 rfl]; exact run_v (loadMP (hSw.1.cell (i := 0) (by show 0 < 4; omega)))))⟩) fun a309 h308 => ?_
    refine wpk_take hS1 h308 4 rfl rfl (by decide) (fr rfl) (by kernel_rfl) (by kernel_rfl) (by kernel_rfl) (fun _ _ _ _ h => h) (.pointer (some ⟨gb, 2, none⟩)) (Or.inl ⟨Eq.refl true, fun w1 hSw => (by show (execOp _ (⟨_, .fieldAddr 30 (.tmp 3) 2, _, _, _, _⟩ : Oper)).run _ _ = _; exact (by unfold execOp; simp only [h308.ev 3 rfl]; exact run_v (fa_1030_0_2 (gb) _)))⟩) fun a311 h310 => ?_
    refine wpk_take hS1 h310 5 rfl rfl (by decide) (fr rfl) (by kernel_rfl) (by kernel_rfl) (by kernel_rfl) (fun _ _ _ _ h => h) (.int .i64 x2.at_) (Or.inl ⟨Eq.refl true, fun w1 hSw => (by show (execOp _ (⟨_, .load 3 (.tmp 89), _, _, _, _⟩ : Oper)).run _ _ = _; exact (by unfold execOp; simp only [h310.ev 89 rfl]; exact run_v (loadIP (hSw.2.cell (i := 2) (by show 2 < 5; omega)))))⟩) fun a313 h312 => ?_
    refine wpk_take hS1 h312 6 rfl rfl (by decide) (fr rfl) (by kernel_rfl) (by kernel_rfl) (by kernel_rfl) (fun _ _ _ _ h => h) (.pointer (some ⟨gb, 3, none⟩)) (Or.inl ⟨Eq.refl true, fun w1 hSw => (by show (execOp _ (⟨_, .fieldAddr 30 (.tmp 3) 3, _, _, _, _⟩ : Oper)).run _ _ = _; exact (by unfold execOp; simp only [h312.ev 3 rfl]; exact run_v (fa_1030_0_3 (gb) _)))⟩) fun a315 h314 => ?_
    refine wpk_take hS1 h314 7 rfl rfl (by decide) (fr rfl) (by kernel_rfl) (by kernel_rfl) (by kernel_rfl) (fun _ _ _ _ h => h) (.slice x2.da x2.D.length x2.dc) (Or.inl ⟨Eq.refl true, fun w1 hSw => (by show (execOp _ (⟨_, .load 27 (.tmp 91), _, _, _, _⟩ : Oper)).run _ _ = _; exact (by unfold execOp; simp only [h314.ev 91 rfl]; exact run_v (loadYP (hSw.2.cell (i := 3) (by show 3 < 5; omega)))))⟩) fun a317 h316 => ?_
    refine wpk_take hS1 h316 9 rfl rfl (by decide) (fr rfl) (by kernel_rfl) (by kernel_rfl) (by kernel_rfl) (fun _ _ _ _ h => h) (.pointer (some ⟨K.pp, 0, none⟩)) (Or.inl ⟨Eq.refl true, fun w1 hSw => (by show (execOp _ (⟨_, .move (.tmp 0), _, _, _, _⟩ : Oper)).run _ _ = _; exact (by unfold execOp; simp only [h316.ev 0 rfl]; exact rfl))⟩) fun a319 h318 => ?_
    refine wpk_take hS1 h318 10 rfl rfl (by decide) (fr rfl) (by kernel_rfl) (by kernel_rfl) (by kernel_rfl) (fun _ _ _ _ h => h) (.pointer (some ⟨K.pp, 0, none⟩)) (Or.inl ⟨Eq.refl true, fun w1 hSw => (by show (execOp _ (⟨_, .nilCheck (.tmp 94), _, _, _, _⟩ : Oper)).run _ _ = _; exact (by unfold execOp; simp only [h318.ev 94 rfl]; exact rfl))⟩) fun a321 h320 => ?_
    refine wpk_take hS1 h320 11 rfl rfl (by decide) (fr rfl) (by kernel_rfl) (by kernel_rfl) (by kernel_rfl) (fun _ _ _ _ h => h) (.pointer (some ⟨K.pp, 2, none⟩)) (Or.inl ⟨Eq.refl true, fun w1 hSw => (by show (execOp _ (⟨_, .fieldAddr 39 (.tmp 95) 2, _, _, _, _⟩ : Oper)).run _ _ = _; exact (by unfold execOp; simp only [h320.ev 95 rfl]; exact run_v (fa_50_0_2 (K.pp) _)))⟩) fun a323 h322 => ?_
    refine wpk_take hS1 h322 12 rfl rfl (by decide) (fr rfl) (by kernel_rfl) (by kernel_rfl) (by kernel_rfl) (fun _ _ _ _ h => h) (.pointer (some ⟨K.gr, 0, none⟩)) (Or.inl ⟨Eq.refl true, fun w1 hSw => (by show (execOp _ (⟨_, .load 36 (.tmp 96), _, _, _, _⟩ : Oper)).run _ _ = _; exact (by unfold execOp; simp only [h322.ev 96 rfl]; exact run_v (loadMR (hSw.1.cell (i := 2) (by show 2 < 4; omega)))))⟩) fun a325 h324 => ?_
    refine wpk_take hS1 h324 13 rfl rfl (by decide) (fr rfl) (by kernel_rfl) (by kernel_rfl) (by kernel_rfl) (fun _ _ _ _ h => h) (.pointer (some ⟨gb, 2, none⟩)) (Or.inl ⟨Eq.refl true, fun w1 hSw => (by show (execOp _ (⟨_, .fieldAddr 30 (.tmp 3) 2, _, _, _, _⟩ : Oper)).run _ _ = _; exact (by unfold execOp; simp only [h324.ev 3 rfl]; exact run_v (fa_1030_0_2 (gb) _)))⟩) fun a327 h326 => ?_
    refine wpk_take hS1 h326 14 rfl rfl (by decide) (fr rfl) (by kernel_rfl) (by kernel_rfl) (by kernel_rfl) (fun _ _ _ _ h => h) (.int .i64 x2.at_) (Or.inl ⟨Eq.refl true, fun w1 hSw => (by show (execOp _ (⟨_, .load 3 (.tmp 98), _, _, _, _⟩ : Oper)).run _ _ = _; exact (by unfold execOp; simp only [h326.ev 98 rfl]; exact run_v (loadIP (hSw.2.cell (i := 2) (by show 2 < 5; omega)))))⟩) fun a329 h328 => ?_
    refine wpk_take hS1 h328 15 rfl rfl (by decide) (fr rfl) (by kernel_rfl) (by kernel_rfl) (by kernel_rfl) (fun _ _ _ _ h => h) (.pointer (some ⟨gb, 3, none⟩)) (Or.inl ⟨Eq.refl true, fun w1 hSw => (by show (execOp _ (⟨_, .fieldAddr 30 (.tmp 3) 3, _, _, _, _⟩ : Oper)).run _ _ = _; exact (by unfold execOp; simp only [h328.ev 3 rfl]; exact run_v (fa_1030_0_3 (gb) _)))⟩) fun a331 h330 => ?_
    refine wpk_take hS1 h330 16 rfl rfl (by decide) (fr rfl) (by kernel_rfl) (by kernel_rfl) (by kernel_rfl) (fun _ _ _ _ h => h) (.slice x2.da x2.D.length x2.dc) (Or.inl ⟨Eq.refl true, fun w1 hSw => (by show (execOp _ (⟨_, .load 27 (.tmp 100), _, _, _, _⟩ : Oper)).run _ _ = _; exact (by unfold execOp; simp only [h330.ev 100 rfl]; exact run_v (loadYP (hSw.2.cell (i := 3) (by show 3 < 5; omega)))))⟩) fun a333 h332 => ?_
    refine wpk_only 8 rfl rfl (by kernel_rfl) fun KK hK => op_call h332 rfl (by decide) (fr rfl) (fun args => callP_23 args _) rfl #[.pointer (some ⟨K.g, 0, none⟩), .int .i64 x2.at_, .slice x2.da x2.D.length x2.dc] (by simp only [List.map_toArray, List.map_cons, List.map_nil, h332.ev 88 rfl, h332.ev 90 rfl, h332.ev 92 rfl]) (R := fun v' w' => v' = .int .i64 (errM M x2.at_ x2.D.length) ∧ LogP w' K.lg K.g K.v K.d K.p 512 512 (storeU M x2.at_ x2.D) ∧ Turns (XM K.v K.d K.p) wJ2.drew w') ((store_u HSd.out.l.m x2.at_ HX2.out.a x2.da x2.dc x2.D (HX2.out.d.below HBd.out)).mono fun e w' q => ⟨_, q.1, rfl, HSd.out.l.next q.2.1 q.2.2 (by intro k hk; rcases hk with e | e; exact .inl e; exact .inr (.inr e)), q.2.2.mono (by intro k hk; rcases hk with e | e; exact .inl e; exact .inr (.inr e))⟩) fun a335 vl wl rl h334 => hK _ _ (⟨rl.2.2.blk hS1.1 HSd.out.nL.2.2.2.2.2, rl.2.2.blk hS1.2 (HSd.out.deed HDd.out).1⟩) fun hS2 => ?_
    clear hK KK
    obtain ⟨rfl, l2, t2⟩ := rl; have HSl := hid (HSd.out.left l2 t2); have HDl := hid hS2.2; have HBl := hid (sides_belowL HSd.out HBd.out t2); have Tl := hid t2; clear l2 t2
    refine wpk_only 17 rfl rfl (by kernel_rfl) fun KK hK => op_call h334 rfl (by decide) (fr rfl) (fun args => callP_79 args _) rfl #[.pointer (some ⟨K.gr, 0, none⟩), .int .i64 x2.at_, .slice x2.da x2.D.length x2.dc] (by simp only [List.map_toArray, List.map_cons, List.map_nil, h334.ev 97 rfl, h334.ev 99 rfl, h334.ev 101 rfl]) (R := fun v' w' => v' = .int .i64 (errM M x2.at_ x2.D.length) ∧ LogRP w' K.lr K.gr K.vr K.dr K.ar 512 512 (storeU M x2.at_ x2.D) ∧ Turns (XM K.vr K.dr K.ar) wl w') ((storeR_u HSl.out.r.m x2.at_ HX2.out.a x2.da x2.dc x2.D (HX2.out.d.below HBl.out) (fun hn k hk => by obtain ⟨off, e⟩ := hk; have z := rowLt HX2.out.d hn e; have f := HSl.out.f; unfold PK.from at f; omega)).mono fun e w' q => ⟨_, q.1, rfl, HSl.out.r.next q.2.1 q.2.2 (by intro k hk; rcases hk with e | e; exact .inl e; exact .inr (.inr e)), q.2.2.mono (by intro k hk; rcases hk with e | e; exact .inl e; exact .inr (.inr e))⟩) fun a337 vr_ wr_ rr_ h336 => hK _ _ (⟨rr_.2.2.blk hS2.1 HSl.out.nR.2.2.2.2.2, rr_.2.2.blk hS2.2 (HSl.out.deed HDl.out).2⟩) fun hS3 => ?_
    clear hK KK
    obtain ⟨rfl, l3, t3⟩ := rr_; have HSr := hid (HSl.out.right l3 t3); have HDr := hid hS3.2; have HBr := hid (sides_belowR HSl.out HBl.out t3); clear l3 t3
    refine wpk_take hS3 h336 18 rfl rfl (by decide) (fr rfl) (by kernel_rfl) (by kernel_rfl) (by kernel_rfl) (fun _ _ _ _ h => h) (.bool true) (Or.inl ⟨Eq.refl true, fun w1 hSw => (by show (execOp _ (⟨_, .binOp .eql 33 (.tmp 93) (.tmp 102) 33, _, _, _, _⟩ : Oper)).run _ _ = _; exact (by unfold execOp; simp only [h336.ev 93 rfl, h336.ev 102 rfl]; exact run_v (eqEP _ _ _ _ _ (by simp))))⟩) fun a339 h338 => ?_
    refine wpk_take hS3 h338 19 rfl rfl (by decide) (fr rfl) (by kernel_rfl) (by kernel_rfl) (by kernel_rfl) (fun _ _ _ _ h => h) (.bool true) (Or.inl ⟨Eq.refl true, fun w1 hSw => (by show (execOp _ (⟨_, .assign (.tmp 103), _, _, _, _⟩ : Oper)).run _ _ = _; exact (by unfold execOp; simp only [h338.ev 103 rfl]; exact rfl))⟩) fun a341 h340 => ?_
    refine wpAnyH_done (by kernel_rfl) ?_ _
    have h342 := h340.subs (l' := [(4, _), (23, _), (3, _), (0, _)]) rfl
    clear h340
    iterate 3 go_step
    simp only [Exit.then, Exit.inBlock]
    exact bodyPost_ret (results_tmp1 rfl (h342.known (4, .bool true) (by simp))) h342.defs ⟨storeU M x2.at_ x2.D, rfl, HSr.out.pair, (storeU_len _ _ _), HBr.out, fun e => absurd e (by omega)⟩
  by_cases e5 : x.kind = 5
  case pos =>
    have hk0 : (x2.kind == 0) = false := by rw [hkd, e5]; rfl
    have hk1 : (x2.kind == 1) = false := by rw [hkd, e5]; rfl
    have hk2 : (x2.kind == 2) = false := by rw [hkd, e5]; rfl
    have hk3 : (x2.kind == 3) = false := by rw [hkd, e5]; rfl
    have hk4 : (x2.kind == 4) = false := by rw [hkd, e5]; rfl
    have hk5 : (x2.kind == 5) = true := by rw [hkd, e5]; rfl
    iterate 2 go_step
    refine wv hJ2 rfl rfl rfl rfl (.pointer (some ⟨gb, 0, none⟩)) (by unfold execOp; simp only [hJ2.ev 3 rfl]; exact run_v (fa_1030_0_0 (gb) _)) fun a344 h343 => ?_
    refine wv h343 rfl rfl rfl rfl (.int .i64 x2.kind) (by unfold execOp; simp only [h343.ev 22 rfl]; exact run_v (loadIP (HDJ2.out.cell (i := 0) (by show 0 < 5; omega)))) fun a346 h345 => ?_
    have h347 := h345.subs (l' := [(23, _), (3, _), (0, _)]) rfl
    clear h345
    iterate 6 go_step
    refine wv h347 rfl rfl rfl rfl (.bool false) (by unfold execOp; simp only [h347.ev 23 rfl]; exact run_v (eqIP _ _ _ _ _ hk0)) fun a349 h348 => ?_
    refine wmk h348 rfl rfl rfl rfl 25 rfl (fun _ => rfl) fun a351 h350 => ?_
    have h352 := h350.subs (l' := [(24, _), (23, _), (3, _), (0, _)]) rfl
    clear h350
    iterate 3 go_step
    refine wp_cond (t := false) (h352.ev 24 rfl) ?_
    simp only [Bool.false_eq_true, if_false]
    have h353 := h352.subs (l' := [(23, _), (3, _), (0, _)]) rfl
    clear h352
    iterate 2 go_step
    refine wv h353 rfl rfl rfl rfl (.bool false) (by unfold execOp; simp only [h353.ev 23 rfl]; exact run_v (eqIP _ _ _ _ _ hk1)) fun a355 h354 => ?_
    refine wmk h354 rfl rfl rfl rfl 43 rfl (fun _ => rfl) fun a357 h356 => ?_
    have h358 := h356.subs (l' := [(42, _), (23, _), (3, _), (0, _)]) rfl
    clear h356
    iterate 3 go_step
    refine wp_cond (t := false) (h358.ev 42 rfl) ?_
    simp only [Bool.false_eq_true, if_false]
    have h359 := h358.subs (l' := [(23, _), (3, _), (0, _)]) rfl
    clear h358
    iterate 2 go_step
    refine wv h359 rfl rfl rfl rfl (.bool false) (by unfold execOp; simp only [h359.ev 23 rfl]; exact run_v (eqIP _ _ _ _ _ hk2)) fun a361 h360 => ?_
    refine wmk h360 rfl rfl rfl rfl 55 rfl (fun _ => rfl) fun a363 h362 => ?_
    have h364 := h362.subs (l' := [(54, _), (23, _), (3, _), (0, _)]) rfl
    clear h362
    iterate 3 go_step
    refine wp_cond (t := false) (h364.ev 54 rfl) ?_
    simp only [Bool.false_eq_true, if_false]
    have h365 := h364.subs (l' := [(23, _), (3, _), (0, _)]) rfl
    clear h364
    iterate 2 go_step
    refine wv h365 rfl rfl rfl rfl (.bool false) (by unfold execOp; simp only [h365.ev 23 rfl]; exact run_v (eqIP _ _ _ _ _ hk3)) fun a367 h366 => ?_
    refine wmk h366 rfl rfl rfl rfl 68 rfl (fun _ => rfl) fun a369 h368 => ?_
    have h370 := h368.subs (l' := [(67, _), (23, _), (3, _), (0, _)]) rfl
    clear h368
    iterate 3 go_step
    refine wp_cond (t := false) (h370.ev 67 rfl) ?_
    simp only [Bool.false_eq_true, if_false]
    have h371 := h370.subs (l' := [(23, _), (3, _), (0, _)]) rfl
    clear h370
    iterate 2 go_step
    refine wv h371 rfl rfl rfl rfl (.bool false) (by unfold execOp; simp only [h371.ev 23 rfl]; exact run_v (eqIP _ _ _ _ _ hk4)) fun a373 h372 => ?_
    refine wmk h372 rfl rfl rfl rfl 84 rfl (fun _ => rfl) fun a375 h374 => ?_
    have h376 := h374.subs (l' := [(83, _), (23, _), (3, _), (0, _)]) rfl
    clear h374
    iterate 3 go_step
    refine wp_cond (t := false) (h376.ev 83 rfl) ?_
    simp only [Bool.false_eq_true, if_false]
    have h377 := h376.subs (l' := [(23, _), (3, _), (0, _)]) rfl
    clear h376
    iterate 2 go_step
    refine wv h377 rfl rfl rfl rfl (.bool true) (by unfold execOp; simp only [h377.ev 23 rfl]; exact run_v (eqIP _ _ _ _ _ hk5)) fun a379 h378 => ?_
    refine wmk h378 rfl rfl rfl rfl 105 rfl (fun _ => rfl) fun a381 h380 => ?_
    have h382 := h380.subs (l' := [(104, _), (23, _), (3, _), (0, _)]) rfl
    clear h380
    iterate 3 go_step
    refine wp_cond (t := true) (h382.ev 104 rfl) ?_
    simp only [if_true]
    have h383 := h382.subs (l' := [(23, _), (3, _), (0, _)]) rfl
    clear h382
    iterate 2 go_step
    refine wmk h383 rfl rfl rfl rfl 0 rfl (fun _ => rfl) fun a385 h384 => ?_
    refine wv h384 rfl rfl rfl rfl (.pointer (some ⟨K.pp, 0, none⟩)) (by unfold execOp; simp only [h384.ev 106 rfl]; exact rfl) fun a387 h386 => ?_
    refine wv h386 rfl rfl rfl rfl (.pointer (some ⟨K.pp, 0, none⟩)) (by unfold execOp; simp only [h386.ev 107 rfl]; exact run_v (fa_50_0_0 (K.pp) _)) fun a389 h388 => ?_
    refine wv h388 rfl rfl rfl rfl (.pointer (some ⟨K.g, 0, none⟩)) (by unfold execOp; simp only [h388.ev 108 rfl]; exact run_v (loadMP (HSJ2.out.b.cell (i := 0) (by show 0 < 4; omega)))) fun a391 h390 => ?_
    refine wpk_call h390 (wanted_none rfl) rfl (by decide) (fr rfl) (fun args => callP_76 args _) rfl #[.pointer (some ⟨K.g, 0, none⟩), .int .i64 0, .int .i64 1024] (by simp only [List.map_toArray, List.map_cons, List.map_nil, h390.ev 109 rfl]; rfl) (R := fun v' w' => LogP w' K.lg K.g K.v K.d K.p 512 512 (flushU M 0 1024) ∧ Turns (XM K.v K.d K.p) wJ2 w') ((flush_u HSJ2.out.l.m 0 1024 (by unfold i64B; omega) (by unfold i64B; omega)).mono fun e w' q => ⟨_, q.1, HSJ2.out.l.next q.2.1 q.2.2 (by intro k hk; exact .inr (.inr hk)), q.2.2.mono (by intro k hk; exact .inr (.inr hk))⟩) fun a393 vu0 u0 ru0 h392 => ?_
    have HSu0 := hid (HSJ2.out.left ru0.1 ru0.2); have HDu0 := hid (ru0.2.blk HDJ2.out (HSJ2.out.deed HDJ2.out).1); have HBu0 := hid (sides_belowL HSJ2.out (HBJ2.out) ru0.2); clear ru0
    have h394 := h392.subs (l' := [(23, _), (3, _), (0, _)]) rfl
    clear h392
    iterate 5 go_step
    refine wmk h394 rfl rfl rfl rfl 0 rfl (fun _ => rfl) fun a396 h395 => ?_
    refine wv h395 rfl rfl rfl rfl (.pointer (some ⟨K.pp, 0, none⟩)) (by unfold execOp; simp only [h395.ev 111 rfl]; exact rfl) fun a398 h397 => ?_
    refine wv h397 rfl rfl rfl rfl (.pointer (some ⟨K.pp, 2, none⟩)) (by unfold execOp; simp only [h397.ev 112 rfl]; exact run_v (fa_50_0_2 (K.pp) _)) fun a400 h399 => ?_
    refine wv h399 rfl rfl rfl rfl (.pointer (some ⟨K.gr, 0, none⟩)) (by unfold execOp; simp only [h399.ev 113 rfl]; exact run_v (loadMR (HSu0.out.b.cell (i := 2) (by show 2 < 4; omega)))) fun a402 h401 => ?_
    refine wpk_call h401 (wanted_none rfl) rfl (by decide) (fr rfl) (fun args => callP_80 args _) rfl #[.pointer (some ⟨K.gr, 0, none⟩), .int .i64 0, .int .i64 1024] (by simp only [List.map_toArray, List.map_cons, List.map_nil, h401.ev 114 rfl]; rfl) (R := fun v' w' => LogRP w' K.lr K.gr K.vr K.dr K.ar 512 512 (flushU M 0 1024) ∧ Turns (XM K.vr K.dr K.ar) u0 w') ((flushR_u HSu0.out.r.m 0 1024 (by omega) (by omega)).mono fun e w' q => ⟨_, q.1, HSu0.out.r.next q.2.1 q.2.2 (by intro k hk; exact .inr (.inr hk)), q.2.2.mono (by intro k hk; exact .inr (.inr hk))⟩) fun a404 vu1 u1 ru1 h403 => ?_
    have HSu1 := hid (HSu0.out.right ru1.1 ru1.2); have HDu1 := hid (ru1.2.blk HDu0.out (HSu0.out.deed HDu0.out).2); have HBu1 := hid (sides_belowR HSu0.out (HBu0.out) ru1.2); clear ru1
    have h405 := h403.subs (l' := [(23, _), (3, _), (0, _)]) rfl
    clear h403
    iterate 5 go_step
    refine wmk h405 rfl rfl rfl rfl 0 rfl (fun _ => rfl) fun a407 h406 => ?_
    refine wv h406 rfl rfl rfl rfl (.pointer (some ⟨K.pp, 0, none⟩)) (by unfold execOp; simp only [h406.ev 116 rfl]; exact rfl) fun a409 h408 => ?_
    refine wv h408 rfl rfl rfl rfl (.pointer (some ⟨K.pp, 0, none⟩)) (by unfold execOp; simp only [h408.ev 117 rfl]; exact run_v (fa_50_0_0 (K.pp) _)) fun a411 h410 => ?_
    refine wv h410 rfl rfl rfl rfl (.pointer (some ⟨K.g, 0, none⟩)) (by unfold execOp; simp only [h410.ev 118 rfl]; exact run_v (loadMP (HSu1.out.b.cell (i := 0) (by show 0 < 4; omega)))) fun a413 h412 => ?_
    refine wpk_call h412 (wanted_none rfl) rfl (by decide) (fr rfl) (fun args => callP_75 args _) rfl #[.pointer (some ⟨K.g, 0, none⟩)] (by simp only [List.map_toArray, List.map_cons, List.map_nil, h412.ev 119 rfl]) (R := fun v' w' => LogP w' K.lg K.g K.v K.d K.p 512 512 (fenceM (flushU M 0 1024)) ∧ Turns (XM K.v K.d K.p) u1 w') ((fence_any HSu1.out.l.m).mono fun e w' q => by obtain ⟨⟨y, q1⟩, q2, q3⟩ := q; exact ⟨y, q1, HSu1.out.l.next q2 q3 (by intro k hk; exact .inr hk), q3.mono (by intro k hk; exact .inr hk)⟩) fun a415 vu2 u2 ru2 h414 => ?_
    have HSu2 := hid (HSu1.out.left ru2.1 ru2.2); have HDu2 := hid (ru2.2.blk HDu1.out (HSu1.out.deed HDu1.out).1); have HBu2 := hid (sides_belowL HSu1.out (HBu1.out) ru2.2); clear ru2
    have h416 := h414.subs (l' := [(23, _), (3, _), (0, _)]) rfl
    clear h414
    iterate 4 go_step
    refine wmk h416 rfl rfl rfl rfl 0 rfl (fun _ => rfl) fun a418 h417 => ?_
    refine wv h417 rfl rfl rfl rfl (.pointer (some ⟨K.pp, 0, none⟩)) (by unfold execOp; simp only [h417.ev 121 rfl]; exact rfl) fun a420 h419 => ?_
    refine wv h419 rfl rfl rfl rfl (.pointer (some ⟨K.pp, 2, none⟩)) (by unfold execOp; simp only [h419.ev 122 rfl]; exact run_v (fa_50_0_2 (K.pp) _)) fun a422 h421 => ?_
    refine wv h421 rfl rfl rfl rfl (.pointer (some ⟨K.gr, 0, none⟩)) (by unfold execOp; simp only [h421.ev 123 rfl]; exact run_v (loadMR (HSu2.out.b.cell (i := 2) (by show 2 < 4; omega)))) fun a424 h423 => ?_
    refine wpk_call h423 (wanted_none rfl) rfl (by decide) (fr rfl) (fun args => callP_81 args _) rfl #[.pointer (some ⟨K.gr, 0, none⟩)] (by simp only [List.map_toArray, List.map_cons, List.map_nil, h423.ev 124 rfl]) (R := fun v' w' => LogRP w' K.lr K.gr K.vr K.dr K.ar 512 512 (fenceM (flushU M 0 1024)) ∧ Turns (XM K.vr K.dr K.ar) u2 w') ((fenceR_any HSu2.out.r.m).mono fun e w' q => by obtain ⟨⟨y, q1⟩, q2, q3⟩ := q; exact ⟨y, q1, HSu2.out.r.next q2 q3 (by intro k hk; exact .inr hk), q3.mono (by intro k hk; exact .inr hk)⟩) fun a426 vu3 u3 ru3 h425 => ?_
    have HSu3 := hid (HSu2.out.right ru3.1 ru3.2); have HDu3 := hid (ru3.2.blk HDu2.out (HSu2.out.deed HDu2.out).2); have HBu3 := hid (sides_belowR HSu2.out (HBu2.out) ru3.2); clear ru3
    have h427 := h425.subs (l' := [(23, _), (3, _), (0, _)]) rfl
    clear h425
    iterate 5 go_step
    refine wv h427 rfl rfl rfl rfl (.bool true) rfl fun a429 h428 => ?_
    iterate 4 go_step
    exact bodyPost_ret (results_tmp1 rfl (h428.known (4, .bool true) (by simp))) h428.defs ⟨fenceM (flushU M 0 1024), rfl, HSu3.out.pair, (by show (fenceM _).V.length = _; rw [fenceM_V, flushU_len]), HBu3.out, fun e => absurd e (by omega)⟩
  have hk0 : (x2.kind == 0) = false := by rw [hkd]; simpa using e0
  have hk1 : (x2.kind == 1) = false := by rw [hkd]; simpa using e1
  have hk2 : (x2.kind == 2) = false := by rw [hkd]; simpa using e2
  have hk3 : (x2.kind == 3) = false := by rw [hkd]; simpa using e3
  have hk4 : (x2.kind == 4) = false := by rw [hkd]; simpa using e4
  have hk5 : (x2.kind == 5) = false := by rw [hkd]; simpa using e5
  iterate 2 go_step
  refine wv hJ2 rfl rfl rfl rfl (.pointer (some ⟨gb, 0, none⟩)) (by unfold execOp; simp only [hJ2.ev 3 rfl]; exact run_v (fa_1030_0_0 (gb) _)) fun a431 h430 => ?_
  refine wv h430 rfl rfl rfl rfl (.int .i64 x2.kind) (by unfold execOp; simp only [h430.ev 22 rfl]; exact run_v (loadIP (HDJ2.out.cell (i := 0) (by show 0 < 5; omega)))) fun a433 h432 => ?_
  have h434 := h432.subs (l' := [(23, _), (3, _), (0, _)]) rfl
  clear h432
  iterate 6 go_step
  refine wv h434 rfl rfl rfl rfl (.bool false) (by unfold execOp; simp only [h434.ev 23 rfl]; exact run_v (eqIP _ _ _ _ _ hk0)) fun a436 h435 => ?_
  refine wmk h435 rfl rfl rfl rfl 25 rfl (fun _ => rfl) fun a438 h437 => ?_
  have h439 := h437.subs (l' := [(24, _), (23, _), (3, _), (0, _)]) rfl
  clear h437
  iterate 3 go_step
  refine wp_cond (t := false) (h439.ev 24 rfl) ?_
  simp only [Bool.false_eq_true, if_false]
  have h440 := h439.subs (l' := [(23, _), (3, _), (0, _)]) rfl
  clear h439
  iterate 2 go_step
  refine wv h440 rfl rfl rfl rfl (.bool false) (by unfold execOp; simp only [h440.ev 23 rfl]; exact run_v (eqIP _ _ _ _ _ hk1)) fun a442 h441 => ?_
  refine wmk h441 rfl rfl rfl rfl 43 rfl (fun _ => rfl) fun a444 h443 => ?_
  have h445 := h443.subs (l' := [(42, _), (23, _), (3, _), (0, _)]) rfl
  clear h443
  iterate 3 go_step
  refine wp_cond (t := false) (h445.ev 42 rfl) ?_
  simp only [Bool.false_eq_true, if_false]
  have h446 := h445.subs (l' := [(23, _), (3, _), (0, _)]) rfl
  clear h445
  iterate 2 go_step
  refine wv h446 rfl rfl rfl rfl (.bool false) (by unfold execOp; simp only [h446.ev 23 rfl]; exact run_v (eqIP _ _ _ _ _ hk2)) fun a448 h447 => ?_
  refine wmk h447 rfl rfl rfl rfl 55 rfl (fun _ => rfl) fun a450 h449 => ?_
  have h451 := h449.subs (l' := [(54, _), (23, _), (3, _), (0, _)]) rfl
  clear h449
  iterate 3 go_step
  refine wp_cond (t := false) (h451.ev 54 rfl) ?_
  simp only [Bool.false_eq_true, if_false]
  have h452 := h451.subs (l' := [(23, _), (3, _), (0, _)]) rfl
  clear h451
  iterate 2 go_step
  refine wv h452 rfl rfl rfl rfl (.bool false) (by unfold execOp; simp only [h452.ev 23 rfl]; exact run_v (eqIP _ _ _ _ _ hk3)) fun a454 h453 => ?_
  refine wmk h453 rfl rfl rfl rfl 68 rfl (fun _ => rfl) fun a456 h455 => ?_
  have h457 := h455.subs (l' := [(67, _), (23, _), (3, _), (0, _)]) rfl
  clear h455
  iterate 3 go_step
  refine wp_cond (t := false) (h457.ev 67 rfl) ?_
  simp only [Bool.false_eq_true, if_false]
  have h458 := h457.subs (l' := [(23, _), (3, _), (0, _)]) rfl
  clear h457
  iterate 2 go_step
  refine wv h458 rfl rfl rfl rfl (.bool false) (by unfold execOp; simp only [h458.ev 23 rfl]; exact run_v (eqIP _ _ _ _ _ hk4)) fun a460 h459 => ?_
  refine wmk h459 rfl rfl rfl rfl 84 rfl (fun _ => rfl) fun a462 h461 => ?_
  have h463 := h461.subs (l' := [(83, _), (23, _), (3, _), (0, _)]) rfl
  clear h461
  iterate 3 go_step
  refine wp_cond (t := false) (h463.ev 83 rfl) ?_
  simp only [Bool.false_eq_true, if_false]
  have h464 := h463.subs (l' := [(23, _), (3, _), (0, _)]) rfl
  clear h463
  iterate 2 go_step
  refine wv h464 rfl rfl rfl rfl (.bool false) (by unfold execOp; simp only [h464.ev 23 rfl]; exact run_v (eqIP _ _ _ _ _ hk5)) fun a466 h465 => ?_
  refine wmk h465 rfl rfl rfl rfl 105 rfl (fun _ => rfl) fun a468 h467 => ?_
  have h469 := h467.subs (l' := [(104, _), (23, _), (3, _), (0, _)]) rfl
  clear h467
  iterate 3 go_step
  refine wp_cond (t := false) (h469.ev 104 rfl) ?_
  simp only [Bool.false_eq_true, if_false]
  have h470 := h469.subs (l' := [(23, _), (3, _), (0, _)]) rfl
  clear h469
  iterate 5 go_step
  refine wv h470 rfl rfl rfl rfl (.bool true) rfl fun a472 h471 => ?_
  iterate 4 go_step
  exact bodyPost_ret (results_tmp1 rfl (h471.known (4, .bool true) (by simp))) h471.defs ⟨M, rfl, HSJ2.out.pair, (rfl), HBJ2.out, fun e => absurd e (by omega)⟩
end Go.Proofs.YtkhhoognemjibaaGreatDoor
