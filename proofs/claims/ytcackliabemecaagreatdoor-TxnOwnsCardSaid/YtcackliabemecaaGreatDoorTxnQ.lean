/- Both sides of a transaction: words for does and like. -/
import Derived.Test.YtcackliabemecaaGreatDoorTxnR
import Derived.Test.YtcackliabemecaaGreatDoorPlgXr
namespace Go.Proofs.YtcackliabemecaaGreatDoor
open Go.RowKit
set_option linter.unusedSimpArgs false
set_option linter.unusedVariables false
set_option maxRecDepth 100000

theorem Code.wp_weak {P : Program} {c : Code} {Q Q' : Exit → Act → World → Prop} {a : Act} {w : World} (h : c.wp P Q a w) (k : ∀ e a w, Q e a w → Q' e a w) : c.wp P Q' a w := fun b kk cs => by
  obtain ⟨e, a', w', hq, har⟩ := h b kk cs
  exact ⟨e, a', w', k _ _ _ hq, har⟩
theorem wp_join {P : Program} {c y : Code} {Q : Exit → Act → World → Prop} {a : Act} {w : World} (J : Act → World → Prop) (h1 : c.wp P (Exit.then J Q) a w) (h2 : ∀ a' w', J a' w' → y.wp P Q a' w') : (Code.seq c y).wp P Q a w :=
  wp_seq (Code.wp_weak h1 fun e a w hq => by
    cases e with
    | normal => exact h2 _ _ hq
    | _ => exact hq)
theorem rowI_take {w : World} {a : Option Addr} {c : Nat} {xs : List Int} (h : RowI w a c xs) (n : Nat) : RowI w a c (xs.take n) := by
  obtain ⟨h1, h2, h3, h4, h5⟩ := h
  have hl : (xs.take n).length ≤ xs.length := by rw [List.length_take]; omega
  refine ⟨by simp, by omega, h3, h4, fun hp => ?_⟩
  obtain ⟨b, off, e, hlt, hc⟩ := h5 (by omega)
  refine ⟨b, off, e, hlt, fun j u hu => hc j u ?_⟩
  rw [List.map_take] at hu
  rw [List.getElem?_take] at hu
  split at hu
  · exact hu
  · cases hu
theorem rowLt {w : World} {sz n c : Nat} {a : Option Addr} {cs : List Value} (h : Row w sz a n c cs) (hn : 0 < n) {b off : Nat} (e : a = some ⟨b, off, none⟩) : b < w.heap.size := by
  obtain ⟨b', off', e', hlt, _⟩ := h.2.2.2.2 hn
  rw [e] at e'
  cases e'
  exact hlt
theorem loadIS {w : World} {g off : Nat} {a : Option Addr} {n c : Nat} (h : w.cell? ⟨g, off, none⟩ = some (.slice a n c)) : (Instr.loadAt 27 (.pointer (some ⟨g, off, none⟩))).run Tryz.prog w = .ok (.slice a n c) w := by
  have u3 := Tryz.underlying27
  have a3 := Tryz.isAgg27
  have z3 := Tryz.sizeOf27
  go_simp
theorem storeIS {w : World} {g off : Nat} {u : Value} (h : w.cell? ⟨g, off, none⟩ = some u) (hz : w.frozen? ⟨g, off, none⟩ = false) (a : Option Addr) (n c : Nat) : (Instr.storeAt 27 (.pointer (some ⟨g, off, none⟩)) (.slice a n c)).run Tryz.prog w = .ok () (w.setCell ⟨g, off, none⟩ (.slice a n c)) := by
  have u3 := Tryz.underlying27
  have a3 := Tryz.isAgg27
  have z3 := Tryz.sizeOf27
  go_simp
theorem storeYP {w : World} {g off : Nat} {u : Value} (h : w.cell? ⟨g, off, none⟩ = some u) (hz : w.frozen? ⟨g, off, none⟩ = false) (a : Option Addr) (n c : Nat) : (Instr.storeAt 26 (.pointer (some ⟨g, off, none⟩)) (.slice a n c)).run Tryz.prog w = .ok () (w.setCell ⟨g, off, none⟩ (.slice a n c)) := by
  have u3 := Tryz.underlying26
  have a3 := Tryz.isAgg26
  have z3 := Tryz.sizeOf26
  go_simp
theorem run_lenIS {o : Oper} {x : Operand} (ho : o.op = .call { callee := .builtin .len, args := #[x], argTypes := #[27] }) {ρ : Operand → Value} {a : Option Addr} {n c : Nat} (hx : ρ x = .slice a n c) (w : World) : (execOp ρ o).run Tryz.prog w = .ok (.value (.int .i64 (n : Int))) w := by
  unfold execOp; rw [ho]
  have u3 := Tryz.underlying27
  simp [resolve, invoke, builtin, hx]
  go_simp
theorem szI (w : World) : (sizeOf 3).run Tryz.prog w = .ok 1 w := by kernel_rfl
theorem elI : Tryz.prog.elem 27 = 3 := by kernel_rfl
theorem unI : Tryz.prog.underlying 27 = some (.slice (Tryz.prog.elem 27)) := by rw [elI]; exact Tryz.underlying27
theorem sliceHI {w : World} {a : Option Addr} {c : Nat} {xs : List Int} (r : RowI w a c xs) (hi : Nat) (h2 : hi ≤ xs.length) (W : World) : (Instr.sliceAt 27 (.slice a xs.length c) none (some (.int .i64 (hi : Int))) none).run Tryz.prog W = .ok (.slice a hi c) W := by
  have hc := r.2.1
  rw [run_sliceAt_slice W _ _ _ _ _ unI, run_slice_h W _ _ _ _ unI _ _ (by omega) (by omega), elI, szI]
  show Result.ok (sliced _ _ _ _ _) W = _
  rw [Int.toNat_natCast]
  unfold sliced
  simp only [Nat.sub_zero, Nat.zero_mul]
  split
  · rfl
  · cases a with
    | none => rfl
    | some p => simp [Addr.add]
theorem own_turns_ne {X : Nat → Prop} {w w' : World} {B : Nat} {e : TypeId} {sz : Nat} {a : Option Addr} {n c : Nat} {cs : List Value} (h : Own w B e sz a n c cs) (t : Turns X w w') (hx : ∀ k, X k → obA a ≠ some k) : Own w' B e sz a n c cs := by
  refine ⟨h.1, ?_⟩
  rcases h.2 with hn | ⟨b, cap, cur, hv, hb, hh, rest⟩
  · exact .inl hn
  · cases hv
    exact .inr ⟨b, c, cur, rfl, hb, (t.block b (Array.getElem?_eq_some_iff.1 hh).1 (fun q => hx b q rfl)).trans hh, rest⟩
theorem own_obl {w : World} {B : Nat} {e : TypeId} {sz : Nat} {a : Option Addr} {n c : Nat} {cs : List Value} (h : Own w B e sz a n c cs) : ∀ k, obA a = some k → k < w.heap.size := fun k hk => (World.ownsRow.lt h k (by rw [obA_slice]; exact hk)).2
def ApartA (a b : Option Addr) : Prop := ∀ k, obA a = some k → obA b ≠ some k
theorem ApartA.symm {a b : Option Addr} (h : ApartA a b) : ApartA b a := fun k h1 h2 => h k h2 h1
theorem ApartA.grow {w : World} {a b a' : Option Addr} (h : ApartA a b) (g : WhereA w a a') (hl : ∀ k, obA b = some k → k < w.heap.size) : ApartA a' b := fun k h1 h2 => by
  rcases g with g | ⟨q, g1, g2⟩
  · exact h k (g.symm.trans h1) h2
  · have := hl k h2; rw [g1] at h1; cases h1; omega
theorem eqPnT (x y : Operand) (q : Addr) (w : World) : (do eqGuard .eql 23 x y (.pointer (some q)) (.pointer none); binOp .eql 23 (.pointer (some q)) (.pointer none) : Sem Value).run Tryz.prog w = .ok (.bool false) w := by
  have u3 := Tryz.underlying23
  have a3 := Tryz.isAgg23
  have z3 := Tryz.sizeOf23
  go_simp
theorem loadTP {w : World} {g off : Nat} {q : Addr} (h : w.cell? ⟨g, off, none⟩ = some (.pointer (some q))) : (Instr.loadAt 36 (.pointer (some ⟨g, off, none⟩))).run Tryz.prog w = .ok (.pointer (some q)) w := by
  have u3 := Tryz.underlying36
  have a3 := Tryz.isAgg36
  have z3 := Tryz.sizeOf36
  go_simp
structure DeedT where
  kind : Int
  at_ : Int
  n : Int
  da : Option Addr
  dc : Nat
  D : List UInt8
  ia : Option Addr
  ic : Nat
  I : List Int
def deedC (x : DeedT) : List Value := [.int .i64 x.kind, .int .i64 x.at_, .int .i64 x.n, .slice x.da x.D.length x.dc, .slice x.ia x.I.length x.ic]
theorem deedC_one (x : DeedT) : ∀ v ∈ deedC x, v.oneCell' = true := by intro v hv; simp [deedC] at hv; rcases hv with rfl | rfl | rfl | rfl | rfl <;> rfl
theorem infoDeed : (Tryz.prog.info? 29).map (·.size) = some 5 := by kernel_rfl
structure DeedIn (W : World) (x : DeedT) : Prop where
  d : RowB W x.da x.dc x.D
  i : RowI W x.ia x.ic x.I
  ok : intsOk x.I
  a : i64B x.at_
  n : i64B x.n
theorem wpl_boxD9 {w : World} {ops : Array Oper} {rest : List Oper} {o : Oper} {act : Act} {Q : Exit → Act → World → Prop} (hgd : o.guard = none) {y : Operand} (ho : o.op = .box 29 y) (x : DeedT) (hy : act.eval y = .agg (deedC x).toArray)
    (h : ∀ gb w', gb = w.heap.size ∧ Blk w' gb 29 (deedC x) → Below w.heap.size w w' → wpList Tryz.prog ops Q rest (act.put o.dst (.pointer (some ⟨gb, 0, none⟩))) w') : wpList Tryz.prog ops Q (o :: rest) act w := by
  have hrun : (execOp act.eval o).run Tryz.prog w = .ok (.value (.pointer (some ⟨w.heap.size, 0, none⟩))) (w.alloc (.cells (deedC x).toArray 29)) := by
    unfold execOp; rw [ho]; simp only [hy]; rfl
  exact wpl_runTo hgd _ _ hrun (h _ _ ⟨rfl, blk_newO rfl _ _⟩ (albO _ _))
theorem deed_cut3 (x : DeedT) (h : 260 < x.D.length) : deedC { x with D := x.D.take 260 } = (deedC x).set 3 (.slice x.da 260 x.dc) := by
  have : (x.D.take 260).length = 260 := by rw [List.length_take]; omega
  unfold deedC
  dsimp only
  rw [this]; rfl
theorem deed_cut4 (x : DeedT) (h : 200 < x.I.length) : deedC { x with I := x.I.take 200 } = (deedC x).set 4 (.slice x.ia 200 x.ic) := by
  have : (x.I.take 200).length = 200 := by rw [List.length_take]; omega
  unfold deedC
  dsimp only
  rw [this]; rfl
theorem deed_keep3 (x : DeedT) (h : x.D.length ≤ 260) : { x with D := x.D.take 260 } = x := by rw [List.take_of_length_le h]
theorem deed_keep4 (x : DeedT) (h : x.I.length ≤ 200) : { x with I := x.I.take 200 } = x := by rw [List.take_of_length_le h]
theorem crashM_len {M : MemM} (h : M.ok) (P : List Int) : (crashM M P).V.length = M.V.length := by
  show (crashD M P).length = _
  rw [crashD_len]; exact h.1
/-- what a deed makes of the memory, of the patches -/
def doM (x : DeedT) (M : MemM) (P : List PtM) : MemM := if x.kind = 1 then comM M P else if x.kind = 3 then crashM M (x.I.take 200) else if x.kind = 4 then storeU M x.at_ (x.D.take 260) else M
def doP (x : DeedT) (M : MemM) (P : List PtM) : List PtM := if x.kind = 0 then putT M P x.at_ (x.D.take 260) else if x.kind = 1 then comP M P else if x.kind = 2 then [] else P
theorem doM_len {x : DeedT} {M : MemM} {P : List PtM} (h : M.ok) : (doM x M P).V.length = M.V.length := by
  unfold doM
  split
  · exact comM_len M P
  · split
    · exact crashM_len h _
    · split
      · exact storeU_len _ _ _
      · rfl
theorem doP_ok {x : DeedT} {M : MemM} {P : List PtM} (h : M.ok) (k : TxOk M P) : TxOk (doM x M P) (doP x M P) := by
  have hl := doM_len (x := x) (P := P) h
  by_cases h0 : x.kind = 0
  · have e : doM x M P = M := by unfold doM; rw [if_neg (by omega), if_neg (by omega), if_neg (by omega)]
    rw [e]; unfold doP; rw [if_pos h0]; exact k.put _ _
  by_cases h1 : x.kind = 1
  · unfold doM doP; rw [if_pos h1, if_neg h0, if_pos h1]; exact k.com
  by_cases h2 : x.kind = 2
  · unfold doP; rw [if_neg h0, if_neg h1, if_pos h2]; exact TxOk.nil _
  · refine TxOk.congr (M := M) ?_ hl
    unfold doP; rw [if_neg h0, if_neg h1, if_neg h2]; exact k
def XL (K : TK) (ta : Option Addr) (k : Nat) : Prop := XM K.v K.d K.p k ∨ k = K.tg ∨ some k = obA ta
def XR (K : TK) (ra : Option Addr) (k : Nat) : Prop := XM K.vr K.dr K.ar k ∨ k = K.dt ∨ some k = obA ra
def XT (K : TK) (ta ra : Option Addr) (k : Nat) : Prop := XL K ta k ∨ XR K ra k
/-- both sides, each as it is -/
structure SideT (w : World) (B : Nat) (K : TK) (ta : Option Addr) (tc : Nat) (ra : Option Addr) (rc : Nat) (M : MemM) (P : List PtM) (N : MemM) (R : List PtM) : Prop where
  t : TxP w B K.pp K.tg K.g K.lg K.v K.d K.p K.dt K.gr ta tc M P
  r : LogRP w K.lr K.gr K.vr K.dr K.ar 512 512 N
  d : Blk w K.dt 56 (txC K.gr K.lr ra R.length rc)
  o : OwnPt w B ra rc R
  x : ApartA ta ra
  k : K.ord 0 B
section
variable {w w' : World} {B : Nat} {K : TK} {ta ra : Option Addr} {tc rc : Nat} {M N : MemM} {P R : List PtM}
theorem SideT.mono (h : SideT w B K ta tc ra rc M P N R) (b : Below w.heap.size w w') : SideT w' B K ta tc ra rc M P N R := ⟨h.t.mono b, h.r.mono b, h.d.mono b, Own.mono h.o b, h.x, h.k⟩
theorem SideT.xl (h : SideT w B K ta tc ra rc M P N R) : ∀ k, XL K ta k → k < w.heap.size ∧ (k ≤ K.tg ∨ B ≤ k ∧ obA ta = some k) := fun k hk => by
  obtain ⟨o1, o2, o3, o4, o5, o6, o7, o8, o9, o10, o11, o12⟩ := h.k
  have hb := h.t.b
  rcases hk with (e | e | e) | e | e
  · omega
  · omega
  · omega
  · omega
  · exact ⟨own_obl h.t.o k e.symm, .inr ⟨own_ob h.t.o k e.symm, e.symm⟩⟩
theorem SideT.xr (h : SideT w B K ta tc ra rc M P N R) : ∀ k, XR K ra k → k < w.heap.size ∧ (K.tg < k ∧ k < K.pp ∧ k ≠ K.gr ∧ k ≠ K.lr ∨ k < B ∧ K.tg < k ∧ k < K.pp ∨ B ≤ k ∧ obA ra = some k) := fun k hk => by
  obtain ⟨o1, o2, o3, o4, o5, o6, o7, o8, o9, o10, o11, o12⟩ := h.k
  have hb := h.t.b
  rcases hk with (e | e | e) | e | e
  · omega
  · omega
  · omega
  · omega
  · exact ⟨own_obl h.o k e.symm, .inr (.inr ⟨own_ob h.o k e.symm, e.symm⟩)⟩
theorem SideT.left {ta2 : Option Addr} {tc2 : Nat} {M2 : MemM} {P2 : List PtM} (h : SideT w B K ta tc ra rc M P N R) (t : TxP w' B K.pp K.tg K.g K.lg K.v K.d K.p K.dt K.gr ta2 tc2 M2 P2) (T : Turns (XL K ta) w w') (hw : WhereA w ta ta2 ∨ ta2 = none) : SideT w' B K ta2 tc2 ra rc M2 P2 N R := by
  have ok := h.k
  obtain ⟨o1, o2, o3, o4, o5, o6, o7, o8, o9, o10, o11, o12⟩ := h.k
  have f : ∀ k, K.tg < k → k < B → ¬ XL K ta k := fun k h1 h2 hk => by
    rcases (h.xl k hk).2 with e | e <;> omega
  refine ⟨t, logRP_turns h.r T (f _ (by omega) (by omega)) (f _ (by omega) (by omega)) (f _ (by omega) (by omega)) (f _ (by omega) (by omega)) (f _ (by omega) (by omega)), T.blk h.d (f _ (by omega) (by omega)), own_turns_ne h.o T (fun k hk e => ?_), ?_, ok⟩
  · rcases (h.xl k hk).2 with q | ⟨_, q⟩
    · have := own_ob h.o k e; omega
    · exact h.x k q e
  · rcases hw with g | rfl
    · exact h.x.grow g (own_obl h.o)
    · intro k hk; cases hk
theorem SideT.right {ra2 : Option Addr} {rc2 : Nat} {N2 : MemM} {R2 : List PtM} (h : SideT w B K ta tc ra rc M P N R) (r : LogRP w' K.lr K.gr K.vr K.dr K.ar 512 512 N2) (d : Blk w' K.dt 56 (txC K.gr K.lr ra2 R2.length rc2)) (o : OwnPt w' B ra2 rc2 R2) (T : Turns (XR K ra) w w') (hw : WhereA w ra ra2 ∨ ra2 = none) : SideT w' B K ta tc ra2 rc2 M P N2 R2 := by
  have ok := h.k
  obtain ⟨o1, o2, o3, o4, o5, o6, o7, o8, o9, o10, o11, o12⟩ := h.k
  have f : ∀ k, k ≤ K.tg → ¬ XR K ra k := fun k h1 hk => by
    rcases (h.xr k hk).2 with e | e | e <;> omega
  have fp : ¬ XR K ra K.pp := fun hk => by
    rcases (h.xr _ hk).2 with e | e | e <;> omega
  refine ⟨⟨logP_turns h.t.l T (f _ (by omega)) (f _ (by omega)) (f _ (by omega)) (f _ (by omega)) (f _ (by omega)), T.blk h.t.t (f _ (by omega)), own_turns_ne h.t.o T (fun k hk e => ?_), T.blk h.t.q fp, Nat.le_trans h.t.b T.size, h.t.n⟩, r, d, o, ?_, ok⟩
  · rcases (h.xr k hk).2 with q | q | ⟨_, q⟩
    · have := own_ob h.t.o k e; omega
    · have := own_ob h.t.o k e; omega
    · exact h.x k e q
  · rcases hw with g | rfl
    · exact (h.x.symm.grow g (own_obl h.t.o)).symm
    · intro k hk e; cases e
theorem SideT.rm (h : SideT w B K ta tc ra rc M P N R) {N2 : MemM} (r : LogRP w' K.lr K.gr K.vr K.dr K.ar 512 512 N2) (T : Turns (XM K.vr K.dr K.ar) w w') : SideT w' B K ta tc ra rc M P N2 R := by
  have hT : Turns (XR K ra) w w' := T.mono (fun k hk => .inl hk)
  obtain ⟨o1, o2, o3, o4, o5, o6, o7, o8, o9, o10, o11, o12⟩ := h.k
  refine h.right r (T.blk h.d (fun e => by unfold XM at e; omega)) (T.own h.o (fun k hk => by unfold XM at hk; omega)) hT (.inl (.inl rfl))
theorem SideT.lm (h : SideT w B K ta tc ra rc M P N R) {M2 : MemM} (l : LogP w' K.lg K.g K.v K.d K.p 512 512 M2) (T : Turns (XM K.v K.d K.p) w w') : SideT w' B K ta tc ra rc M2 P N R := by
  have hT : Turns (XL K ta) w w' := T.mono (fun k hk => .inl hk)
  obtain ⟨o1, o2, o3, o4, o5, o6, o7, o8, o9, o10, o11, o12⟩ := h.k
  refine h.left ⟨l, T.blk h.t.t (fun e => by unfold XM at e; omega), T.own h.t.o (fun k hk => by unfold XM at hk; omega), T.blk h.t.q (fun e => by unfold XM at e; omega), Nat.le_trans h.t.b T.size, h.t.n⟩ hT (.inl (.inl rfl))
theorem SideT.lt (h : SideT w B K ta tc ra rc M P N R) : ∀ k, XT K ta ra k → k < w.heap.size := fun k hk => hk.elim (fun e => (h.xl k e).1) (fun e => (h.xr k e).1)
theorem SideT.high (h : SideT w B K ta tc ra rc M P N R) {A : Nat} (hA : K.ord A B) : ∀ k, XT K ta ra k → A ≤ k := fun k hk => by
  obtain ⟨o1, o2, o3, o4, o5, o6, o7, o8, o9, o10, o11, o12⟩ := hA
  rcases hk with e | e
  · rcases e with (e | e | e) | e | e
    · omega
    · omega
    · omega
    · omega
    · have := own_ob h.t.o k e.symm; omega
  · rcases e with (e | e | e) | e | e
    · omega
    · omega
    · omega
    · omega
    · have := own_ob h.o k e.symm; omega
/-- the code's side: a store, a commit, a drop -/
theorem SideT.storeL (h : SideT w B K ta tc ra rc M P N R) (hM : M.V.length ≤ 1048576) (hP : P.length ≤ 64) {a : Option Addr} {c : Nat} {xs : List UInt8} (h0 : RowB w a c xs) (hx : xs.length ≤ 1000000) {at_ : Int} (ha : i64B at_) :
    Calls Tryz.prog 20 #[.pointer (some ⟨K.tg, 0, none⟩), .int .i64 at_, .slice a xs.length c] w fun e w' => e = .returned (.int .i64 (errT M P at_ xs.length)) ∧ ∃ ta2 tc2, SideT w' B K ta2 tc2 ra rc M (putT M P at_ xs) N R ∧ Turns (XL K ta) w w' := by
  obtain ⟨n1, n2, n3, n4, n5, n6, n7⟩ := h.t.n
  refine (storeT_any2 h.t.l.m h.t.t h.t.o h.t.b (by omega) hM h0 ha hP (by omega)).mono ?_
  rintro e w' ⟨rfl, ta2, tc2, k1, k2, t, wh⟩
  have f : ∀ k, k < B → k ≠ K.tg → ¬ (k = K.tg ∨ some k = obA ta) := fun k hk hx hy => by
    rcases hy with e | e
    · exact hx e
    · have := own_ob h.t.o k e.symm; omega
  have T : Turns (XL K ta) w w' := t.mono (fun k hk => .inr hk)
  exact ⟨rfl, ta2, tc2, h.left ⟨logP_turns h.t.l t (f _ (by omega) (by omega)) (f _ (by omega) (by omega)) (f _ (by omega) (by omega)) (f _ (by omega) (by omega)) (f _ (by omega) (by omega)), k1, k2, t.blk h.t.q (f _ (by omega) (by omega)), Nat.le_trans h.t.b t.size, h.t.n⟩ T (.inl wh), T⟩
theorem SideT.storeR (h : SideT w B K ta tc ra rc M P N R) (hM : N.V.length ≤ 1048576) (hP : R.length ≤ 64) {a : Option Addr} {c : Nat} {xs : List UInt8} (h0 : RowB w a c xs) (hx : xs.length ≤ 1000000) {at_ : Int} (ha : i64B at_) :
    Calls Tryz.prog 21 #[.pointer (some ⟨K.dt, 0, none⟩), .int .i64 at_, .slice a xs.length c] w fun e w' => e = .returned (.int .i64 (errT N R at_ xs.length)) ∧ ∃ ra2 rc2, SideT w' B K ta tc ra2 rc2 M P N (putT N R at_ xs) ∧ Turns (XR K ra) w w' := by
  obtain ⟨o1, o2, o3, o4, o5, o6, o7, o8, o9, o10, o11, o12⟩ := h.k
  refine (storeR9_any h.r.m h.d h.o h.t.b (by omega) hM h0 ha hP (by omega)).mono ?_
  rintro e w' ⟨rfl, ra2, rc2, k1, k2, t, wh⟩
  have f : ∀ k, k < B → k ≠ K.dt → ¬ (k = K.dt ∨ some k = obA ra) := fun k hk hx hy => by
    rcases hy with e | e
    · exact hx e
    · have := own_ob h.o k e.symm; omega
  have T : Turns (XR K ra) w w' := t.mono (fun k hk => .inr hk)
  exact ⟨rfl, ra2, rc2, h.right (logRP_turns h.r t (f _ (by omega) (by omega)) (f _ (by omega) (by omega)) (f _ (by omega) (by omega)) (f _ (by omega) (by omega)) (f _ (by omega) (by omega))) k1 k2 T (.inl wh), T⟩
theorem commitT_where {w : World} {tg g lg v d p tc B : Nat} {ta : Option Addr} {M : MemM} {P : List PtM} (hl : LogP w lg g v d p 512 512 M) (hok : LogOk 512 512 M) (hb : Blk w tg 69 (txC g lg ta P.length tc)) (hr : RowPt w ta tc P) (k1 : tg ≠ lg) (k2 : tg ≠ g) (k3 : tg ≠ v) (k4 : tg ≠ d) (k5 : tg ≠ p) (hn : P.length ≤ 64) (okp : okPts P) (ho : OwnPt w B ta tc P) (hX : tg < B ∧ v < B ∧ d < B ∧ p < B) : Calls Tryz.prog 13 #[.pointer (some ⟨tg, 0, none⟩)] w fun e w' => e = .returned (.int .i64 (comE M P)) ∧ ∃ ta2 tc2, LogP w' lg g v d p 512 512 (comM M P) ∧ Blk w' tg 69 (txC g lg ta2 (comP M P).length tc2) ∧ OwnPt w' B ta2 tc2 (comP M P) ∧ Turns (fun k => XM v d p k ∨ k = tg) w w' ∧ (ta2 = ta ∨ ta2 = none) := by
  by_cases h0 : P = []
  · refine (commitT_nil hb h0).mono fun e w' q => ?_
    unfold comE comM comP
    rw [if_pos h0, if_pos h0, if_pos h0]
    refine ⟨q.1, ta, tc, logP_turns hl q.2.2 (fun e => k1 e.symm) (fun e => k2 e.symm) (fun e => k3 e.symm) (fun e => k4 e.symm) (fun e => k5 e.symm), ?_, ?_, q.2.2.mono (fun k e => .inr e), .inl rfl⟩
    · have z := q.2.1; rw [h0] at z; exact z
    · have z := q.2.2.own ho (fun k e => by have := hX.1; omega); rw [h0] at z; exact z
  by_cases hE : appE M 512 512 P = 0
  · refine (commitT_ok (B := B) hl hok hb hr k1 k2 k3 k4 k5 hn okp h0 hE).mono fun e w' q => ?_
    unfold comE comM comP
    rw [if_neg h0, if_neg h0, if_neg h0, if_pos hE, if_pos hE, hE]
    exact ⟨q.1, none, 0, q.2.1, q.2.2.1, Own.nil _ _ _ _, q.2.2.2, .inr rfl⟩
  · refine (commitT_err (B := B) hl hok hb hr k1 k2 k3 k4 k5 hn okp h0 hE).mono fun e w' q => ?_
    unfold comE comM comP
    rw [if_neg h0, if_neg h0, if_neg h0, if_neg hE, if_neg hE]
    refine ⟨q.1, ta, tc, ?_, q.2.2.1, q.2.2.2.own ho (fun k e => by obtain ⟨_, h1, h2, h3⟩ := hX; rcases e with e | e | e <;> omega), q.2.2.2.mono (fun k e => .inl e), .inl rfl⟩
    have z := q.2.1
    rw [appM_err hE] at z
    exact z
theorem SideT.commitL (h : SideT w B K ta tc ra rc M P N R) (hok : LogOk 512 512 M) (hx : TxOk M P) :
    Calls Tryz.prog 13 #[.pointer (some ⟨K.tg, 0, none⟩)] w fun e w' => e = .returned (.int .i64 (comE M P)) ∧ ∃ ta2 tc2, SideT w' B K ta2 tc2 ra rc (comM M P) (comP M P) N R ∧ Turns (XL K ta) w w' := by
  obtain ⟨n1, n2, n3, n4, n5, n6, n7⟩ := h.t.n
  refine (commitT_where (B := B) h.t.l hok h.t.t h.t.o.row (by omega) (by omega) (by omega) (by omega) (by omega) hx.n (hx.pts hok.v).1 h.t.o ⟨by omega, by omega, by omega, by omega⟩).mono ?_
  rintro e w' ⟨rfl, ta2, tc2, k0, k1, k2, t, wh⟩
  have T : Turns (XL K ta) w w' := t.mono (fun k hk => hk.elim .inl (fun e => .inr (.inl e)))
  exact ⟨rfl, ta2, tc2, h.left ⟨k0, k1, k2, t.blk h.t.q (by unfold XM; omega), Nat.le_trans h.t.b t.size, h.t.n⟩ T (wh.elim (fun e => .inl (.inl (by rw [e]))) .inr), T⟩
theorem SideT.commitR (h : SideT w B K ta tc ra rc M P N R) (hok : LogOk 512 512 N) (hx : TxOk N R) :
    Calls Tryz.prog 22 #[.pointer (some ⟨K.dt, 0, none⟩)] w fun e w' => e = .returned (.int .i64 (comE N R)) ∧ ∃ ra2 rc2, SideT w' B K ta tc ra2 rc2 M P (comM N R) (comP N R) ∧ Turns (XR K ra) w w' := by
  obtain ⟨o1, o2, o3, o4, o5, o6, o7, o8, o9, o10, o11, o12⟩ := h.k
  refine (comR9_any (B := B) h.r hok h.d h.o.row (by omega) (by omega) (by omega) (by omega) (by omega) hx.n (hx.pts hok.v).1 h.o ⟨by omega, by omega, by omega, by omega⟩).mono ?_
  rintro e w' ⟨rfl, ra2, rc2, k0, k1, k2, t, wh⟩
  have T : Turns (XR K ra) w w' := t.mono (fun k hk => hk.elim .inl (fun e => .inr (.inl e)))
  exact ⟨rfl, ra2, rc2, h.right k0 k1 k2 T (wh.elim (fun e => .inl (.inl (by rw [e]))) .inr), T⟩
theorem SideT.dropL (h : SideT w B K ta tc ra rc M P N R) :
    Calls Tryz.prog 12 #[.pointer (some ⟨K.tg, 0, none⟩)] w fun e w' => ∃ x, e = .returned x ∧ SideT w' B K none 0 ra rc M [] N R ∧ Turns (XL K ta) w w' := by
  obtain ⟨n1, n2, n3, n4, n5, n6, n7⟩ := h.t.n
  refine (drop_any h.t.t).mono ?_
  rintro e w' ⟨⟨x, rfl⟩, k1, t⟩
  have T : Turns (XL K ta) w w' := t.mono (fun k hk => .inr (.inl hk))
  exact ⟨x, rfl, h.left ⟨logP_turns h.t.l t (by omega) (by omega) (by omega) (by omega) (by omega), k1, Own.nil _ _ _ _, t.blk h.t.q (by omega), Nat.le_trans h.t.b t.size, h.t.n⟩ T (.inr rfl), T⟩
theorem SideT.dropR (h : SideT w B K ta tc ra rc M P N R) (hw : w' = w.setCell ⟨K.dt, 2, none⟩ (.slice none 0 0)) : SideT w' B K ta tc none 0 M P N [] ∧ Turns (XR K ra) w w' := by
  have t : Turns (fun k => k = K.dt) w w' := by rw [hw]; exact (Turns.refl (fun k => k = K.dt) w).setCell (p := ⟨K.dt, 2, none⟩) rfl _
  have T : Turns (XR K ra) w w' := t.mono (fun k hk => .inr (.inl hk))
  obtain ⟨o1, o2, o3, o4, o5, o6, o7, o8, o9, o10, o11, o12⟩ := h.k
  exact ⟨h.right (logRP_turns h.r t (by omega) (by omega) (by omega) (by omega) (by omega)) (by rw [hw]; exact h.d.set 2 _) (Own.nil _ _ _ _) T (.inr rfl), T⟩
/-- what Load tells, on both sides -/
def LoadTP (M : MemM) (P : List PtM) (at_ n : Int) (w : World) (e : Ending) (w' : World) : Prop :=
  ∃ a c, e = .returned (.tuple #[.slice a (loadT M.V M P at_ n).length c, .int .i64 (errM M at_ n)]) ∧ OwnB w' w.heap.size a c (loadT M.V M P at_ n) ∧ Below w.heap.size w w'
theorem loadTP_yes {M : MemM} {P : List PtM} {at_ n : Int} {w w' : World} {e : Ending} (hi : inM M at_ n = true) {b0 : List UInt8} (hb0 : (M.V.drop at_.toNat).take n.toNat = b0) (q : ∃ ba bc, e = .returned (.tuple #[.slice ba b0.length bc, .int .i64 0]) ∧ OwnB w' w.heap.size ba bc (ovl at_ b0 P) ∧ Below w.heap.size w w') : LoadTP M P at_ n w e w' := by
  obtain ⟨ba, bc, q1, q2, q3⟩ := q
  have e1 : loadT M.V M P at_ n = ovl at_ b0 P := by unfold loadT; rw [if_pos hi, hb0]
  unfold LoadTP
  rw [e1, show errM M at_ n = 0 from if_pos hi, ovl_len]
  exact ⟨ba, bc, q1, q2, q3⟩
theorem loadTP_no {M : MemM} {P : List PtM} {at_ n : Int} {w w' : World} {e : Ending} (hi : ¬ inM M at_ n = true) (q : e = .returned (.tuple #[.slice none 0 0, .int .i64 1]) ∧ w = w') : LoadTP M P at_ n w e w' := by
  obtain ⟨q1, rfl⟩ := q
  have e1 : loadT M.V M P at_ n = [] := by unfold loadT; rw [if_neg hi]
  unfold LoadTP
  rw [e1, show errM M at_ n = 1 from if_neg hi]
  exact ⟨none, 0, q1, Own.nil _ _ _ _, Below.refl _ _⟩
theorem len_view {M : MemM} {at_ n : Int} (hi : inM M at_ n = true) : (((M.V.drop at_.toNat).take n.toNat).length : Int) = n := by
  have := of_decide_eq_true hi
  rw [List.length_take, List.length_drop]
  omega
theorem SideT.loadL (h : SideT w B K ta tc ra rc M P N R) (hx : TxOk M P) (hM : M.V.length ≤ 1048576) (at_ n : Int) (ha : i64B at_) (hn : i64B n) : Calls Tryz.prog 14 #[.pointer (some ⟨K.tg, 0, none⟩), .int .i64 at_, .int .i64 n] w (LoadTP M P at_ n w) := by
  by_cases hi : inM M at_ n = true
  · exact (loadT_yes h.t.l.m h.t.t h.t.o.row hx hM at_ n ha hn hi rfl (len_view hi)).mono fun e w' q => loadTP_yes hi rfl q
  · exact (loadT_no h.t.l.m h.t.t h.t.o.row hx hM at_ n ha hn (by simpa using hi)).mono fun e w' q => loadTP_no hi q
theorem SideT.loadR (h : SideT w B K ta tc ra rc M P N R) (hx : TxOk N R) (hM : N.V.length ≤ 1048576) (at_ n : Int) (ha : i64B at_) (hn : i64B n) : Calls Tryz.prog 27 #[.pointer (some ⟨K.dt, 0, none⟩), .int .i64 at_, .int .i64 n] w (LoadTP N R at_ n w) := by
  by_cases hi : inM N at_ n = true
  · exact (loadR9_yes h.r.m h.d h.o.row hx hM at_ n ha hn hi rfl (len_view hi)).mono fun e w' q => loadTP_yes hi rfl q
  · exact (loadR9_no h.r.m h.d h.o.row hx hM at_ n ha hn (by simpa using hi)).mono fun e w' q => loadTP_no hi q
end
theorem loadT_le {V : List UInt8} {M : MemM} {P : List PtM} {at_ n : Int} (hl : V.length = 1024) : (loadT V M P at_ n).length ≤ 1024 := by
  unfold loadT
  split
  · rw [ovl_len, List.length_take, List.length_drop]; omega
  · exact Nat.zero_le _
theorem same9T {w : World} {a b : Option Addr} {c d : Nat} {xs : List UInt8} (h1 : RowB w a c xs) (h2 : RowB w b d xs) (hl : xs.length ≤ 1000000) :
    Calls Tryz.prog 11 #[.slice a xs.length c, .slice b xs.length d] w fun e w' => e = .returned (.bool true) ∧ Below w.heap.size w w' := by
  have z := same_any a b c d xs xs w h1 h2 (by omega) (by omega)
  rw [decide_eq_true rfl] at z
  exact z
theorem loadTx9 {w : World} {g off : Nat} {q : Option Addr} (h : w.cell? ⟨g, off, none⟩ = some (.pointer q)) : (Instr.loadAt 38 (.pointer (some ⟨g, off, none⟩))).run Tryz.prog w = .ok (.pointer q) w := by
  have u3 := Tryz.underlying38
  have a3 := Tryz.isAgg38
  have z3 := Tryz.sizeOf38
  go_simp
end Go.Proofs.YtcackliabemecaaGreatDoor
