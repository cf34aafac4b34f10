/- Words for TxnWhole: two pairs. -/
import Derived.Test.YtcackliabemecaaDoorTxnN
import Derived.Test.YtcackliabemecaaDoorTxnO
import Derived.Test.YtcackliabemecaaDoorPlgFw
import Derived.Test.YtcackliabemecaaDoorPlgX
namespace Go.Proofs.YtcackliabemecaaDoor
open Go.RowKit
set_option linter.unusedSimpArgs false
set_option linter.unusedVariables false
set_option maxRecDepth 100000

theorem logOk_of9 {M : MemM} (h : M.V.length = 1024) : LogOk 512 512 M := ⟨by omega, by omega, by omega, by omega⟩
theorem rowLt9 {w : World} {sz n c : Nat} {a : Option Addr} {cs : List Value} (h : Row w sz a n c cs) (hn : 0 < n) {b off : Nat} (e : a = some ⟨b, off, none⟩) : b < w.heap.size := by
  obtain ⟨b', off', e', hlt, _⟩ := h.2.2.2.2 hn
  rw [e] at e'
  cases e'
  exact hlt
theorem rowI_take9 {w : World} {a : Option Addr} {c : Nat} {xs : List Int} (h : RowI w a c xs) (n : Nat) : RowI w a c (xs.take n) := by
  obtain ⟨h1, h2, h3, h4, h5⟩ := h
  have hl : (xs.take n).length ≤ xs.length := by rw [List.length_take]; omega
  refine ⟨by simp, by omega, h3, h4, fun hp => ?_⟩
  obtain ⟨b, off, e, hlt, hc⟩ := h5 (by omega)
  refine ⟨b, off, e, hlt, fun j u hu => hc j u ?_⟩
  rw [List.map_take] at hu
  rw [List.getElem?_take] at hu
  split at hu
  · exact hu
  · cases hu
theorem szI9 (w : World) : (sizeOf 3).run Tryd.prog w = .ok 1 w := by kernel_rfl
theorem elI9 : Tryd.prog.elem 41 = 3 := by kernel_rfl
theorem unI9 : Tryd.prog.underlying 41 = some (.slice (Tryd.prog.elem 41)) := by rw [elI9]; exact Tryd.underlying41
theorem sliceHI9 {w : World} {a : Option Addr} {c : Nat} {xs : List Int} (r : RowI w a c xs) (hi : Nat) (h2 : hi ≤ xs.length) (W : World) : (Instr.sliceAt 41 (.slice a xs.length c) none (some (.int .i64 (hi : Int))) none).run Tryd.prog W = .ok (.slice a hi c) W := by
  have hc := r.2.1
  rw [run_sliceAt_slice W _ _ _ _ _ unI9, run_slice_h W _ _ _ _ unI9 _ _ (by omega) (by omega), elI9, szI9]
  show Result.ok (sliced _ _ _ _ _) W = _
  rw [Int.toNat_natCast]
  unfold sliced
  simp only [Nat.sub_zero, Nat.zero_mul]
  split
  · rfl
  · cases a with
    | none => rfl
    | some p => simp [Addr.add]
theorem run_lenIS {o : Oper} {x : Operand} (ho : o.op = .call { callee := .builtin .len, args := #[x], argTypes := #[41] }) {ρ : Operand → Value} {a : Option Addr} {n c : Nat} (hx : ρ x = .slice a n c) (w : World) : (execOp ρ o).run Tryd.prog w = .ok (.value (.int .i64 (n : Int))) w := by
  unfold execOp; rw [ho]
  have u3 := Tryd.underlying41
  simp [resolve, invoke, builtin, hx]
  go_simp
theorem rowPt_rg9 {w : World} {a : Option Addr} {c : Nat} {L : List PtM} (r : RowPt w a c L) {j : Nat} (hj : j < L.length) {pb poff : Nat} (ha : a = some ⟨pb, poff, none⟩) : w.rangeAt pb (poff + j * 2) (ptC L[j]) := by
  obtain ⟨b, off, e, h⟩ := rowPt_at r (by omega)
  rw [ha] at e
  cases e
  exact h j hj
theorem geIP (x y : Operand) (v u : Int) (w : World) {b : Bool} (h : decide (u ≤ v) = b) : (do eqGuard .geq 3 x y (.int .i64 v) (.int .i64 u); binOp .geq 3 (.int .i64 v) (.int .i64 u) : Sem Value).run Tryd.prog w = .ok (.bool b) w := by
  have u3 := Tryd.underlying3
  have a3 := Tryd.isAgg3
  have z3 := Tryd.sizeOf3
  go_simp
theorem leIP (x y : Operand) (v u : Int) (w : World) {b : Bool} (h : decide (v ≤ u) = b) : (do eqGuard .leq 3 x y (.int .i64 v) (.int .i64 u); binOp .leq 3 (.int .i64 v) (.int .i64 u) : Sem Value).run Tryd.prog w = .ok (.bool b) w := by
  have u3 := Tryd.underlying3
  have a3 := Tryd.isAgg3
  have z3 := Tryd.sizeOf3
  go_simp
theorem lasts512 {w : World} {g v d p : Nat} {M : MemM} (h : MemP w g v d p M) (hl : M.V.length = 1024) :
    Calls Tryd.prog 13 #[.pointer (some ⟨g, 0, none⟩), .int .i64 0, .int .i64 512] w fun e w' => ∃ a c, e = .returned (.tuple #[.slice a 512 c, .int .i64 0]) ∧ RowB w' a c (M.D.take 512) ∧ Below w.heap.size w w' := by
  refine (lasts_any h 0 512 (by omega) (by omega)).mono ?_
  intro e w' z
  unfold LoadP at z
  have hi : inM M 0 512 = true := (inM_iff M 0 512).2 (by omega)
  rw [if_pos hi] at z
  obtain ⟨a, c, rfl, o, b⟩ := z
  have hr := o.row
  rw [show ((0 : Int)).toNat = 0 from rfl, show ((512 : Int)).toNat = 512 from rfl, List.drop_zero] at hr
  exact ⟨a, c, rfl, hr, b⟩
theorem rowI_ofB {w : World} {a : Option Addr} {len cap : Nat} {zs : List Int}
    (h : (a = none ∧ len = 0 ∧ cap = 0 ∧ zs = []) ∨
      ∃ x, a = some x ∧ len ≤ cap ∧ cap ≤ maxLen ∧ zs.length = cap ∧ (∀ i, i < zs.length → w.cell? (x.add i) = some (.int .i64 (zs.getD i 0))) ∧ ∀ n ∈ zs, (Lit.int .i64 n).wf = true) :
    ∃ xs : List Int, len = xs.length ∧ RowI w a cap xs ∧ intsOk xs := by
  rcases h with ⟨rfl, rfl, rfl, _⟩ | ⟨x, rfl, h1, h2, h3, h4, h5⟩
  · exact ⟨[], rfl, Row.nil _ _, fun x hx => by cases hx⟩
  · refine ⟨zs.take len, by simp; omega, ⟨by simp, by simp; omega, h2, (fun h => by cases h), fun hn => ?_⟩, fun n hn => i64_bd (h5 n (List.mem_of_mem_take hn))⟩
    have hn' : 0 < zs.length := by simp at hn; omega
    have c0 := h4 0 hn'
    have hsp : x.spot = none := by
      unfold World.cell? Addr.add at c0
      cases hs : x.spot with
      | none => rfl
      | some q => simp [hs] at c0; split at c0 <;> simp_all
    have hx : x = ⟨x.block, x.off, none⟩ := by cases x; simp at hsp; simp [hsp]
    refine ⟨x.block, x.off, by rw [← hx], World.block_lt_of_cell? w x (u := .int .i64 (zs.getD 0 0)) (by simpa [Addr.add] using c0), fun j u hu => ?_⟩
    have hj : j < (zs.take len).length := by
      have := (List.getElem?_eq_some_iff.1 hu).1
      simpa using this
    have hj2 : j < zs.length := by simp at hj; omega
    have hc := h4 j hj2
    have ea : x.add j = ⟨x.block, x.off + j, none⟩ := by
      unfold Addr.add
      split
      · subst j; rw [Nat.add_zero, ← hx]
      · rfl
    rw [ea] at hc
    rw [hc]
    have hjl : j < len := by simp at hj; omega
    simp [List.getElem?_take, hjl, hj2, iV] at hu
    rw [← hu]; simp [hj2]
theorem load512 {w : World} {g v d p : Nat} {M : MemM} (h : MemP w g v d p M) (hl : M.V.length = 1024) :
    Calls Tryd.prog 11 #[.pointer (some ⟨g, 0, none⟩), .int .i64 0, .int .i64 512] w fun e w' => ∃ a c, e = .returned (.tuple #[.slice a 512 c, .int .i64 0]) ∧ RowB w' a c (M.V.take 512) ∧ Below w.heap.size w w' := by
  refine (load_any h 0 512 (by omega) (by omega)).mono ?_
  intro e w' z
  unfold LoadP at z
  have hi : inM M 0 512 = true := (inM_iff M 0 512).2 (by omega)
  rw [if_pos hi] at z
  obtain ⟨a, c, rfl, o, b⟩ := z
  have hr := o.row
  rw [show ((0 : Int)).toNat = 0 from rfl, show ((512 : Int)).toNat = 512 from rfl, List.drop_zero] at hr
  exact ⟨a, c, rfl, hr, b⟩
theorem same512T {w : World} {a b : Option Addr} {c d : Nat} {xs ys : List UInt8} (h1 : RowB w a c xs) (h2 : RowB w b d ys) (e : xs = ys) (hl : ys.length = 512) :
    Calls Tryd.prog 20 #[.slice a 512 c, .slice b 512 d] w fun e w' => e = .returned (.bool true) ∧ Below w.heap.size w w' := by
  subst e
  have z := same_any a b c d xs xs w h1 h2 (by omega) (by omega)
  rw [hl, decide_eq_true rfl] at z
  exact z
theorem own_turns_ne {X : Nat → Prop} {w w' : World} {B : Nat} {e : TypeId} {sz : Nat} {a : Option Addr} {n c : Nat} {cs : List Value} (h : Own w B e sz a n c cs) (t : Turns X w w') (hx : ∀ k, X k → obA a ≠ some k) : Own w' B e sz a n c cs := by
  refine ⟨h.1, ?_⟩
  rcases h.2 with hn | ⟨b, cap, cur, hv, hb, hh, rest⟩
  · exact .inl hn
  · cases hv
    exact .inr ⟨b, c, cur, rfl, hb, (t.block b (Array.getElem?_eq_some_iff.1 hh).1 (fun q => hx b q rfl)).trans hh, rest⟩
theorem own_obl {w : World} {B : Nat} {e : TypeId} {sz : Nat} {a : Option Addr} {n c : Nat} {cs : List Value} (h : Own w B e sz a n c cs) : ∀ k, obA a = some k → k < w.heap.size := fun k hk => (World.ownsRow.lt h k (by rw [obA_slice]; exact hk)).2
def ApartA (a b : Option Addr) : Prop := ∀ k, obA a = some k → obA b ≠ some k
theorem ApartA.symm {a b : Option Addr} (h : ApartA a b) : ApartA b a := fun k h1 h2 => h k h2 h1
theorem ApartA.grow {w : World} {a b a' : Option Addr} (h : ApartA a b) (g : WhereA w a a') (hl : ∀ k, obA b = some k → k < w.heap.size) : ApartA a' b := fun k h1 h2 => by
  rcases g with g | ⟨q, g1, g2⟩
  · exact h k (g.symm.trans h1) h2
  · have := hl k h2; rw [g1] at h1; cases h1; omega
theorem grown_turns {w w' : World} {a : Option Addr} {n c : Nat} (g : w.grownBy w' (Value.slice a n c).ownBlock) : Turns (fun k => some k = obA a) w w' := by
  rw [obA_slice] at g
  exact ⟨g.os, g.tape, g.output, g.size, fun k hk hx => g.block k hk hx⟩
structure TJ where
  pp : Nat
  tg : Nat
  g : Nat
  lg : Nat
  v : Nat
  d : Nat
  p : Nat
  dt : Nat
  gr : Nat
theorem beginTJ (w : World) : Calls Tryd.prog 5 #[] w fun e w' => ∃ K : TJ, e = .returned (.pointer (some ⟨K.pp, 0, none⟩)) ∧ TxP w' w'.heap.size K.pp K.tg K.g K.lg K.v K.d K.p K.dt K.gr none 0 mem0 [] ∧ (w.heap.size ≤ K.g ∧ w.heap.size ≤ K.v ∧ w.heap.size ≤ K.d ∧ w.heap.size ≤ K.p) ∧ Below w.heap.size w w' :=
  (beginT w).mono fun e w' q => by
    obtain ⟨pp, tg, g, lg, v, d, p, dt, gr, q1, q2, q3, q4⟩ := q
    exact ⟨⟨pp, tg, g, lg, v, d, p, dt, gr⟩, q1, q2, q3, q4⟩
/-- the first pair, whole; of the second its memory and log -/
structure TwoT (w : World) (B : Nat) (K Q : TJ) (ta : Option Addr) (tc : Nat) (M : MemM) (P : List PtM) (N : MemM) : Prop where
  t : TxP w B K.pp K.tg K.g K.lg K.v K.d K.p K.dt K.gr ta tc M P
  l : LogP w Q.lg Q.g Q.v Q.d Q.p 512 512 N
  q : Blk w Q.pp 32 [.pointer (some ⟨Q.g, 0, none⟩), .pointer (some ⟨Q.lg, 0, none⟩), .pointer (some ⟨Q.tg, 0, none⟩), .pointer (some ⟨Q.gr, 0, none⟩), .pointer (some ⟨Q.dt, 0, none⟩)]
  n : K.pp < Q.g ∧ K.pp < Q.v ∧ K.pp < Q.d ∧ K.pp < Q.p ∧ K.pp < Q.lg ∧ K.pp < Q.pp
  m : Q.g < B ∧ Q.v < B ∧ Q.d < B ∧ Q.p < B ∧ Q.lg < B ∧ Q.pp < B
section
variable {w w' : World} {B : Nat} {K Q : TJ} {ta : Option Addr} {tc : Nat} {M N : MemM} {P : List PtM}
theorem TwoT.mono (h : TwoT w B K Q ta tc M P N) (b : Below w.heap.size w w') : TwoT w' B K Q ta tc M P N := ⟨h.t.mono b, h.l.mono b, h.q.mono b, h.n, h.m⟩
theorem TwoT.start {w1 : World} (h : TxP w1 w1.heap.size K.pp K.tg K.g K.lg K.v K.d K.p K.dt K.gr none 0 M []) (b : Below w1.heap.size w1 w) (k : TxP w w.heap.size Q.pp Q.tg Q.g Q.lg Q.v Q.d Q.p Q.dt Q.gr none 0 N []) (hq : w1.heap.size ≤ Q.g ∧ w1.heap.size ≤ Q.v ∧ w1.heap.size ≤ Q.d ∧ w1.heap.size ≤ Q.p) : TwoT w w.heap.size K Q none 0 M [] N := by
  have h' := h.mono b
  obtain ⟨n1, n2, n3, n4, n5, n6, n7⟩ := h.n
  obtain ⟨k1, k2, k3, k4, k5, k6, k7⟩ := k.n
  have s := b.size
  exact ⟨⟨h'.l, h'.t, Own.nil _ _ _ _, h'.q, Nat.le_refl _, ⟨n1, n2, n3, n4, n5, n6, by omega⟩⟩, k.l, k.q, ⟨by omega, by omega, by omega, by omega, by omega, by omega⟩, ⟨by omega, by omega, by omega, by omega, by omega, by omega⟩⟩
/-- other rows grow -/
theorem TwoT.past {X : Nat → Prop} (h : TwoT w B K Q ta tc M P N) (t : Turns X w w') (hX : ∀ k, X k → B ≤ k) (hA : ∀ k, X k → obA ta ≠ some k) : TwoT w' B K Q ta tc M P N := by
  obtain ⟨n1, n2, n3, n4, n5, n6, n7⟩ := h.t.n
  obtain ⟨m1, m2, m3, m4, m5, m6⟩ := h.m
  have f : ∀ k, k < B → ¬ X k := fun k hk hx => by have := hX k hx; omega
  exact ⟨⟨logP_turns h.t.l t (f _ (by omega)) (f _ (by omega)) (f _ (by omega)) (f _ (by omega)) (f _ (by omega)), t.blk h.t.t (f _ (by omega)), own_turns_ne h.t.o t hA, t.blk h.t.q (f _ (by omega)), Nat.le_trans h.t.b t.size, h.t.n⟩,
    logP_turns h.l t (f _ m5) (f _ m1) (f _ m2) (f _ m3) (f _ m4), t.blk h.q (f _ m6), h.n, h.m⟩
theorem TwoT.store (h : TwoT w B K Q ta tc M P N) (hM : M.V.length ≤ 1048576) (hP : P.length ≤ 64) {a : Option Addr} {c : Nat} {xs : List UInt8} (h0 : RowB w a c xs) (hx : xs.length ≤ 1000000) {at_ : Int} (ha : i64B at_) :
    Calls Tryd.prog 6 #[.pointer (some ⟨K.tg, 0, none⟩), .int .i64 at_, .slice a xs.length c] w fun e w' => e = .returned (.int .i64 (errT M P at_ xs.length)) ∧ ∃ ta2 tc2, TwoT w' B K Q ta2 tc2 M (putT M P at_ xs) N ∧ Turns (fun k => k = K.tg ∨ some k = obA ta) w w' ∧ WhereA w ta ta2 := by
  obtain ⟨n1, n2, n3, n4, n5, n6, n7⟩ := h.t.n
  obtain ⟨q1, q2, q3, q4, q5, q6⟩ := h.n
  obtain ⟨m1, m2, m3, m4, m5, m6⟩ := h.m
  refine (storeT_any2 h.t.l.m h.t.t h.t.o h.t.b (by omega) hM h0 ha hP (by omega)).mono ?_
  rintro e w' ⟨rfl, ta2, tc2, k1, k2, t, wh⟩
  have f : ∀ k, k < B → k ≠ K.tg → ¬ (k = K.tg ∨ some k = obA ta) := fun k hk hx hy => by
    rcases hy with e | e
    · exact hx e
    · have := own_ob h.t.o k e.symm; omega
  exact ⟨rfl, ta2, tc2, ⟨⟨logP_turns h.t.l t (f _ (by omega) (by omega)) (f _ (by omega) (by omega)) (f _ (by omega) (by omega)) (f _ (by omega) (by omega)) (f _ (by omega) (by omega)), k1, k2, t.blk h.t.q (f _ (by omega) (by omega)), Nat.le_trans h.t.b t.size, h.t.n⟩,
    logP_turns h.l t (f _ m5 (by omega)) (f _ m1 (by omega)) (f _ m2 (by omega)) (f _ m3 (by omega)) (f _ m4 (by omega)), t.blk h.q (f _ m6 (by omega)), h.n, h.m⟩, t, wh⟩
theorem TwoT.commit (h : TwoT w B K Q ta tc M P N) (hok : LogOk 512 512 M) (hx : TxOk M P) :
    Calls Tryd.prog 12 #[.pointer (some ⟨K.tg, 0, none⟩)] w fun e w' => e = .returned (.int .i64 (comE M P)) ∧ ∃ ta2 tc2, TwoT w' B K Q ta2 tc2 (comM M P) (comP M P) N ∧ Turns (fun k => XM K.v K.d K.p k ∨ k = K.tg) w w' := by
  obtain ⟨n1, n2, n3, n4, n5, n6, n7⟩ := h.t.n
  obtain ⟨q1, q2, q3, q4, q5, q6⟩ := h.n
  refine (h.t.commit hok hx).mono ?_
  rintro e w' ⟨rfl, ta2, tc2, k, t⟩
  have f : ∀ k, K.pp < k → ¬ (XM K.v K.d K.p k ∨ k = K.tg) := fun k hk hx => by
    unfold XM at hx; omega
  exact ⟨rfl, ta2, tc2, ⟨k, logP_turns h.l t (f _ q5) (f _ q1) (f _ q2) (f _ q3) (f _ q4), t.blk h.q (f _ q6), h.n, h.m⟩, t⟩
theorem TwoT.right {N' : MemM} (h : TwoT w B K Q ta tc M P N) (l : LogP w' Q.lg Q.g Q.v Q.d Q.p 512 512 N') (t : Turns (XM Q.v Q.d Q.p) w w') : TwoT w' B K Q ta tc M P N' := by
  obtain ⟨n1, n2, n3, n4, n5, n6, n7⟩ := h.t.n
  obtain ⟨q1, q2, q3, q4, q5, q6⟩ := h.n
  obtain ⟨m1, m2, m3, m4, m5, m6⟩ := h.m
  have f : ∀ k, k ≤ K.pp → ¬ XM Q.v Q.d Q.p k := fun k hk hx => by
    unfold XM at hx; omega
  have g : ¬ XM Q.v Q.d Q.p Q.pp := by
    obtain ⟨_, _, _, v1, d1, p1⟩ := h.l.m
    rintro (e | e | e)
    · exact blk_ne h.q v1 (by decide) e
    · exact blk_ne h.q d1 (by decide) e
    · exact pend_neP p1 h.q e
  exact ⟨⟨logP_turns h.t.l t (f _ (by omega)) (f _ (by omega)) (f _ (by omega)) (f _ (by omega)) (f _ (by omega)), t.blk h.t.t (f _ (by omega)), t.own h.t.o (fun k hk => by unfold XM at hk; omega), t.blk h.t.q (f _ (by omega)), Nat.le_trans h.t.b t.size, h.t.n⟩, l, t.blk h.q g, h.n, h.m⟩
theorem TwoT.xlt (h : TwoT w B K Q ta tc M P N) : ∀ k, XM Q.v Q.d Q.p k → k < B := fun k hk => by
  obtain ⟨m1, m2, m3, m4, m5, m6⟩ := h.m
  unfold XM at hk; omega
theorem TwoT.p0 (h : TwoT w B K Q ta tc M P N) : w.cell? ⟨K.pp, 0, none⟩ = some (.pointer (some ⟨K.g, 0, none⟩)) := h.t.q.cell (i := 0) (by show 0 < 5; omega)
theorem TwoT.p2 (h : TwoT w B K Q ta tc M P N) : w.cell? ⟨K.pp, 2, none⟩ = some (.pointer (some ⟨K.tg, 0, none⟩)) := h.t.q.cell (i := 2) (by show 2 < 5; omega)
theorem TwoT.q0 (h : TwoT w B K Q ta tc M P N) : w.cell? ⟨Q.pp, 0, none⟩ = some (.pointer (some ⟨Q.g, 0, none⟩)) := h.q.cell (i := 0) (by show 0 < 5; omega)
theorem TwoT.q1 (h : TwoT w B K Q ta tc M P N) : w.cell? ⟨Q.pp, 1, none⟩ = some (.pointer (some ⟨Q.lg, 0, none⟩)) := h.q.cell (i := 1) (by show 1 < 5; omega)
end
section
variable {w : World} {lg g v d p : Nat} {M : MemM}
theorem storeQ (h : LogP w lg g v d p 512 512 M) (q : Nat) (a : Option Addr) (c : Nat) (b : List UInt8) (hr : RowB w a c b) (hl : q + b.length ≤ M.V.length) (hq : q ≤ 1000000) :
    Calls Tryd.prog 14 #[.pointer (some ⟨g, 0, none⟩), .int .i64 (q : Int), .slice a b.length c] w fun e w' => e = .returned (.int .i64 0) ∧ LogP w' lg g v d p 512 512 (storeM M q b) ∧ Turns (XM v d p) w w' := by
  refine (store_any h.m q (by omega) a c b hr).mono ?_
  intro e w' z
  unfold StoreP at z
  rw [if_pos (inM_mk hl)] at z
  exact ⟨z.1, h.next z.2.1 z.2.2 (by intro k hk; rcases hk with e | e; exact .inl e; exact .inr (.inr e)), z.2.2.mono (by intro k hk; rcases hk with e | e; exact .inl e; exact .inr (.inr e))⟩
theorem flushQ (h : LogP w lg g v d p 512 512 M) (q n : Nat) (hl : q + n ≤ M.V.length) (hq : q ≤ 1000000) (hn : n ≤ 1000000) :
    Calls Tryd.prog 15 #[.pointer (some ⟨g, 0, none⟩), .int .i64 (q : Int), .int .i64 (n : Int)] w fun e w' => e = .returned (.int .i64 0) ∧ LogP w' lg g v d p 512 512 (flushM M q n) ∧ Turns (XM v d p) w w' := by
  refine (flush_any h.m q n (by omega) (by omega)).mono ?_
  intro e w' z
  unfold FlushP at z
  rw [if_pos (inM_mk hl)] at z
  exact ⟨z.1, h.next z.2.1 z.2.2 (by intro k hk; exact .inr (.inr hk)), z.2.2.mono (by intro k hk; exact .inr (.inr hk))⟩
theorem fenceQ (h : LogP w lg g v d p 512 512 M) :
    Calls Tryd.prog 16 #[.pointer (some ⟨g, 0, none⟩)] w fun e w' => ∃ x, e = .returned x ∧ LogP w' lg g v d p 512 512 (fenceM M) ∧ Turns (XM v d p) w w' :=
  (fence_any h.m).mono fun e w' z => by
    obtain ⟨⟨y, q1⟩, q2, q3⟩ := z
    exact ⟨y, q1, h.next q2 q3 (by intro k hk; exact .inr hk), q3.mono (by intro k hk; exact .inr hk)⟩
theorem crashQ (h : LogP w lg g v d p 512 512 M) (J : List Int) (ia : Option Addr) (ic : Nat) (hr : RowI w ia ic J) (hok : intsOk J) {B : Nat} (hw : ∀ k, (∃ off, ia = some ⟨k, off, none⟩) → 0 < J.length → k < B) (hd : B ≤ d) :
    Calls Tryd.prog 18 #[.pointer (some ⟨g, 0, none⟩), .slice ia J.length ic] w fun e w' => ∃ x, e = .returned x ∧ LogP w' lg g v d p 512 512 (crashM M J) ∧ Turns (XM v d p) w w' :=
  (crash_any h.m J ia ic hr hok (fun hn k hk => by have := hw k hk hn; omega)).mono fun e w' z => by
    obtain ⟨⟨y, q1⟩, q2, q3⟩ := z
    exact ⟨y, q1, h.next q2 q3 (by intro k hk; exact hk), q3⟩
theorem put8T (n : Nat) (h : n ≤ 1000000) (w : World) : Calls Tryd.prog 17 #[.slice none 0 0, .int .i64 ((n : Nat) : Int), .int .i64 8] w fun e w' => ∃ x y, e = .returned (.slice x (le 8 n).length y) ∧ OwnB w' w.heap.size x y (le 8 n) ∧ Below w.heap.size w w' := by
  have z := putRef_any none 0 [] ((n : Nat) : Int) 8 w (Row.nil _ _) (by simp) (by omega)
  rw [putF8] at z
  exact z
end
theorem blk_grownT {w w' : World} {g : Nat} {e : TypeId} {L : List Value} {r : Option Nat} (h : Blk w g e L) (gr : w.grownBy w' r) (hne : some g ≠ r) : Blk w' g e L := (gr.block g h.lt hne).trans h
theorem wpk_append2 {ops : Array Oper} {Q : Exit → Act → World → Prop} {rest : List Oper} {oi : Oper} {a : Act} {w : World} {N : Nat} {l : List (Nat × Value)} (h : Kn N l a) (hg : oi.guard = none) {d : Nat} (hd : oi.dst = some d) (hdN : d < N) (hf : ∀ x ∈ l, x.1 ≠ d) (s x : Operand) {t e : TypeId} {sz bytes : Nat}
    (ho : oi.op = .call { callee := .builtin .append, args := #[s, x], argTypes := #[t, t] }) (E : ElemT Tryd.prog t e sz bytes) (B : Nat)
    {a1 : Option Addr} {ad : Addr} {n c m c2 : Nat} {cs ds : List Value} (hs : a.eval s = .slice a1 n c) (hx : a.eval x = .slice (some ad) (m + 1) c2)
    (hown : Own w B e sz a1 n c cs) (hrow : Row w sz (some ad) (m + 1) c2 ds) (h1 : ∀ u ∈ ds, u.oneCell' = true)
    (hbytes : (n + (m + 1)) * bytes ≤ 140737488355328) (h63 : n + (m + 1) ≤ 9223372036854775807) (hbase : B ≤ w.heap.size)
    (k : ∀ a' b' c' w', Own w' B e sz b' (n + (m + 1)) c' (cs ++ ds) → w.grownBy w' (Value.slice a1 n c).ownBlock → Below B w w' → WhereA w a1 b' → Kn N ((d, .slice b' (n + (m + 1)) c') :: l) a' → wpList Tryd.prog ops Q rest a' w') : wpList Tryd.prog ops Q (oi :: rest) a w := by
  refine wpList_step fun K hK => ?_
  rw [if_pos (wanted_none hg)]
  exact op_append2 h hd hdN hf s x ho E B hs hx hown hrow h1 hbytes h63 hbase fun a' b' c' w' h1 h2 h3 h4 h5 => hK _ _ (k a' b' c' w' h1 h2 h3 h4 h5)
/-- few stores come all to patches -/
theorem put_few {C : List PtM} {q : PtM} (hC : C.length ≤ 5) (hq : inR q = true) (hd : q.d.length ≤ 40) : putT mem0 C q.at_ q.d = C ++ [q] := by
  obtain ⟨h1, h2⟩ := (inR_iff q).1 hq
  unfold putT
  rw [if_pos]
  unfold okT
  rw [decide_eq_true_iff, mem0_len]
  omega
theorem few_txOk {C : List PtM} (hin : ∀ p ∈ C, inR p = true ∧ p.d.length ≤ 40) (hl : C.length ≤ 5) : TxOk mem0 C := ⟨by omega, fun p hp => by
  obtain ⟨q1, q2⟩ := hin p hp
  obtain ⟨q3, q4⟩ := (inR_iff p).1 q1
  rw [mem0_len]
  omega⟩
theorem few_okPts {C : List PtM} (hin : ∀ p ∈ C, inR p = true ∧ p.d.length ≤ 40) : okPts C := fun p hp => by
  obtain ⟨q1, q2⟩ := hin p hp
  obtain ⟨q3, q4⟩ := (inR_iff p).1 q1
  unfold okI; omega
theorem com_few {C : List PtM} (hne : C ≠ []) (h : encOk C = true) (hf : (encL C).length ≤ 504) : comE mem0 C = 0 ∧ comM mem0 C = redoM (appM mem0 512 512 C) 512 512 := by
  have hE : appE mem0 512 512 C = 0 := by
    unfold appE encE
    rw [if_pos h, if_pos rfl, logR0, if_neg (by omega)]
  unfold comE comM
  rw [if_neg hne, if_neg hne, if_pos hE, hE]
  exact ⟨rfl, rfl⟩
end Go.Proofs.YtcackliabemecaaDoor
