/- Merged: PlgD2 PlgM PlgN PlgO PlgP. -/
import Derived.Test.YtcackliabemecaaGreatDoorPlgMb
import Derived.Defers
import Derived.Test.YtcackliabemecaaGreatDoorPmMc
/- Acts with deferred calls, of which some slots are known. -/
namespace Go.Proofs.YtcackliabemecaaGreatDoor
open Go.RowKit
set_option linter.unusedSimpArgs false
set_option linter.unusedVariables false
set_option maxRecDepth 100000

structure KnD (ds : List Deferred) (N : Nat) (l : List (Nat × Value)) (a : Act) : Prop where
  size : a.tmps.size = N
  known : ∀ x ∈ l, a.tmps[x.1]? = some x.2
  defs : a.defers = ds
theorem KnD.eval {ds : List Deferred} {N : Nat} {l : List (Nat × Value)} {a : Act} (h : KnD ds N l a) {k : Nat} {v : Value} (hm : (k, v) ∈ l) : a.eval (.tmp k) = v := by
  have := h.known _ hm
  show a.tmps.getD k undef = v
  rw [Array.getD_eq_getD_getElem?, this]; rfl
theorem KnD.ev {ds : List Deferred} {N : Nat} {l : List (Nat × Value)} {a : Act} (h : KnD ds N l a) (k : Nat) {v : Value} (hm : l.find? (fun y => y.1 == k) = some (k, v)) : a.eval (.tmp k) = v := h.eval (List.mem_of_find?_eq_some hm)
theorem KnD.put {ds : List Deferred} {N : Nat} {l : List (Nat × Value)} {a : Act} (h : KnD ds N l a) {d : Nat} (hd : d < N) (hf : ∀ x ∈ l, x.1 ≠ d) (v : Value) : KnD ds N ((d, v) :: l) (a.put (some d) v) := by
  refine ⟨by show (a.tmps.setIfInBounds d v).size = N; rw [Array.size_setIfInBounds]; exact h.size, fun x hx => ?_, h.defs⟩
  show (a.tmps.setIfInBounds d v)[x.1]? = some x.2
  rw [Array.getElem?_setIfInBounds]
  rcases List.mem_cons.1 hx with rfl | hx
  · rw [if_pos rfl, if_pos (by rw [h.size]; exact hd)]
  · rw [if_neg (fun e => hf x hx e.symm)]; exact h.known x hx
theorem KnD.sub {ds : List Deferred} {N : Nat} {l l' : List (Nat × Value)} {a : Act} (h : KnD ds N l a) (hs : ∀ x ∈ l', x ∈ l) : KnD ds N l' a := ⟨h.size, fun x hx => h.known x (hs x hx), h.defs⟩
theorem KnD.subs {ds : List Deferred} {N : Nat} {l l' : List (Nat × Value)} {a : Act} (h : KnD ds N l a) (hs : (l'.map fun x => l.find? fun y => y.1 == x.1) = l'.map some) : KnD ds N l' a := h.sub fun x hx => by
  have : some x ∈ l'.map some := List.mem_map.2 ⟨x, hx, rfl⟩
  rw [← hs] at this
  obtain ⟨i, _, hi⟩ := List.mem_map.1 this
  exact List.mem_of_find?_eq_some hi
theorem KnD.yields {ds : List Deferred} {N : Nat} {l : List (Nat × Value)} {a : Act} (h : KnD ds N l a) {ops : Array Oper} {g prev : Nat} {b : Bool} (hg : (ops[g]?).bind (·.dst) = some prev) (hm : (prev, .bool b) ∈ l) : yielded ops a.tmps g = some b := by
  unfold yielded
  rw [hg, Option.bind_some]
  have := h.known _ hm
  show (match a.tmps[prev]? with | some (.bool b) => some b | _ => none) = some b
  rw [this]
theorem wpkD_val {ds : List Deferred} {P : Program} {ops : Array Oper} {Q : Exit → Act → World → Prop} {rest : List Oper} {o : Oper} {a : Act} {w w' : World} {N : Nat} {l : List (Nat × Value)} (h : KnD ds N l a) (hw : Region.wanted o (yielded ops a.tmps) = true) {d : Nat} (hd : o.dst = some d) (hdN : d < N) (hf : ∀ x ∈ l, x.1 ≠ d) (v : Value)
    (hr : (execOp a.eval o).run P w = .ok (.value v) w') (k : ∀ a', KnD ds N ((d, v) :: l) a' → wpList P ops Q rest a' w') : wpList P ops Q (o :: rest) a w := by
  refine wpList_step fun K hK => ?_
  rw [if_pos hw]
  unfold Oper.wp
  rw [hr, Oper.upon_value, hd]
  exact hK _ _ (k _ (h.put hdN hf v))
theorem wpkD_take {ds : List Deferred} {P : Program} {ops : Array Oper} {Q : Exit → Act → World → Prop} {md : Region.Mode} {S : World → Prop} {oi : Oper} {fuel : Nat} {listed : Array Bool} {a : Act} {w : World} {N : Nat} {l : List (Nat × Value)} (hS : S w) (h : KnD ds N l a) (i : Nat) (hi : ops[i]? = some oi) {d : Nat} (hd : oi.dst = some d) (hdN : d < N) (hf : ∀ x ∈ l, x.1 ≠ d)
    (hs : Region.noSelect ops = true) (hfr : Region.free md ops listed i = true) (hr : (Region.ready md ops listed).contains i = true) (hQ : ∀ c a w v, Q (.panic c) (a.put oi.dst v) w → Q (.panic c) a w) (v : Value) (hy : YieldsIf P ops S oi v a)
    (k : ∀ a', KnD ds N ((d, v) :: l) a' → wpAnyH P md ops Q S fuel (listed.setIfInBounds i true) a' w) : wpAnyH P md ops Q S (fuel + 1) listed a w :=
  takeR hi hd hs hfr hr (fun c a w => hQ c a w v) hy hS (k _ (h.put hdN hf v))
theorem wpkD_storeP {ds : List Deferred} {P : Program} {ops : Array Oper} {Q : Exit → Act → World → Prop} {rest : List Oper} {o : Oper} {a : Act} {w : World} {N : Nat} {l : List (Nat × Value)} (h : KnD ds N l a) (hw : o.guard = none) (hd : o.dst = none) {T : TypeId} {x y : Operand} (ho : o.op = .store T x y) (g off : Nat) (hx : a.eval x = .pointer (some ⟨g, off, none⟩)) (vs : List Value) (hy : a.eval y = .agg vs.toArray) (hn : (P.info? T).map (·.size) = some vs.length) (h1 : ∀ v ∈ vs, v.oneCell' = true) {e : TypeId} {L : List Value} (hb : Blk w g e L) (hL : off + vs.length ≤ L.length)
    (k : ∀ a' w', KnD ds N l a' → Blk w' g e (splice L off vs) → w.grownBy w' (some g) → wpList P ops Q rest a' w') : wpList P ops Q (o :: rest) a w := by
  refine wpl_storeM hw T x y ho g off hx vs hy hn h1 hb hL fun w' hb' hg => ?_
  rw [hd]
  exact k a w' h hb' hg
section
variable {P : Program} {ops : Array Oper} {Q : Exit → Act → World → Prop} {md : Region.Mode} {S : World → Prop} {oi oj : Oper} {fuel : Nat} {listed : Array Bool} {a : Act} {w w' : World} {N : Nat} {l : List (Nat × Value)} {K : Act → World → Prop} {ds : List Deferred}
theorem opD_val (h : KnD ds N l a) {d : Nat} (hd : oi.dst = some d) (hdN : d < N) (hf : ∀ x ∈ l, x.1 ≠ d) (v : Value) (hrun : (execOp a.eval oi).run P w = .ok (.value v) w')
    (k : ∀ a', KnD ds N ((d, v) :: l) a' → K a' w') : Oper.wp P oi a w K Q := by
  unfold Oper.wp
  rw [hrun, Oper.upon_value, hd]
  exact k _ (h.put hdN hf v)
theorem opD_call (h : KnD ds N l a) {d : Nat} (hd : oi.dst = some d) (hdN : d < N) (hf : ∀ x ∈ l, x.1 ≠ d)
    {fn : FuncId} (hcf : ∀ args, (callFunc fn args).run P w = .ok (.enter fn args) w) {xs : Array Operand} {ts : Array TypeId} (p : oi.op = .call { callee := .value (.func fn), args := xs, argTypes := ts }) (vs : Array Value) (hx : xs.map a.eval = vs)
    {R : Value → World → Prop} (HC : Calls P fn vs w fun e w' => ∃ v, e = .returned v ∧ R v w')
    (k : ∀ a' v w', R v w' → KnD ds N ((d, v) :: l) a' → K a' w') : Oper.wp P oi a w K Q := by
  have hrun : (execOp a.eval oi).run P w = .ok (.enter fn vs) w := by
    unfold execOp; rw [p]
    simp [resolve, invoke, Deferred.ofValue, hx, hcf]
    simp [Act.eval, hcf]
  unfold Oper.wp
  rw [hrun, Oper.upon_enter]
  refine HC.mono ?_
  rintro e w' ⟨v, rfl, hv⟩
  simp only
  rw [hd]
  exact k _ v w' hv (h.put hdN hf v)
end
end Go.Proofs.YtcackliabemecaaGreatDoor
/- The memory's contracts, inside or not; a deferred fence. -/
namespace Go.Proofs.YtcackliabemecaaGreatDoor
open Go.RowKit
set_option linter.unusedSimpArgs false
set_option linter.unusedVariables false
set_option maxRecDepth 100000

def i64B (n : Int) : Prop := -9223372036854775808 ≤ n ∧ n ≤ 9223372036854775807
def seenL (X : List UInt8) (M : MemM) (at_ n : Int) : List UInt8 := if inM M at_ n = true then (X.drop at_.toNat).take n.toNat else []
def errM (M : MemM) (at_ n : Int) : Int := if inM M at_ n = true then 0 else 1
def flushU (M : MemM) (at_ n : Int) : MemM := if inM M at_ n = true then flushM M at_.toNat n.toNat else M
def storeU (M : MemM) (at_ : Int) (b : List UInt8) : MemM := if inM M at_ b.length = true then storeM M at_.toNat b else M
theorem seenL_len {X : List UInt8} {M : MemM} (hX : X.length = M.V.length) {at_ n : Int} (h : inM M at_ n = true) : ((X.drop at_.toNat).take n.toNat).length = n.toNat := by
  obtain ⟨a, m, rfl, rfl, hl⟩ := inM_true h
  simp; omega
theorem load_u {w : World} {g v d p : Nat} {M : MemM} (h : MemP w g v d p M) (at_ n : Int) (ha : i64B at_) (hn : i64B n) :
    Calls Tryz.prog 10 #[.pointer (some ⟨g, 0, none⟩), .int .i64 at_, .int .i64 n] w fun e w' => ∃ a c, e = .returned (.tuple #[.slice a (seenL M.V M at_ n).length c, .int .i64 (errM M at_ n)]) ∧ OwnB w' w.heap.size a c (seenL M.V M at_ n) ∧ Below w.heap.size w w' := by
  refine (load_any h at_ n ha hn).mono ?_
  intro e w' z
  unfold LoadP at z
  unfold seenL errM
  by_cases hi : inM M at_ n = true
  · rw [if_pos hi] at z
    obtain ⟨a, c, rfl, o, b⟩ := z
    refine ⟨a, c, ?_, ?_, b⟩
    · simp only [if_pos hi]; rw [seenL_len rfl hi]
    · rw [if_pos hi]; exact o
  · rw [if_neg hi] at z
    obtain ⟨rfl, rfl⟩ := z
    refine ⟨none, 0, ?_, ?_, Below.refl _ _⟩
    · simp only [if_neg hi]; rfl
    · rw [if_neg hi]; exact Own.nil _ _ _ _
theorem flush_u {w : World} {g v d p : Nat} {M : MemM} (h : MemP w g v d p M) (at_ n : Int) (ha : i64B at_) (hn : i64B n) :
    Calls Tryz.prog 68 #[.pointer (some ⟨g, 0, none⟩), .int .i64 at_, .int .i64 n] w fun e w' => e = .returned (.int .i64 (errM M at_ n)) ∧ MemP w' g v d p (flushU M at_ n) ∧ Turns (fun k => k = p) w w' := by
  refine (flush_any h at_ n ha hn).mono ?_
  intro e w' z
  unfold FlushP at z
  unfold flushU errM
  by_cases hi : inM M at_ n = true
  · rw [if_pos hi] at z
    simp only [if_pos hi]; exact z
  · rw [if_neg hi] at z
    simp only [if_neg hi]
    exact ⟨z.1, h.mono z.2, Turns.of_below z.2⟩
theorem storeU_len (M : MemM) (at_ : Int) (b : List UInt8) : (storeU M at_ b).V.length = M.V.length := by
  unfold storeU; split
  · rename_i hi
    obtain ⟨a, m, rfl, hm, hl⟩ := inM_true hi
    exact length_splice _ _ _ (by simp; omega)
  · rfl
theorem store_u {w : World} {g v d p : Nat} {M : MemM} (h : MemP w g v d p M) (at_ : Int) (ha : i64B at_) (a : Option Addr) (c : Nat) (b : List UInt8) (hr : RowB w a c b) :
    Calls Tryz.prog 25 #[.pointer (some ⟨g, 0, none⟩), .int .i64 at_, .slice a b.length c] w fun e w' => e = .returned (.int .i64 (errM M at_ b.length)) ∧ MemP w' g v d p (storeU M at_ b) ∧ Turns (fun k => k = v ∨ k = p) w w' := by
  refine (store_any h at_ ha a c b hr).mono ?_
  intro e w' z
  unfold StoreP at z
  unfold storeU errM
  by_cases hi : inM M at_ b.length = true
  · rw [if_pos hi] at z
    simp only [if_pos hi]; exact z
  · rw [if_neg hi] at z
    simp only [if_neg hi]
    exact ⟨z.1, h.mono z.2, Turns.of_below z.2⟩

set_option maxHeartbeats 2000000 in
theorem fenceD_any {u : FrameMode} {w : World} {g v d p : Nat} {M : MemM} (h : MemP w g v d p M) :
    CallsD Tryz.prog 67 #[.pointer (some ⟨g, 0, none⟩)] u w fun e u' w' => u' = u ∧ (∃ x, e = .returned x) ∧ MemP w' g v d p (fenceM M) ∧ Turns (fun b => b = d ∨ b = p) w w' := by
  obtain ⟨av, ag1, ag2, ap1, ap2, ap3, gl, vl, dl, pl⟩ := mem_apart h
  obtain ⟨D, n, hown, hD, hsz⟩ := h.2.2.2.2.2
  obtain ⟨c0, c1, c2⟩ := h.cells
  have H := hid h
  have HDD := hid hD
  clear h hD hsz
  go_enter_d Tryz.func67, Tryz.ntmps67
  go_wp2_with (first | (at_range; refine wpList_range_own _ rfl _ 65 rfl 3 108 keyedI Tryz.underlying65 unitElem p n D rfl hown ?_; intro w0 hrg0 hg0 hs0))
  go_frame
  have B0 : Below w.heap.size w w0 := (Below.refl _ w).grown hg0 (Nat.le_refl _) (fun k hk => by cases hk)
  go_loopw [2] (fun _ wr => ∃ left cnt, wr.ranges Tryz.prog 3 unitElem p w.heap.size n D left cnt ∧ (∀ i : Int, left (.int .i64 i) = true → pendB M.A i = true) ∧ MemP wr g v d p ⟨M.V, mixF (fun i => M.A.getD i false && !left (.int .i64 (i : Int))) M.V M.D, M.A⟩ ∧ Turns (fun b => b = d) w wr) (fun _ wr => wr.rangeLeft p w.heap.size)
  case atStart =>
    refine ⟨_, _, hrg0, fun i hi => by rw [← HDD.out]; exact hi, ?_, Turns.of_below B0⟩
    have := H.out.mono B0
    rw [show mixF (fun i => M.A.getD i false && !Maps.has D (.int .i64 (i : Int))) M.V M.D = M.D from ?_]
    · exact this
    · rw [mixF_congr (g := fun _ => false) (fun k _ => by rw [HDD.out, pendB_nat]; simp), mixF_none]
  case round =>
    obtain ⟨left, cnt, hrg, hle, hm, ht⟩ := hrel
    obtain ⟨k0, k1, k2⟩ := hm.cells
    have HM := hid hm; have HT := hid ht; have HLE := hid hle; have HRG := hid hrg
    clear hm ht hle hown hrg0 hg0 hs0 B0
    go_wp2_with (first | (at_next; refine wpl_nextS rfl _ rfl rfl HRG.out ?_ ?_))
    · intro hl0
      have hm1 := HM.out
      rw [mixF_congr (g := fun i => M.A.getD i false) (fun k _ => by rw [hl0]; simp)] at hm1
      have HM1 := hid hm1
      clear hm1 hl0
      obtain ⟨w3, hrun, p3, g3⟩ := HM1.out.2.2.2.2.2.clear (ty := 0) Tryz.underlying65 M.A.length
      have P3 := hid p3; have G3 := hid g3
      clear p3 g3
      go_wp2
      go_end0
      have t3 : Turns (fun b => b = p) wr w3 := Turns.of_grown G3.out rfl
      obtain ⟨m1, m2, m3, m4, m5, m6⟩ := HM1.out
      exact ⟨⟨_, rfl⟩, ⟨fenceM_ok H.out.1, m2, t3.blk m3 (by intro q; exact ap1 q.symm), t3.blk m4 (by intro q; exact ap2 q.symm), t3.blk m5 (by intro q; exact ap3 q.symm), P3.out⟩, (HT.out.mono (fun _ q => .inl q)).trans (t3.mono (fun _ q => .inr q))⟩
    · intro x w1 cnt1 hwx hlx hrg1 hlt hg1 hen
      obtain ⟨k, rfl, hkl, hkA⟩ := pendB_true (HLE.out x hlx)
      have t1 : Turns (fun b => b = w.heap.size) wr w1 := Turns.of_grown hg1 rfl
      have m1 := HM.out.turns t1 (by omega) (by omega) (by omega) (by omega)
      have HP := hid (persist_any m1 k hkl)
      have HR1 := hid hrg1
      have T1 := hid t1
      have HKA := hid hkA
      have HLT := hid hlt
      clear m1 hrg1 hg1 t1 hwx hlx hkA hlt
      go_wp2_with (first | (go_at_call 41; refine HP.out.mono ?_; rintro e w2 ⟨⟨x, rfl⟩, m2, t2⟩; have M2 := hid m2; have T2 := hid t2; clear m2 t2))
      go_roundw
      case rel =>
        refine ⟨_, cnt1, T2.out.ranges HR1.out ap3 (by omega), fun i hi => ?_, ?_, (HT.out.trans' T1.out (fun b hb q => ?_)).trans T2.out⟩
        · simp only [Bool.and_eq_true] at hi
          exact HLE.out i hi.1
        · have := M2.out
          rw [mixF_setA] at this
          rw [mixF_congr (g := fun i => M.A.getD i false && !left (.int .i64 (i : Int)) || i == k) (fun i _ => ?_)]
          · exact this
          · rw [sameKeyI]
            by_cases e : i = k
            · subst e; rw [HKA.out]; simp
            · have : ¬ ((i : Int) = (k : Int)) := by omega
              simp [this, e]
        · omega
      case measure => rw [(T2.out.ranges HR1.out ap3 (by omega)).left_eq, HRG.out.left_eq]; exact HLT.out
end Go.Proofs.YtcackliabemecaaGreatDoor
/- A log in memory; what write leaves. -/
namespace Go.Proofs.YtcackliabemecaaGreatDoor
open Go.RowKit
set_option linter.unusedSimpArgs false
set_option linter.unusedVariables false
set_option maxRecDepth 100000

def logC (g at_ size : Nat) : List Value := [.pointer (some ⟨g, 0, none⟩), .int .i64 (at_ : Int), .int .i64 (size : Int)]
/-- a log at lg, of the memory at g -/
structure LogP (w : World) (lg g v d p at_ size : Nat) (M : MemM) : Prop where
  l : Blk w lg 74 (logC g at_ size)
  m : MemP w g v d p M
def XM (v d p : Nat) (k : Nat) : Prop := k = v ∨ k = d ∨ k = p
theorem LogP.mono {w w' : World} {lg g v d p at_ size : Nat} {M : MemM} (h : LogP w lg g v d p at_ size M) (b : Below w.heap.size w w') : LogP w' lg g v d p at_ size M := ⟨h.l.mono b, h.m.mono b⟩
theorem LogP.lt {w : World} {lg g v d p at_ size : Nat} {M : MemM} (h : LogP w lg g v d p at_ size M) : lg < w.heap.size ∧ g < w.heap.size ∧ v < w.heap.size ∧ d < w.heap.size ∧ p < w.heap.size := by
  obtain ⟨av, ag1, ag2, ap1, ap2, ap3, gl, vl, dl, pl⟩ := mem_apart h.m
  exact ⟨h.l.lt, gl, vl, dl, pl⟩
/-- a newer block is changed -/
theorem LogP.fresh {w w' : World} {lg g v d p at_ size q : Nat} {M : MemM} (h : LogP w lg g v d p at_ size M) (t : Turns (fun k => k = q) w w') (hq : lg < q ∧ g < q ∧ v < q ∧ d < q ∧ p < q) : LogP w' lg g v d p at_ size M :=
  ⟨t.blk h.l (fun e => by omega), h.m.turns t (fun e => by omega) (fun e => by omega) (fun e => by omega) (fun e => by omega)⟩
theorem pend_neP {w : World} {p : Nat} {A : List Bool} {g : Nat} {e : TypeId} {L : List Value} (h : PendP w p A) (hb : Blk w g e L) : g ≠ p := by
  rintro rfl
  obtain ⟨D, n, hown, _⟩ := h
  obtain ⟨es, clock, hb2, _⟩ := hown
  unfold Blk at hb
  rw [hb2] at hb
  cases hb
theorem LogP.nX {w : World} {lg g v d p at_ size : Nat} {M : MemM} (h : LogP w lg g v d p at_ size M) : ¬ XM v d p lg := by
  rintro (e | e | e)
  · exact blk_ne h.l h.m.2.2.2.1 (by decide) e
  · exact blk_ne h.l h.m.2.2.2.2.1 (by decide) e
  · exact pend_neP h.m.2.2.2.2.2 h.l e
theorem LogP.next {w w' : World} {lg g v d p at_ size : Nat} {M M' : MemM} {X : Nat → Prop} (h : LogP w lg g v d p at_ size M) (hm : MemP w' g v d p M') (t : Turns X w w') (hX : ∀ k, X k → XM v d p k) : LogP w' lg g v d p at_ size M' :=
  ⟨t.blk h.l (fun e => h.nX (hX _ e)), hm⟩
def wStep (M : MemM) (p : PtM) : MemM := if inM M p.at_ p.d.length = true then flushU (storeU M p.at_ p.d) p.at_ p.d.length else M
def writeM (M : MemM) (L : List PtM) : MemM := fenceM (L.foldl wStep M)
theorem errM_in {M : MemM} {at_ n : Int} (h : inM M at_ n = true) : errM M at_ n = 0 := if_pos h
theorem errM_out {M : MemM} {at_ n : Int} (h : ¬ inM M at_ n = true) : errM M at_ n = 1 := if_neg h
theorem storeU_out {M : MemM} {at_ : Int} {b : List UInt8} (h : ¬ inM M at_ b.length = true) : storeU M at_ b = M := if_neg h
theorem wpk_defer {P : Program} {ops : Array Oper} {Q : Exit → Act → World → Prop} {rest : List Oper} {o : Oper} {a : Act} {w : World} {N : Nat} {l : List (Nat × Value)} (h : Kn N l a) (hw : Region.wanted o (yielded ops a.tmps) = true) (hd : o.dst = none)
    {fn : FuncId} {xs : Array Operand} {ts : Array TypeId} (p : o.op = .defer { callee := .value (.func fn), args := xs, argTypes := ts }) (vs : Array Value) (hx : xs.map a.eval = vs)
    (k : ∀ a', KnD [{ target := .fn (.func fn) #[], args := vs }] N l a' → wpList P ops Q rest a' w) : wpList P ops Q (o :: rest) a w := by
  refine wpList_step fun K hK => ?_
  rw [if_pos hw]
  have hrun : (execOp a.eval o).run P w = .ok (.defer { target := .fn (.func fn) #[], args := vs }) w := by
    unfold execOp; rw [p]
    simp [resolve, Deferred.ofValue, hx]
    simp [Act.eval]
  unfold Oper.wp
  rw [hrun, Oper.upon_defer, hd]
  refine hK _ _ (k _ ⟨h.size, h.known, ?_⟩)
  show _ :: a.defers = _
  rw [h.defs]
theorem loadMP {w : World} {g off : Nat} {q : Option Addr} (h : w.cell? ⟨g, off, none⟩ = some (.pointer q)) : (Instr.loadAt 34 (.pointer (some ⟨g, off, none⟩))).run Tryz.prog w = .ok (.pointer q) w := by
  have u3 := Tryz.underlying34
  have a3 := Tryz.isAgg34
  have z3 := Tryz.sizeOf34
  go_simp
theorem eqEP (x y : Operand) (v u : Int) (w : World) {b : Bool} (h : (v == u) = b) : (do eqGuard .eql 32 x y (.int .i64 v) (.int .i64 u); binOp .eql 32 (.int .i64 v) (.int .i64 u) : Sem Value).run Tryz.prog w = .ok (.bool b) w := by
  have u3 := Tryz.underlying32
  have a3 := Tryz.isAgg32
  have z3 := Tryz.sizeOf32
  subst h
  go_simp
theorem neEP (x y : Operand) (v u : Int) (w : World) {b : Bool} (h : (v != u) = b) : (do eqGuard .neq 32 x y (.int .i64 v) (.int .i64 u); binOp .neq 32 (.int .i64 v) (.int .i64 u) : Sem Value).run Tryz.prog w = .ok (.bool b) w := by
  have u3 := Tryz.underlying32
  have a3 := Tryz.isAgg32
  have z3 := Tryz.sizeOf32
  subst h
  go_simp
end Go.Proofs.YtcackliabemecaaGreatDoor
/- (*plog.Log).write. (genPlgO.py) -/
namespace Go.Proofs.YtcackliabemecaaGreatDoor
open Go.RowKit
set_option linter.unusedSimpArgs false
set_option linter.unusedVariables false
set_option maxRecDepth 100000
theorem callP_23 (args : Array Value) (w : World) : (callFunc 25 args).run Tryz.prog w = .ok (.enter 25 args) w := by
  have h := Tryz.func25
  go_simp
theorem callP_76 (args : Array Value) (w : World) : (callFunc 68 args).run Tryz.prog w = .ok (.enter 68 args) w := by
  have h := Tryz.func68
  go_simp
theorem fa_73_0_0 (g : Nat) (w : World) : (Instr.fieldAt 74 (.pointer (some ⟨g, 0, none⟩)) 0).run Tryz.prog w = .ok (.pointer (some ⟨g, 0, none⟩)) w := rfl

def postW (w : World) (lg g v d p at_ size : Nat) (M : MemM) (L : List PtM) (e : Ending) (w' : World) : Prop := ∃ x, e = .returned x ∧ LogP w' lg g v d p at_ size (writeM M L) ∧ Turns (XM v d p) w w'
theorem leaves_tmps {P : Program} {fn : Func} (hf : fn.results = #[]) {R : Ending → World → Prop} (t1 t2 : Array Value) : ∀ (ds : List Deferred) (u : FrameMode) (w : World), Leaves P fn t1 R ds u w → Leaves P fn t2 R ds u w := by
  intro ds
  induction ds with
  | nil =>
    intro u w h
    cases u with
    | run => exact h
    | returning =>
      obtain ⟨x, h1, h2⟩ := h
      exact ⟨x, by simpa [results, hf] using h1, h2⟩
    | panicking c => exact h
  | cons d ds ih =>
    intro u w h
    obtain ⟨h1, fv, cap, f, args, h2, h3, h4⟩ := h
    refine ⟨h1, fv, cap, f, args, h2, h3, h4.mono fun e u' w' q => ?_⟩
    cases e with
    | returned x => exact ih _ _ q
    | panicked c => exact ih _ _ q
    | outgrown => exact q
theorem panicW {R : Ending → World → Prop} {c : List PanicEntry} {a : Act} {o : Option Tmp} {v : Value} {w : World} (h : bodyPostD Tryz.prog Tryz.f48 R (.panic c) (a.put o v) w) : bodyPostD Tryz.prog Tryz.f48 R (.panic c) a w := by
  cases o with
  | none => exact h
  | some d => exact leaves_tmps rfl _ _ _ _ _ h
theorem retW {w W : World} {lg g v d p at_ size : Nat} {M Mj : MemM} {L : List PtM} {act : Act} (hG : LogP W lg g v d p at_ size Mj) (hT : Turns (XM v d p) w W) (hM : Mj = L.foldl wStep M) (hd : act.defers = [{ target := .fn (.func 67) #[], args := #[.pointer (some ⟨g, 0, none⟩)] }]) :
    bodyPostD Tryz.prog Tryz.f48 (postW w lg g v d p at_ size M L) .normal act W := by
  show Leaves _ _ _ _ _ _ _
  rw [hd]
  refine leaves_cons (f := 67) (args := #[.pointer (some ⟨g, 0, none⟩)]) (by intro q; cases q) (by have hh := Tryz.func67; go_simp) ?_
  refine (fenceD_any hG.m).mono ?_
  rintro e u' w' ⟨rfl, ⟨x, rfl⟩, m, t⟩
  show Leaves _ _ _ _ _ _ _
  refine ⟨.tuple #[], by simp [results, Tryz.f48], _, rfl, ?_, hT.trans (t.mono (fun k e => .inr e))⟩
  unfold writeM
  rw [← hM]
  exact hG.next m t (fun k e => .inr e)

set_option maxHeartbeats 4000000 in
theorem logWrite_any {w : World} {lg g v d p at_ size : Nat} {M : MemM} {a : Option Addr} {c : Nat} {L : List PtM} (hg : LogP w lg g v d p at_ size M) (hR : ∀ W, Turns (XM v d p) w W → RowPt W a c L) (okP : okPts L) (okD : ∀ q ∈ L, q.d.length ≤ 1000000) (hl : L.length ≤ 1000000) :
    Calls Tryz.prog 48 #[.pointer (some ⟨lg, 0, none⟩), .slice a L.length c] w fun e w' => postW w lg g v d p at_ size M L e w' := by
  have HG0 := hid hg; have HR := hid hR
  clear hg hR
  go_enter_defers Tryz.func48, Tryz.ntmps48
  iterate 3 go_step
  refine wpk_enter (N := 38) (l := [(0, .pointer (some ⟨lg, 0, none⟩)), (1, .slice a L.length c)]) ⟨rfl, (by intro x hx; simp only [List.mem_cons, List.not_mem_nil, or_false] at hx; rcases hx with rfl | rfl <;> rfl), rfl⟩ fun a2 h1 => ?_
  refine wmk h1 rfl rfl rfl rfl 0 rfl (fun _ => rfl) fun a4 h3 => ?_
  refine wv h3 rfl rfl rfl rfl (.pointer (some ⟨lg, 0, none⟩)) (by unfold execOp; simp only [h3.ev 6 rfl]; exact rfl) fun a6 h5 => ?_
  refine wv h5 rfl rfl rfl rfl (.pointer (some ⟨lg, 0, none⟩)) (by unfold execOp; simp only [h5.ev 7 rfl]; exact run_v (fa_73_0_0 (lg) _)) fun a8 h7 => ?_
  refine wv h7 rfl rfl rfl rfl (.pointer (some ⟨g, 0, none⟩)) (by unfold execOp; simp only [h7.ev 8 rfl]; exact run_v (loadMP (HG0.out.l.cell (i := 0) (by show 0 < 3; omega)))) fun a10 h9 => ?_
  refine wpk_defer h9 (wanted_none rfl) rfl rfl #[.pointer (some ⟨g, 0, none⟩)] (by simp only [List.map_toArray, List.map_cons, List.map_nil, h9.ev 9 rfl]) fun a12 h11 => ?_
  have h13 := h11.subs (l' := [(0, _), (1, _)]) rfl
  clear h11
  iterate 5 go_step
  refine wpkD_val h13 (wanted_none rfl) rfl (by decide) (fr rfl) (.slice a L.length c) (by unfold execOp; simp only [h13.ev 1 rfl]; rfl) fun a15 h14 => ?_
  refine wpkD_val h14 (wanted_none rfl) rfl (by decide) (fr rfl) (.int .i64 (L.length : Int)) (run_lenP rfl (h14.ev 10 rfl) _) fun a17 h16 => ?_
  refine wpkD_val h16 (wanted_none rfl) rfl (by decide) (fr rfl) (.int .i64 0) rfl fun a19 h18 => ?_
  iterate 4 go_step
  refine wp_loop (I := fun a' w' => ∃ (j : Nat) (Mj : MemM), j ≤ L.length ∧ KnD [{ target := .fn (.func 67) #[], args := #[.pointer (some ⟨g, 0, none⟩)] }] 38 [(12, .int .i64 (j : Int)), (11, .int .i64 (L.length : Int)), (10, .slice a L.length c), (0, .pointer (some ⟨lg, 0, none⟩)), (1, .slice a L.length c)] a' ∧ Mj = (L.take j).foldl wStep M ∧ LogP w' lg g v d p at_ size Mj ∧ Turns (XM v d p) w w') (μ := fun a' _ => L.length - (intOf (a'.eval (.tmp 12))).toNat) ⟨0, M, Nat.zero_le _, h18, by rw [List.take_zero]; rfl, HG0.out, Turns.refl _ _⟩ ?_
  clear h18
  rintro aL wL ⟨j, Mj, hj, hK, hmj, hG, hT⟩
  have HG := hid hG; have HT := hid hT; have HMJ := hid hmj; clear hG hT hmj
  by_cases hlt : j < L.length
  · have hd0 : decide ((j : Int) < (L.length : Int)) = true := decide_eq_true (by omega)
    obtain ⟨pb, poff, ha0, hrg⟩ := rowPt_at (HR.out wL HT.out) (by omega)
    have hrg := hrg j hlt
    have hq64 := okP L[j] (List.getElem_mem hlt); have hdl := okD L[j] (List.getElem_mem hlt)
    obtain ⟨q, hq⟩ : ∃ q, q = L[j] := ⟨_, rfl⟩
    rw [← hq] at hrg hq64 hdl
    have HQ := hid hq; clear hq
    change i64B q.at_ at hq64
    by_cases hin : inM Mj q.at_ q.d.length = true
    · have herr : (errM Mj q.at_ q.d.length == 0) = true := by rw [errM_in hin]; rfl
      iterate 3 go_step
      refine wpkD_val hK (wanted_none rfl) rfl (by decide) (fr rfl) (.bool true) (by unfold execOp; simp only [hK.ev 12 rfl, hK.ev 11 rfl]; exact run_v (ltIP _ _ _ _ _ hd0)) fun a21 h20 => ?_
      iterate 4 go_step
      refine wp_cond (t := true) (h20.ev 13 rfl) ?_
      simp only [if_true]
      have h22 := h20.subs (l' := [(12, _), (11, _), (10, _), (0, _), (1, _)]) rfl
      clear h20
      iterate 7 go_step
      refine wpkD_val h22 (wanted_none rfl) rfl (by decide) (fr rfl) (.pointer (some ⟨pb, poff + j * 2, none⟩)) (by unfold execOp; simp only [h22.ev 10 rfl, h22.ev 12 rfl]; exact run_v (by rw [ha0]; exact ixP pb poff _ c j hlt _)) fun a24 h23 => ?_
      refine wpkD_val h23 (wanted_none rfl) rfl (by decide) (fr rfl) (ptV q) (by unfold execOp; simp only [h23.ev 14 rfl]; exact run_v (run_loadAt_mid _ _ _ _ (ptC q) _ hrg Tryz.underlying47 rfl (by rw [infoPt]; rfl))) fun a26 h25 => ?_
      refine wpkD_val h25 (wanted_none rfl) rfl (by decide) (fr rfl) (.pointer (some ⟨wL.heap.size, 0, none⟩)) (run_allocPt rfl _ wL) fun a28 h27 => ?_
      obtain ⟨wp, hwp⟩ : ∃ x, x = wL.alloc (.cells (ptC ⟨0, []⟩).toArray 47) := ⟨_, rfl⟩
      obtain ⟨gp, hgp⟩ : ∃ x, x = wL.heap.size := ⟨_, rfl⟩
      have hk0 : Blk wp gp 47 (ptC ⟨0, []⟩) := by rw [hwp, hgp]; exact blk_newO rfl _ _
      have hap : lg < gp ∧ g < gp ∧ v < gp ∧ d < gp ∧ p < gp := by rw [hgp]; exact HG.out.lt
      have hgw : w.heap.size ≤ gp := by rw [hgp]; exact HT.out.size
      have HGp : Hid (LogP wp lg g v d p at_ size Mj) := hid (by rw [hwp]; exact HG.out.mono (albO _ _)); have HTp : Hid (Turns (XM v d p) w wp) := hid (by rw [hwp]; exact HT.out.trans (Turns.of_below (albO _ _)))
      rw [← hgp] at h27; rw [← hwp]; clear hwp hgp
      refine wpkD_storeP h27 rfl rfl rfl gp 0 (h27.ev 5 rfl) (ptC q) (h27.ev 15 rfl) (by rw [infoPt]; rfl) (ptC_one _) hk0 (by show 0 + 2 ≤ 2; omega) fun a30 wq h29 kq gq => ?_
      rw [splice_all (by rfl)] at kq
      have HPQ := hid kq; have HGq := hid (HGp.out.fresh (Turns.of_grown gq rfl) hap); have HTq : Hid (Turns (XM v d p) w wq) := hid (HTp.out.trans' (Turns.of_grown (X := fun k => k = gp) gq rfl) (fun k hk e => absurd e (by omega)))
      clear kq gq hk0 HGp HTp
      have h31 := h29.subs (l' := [(5, _), (12, _), (11, _), (10, _), (0, _), (1, _)]) rfl
      clear h29
      iterate 4 go_step
      have HG4 := hid (HGq.out.mono (Below.refl _ _).drew); have HT4 := hid HTq.out.drew; have HP4 := hid (HPQ.out.mono (Below.refl _ _).drew)
      refine wp_region_held_drew (S := fun w' => Blk w' lg 74 (logC g at_ size) ∧ Blk w' gp 47 (ptC q)) (by kernel_rfl) ⟨HG4.out.l, HP4.out⟩ (fun hS4 => ?_)
      refine wpkD_take hS4 h31 0 rfl rfl (by decide) (fr rfl) (by kernel_rfl) (by kernel_rfl) (by kernel_rfl) (fun _ _ _ _ h => panicW (R := postW w lg g v d p at_ size M L) h) (.pointer (some ⟨lg, 0, none⟩)) (Or.inl ⟨Eq.refl true, fun w1 hSw => (by show (execOp _ (⟨_, .move (.tmp 0), _, _, _, _⟩ : Oper)).run _ _ = _; exact (by unfold execOp; simp only [h31.ev 0 rfl]; exact rfl))⟩) fun a33 h32 => ?_
      refine wpkD_take hS4 h32 1 rfl rfl (by decide) (fr rfl) (by kernel_rfl) (by kernel_rfl) (by kernel_rfl) (fun _ _ _ _ h => panicW (R := postW w lg g v d p at_ size M L) h) (.pointer (some ⟨lg, 0, none⟩)) (Or.inl ⟨Eq.refl true, fun w1 hSw => (by show (execOp _ (⟨_, .nilCheck (.tmp 16), _, _, _, _⟩ : Oper)).run _ _ = _; exact (by unfold execOp; simp only [h32.ev 16 rfl]; exact rfl))⟩) fun a35 h34 => ?_
      refine wpkD_take hS4 h34 2 rfl rfl (by decide) (fr rfl) (by kernel_rfl) (by kernel_rfl) (by kernel_rfl) (fun _ _ _ _ h => panicW (R := postW w lg g v d p at_ size M L) h) (.pointer (some ⟨lg, 0, none⟩)) (Or.inl ⟨Eq.refl true, fun w1 hSw => (by show (execOp _ (⟨_, .fieldAddr 74 (.tmp 17) 0, _, _, _, _⟩ : Oper)).run _ _ = _; exact (by unfold execOp; simp only [h34.ev 17 rfl]; exact run_v (fa_73_0_0 (lg) _)))⟩) fun a37 h36 => ?_
      refine wpkD_take hS4 h36 3 rfl rfl (by decide) (fr rfl) (by kernel_rfl) (by kernel_rfl) (by kernel_rfl) (fun _ _ _ _ h => panicW (R := postW w lg g v d p at_ size M L) h) (.pointer (some ⟨g, 0, none⟩)) (Or.inl ⟨Eq.refl true, fun w1 hSw => (by show (execOp _ (⟨_, .load 34 (.tmp 18), _, _, _, _⟩ : Oper)).run _ _ = _; exact (by unfold execOp; simp only [h36.ev 18 rfl]; exact run_v (loadMP (hSw.1.cell (i := 0) (by show 0 < 3; omega)))))⟩) fun a39 h38 => ?_
      refine wpkD_take hS4 h38 4 rfl rfl (by decide) (fr rfl) (by kernel_rfl) (by kernel_rfl) (by kernel_rfl) (fun _ _ _ _ h => panicW (R := postW w lg g v d p at_ size M L) h) (.pointer (some ⟨gp, 0, none⟩)) (Or.inl ⟨Eq.refl true, fun w1 hSw => (by show (execOp _ (⟨_, .fieldAddr 47 (.tmp 5) 0, _, _, _, _⟩ : Oper)).run _ _ = _; exact (by unfold execOp; simp only [h38.ev 5 rfl]; exact run_v (fa_46_0_0 (gp) _)))⟩) fun a41 h40 => ?_
      refine wpkD_take hS4 h40 5 rfl rfl (by decide) (fr rfl) (by kernel_rfl) (by kernel_rfl) (by kernel_rfl) (fun _ _ _ _ h => panicW (R := postW w lg g v d p at_ size M L) h) (.int .i64 q.at_) (Or.inl ⟨Eq.refl true, fun w1 hSw => (by show (execOp _ (⟨_, .load 3 (.tmp 20), _, _, _, _⟩ : Oper)).run _ _ = _; exact (by unfold execOp; simp only [h40.ev 20 rfl]; exact run_v (loadIP (hSw.2.cell (i := 0) (by show 0 < 2; omega)))))⟩) fun a43 h42 => ?_
      refine wpkD_take hS4 h42 6 rfl rfl (by decide) (fr rfl) (by kernel_rfl) (by kernel_rfl) (by kernel_rfl) (fun _ _ _ _ h => panicW (R := postW w lg g v d p at_ size M L) h) (.pointer (some ⟨gp, 1, none⟩)) (Or.inl ⟨Eq.refl true, fun w1 hSw => (by show (execOp _ (⟨_, .fieldAddr 47 (.tmp 5) 1, _, _, _, _⟩ : Oper)).run _ _ = _; exact (by unfold execOp; simp only [h42.ev 5 rfl]; exact run_v (fa_46_0_1 (gp) _)))⟩) fun a45 h44 => ?_
      refine wpkD_take hS4 h44 7 rfl rfl (by decide) (fr rfl) (by kernel_rfl) (by kernel_rfl) (by kernel_rfl) (fun _ _ _ _ h => panicW (R := postW w lg g v d p at_ size M L) h) (strB q.d) (Or.inl ⟨Eq.refl true, fun w1 hSw => (by show (execOp _ (⟨_, .load 9 (.tmp 22), _, _, _, _⟩ : Oper)).run _ _ = _; exact (by unfold execOp; simp only [h44.ev 22 rfl]; exact run_v (loadSP (hSw.2.cell (i := 1) (by show 1 < 2; omega)))))⟩) fun a47 h46 => ?_
      obtain ⟨yc, w5, hcv, hrow, b5⟩ := bytes_of_str wq.drew q.d hdl
      refine wpk_only 8 rfl rfl (by kernel_rfl) fun K hK => opD_val (w' := w5) h46 rfl (by decide) (fr rfl) (.slice (some ⟨wq.drew.heap.size, 0, none⟩) q.d.length yc) (by show (execOp _ (⟨_, .convert 9 26 (.tmp 23), _, _, _, _⟩ : Oper)).run _ _ = _; exact (by unfold execOp; simp only [h46.ev 23 rfl]; exact run_v hcv)) fun a49 h48 => hK _ _ ⟨hS4.1.mono b5, hS4.2.mono b5⟩ fun hS5 => ?_
      clear hK K
      have HG5 := hid (HG4.out.mono b5); have HT5 := hid (HT4.out.trans (Turns.of_below b5)); clear b5 hcv
      refine wpk_only 9 rfl rfl (by kernel_rfl) fun K hK => opD_call h48 rfl (by decide) (fr rfl) (fun args => callP_23 args _) rfl #[.pointer (some ⟨g, 0, none⟩), .int .i64 q.at_, .slice (some ⟨wq.drew.heap.size, 0, none⟩) q.d.length yc] (by simp only [List.map_toArray, List.map_cons, List.map_nil, h48.ev 19 rfl, h48.ev 21 rfl, h48.ev 24 rfl]) (R := fun x w' => x = .int .i64 (errM Mj q.at_ q.d.length) ∧ MemP w' g v d p (storeU Mj q.at_ q.d) ∧ Turns (fun k => k = v ∨ k = p) w5 w') ((store_u HG5.out.m q.at_ hq64 _ _ q.d hrow).mono fun e w' z => ⟨_, z.1, rfl, z.2⟩) fun a51 v6 w6 r6 h50 => hK _ _ ⟨r6.2.2.blk hS5.1 (fun e => HG5.out.nX (e.elim .inl (fun e => .inr (.inr e)))), r6.2.2.blk hS5.2 (by intro e; rcases e with e | e <;> omega)⟩ fun hS6 => ?_
      clear hK K
      obtain ⟨rfl, m6, t6⟩ := r6
      have HG6 := hid (HG5.out.next m6 t6 (fun k e => e.elim .inl (fun e => .inr (.inr e)))); have HT6 : Hid (Turns (XM v d p) w w6) := hid (HT5.out.trans (t6.mono (fun k e => e.elim .inl (fun e => .inr (.inr e))))); have HP6 := hid hS6.2; clear m6 t6 hrow
      refine wpkD_take hS6 h50 10 rfl rfl (by decide) (fr rfl) (by kernel_rfl) (by kernel_rfl) (by kernel_rfl) (fun _ _ _ _ h => panicW (R := postW w lg g v d p at_ size M L) h) (.bool true) (Or.inl ⟨Eq.refl true, fun w1 hSw => (by show (execOp _ (⟨_, .binOp .eql 32 (.tmp 25) (.const (.int .i64 0)) 32, _, _, _, _⟩ : Oper)).run _ _ = _; exact (by unfold execOp; simp only [h50.ev 25 rfl]; exact run_v (eqEP _ _ _ _ _ herr)))⟩) fun a53 h52 => ?_
      refine wpAnyH_done (by kernel_rfl) ?_ _
      have h54 := h52.subs (l' := [(26, _), (5, _), (12, _), (11, _), (10, _), (0, _), (1, _)]) rfl
      clear h52
      iterate 2 go_step
      refine wp_cond (t := true) (h54.ev 26 rfl) ?_
      simp only [if_true]
      have h55 := h54.subs (l' := [(5, _), (12, _), (11, _), (10, _), (0, _), (1, _)]) rfl
      clear h54
      have HG7 := hid (HG6.out.mono (Below.refl _ _).drew); have HT7 := hid HT6.out.drew; have HP7 := hid (HP6.out.mono (Below.refl _ _).drew)
      refine wp_region_held_drew (S := fun w' => Blk w' lg 74 (logC g at_ size) ∧ Blk w' gp 47 (ptC q)) (by kernel_rfl) ⟨HG7.out.l, HP7.out⟩ (fun hS7 => ?_)
      refine wpkD_take hS7 h55 0 rfl rfl (by decide) (fr rfl) (by kernel_rfl) (by kernel_rfl) (by kernel_rfl) (fun _ _ _ _ h => panicW (R := postW w lg g v d p at_ size M L) h) (.pointer (some ⟨lg, 0, none⟩)) (Or.inl ⟨Eq.refl true, fun w1 hSw => (by show (execOp _ (⟨_, .move (.tmp 0), _, _, _, _⟩ : Oper)).run _ _ = _; exact (by unfold execOp; simp only [h55.ev 0 rfl]; exact rfl))⟩) fun a57 h56 => ?_
      refine wpkD_take hS7 h56 1 rfl rfl (by decide) (fr rfl) (by kernel_rfl) (by kernel_rfl) (by kernel_rfl) (fun _ _ _ _ h => panicW (R := postW w lg g v d p at_ size M L) h) (.pointer (some ⟨lg, 0, none⟩)) (Or.inl ⟨Eq.refl true, fun w1 hSw => (by show (execOp _ (⟨_, .nilCheck (.tmp 27), _, _, _, _⟩ : Oper)).run _ _ = _; exact (by unfold execOp; simp only [h56.ev 27 rfl]; exact rfl))⟩) fun a59 h58 => ?_
      refine wpkD_take hS7 h58 2 rfl rfl (by decide) (fr rfl) (by kernel_rfl) (by kernel_rfl) (by kernel_rfl) (fun _ _ _ _ h => panicW (R := postW w lg g v d p at_ size M L) h) (.pointer (some ⟨lg, 0, none⟩)) (Or.inl ⟨Eq.refl true, fun w1 hSw => (by show (execOp _ (⟨_, .fieldAddr 74 (.tmp 28) 0, _, _, _, _⟩ : Oper)).run _ _ = _; exact (by unfold execOp; simp only [h58.ev 28 rfl]; exact run_v (fa_73_0_0 (lg) _)))⟩) fun a61 h60 => ?_
      refine wpkD_take hS7 h60 3 rfl rfl (by decide) (fr rfl) (by kernel_rfl) (by kernel_rfl) (by kernel_rfl) (fun _ _ _ _ h => panicW (R := postW w lg g v d p at_ size M L) h) (.pointer (some ⟨g, 0, none⟩)) (Or.inl ⟨Eq.refl true, fun w1 hSw => (by show (execOp _ (⟨_, .load 34 (.tmp 29), _, _, _, _⟩ : Oper)).run _ _ = _; exact (by unfold execOp; simp only [h60.ev 29 rfl]; exact run_v (loadMP (hSw.1.cell (i := 0) (by show 0 < 3; omega)))))⟩) fun a63 h62 => ?_
      refine wpkD_take hS7 h62 4 rfl rfl (by decide) (fr rfl) (by kernel_rfl) (by kernel_rfl) (by kernel_rfl) (fun _ _ _ _ h => panicW (R := postW w lg g v d p at_ size M L) h) (.pointer (some ⟨gp, 0, none⟩)) (Or.inl ⟨Eq.refl true, fun w1 hSw => (by show (execOp _ (⟨_, .fieldAddr 47 (.tmp 5) 0, _, _, _, _⟩ : Oper)).run _ _ = _; exact (by unfold execOp; simp only [h62.ev 5 rfl]; exact run_v (fa_46_0_0 (gp) _)))⟩) fun a65 h64 => ?_
      refine wpkD_take hS7 h64 5 rfl rfl (by decide) (fr rfl) (by kernel_rfl) (by kernel_rfl) (by kernel_rfl) (fun _ _ _ _ h => panicW (R := postW w lg g v d p at_ size M L) h) (.int .i64 q.at_) (Or.inl ⟨Eq.refl true, fun w1 hSw => (by show (execOp _ (⟨_, .load 3 (.tmp 31), _, _, _, _⟩ : Oper)).run _ _ = _; exact (by unfold execOp; simp only [h64.ev 31 rfl]; exact run_v (loadIP (hSw.2.cell (i := 0) (by show 0 < 2; omega)))))⟩) fun a67 h66 => ?_
      refine wpkD_take hS7 h66 6 rfl rfl (by decide) (fr rfl) (by kernel_rfl) (by kernel_rfl) (by kernel_rfl) (fun _ _ _ _ h => panicW (R := postW w lg g v d p at_ size M L) h) (.pointer (some ⟨gp, 1, none⟩)) (Or.inl ⟨Eq.refl true, fun w1 hSw => (by show (execOp _ (⟨_, .fieldAddr 47 (.tmp 5) 1, _, _, _, _⟩ : Oper)).run _ _ = _; exact (by unfold execOp; simp only [h66.ev 5 rfl]; exact run_v (fa_46_0_1 (gp) _)))⟩) fun a69 h68 => ?_
      refine wpkD_take hS7 h68 7 rfl rfl (by decide) (fr rfl) (by kernel_rfl) (by kernel_rfl) (by kernel_rfl) (fun _ _ _ _ h => panicW (R := postW w lg g v d p at_ size M L) h) (strB q.d) (Or.inl ⟨Eq.refl true, fun w1 hSw => (by show (execOp _ (⟨_, .load 9 (.tmp 33), _, _, _, _⟩ : Oper)).run _ _ = _; exact (by unfold execOp; simp only [h68.ev 33 rfl]; exact run_v (loadSP (hSw.2.cell (i := 1) (by show 1 < 2; omega)))))⟩) fun a71 h70 => ?_
      refine wpkD_take hS7 h70 8 rfl rfl (by decide) (fr rfl) (by kernel_rfl) (by kernel_rfl) (by kernel_rfl) (fun _ _ _ _ h => panicW (R := postW w lg g v d p at_ size M L) h) (.int .i64 (q.d.length : Int)) (Or.inl ⟨Eq.refl true, fun w1 hSw => (by show (execOp _ (⟨_, .call { callee := .builtin .len, args := #[(.tmp 34)], argTypes := #[9] }, _, _, _, _⟩ : Oper)).run _ _ = _; exact (run_lenSP rfl (h70.ev 34 rfl) _))⟩) fun a73 h72 => ?_
      refine wpk_only 9 rfl rfl (by kernel_rfl) fun K hK => opD_call h72 rfl (by decide) (fr rfl) (fun args => callP_76 args _) rfl #[.pointer (some ⟨g, 0, none⟩), .int .i64 q.at_, .int .i64 (q.d.length : Int)] (by simp only [List.map_toArray, List.map_cons, List.map_nil, h72.ev 30 rfl, h72.ev 32 rfl, h72.ev 35 rfl]) (R := fun x w' => x = .int .i64 (errM (storeU Mj q.at_ q.d) q.at_ q.d.length) ∧ MemP w' g v d p (flushU (storeU Mj q.at_ q.d) q.at_ q.d.length) ∧ Turns (fun k => k = p) w6.drew w') ((flush_u HG7.out.m q.at_ q.d.length hq64 (by unfold i64B; omega)).mono fun e w' z => ⟨_, z.1, rfl, z.2⟩) fun a75 v8 w8 r8 h74 => hK _ _ ⟨r8.2.2.blk hS7.1 (fun e => HG7.out.nX (.inr (.inr e))), r8.2.2.blk hS7.2 (by intro e; omega)⟩ fun hS8 => ?_
      clear hK K
      obtain ⟨rfl, m8, t8⟩ := r8
      have HG8 := hid (HG7.out.next m8 t8 (fun k e => .inr (.inr e))); have HT8 : Hid (Turns (XM v d p) w w8) := hid (HT7.out.trans (t8.mono (fun k e => .inr (.inr e)))); clear m8 t8
      refine wpAnyH_done (by kernel_rfl) ?_ _
      have h76 := h74.subs (l' := [(5, _), (12, _), (11, _), (10, _), (0, _), (1, _)]) rfl
      clear h74
      iterate 3 go_step
      refine wpkD_val h76 (wanted_none rfl) rfl (by decide) (fr rfl) (.int .i64 ((j + 1 : Nat) : Int)) (by unfold execOp; simp only [h76.ev 12 rfl]; exact run_v (addIP _ _ j (by omega) _)) fun a78 h77 => ?_
      have h79 := h77.subs (l' := [(37, _), (5, _), (11, _), (10, _), (0, _), (1, _)]) rfl
      clear h77
      refine wpkD_val h79 (wanted_none rfl) rfl (by decide) (fr rfl) (.int .i64 ((j + 1 : Nat) : Int)) (by unfold execOp; simp only [h79.ev 37 rfl]; rfl) fun a81 h80 => ?_
      have h82 := h80.subs (l' := [(12, _), (5, _), (11, _), (10, _), (0, _), (1, _)]) rfl
      clear h80
      iterate 2 go_step
      refine ⟨⟨j + 1, wStep Mj q, by omega, h82.subs rfl, ?_, ?_, HT8.out⟩, ?_⟩
      · rw [List.take_add_one, List.getElem?_eq_getElem hlt, Option.toList_some, List.foldl_append, ← HMJ.out, ← HQ.out]; rfl
      · unfold wStep; rw [if_pos hin]; exact HG8.out
      · rw [h82.ev 12 rfl, hK.ev 12 rfl]; simp [intOf]; omega
    · have herr : (errM Mj q.at_ q.d.length == 0) = false := by rw [errM_out hin]; rfl
      iterate 3 go_step
      refine wpkD_val hK (wanted_none rfl) rfl (by decide) (fr rfl) (.bool true) (by unfold execOp; simp only [hK.ev 12 rfl, hK.ev 11 rfl]; exact run_v (ltIP _ _ _ _ _ hd0)) fun a84 h83 => ?_
      iterate 4 go_step
      refine wp_cond (t := true) (h83.ev 13 rfl) ?_
      simp only [if_true]
      have h85 := h83.subs (l' := [(12, _), (11, _), (10, _), (0, _), (1, _)]) rfl
      clear h83
      iterate 7 go_step
      refine wpkD_val h85 (wanted_none rfl) rfl (by decide) (fr rfl) (.pointer (some ⟨pb, poff + j * 2, none⟩)) (by unfold execOp; simp only [h85.ev 10 rfl, h85.ev 12 rfl]; exact run_v (by rw [ha0]; exact ixP pb poff _ c j hlt _)) fun a87 h86 => ?_
      refine wpkD_val h86 (wanted_none rfl) rfl (by decide) (fr rfl) (ptV q) (by unfold execOp; simp only [h86.ev 14 rfl]; exact run_v (run_loadAt_mid _ _ _ _ (ptC q) _ hrg Tryz.underlying47 rfl (by rw [infoPt]; rfl))) fun a89 h88 => ?_
      refine wpkD_val h88 (wanted_none rfl) rfl (by decide) (fr rfl) (.pointer (some ⟨wL.heap.size, 0, none⟩)) (run_allocPt rfl _ wL) fun a91 h90 => ?_
      obtain ⟨wp, hwp⟩ : ∃ x, x = wL.alloc (.cells (ptC ⟨0, []⟩).toArray 47) := ⟨_, rfl⟩
      obtain ⟨gp, hgp⟩ : ∃ x, x = wL.heap.size := ⟨_, rfl⟩
      have hk0 : Blk wp gp 47 (ptC ⟨0, []⟩) := by rw [hwp, hgp]; exact blk_newO rfl _ _
      have hap : lg < gp ∧ g < gp ∧ v < gp ∧ d < gp ∧ p < gp := by rw [hgp]; exact HG.out.lt
      have hgw : w.heap.size ≤ gp := by rw [hgp]; exact HT.out.size
      have HGp : Hid (LogP wp lg g v d p at_ size Mj) := hid (by rw [hwp]; exact HG.out.mono (albO _ _)); have HTp : Hid (Turns (XM v d p) w wp) := hid (by rw [hwp]; exact HT.out.trans (Turns.of_below (albO _ _)))
      rw [← hgp] at h90; rw [← hwp]; clear hwp hgp
      refine wpkD_storeP h90 rfl rfl rfl gp 0 (h90.ev 5 rfl) (ptC q) (h90.ev 15 rfl) (by rw [infoPt]; rfl) (ptC_one _) hk0 (by show 0 + 2 ≤ 2; omega) fun a93 wq h92 kq gq => ?_
      rw [splice_all (by rfl)] at kq
      have HPQ := hid kq; have HGq := hid (HGp.out.fresh (Turns.of_grown gq rfl) hap); have HTq : Hid (Turns (XM v d p) w wq) := hid (HTp.out.trans' (Turns.of_grown (X := fun k => k = gp) gq rfl) (fun k hk e => absurd e (by omega)))
      clear kq gq hk0 HGp HTp
      have h94 := h92.subs (l' := [(5, _), (12, _), (11, _), (10, _), (0, _), (1, _)]) rfl
      clear h92
      iterate 4 go_step
      have HG4 := hid (HGq.out.mono (Below.refl _ _).drew); have HT4 := hid HTq.out.drew; have HP4 := hid (HPQ.out.mono (Below.refl _ _).drew)
      refine wp_region_held_drew (S := fun w' => Blk w' lg 74 (logC g at_ size) ∧ Blk w' gp 47 (ptC q)) (by kernel_rfl) ⟨HG4.out.l, HP4.out⟩ (fun hS4 => ?_)
      refine wpkD_take hS4 h94 0 rfl rfl (by decide) (fr rfl) (by kernel_rfl) (by kernel_rfl) (by kernel_rfl) (fun _ _ _ _ h => panicW (R := postW w lg g v d p at_ size M L) h) (.pointer (some ⟨lg, 0, none⟩)) (Or.inl ⟨Eq.refl true, fun w1 hSw => (by show (execOp _ (⟨_, .move (.tmp 0), _, _, _, _⟩ : Oper)).run _ _ = _; exact (by unfold execOp; simp only [h94.ev 0 rfl]; exact rfl))⟩) fun a96 h95 => ?_
      refine wpkD_take hS4 h95 1 rfl rfl (by decide) (fr rfl) (by kernel_rfl) (by kernel_rfl) (by kernel_rfl) (fun _ _ _ _ h => panicW (R := postW w lg g v d p at_ size M L) h) (.pointer (some ⟨lg, 0, none⟩)) (Or.inl ⟨Eq.refl true, fun w1 hSw => (by show (execOp _ (⟨_, .nilCheck (.tmp 16), _, _, _, _⟩ : Oper)).run _ _ = _; exact (by unfold execOp; simp only [h95.ev 16 rfl]; exact rfl))⟩) fun a98 h97 => ?_
      refine wpkD_take hS4 h97 2 rfl rfl (by decide) (fr rfl) (by kernel_rfl) (by kernel_rfl) (by kernel_rfl) (fun _ _ _ _ h => panicW (R := postW w lg g v d p at_ size M L) h) (.pointer (some ⟨lg, 0, none⟩)) (Or.inl ⟨Eq.refl true, fun w1 hSw => (by show (execOp _ (⟨_, .fieldAddr 74 (.tmp 17) 0, _, _, _, _⟩ : Oper)).run _ _ = _; exact (by unfold execOp; simp only [h97.ev 17 rfl]; exact run_v (fa_73_0_0 (lg) _)))⟩) fun a100 h99 => ?_
      refine wpkD_take hS4 h99 3 rfl rfl (by decide) (fr rfl) (by kernel_rfl) (by kernel_rfl) (by kernel_rfl) (fun _ _ _ _ h => panicW (R := postW w lg g v d p at_ size M L) h) (.pointer (some ⟨g, 0, none⟩)) (Or.inl ⟨Eq.refl true, fun w1 hSw => (by show (execOp _ (⟨_, .load 34 (.tmp 18), _, _, _, _⟩ : Oper)).run _ _ = _; exact (by unfold execOp; simp only [h99.ev 18 rfl]; exact run_v (loadMP (hSw.1.cell (i := 0) (by show 0 < 3; omega)))))⟩) fun a102 h101 => ?_
      refine wpkD_take hS4 h101 4 rfl rfl (by decide) (fr rfl) (by kernel_rfl) (by kernel_rfl) (by kernel_rfl) (fun _ _ _ _ h => panicW (R := postW w lg g v d p at_ size M L) h) (.pointer (some ⟨gp, 0, none⟩)) (Or.inl ⟨Eq.refl true, fun w1 hSw => (by show (execOp _ (⟨_, .fieldAddr 47 (.tmp 5) 0, _, _, _, _⟩ : Oper)).run _ _ = _; exact (by unfold execOp; simp only [h101.ev 5 rfl]; exact run_v (fa_46_0_0 (gp) _)))⟩) fun a104 h103 => ?_
      refine wpkD_take hS4 h103 5 rfl rfl (by decide) (fr rfl) (by kernel_rfl) (by kernel_rfl) (by kernel_rfl) (fun _ _ _ _ h => panicW (R := postW w lg g v d p at_ size M L) h) (.int .i64 q.at_) (Or.inl ⟨Eq.refl true, fun w1 hSw => (by show (execOp _ (⟨_, .load 3 (.tmp 20), _, _, _, _⟩ : Oper)).run _ _ = _; exact (by unfold execOp; simp only [h103.ev 20 rfl]; exact run_v (loadIP (hSw.2.cell (i := 0) (by show 0 < 2; omega)))))⟩) fun a106 h105 => ?_
      refine wpkD_take hS4 h105 6 rfl rfl (by decide) (fr rfl) (by kernel_rfl) (by kernel_rfl) (by kernel_rfl) (fun _ _ _ _ h => panicW (R := postW w lg g v d p at_ size M L) h) (.pointer (some ⟨gp, 1, none⟩)) (Or.inl ⟨Eq.refl true, fun w1 hSw => (by show (execOp _ (⟨_, .fieldAddr 47 (.tmp 5) 1, _, _, _, _⟩ : Oper)).run _ _ = _; exact (by unfold execOp; simp only [h105.ev 5 rfl]; exact run_v (fa_46_0_1 (gp) _)))⟩) fun a108 h107 => ?_
      refine wpkD_take hS4 h107 7 rfl rfl (by decide) (fr rfl) (by kernel_rfl) (by kernel_rfl) (by kernel_rfl) (fun _ _ _ _ h => panicW (R := postW w lg g v d p at_ size M L) h) (strB q.d) (Or.inl ⟨Eq.refl true, fun w1 hSw => (by show (execOp _ (⟨_, .load 9 (.tmp 22), _, _, _, _⟩ : Oper)).run _ _ = _; exact (by unfold execOp; simp only [h107.ev 22 rfl]; exact run_v (loadSP (hSw.2.cell (i := 1) (by show 1 < 2; omega)))))⟩) fun a110 h109 => ?_
      obtain ⟨yc, w5, hcv, hrow, b5⟩ := bytes_of_str wq.drew q.d hdl
      refine wpk_only 8 rfl rfl (by kernel_rfl) fun K hK => opD_val (w' := w5) h109 rfl (by decide) (fr rfl) (.slice (some ⟨wq.drew.heap.size, 0, none⟩) q.d.length yc) (by show (execOp _ (⟨_, .convert 9 26 (.tmp 23), _, _, _, _⟩ : Oper)).run _ _ = _; exact (by unfold execOp; simp only [h109.ev 23 rfl]; exact run_v hcv)) fun a112 h111 => hK _ _ ⟨hS4.1.mono b5, hS4.2.mono b5⟩ fun hS5 => ?_
      clear hK K
      have HG5 := hid (HG4.out.mono b5); have HT5 := hid (HT4.out.trans (Turns.of_below b5)); clear b5 hcv
      refine wpk_only 9 rfl rfl (by kernel_rfl) fun K hK => opD_call h111 rfl (by decide) (fr rfl) (fun args => callP_23 args _) rfl #[.pointer (some ⟨g, 0, none⟩), .int .i64 q.at_, .slice (some ⟨wq.drew.heap.size, 0, none⟩) q.d.length yc] (by simp only [List.map_toArray, List.map_cons, List.map_nil, h111.ev 19 rfl, h111.ev 21 rfl, h111.ev 24 rfl]) (R := fun x w' => x = .int .i64 (errM Mj q.at_ q.d.length) ∧ MemP w' g v d p (storeU Mj q.at_ q.d) ∧ Turns (fun k => k = v ∨ k = p) w5 w') ((store_u HG5.out.m q.at_ hq64 _ _ q.d hrow).mono fun e w' z => ⟨_, z.1, rfl, z.2⟩) fun a114 v6 w6 r6 h113 => hK _ _ ⟨r6.2.2.blk hS5.1 (fun e => HG5.out.nX (e.elim .inl (fun e => .inr (.inr e)))), r6.2.2.blk hS5.2 (by intro e; rcases e with e | e <;> omega)⟩ fun hS6 => ?_
      clear hK K
      obtain ⟨rfl, m6, t6⟩ := r6
      have HG6 := hid (HG5.out.next m6 t6 (fun k e => e.elim .inl (fun e => .inr (.inr e)))); have HT6 : Hid (Turns (XM v d p) w w6) := hid (HT5.out.trans (t6.mono (fun k e => e.elim .inl (fun e => .inr (.inr e))))); have HP6 := hid hS6.2; clear m6 t6 hrow
      refine wpkD_take hS6 h113 10 rfl rfl (by decide) (fr rfl) (by kernel_rfl) (by kernel_rfl) (by kernel_rfl) (fun _ _ _ _ h => panicW (R := postW w lg g v d p at_ size M L) h) (.bool false) (Or.inl ⟨Eq.refl true, fun w1 hSw => (by show (execOp _ (⟨_, .binOp .eql 32 (.tmp 25) (.const (.int .i64 0)) 32, _, _, _, _⟩ : Oper)).run _ _ = _; exact (by unfold execOp; simp only [h113.ev 25 rfl]; exact run_v (eqEP _ _ _ _ _ herr)))⟩) fun a116 h115 => ?_
      refine wpAnyH_done (by kernel_rfl) ?_ _
      have h117 := h115.subs (l' := [(26, _), (5, _), (12, _), (11, _), (10, _), (0, _), (1, _)]) rfl
      clear h115
      iterate 2 go_step
      refine wp_cond (t := false) (h117.ev 26 rfl) ?_
      simp only [Bool.false_eq_true, if_false]
      have h118 := h117.subs (l' := [(5, _), (12, _), (11, _), (10, _), (0, _), (1, _)]) rfl
      clear h117
      iterate 4 go_step
      refine wpkD_val h118 (wanted_none rfl) rfl (by decide) (fr rfl) (.int .i64 ((j + 1 : Nat) : Int)) (by unfold execOp; simp only [h118.ev 12 rfl]; exact run_v (addIP _ _ j (by omega) _)) fun a120 h119 => ?_
      have h121 := h119.subs (l' := [(37, _), (5, _), (11, _), (10, _), (0, _), (1, _)]) rfl
      clear h119
      refine wpkD_val h121 (wanted_none rfl) rfl (by decide) (fr rfl) (.int .i64 ((j + 1 : Nat) : Int)) (by unfold execOp; simp only [h121.ev 37 rfl]; rfl) fun a123 h122 => ?_
      have h124 := h122.subs (l' := [(12, _), (5, _), (11, _), (10, _), (0, _), (1, _)]) rfl
      clear h122
      iterate 2 go_step
      refine ⟨⟨j + 1, wStep Mj q, by omega, h124.subs rfl, ?_, ?_, HT6.out⟩, ?_⟩
      · rw [List.take_add_one, List.getElem?_eq_getElem hlt, Option.toList_some, List.foldl_append, ← HMJ.out, ← HQ.out]; rfl
      · unfold wStep; rw [if_neg hin]; have z := HG6.out; rw [storeU_out hin] at z; exact z
      · rw [h124.ev 12 rfl, hK.ev 12 rfl]; simp [intOf]; omega
  · have hd0 : decide ((j : Int) < (L.length : Int)) = false := decide_eq_false (by omega)
    obtain rfl : j = L.length := by omega
    iterate 3 go_step
    refine wpkD_val hK (wanted_none rfl) rfl (by decide) (fr rfl) (.bool false) (by unfold execOp; simp only [hK.ev 12 rfl, hK.ev 11 rfl]; exact run_v (ltIP _ _ _ _ _ hd0)) fun a126 h125 => ?_
    iterate 4 go_step
    refine wp_cond (t := false) (h125.ev 13 rfl) ?_
    simp only [Bool.false_eq_true, if_false]
    have h127 := h125.subs (l' := [(12, _), (11, _), (10, _), (0, _), (1, _)]) rfl
    clear h125
    iterate 4 go_step
    rw [List.take_length] at HMJ
    exact retW HG.out HT.out HMJ.out h127.defs
end Go.Proofs.YtcackliabemecaaGreatDoor
/- A log's records: pure, and as rows of rows in memory. -/
namespace Go.Proofs.YtcackliabemecaaGreatDoor
open Go.RowKit
set_option linter.unusedSimpArgs false
set_option linter.unusedVariables false
set_option maxRecDepth 100000

def endL (V : List UInt8) (at_ size : Nat) : Nat := match getF ((V.drop at_).take 8) 0 8 with
  | some n => if n ≤ size - 8 then n else 0
  | none => 0
theorem endL_le (V : List UInt8) (at_ size : Nat) : endL V at_ size ≤ size - 8 := by
  unfold endL
  split
  · split
    · assumption
    · exact Nat.zero_le _
  · exact Nat.zero_le _
def readR (b : List UInt8) : Nat → Nat → List (List PtM) → List (List PtM) × Nat
  | 0, u, acc => (acc, u)
  | k + 1, u, acc => if (decD (b.drop u)).2.2 = 0 then readR b k (u + (decD (b.drop u)).2.1.toNat) (acc ++ [(decD (b.drop u)).1]) else (acc, u)
def readL (b : List UInt8) : List (List PtM) × Nat := readR b (b.length + 1) 0 []
def bodyL (V : List UInt8) (at_ size : Nat) : List UInt8 := (V.drop (at_ + 8)).take (endL V at_ size)
def logR (V : List UInt8) (at_ size : Nat) : List (List PtM) × Nat := readL (bodyL V at_ size)
theorem takeD_no {xs : List UInt8} {s : DS} {n : Nat} (h : (takeD xs s n).2.no = false) : s.no = false ∧ (takeD xs s n).2.at_ = s.at_ + n ∧ s.at_ + n ≤ xs.length := by
  unfold takeD at h ⊢
  split at h
  · cases h
  · next q =>
    rw [if_neg q]
    refine ⟨?_, rfl, by omega⟩
    cases hs : s.no with
    | false => rfl
    | true => exact absurd (Or.inl hs) q
/-- a record that is decoded has bytes, and they are there -/
theorem decD_n {xs : List UInt8} (h : (decD xs).2.2 = 0) : ∃ n : Nat, (decD xs).2.1 = (n : Int) ∧ 8 ≤ n ∧ n ≤ xs.length := by
  unfold decD at h ⊢
  split at h
  · cases h
  · next q =>
    rw [if_neg q]
    cases hg : getsD xs (numD xs ⟨0, false⟩ 2).1 (numD xs ⟨0, false⟩ 2).2 [] with
    | none => rw [hg] at h; cases h
    | some r =>
      rw [hg] at h
      show ∃ n : Nat, (endD xs r.1 r.2).2.1 = (n : Int) ∧ _
      change (endD xs r.1 r.2).2.2 = 0 at h
      unfold endD at h ⊢
      split at h
      · cases h
      · next q1 =>
        rw [if_neg q1]
        split at h
        · cases h
        · next q2 =>
          rw [if_neg q2]
          split at h
          · next q3 =>
            rw [if_pos q3]
            have q4 : (takeD xs (numD xs r.2 4).2 (pad8 (numD xs r.2 4).2.at_)).2.no = false := by
              cases hh : (takeD xs (numD xs r.2 4).2 (pad8 (numD xs r.2 4).2.at_)).2.no with
              | false => rfl
              | true => exact absurd hh q2
            obtain ⟨h1, h2, h3⟩ := takeD_no q4
            obtain ⟨h4, h5, h6⟩ := takeD_no (xs := xs) (s := r.2) (n := 4) h1
            refine ⟨_, rfl, ?_, ?_⟩
            · rw [h2]; have : (numD xs r.2 4).2.at_ = r.2.at_ + 4 := h5; unfold pad8; omega
            · rw [h2]; exact h3
          · cases h
/-- records in memory: each its address, its capacity, its patches -/
def recV (r : Option Addr × Nat × List PtM) : Value := .slice r.1 r.2.2.length r.2.1
structure RecsP (W : World) (B : Nat) (ra : Option Addr) (rc : Nat) (rs : List (Option Addr × Nat × List PtM)) : Prop where
  o : Own W B 44 1 ra rs.length rc (rs.map recV)
  i : ∀ r ∈ rs, OwnPt W B r.1 r.2.1 r.2.2
theorem RecsP.nil (W : World) (B : Nat) : RecsP W B none 0 [] := ⟨Own.nil _ _ _ _, fun r h => by cases h⟩
theorem RecsP.mono {W W' : World} {B : Nat} {ra : Option Addr} {rc : Nat} {rs : List (Option Addr × Nat × List PtM)} (h : RecsP W B ra rc rs) (b : Below W.heap.size W W') : RecsP W' B ra rc rs := ⟨Own.mono h.o b, fun r hr => Own.mono (h.i r hr) b⟩
theorem RecsP.low {W : World} {B B' : Nat} {ra : Option Addr} {rc : Nat} {rs : List (Option Addr × Nat × List PtM)} (h : RecsP W B ra rc rs) (hb : B' ≤ B) : RecsP W B' ra rc rs := ⟨h.o.low hb, fun r hr => (h.i r hr).low hb⟩
theorem RecsP.turns {W W' : World} {B : Nat} {ra : Option Addr} {rc : Nat} {rs : List (Option Addr × Nat × List PtM)} {X : Nat → Prop} (h : RecsP W B ra rc rs) (t : Turns X W W') (hx : ∀ k, X k → k < B) : RecsP W' B ra rc rs := ⟨t.own h.o hx, fun r hr => t.own (h.i r hr) hx⟩
/-- what is one's own of another type stays where a row grows -/
theorem own_past {W W' : World} {B B' : Nat} {e e' : TypeId} {sz sz' : Nat} {a a' : Option Addr} {n n' c c' : Nat} {cs cs' : List Value} (h : Own W B e sz a n c cs) (h' : Own W B' e' sz' a' n' c' cs') (hne : e ≠ e') (G : W.grownBy W' (Value.slice a' n' c').ownBlock) : Own W' B e sz a n c cs :=
  h.staysO G (own_apartO h h' hne)
end Go.Proofs.YtcackliabemecaaGreatDoor
