/- A range over a function whose iterator keeps state in cells of its own: the iterator's contract, and the law of the statement. -/
import Derived.Test.YtcackliabemecaaDoorLibS
import Derived.RangeFuncNested
import Derived.RangeFuncBound
import Derived.RangeFuncCalls
import Derived.RangeFuncLeaves
import Derived.OwnWalkIn
import Derived.TacticsInMore
import Derived.LoopNIn
import Derived.LoopIn
namespace Go.Proofs.YtcackliabemecaaDoor
open Go.RowKit
set_option linter.unusedSimpArgs false
set_option linter.unusedVariables false

/-- every block from B on is as it was -/
def KeepUp (B : Nat) (W W' : World) : Prop := W.heap.size ≤ W'.heap.size ∧ ∀ k, B ≤ k → k < W.heap.size → W'.heap[k]? = W.heap[k]?
/-- what is said of a world depends on the blocks below B alone -/
def StabC {β : Type} (B : Nat) (I : β → World → Prop) : Prop := ∀ s X Y, I s X → Below B X Y → I s Y

theorem KeepUp.refl (B : Nat) (W : World) : KeepUp B W W := ⟨Nat.le_refl _, fun _ _ _ => rfl⟩
theorem KeepUp.trans {B : Nat} {W W1 W2 : World} (a : KeepUp B W W1) (b : KeepUp B W1 W2) : KeepUp B W W2 :=
  ⟨Nat.le_trans a.1 b.1, fun k h1 h2 => (b.2 k h1 (Nat.lt_of_lt_of_le h2 a.1)).trans (a.2 k h1 h2)⟩
theorem KeepUp.mono {B B' : Nat} {W W' : World} (a : KeepUp B W W') (h : B ≤ B') : KeepUp B' W W' := ⟨a.1, fun k h1 h2 => a.2 k (Nat.le_trans h h1) h2⟩
theorem KeepUp.alloc {B : Nat} {W W' : World} (a : KeepUp B W W') (o : Obj) : KeepUp B W (W'.alloc o) :=
  a.trans ⟨by simp, fun k _ h2 => Below.heap_alloc _ _ _ h2⟩
theorem KeepUp.drew {B : Nat} {W W' : World} (a : KeepUp B W W') : KeepUp B W W'.drew := ⟨a.1, a.2⟩
theorem KeepUp.setCell {B : Nat} {W W' : World} (a : KeepUp B W W') {p : Addr} (hp : p.block < B) (v : Value) : KeepUp B W (W'.setCell p v) := by
  refine ⟨Nat.le_trans a.1 (by simp [World.setCell]), fun k h1 h2 => ?_⟩
  rw [Below.heap_setCell _ _ _ _ (by omega)]
  exact a.2 k h1 h2
theorem KeepUp.of_below {B : Nat} {W W' : World} (h : Below W.heap.size W W') : KeepUp B W W' := ⟨h.size, fun k _ h2 => h.block k h2⟩
theorem KeepUp.of_grown {B g : Nat} {W W' : World} (h : W.grownBy W' (some g)) (hg : g < B) : KeepUp B W W' :=
  ⟨h.size, fun k h1 h2 => h.block k h2 (by simp; omega)⟩
theorem KeepUp.blk {B g : Nat} {W W' : World} {e : TypeId} {L : List Value} (a : KeepUp B W W') (hg : B ≤ g) (h : Blk W g e L) : Blk W' g e L := (a.2 g hg h.lt).trans h
theorem below_putObjC {B l : Nat} {X Y : World} (h : Below B X Y) (o : Obj) (hl : B ≤ l) : Below B X (Y.putObj l o) :=
  ⟨h.os, h.tape, h.output, by rw [World.putObj_size]; exact h.size, fun k hk => (World.putObj_heap_other (by omega)).trans (h.block k hk)⟩
theorem StabC.alloc {β : Type} {B : Nat} {I : β → World → Prop} (h : StabC B I) {s : β} {W : World} (hB : B ≤ W.heap.size) (hs : I s W) (o : Obj) : I s (W.alloc o) :=
  h s _ _ hs ((Below.refl B W).alloc hB o)
theorem StabC.putObj {β : Type} {B : Nat} {I : β → World → Prop} (h : StabC B I) {s : β} {W : World} (hs : I s W) {l : Nat} (hl : B ≤ l) (o : Obj) : I s (W.putObj l o) :=
  h s _ _ hs (below_putObjC (Below.refl B W) o hl)
theorem StabC.and {β : Type} {B : Nat} {I I' : β → World → Prop} (h : StabC B I) (h' : StabC B I') : StabC B (fun s W => I s W ∧ I' s W) := fun s X Y a b => ⟨h s X Y a.1 b, h' s X Y a.2 b⟩
theorem StabC.below {β : Type} {B n : Nat} {w : World} (h : n ≤ B) : StabC B (fun (_ : β) W => Below n w W) := fun _ _ _ a b => a.trans (b.mono h)
theorem StabC.blk {β : Type} {B g : Nat} {e : TypeId} (hg : g < B) (f : β → List Value) : StabC B (fun s W => Blk W g e (f s)) := fun _ _ _ a b => (b.block g hg).trans a
theorem StabC.pure {β : Type} {B : Nat} (p : β → Prop) : StabC B (fun s _ => p s) := fun _ _ _ a _ => a

/-- The iterator's contract. What a round that goes on keeps: all blocks from the iterator's first on. -/
def SeqC {α : Type} (F : Fence) (n : Nat) (P : Program) (g : Nat) (lb : Array Value) (encs : α → Array Value) (S Sp : List α → Prop) (N : Nat) (w0 : World) : Prop :=
  ∀ (l : Nat) (J Jx : List α → World → Prop) (W : World), Below w0.heap.size w0 W → StabC W.heap.size J → StabC W.heap.size Jx →
    (∀ pre x W1, J pre W1 → pre.length < N → Sp (pre ++ [x]) → YieldAt F (n - 1) P l (encs x) W1 fun e W' =>
      (e = .returned (.bool true) ∧ J (pre ++ [x]) W' ∧ KeepUp W.heap.size W1 W') ∨ (e = .returned (.bool false) ∧ Jx (pre ++ [x]) W')) →
    J [] W →
    CallsIn F n P g (#[.func (.yield l) #[] #[]] ++ lb) W fun e W' => (∃ v, e = .returned v) ∧ ((∃ xs, S xs ∧ J xs W') ∨ (∃ pre, Sp pre ∧ Jx pre W'))

/-- what a body owes -/
def postC {α : Type} (B : Nat) (I : List α → World → Prop) (Ix : Code → List α → World → Prop) (xs : List α) (W : World) : Exit → Act → World → Prop
  | .normal, _, W' => KeepUp B W W' ∧ I xs W'
  | .ret, _, W' => KeepUp B W W' ∧ Ix .ret xs W'
  | .exit id, _, W' => KeepUp B W W' ∧ Ix (.exit id) xs W'
  | .goto t, _, W' => KeepUp B W W' ∧ Ix (.goto t) xs W'
  | .panic _, _, _ => False
  | .outgrown, _, _ => False

theorem wpIn_rangeFunc_C {F : Fence} {n : Nat} {P : Program} {α : Type} {g : Operand} {ps : Array Tmp} {assign body : Code} {Q : Exit → Act → World → Prop} {a : Act} {w : World}
    (hro : F.round = none) (h1 : 1 ≤ n) {gf : Nat} {lb : Array Value} (hg : a.eval g = .func (.func gf) #[] lb) (hFg : F.fn gf) (eg : ∀ args w, (callFunc gf args).run P w = .ok (.enter gf args) w)
    {encs : α → Array Value} {S Sp : List α → Prop} {N : Nat} {w0 : World} (hseq : SeqC F (n - 1) P gf lb encs S Sp N w0) (hb0 : Below w0.heap.size w0 w) (hps : ∀ x, (encs x).size = ps.size)
    (I : List α → World → Prop) (Ix : Code → List α → World → Prop) (hI : StabC w.heap.size I) (hIx : ∀ c, StabC w.heap.size (Ix c)) (h0 : I [] w)
    (Ax : α → Act → World → Prop) (hAx : ∀ x a' X l o o', Ax x a' X → X.heap[l]? = some (.loop o) → Ax x a' (X.putObj l o'))
    (hassign : ∀ (l : Nat) (pre : List α) (x : α) (W : World) (K : Act → World → Prop), I pre W → w.heap.size ≤ W.heap.size → (∀ a' W', KeepUp w.heap.size W W' → I pre W' → Ax x a' W' → K a' W') →
      assign.wpIn (F.inRound l) (n - 1 - 1) P (Exit.then K (fun _ _ _ => False)) { tmps := (ps.zip (encs x)).foldl (fun t (p, v) => t.setIfInBounds p v) a.tmps, defers := [] } W)
    (hbody : ∀ (l : Nat) (pre : List α) (x : α) (a' : Act) (W : World), I pre W → Ax x a' W → w.heap.size ≤ W.heap.size → pre.length < N → Sp (pre ++ [x]) → body.wpIn (F.inRound l) (n - 1 - 1) P (postC w.heap.size I Ix (pre ++ [x]) W) a' W)
    (hdone : ∀ (D : Nat) (xs : List α) (W : World), w.heap.size ≤ D → S xs → I xs W → W.heap[D]? = some (.deferred (some [])) → Q .normal { a with defers := { target := .collected D, args := #[] } :: a.defers } W)
    (hstop : ∀ (D : Nat) (c : Code) (pre : List α) (W : World), w.heap.size ≤ D → Sp pre → Ix c pre W → W.heap[D]? = some (.deferred (some [])) → c.wpIn F n P Q { a with defers := { target := .collected D, args := #[] } :: a.defers } W) :
    (Code.rangeFunc g ps assign body).wpIn F n P Q a w := by
  refine wpIn_rangeFunc ?_
  intro fn hfn
  rw [hro]
  obtain ⟨rec, hrec⟩ : ∃ rec : LoopState → Option Code → Loop, rec = fun st pe => { state := st, pending := pe, fn, tmps := a.tmps, params := ps, assign, body, defers := w.heap.size } := ⟨_, rfl⟩
  obtain ⟨W1, hW1⟩ : ∃ W1, (w.alloc (.deferred (some []))).alloc (.loop (rec .ready none)) = W1 := ⟨_, rfl⟩
  have hs1 : W1.heap.size = w.heap.size + 2 := by rw [← hW1]; simp
  have hL1 : W1.heap[w.heap.size + 1]? = some (.loop (rec .ready none)) := by
    rw [← hW1]; have := World.alloc_heap_new (w.alloc (.deferred (some []))) (.loop (rec .ready none)); rwa [World.size_alloc] at this
  have hK1 : W1.heap[w.heap.size]? = some (.deferred (some [])) := by
    rw [← hW1]; exact (Below.heap_alloc _ _ _ (by simp)).trans (World.alloc_heap_new w _)
  have hI1 : I [] W1 := by rw [← hW1]; exact hI.alloc (by simp) (hI.alloc (Nat.le_refl _) h0 _) _
  have hb1 : Below w0.heap.size w0 W1 := by
    rw [← hW1]; exact hb0.trans ((((Below.refl _ w).alloc (Nat.le_refl _) _).alloc (by simp) _).mono hb0.size)
  refine ⟨w.heap.size + 1, [{ target := .collected w.heap.size, args := #[] }], W1, { target := .fn (.func gf) lb, args := #[.func (.yield (w.heap.size + 1)) #[] #[]] }, W1, gf,
    #[.func (.yield (w.heap.size + 1)) #[] #[]] ++ lb, W1, ?_, ?_, ?_, ?_, fun _ => h1, ?_⟩
  · rw [← hW1, hrec]; exact run_enterLoop_outer _ _ _ _ _
  · simp only [resolve, hg]
    simp [go_sem]
  · intro f' hf'; simp [Target.leads] at hf'; subst hf'; exact hFg
  · simp [invoke, go_sem, eg]
  · refine (hseq (w.heap.size + 1)
      (fun pre W => I pre W ∧ W.heap[w.heap.size + 1]? = some (.loop (rec .ready none)) ∧ W.heap[w.heap.size]? = some (.deferred (some [])))
      (fun pre W => ∃ c, Ix c pre W ∧ W.heap[w.heap.size + 1]? = some (.loop (rec .done (some c))) ∧ W.heap[w.heap.size]? = some (.deferred (some [])))
      W1 hb1
      (fun s A B hs hb => ⟨hI s A B hs.1 (hb.mono (by omega)), (hb.block _ (by omega)).trans hs.2.1, (hb.block _ (by omega)).trans hs.2.2⟩)
      (fun s A B hs hb => by
        obtain ⟨c, hc, hl, hk⟩ := hs
        exact ⟨c, hIx c s A B hc (hb.mono (by omega)), (hb.block _ (by omega)).trans hl, (hb.block _ (by omega)).trans hk⟩)
      ?_ ⟨hI1, hL1, hK1⟩).mono ?_
    · -- one round
      rintro pre x W ⟨hi, hl, hk⟩ hlen hsp
      have hlt : w.heap.size + 1 < W.heap.size := (Array.getElem?_eq_some_iff.1 hl).1
      have hy := run_yield (P := P) (args := encs x) hl (by rw [hrec]; exact hps x)
      rw [hrec] at hy
      refine ⟨fn, _, assign, body, hy, roundIn_of_wpIn hfn (hassign _ pre x W _ hi (by omega) ?_)⟩
      clear hy
      intro a' Wa hka hia hax
      have hla := (hka.2 _ (by omega) hlt).trans hl
      have hkk := (hka.2 _ (by omega) (by omega : w.heap.size < W.heap.size)).trans hk
      have hlta : w.heap.size + 1 < Wa.heap.size := Nat.lt_of_lt_of_le hlt hka.1
      refine ⟨_, run_beginRound hla (by rw [hrec]), ?_⟩
      have hl2 : (Wa.putObj (w.heap.size + 1) (.loop { rec .ready none with state := .busy })).heap[w.heap.size + 1]? = some (.loop { rec .ready none with state := .busy }) := World.putObj_heap_same hlta
      have hk2 : (Wa.putObj (w.heap.size + 1) (.loop { rec .ready none with state := .busy })).heap[w.heap.size]? = some (.deferred (some [])) := (World.putObj_heap_other (by omega)).trans hkk
      have hup : ∀ (X : World) (o : Obj), KeepUp W1.heap.size X (X.putObj (w.heap.size + 1) o) := fun X o => ⟨by rw [World.putObj_size]; exact Nat.le_refl _, fun k h1 h2 => World.putObj_heap_other (by omega)⟩
      refine wpIn_mono (hbody _ pre x a' _ (hI.putObj hia (by omega) _) (hAx _ _ _ _ _ _ hax hla) (by rw [World.putObj_size]; omega) hlen hsp) ?_
      have fin : ∀ (jump : Option Code) (W3 : World), KeepUp w.heap.size (Wa.putObj (w.heap.size + 1) (.loop { rec .ready none with state := .busy })) W3 →
          (Instr.endRound (w.heap.size + 1) jump).run P W3 = .ok (.bool jump.isNone) (W3.putObj (w.heap.size + 1) (.loop (rec (if jump.isNone then .ready else .done) jump))) ∧
          (W3.putObj (w.heap.size + 1) (.loop (rec (if jump.isNone then .ready else .done) jump))).heap[w.heap.size + 1]? = some (.loop (rec (if jump.isNone then .ready else .done) jump)) ∧
          (W3.putObj (w.heap.size + 1) (.loop (rec (if jump.isNone then .ready else .done) jump))).heap[w.heap.size]? = some (.deferred (some [])) := fun jump W3 hk3 => by
        have hl3 := (hk3.2 _ (by omega) (by rw [World.putObj_size]; exact hlta)).trans hl2
        have hk4 := (hk3.2 _ (Nat.le_refl _) (by rw [World.putObj_size]; omega)).trans hk2
        have := run_endRound (P := P) jump hl3
        rw [hrec] at this ⊢
        exact ⟨this, World.putObj_heap_same (Array.getElem?_eq_some_iff.1 hl3).1, (World.putObj_heap_other (by omega)).trans hk4⟩
      rintro e a3 W3 hp
      cases e with
      | normal =>
        obtain ⟨hk3, hi3⟩ := hp
        obtain ⟨hr, hl4, hk4⟩ := fin none W3 hk3
        exact ⟨_, _, hr, .inl ⟨rfl, ⟨hI.putObj hi3 (by omega) _, hl4, hk4⟩, (((hka.mono (by omega)).trans (hup _ _)).trans (hk3.mono (by omega))).trans (hup _ _)⟩⟩
      | ret =>
        obtain ⟨hk3, hi3⟩ := hp
        obtain ⟨hr, hl4, hk4⟩ := fin (some .ret) W3 hk3
        exact ⟨_, _, hr, .inr ⟨rfl, .ret, (hIx _).putObj hi3 (by omega) _, hl4, hk4⟩⟩
      | exit id =>
        obtain ⟨hk3, hi3⟩ := hp
        obtain ⟨hr, hl4, hk4⟩ := fin (some (.exit id)) W3 hk3
        exact ⟨_, _, hr, .inr ⟨rfl, .exit id, (hIx _).putObj hi3 (by omega) _, hl4, hk4⟩⟩
      | goto t =>
        obtain ⟨hk3, hi3⟩ := hp
        obtain ⟨hr, hl4, hk4⟩ := fin (some (.goto t)) W3 hk3
        exact ⟨_, _, hr, .inr ⟨rfl, .goto t, (hIx _).putObj hi3 (by omega) _, hl4, hk4⟩⟩
      | panic ch => exact hp.elim
      | outgrown => exact hp.elim
    · -- behind the iterator
      rintro e W2 ⟨⟨v, rfl⟩, (⟨xs, hS, hi, hl, hk⟩ | ⟨pre, hSp, c, hi, hl, hk⟩)⟩
      · exact ⟨none, _, by have := run_endLoop (P := P) hl (by rw [hrec]; simp); rw [hrec] at this; exact this, hdone _ xs _ (Nat.le_refl _) hS (hI.putObj hi (by omega) _) ((World.putObj_heap_other (by omega)).trans hk)⟩
      · exact ⟨some c, _, by have := run_endLoop (P := P) hl (by rw [hrec]; simp); rw [hrec] at this; exact this, hstop _ c pre _ (Nat.le_refl _) hSp ((hIx c).putObj hi (by omega) _) ((World.putObj_heap_other (by omega)).trans hk)⟩

end Go.Proofs.YtcackliabemecaaDoor
