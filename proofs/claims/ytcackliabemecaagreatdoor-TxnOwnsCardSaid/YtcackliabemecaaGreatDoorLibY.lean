/- A range over a function whose iterator keeps state in cells of its own: the iterator's contract, and the law of the statement. -/
import Derived.Test.YtcackliabemecaaGreatDoorLibS
import Derived.RangeFuncNested
import Derived.RangeFuncBound
import Derived.RangeFuncCalls
import Derived.RangeFuncLeaves
import Derived.OwnWalkIn
import Derived.TacticsInMore
import Derived.LoopNIn
import Derived.LoopIn
namespace Go.Proofs.YtcackliabemecaaGreatDoor
open Go.RowKit
set_option linter.unusedSimpArgs false
set_option linter.unusedVariables false

/-- every block from B on is as it was -/
def KeepUp (B : Nat) (W W' : World) : Prop := W.heap.size ≤ W'.heap.size ∧ ∀ k, B ≤ k → k < W.heap.size → W'.heap[k]? = W.heap[k]?
/-- what is said of a world depends on the blocks below B alone -/
def StabC {β : Type} (B : Nat) (I : β → World → Prop) : Prop := ∀ s X Y, I s X → Below B X Y → I s Y

theorem KeepUp.refl (B : Nat) (W : World) : KeepUp B W W := ⟨Nat.le_refl _, fun _ _ _ => rfl⟩
theorem KeepUp.trans {B : Nat} {W W1 W2 : World} (a : KeepUp B W W1) (b : KeepUp B W1 W2) : KeepUp B W W2 :=
  ⟨Nat.le_trans a.1 b.1, fun k h1 h2 => (b.2 k h1 (Nat.lt_of_lt_of_le h2 a.1)).trans (a.2 k h1 h2)⟩
theorem KeepUp.mono {B B' : Nat} {W W' : World} (a : KeepUp B W W') (h : B ≤ B') : KeepUp B' W W' := ⟨a.1, fun k h1 h2 => a.2 k (Nat.le_trans h h1) h2⟩
theorem KeepUp.alloc {B : Nat} {W W' : World} (a : KeepUp B W W') (o : Obj) : KeepUp B W (W'.alloc o) :=
  a.trans ⟨by simp, fun k _ h2 => Below.heap_alloc _ _ _ h2⟩
theorem KeepUp.drew {B : Nat} {W W' : World} (a : KeepUp B W W') : KeepUp B W W'.drew := ⟨a.1, a.2⟩
theorem KeepUp.setCell {B : Nat} {W W' : World} (a : KeepUp B W W') {p : Addr} (hp : p.block < B) (v : Value) : KeepUp B W (W'.setCell p v) := by
  refine ⟨Nat.le_trans a.1 (by simp [World.setCell]), fun k h1 h2 => ?_⟩
  rw [Below.heap_setCell _ _ _ _ (by omega)]
  exact a.2 k h1 h2
theorem KeepUp.of_below {B : Nat} {W W' : World} (h : Below W.heap.size W W') : KeepUp B W W' := ⟨h.size, fun k _ h2 => h.block k h2⟩
theorem KeepUp.of_grown {B g : Nat} {W W' : World} (h : W.grownBy W' (some g)) (hg : g < B) : KeepUp B W W' :=
  ⟨h.size, fun k h1 h2 => h.block k h2 (by simp; omega)⟩
theorem KeepUp.blk {B g : Nat} {W W' : World} {e : TypeId} {L : List Value} (a : KeepUp B W W') (hg : B ≤ g) (h : Blk W g e L) : Blk W' g e L := (a.2 g hg h.lt).trans h
theorem below_putObjC {B l : Nat} {X Y : World} (h : Below B X Y) (o : Obj) (hl : B ≤ l) : Below B X (Y.putObj l o) :=
  ⟨h.os, h.tape, h.output, by rw [World.putObj_size]; exact h.size, fun k hk => (World.putObj_heap_other (by omega)).trans (h.block k hk)⟩
theorem StabC.alloc {β : Type} {B : Nat} {I : β → World → Prop} (h : StabC B I) {s : β} {W : World} (hB : B ≤ W.heap.size) (hs : I s W) (o : Obj) : I s (W.alloc o) :=
  h s _ _ hs ((Below.refl B W).alloc hB o)
theorem StabC.putObj {β : Type} {B : Nat} {I : β → World → Prop} (h : StabC B I) {s : β} {W : World} (hs : I s W) {l : Nat} (hl : B ≤ l) (o : Obj) : I s (W.putObj l o) :=
  h s _ _ hs (below_putObjC (Below.refl B W) o hl)
theorem StabC.and {β : Type} {B : Nat} {I I' : β → World → Prop} (h : StabC B I) (h' : StabC B I') : StabC B (fun s W => I s W ∧ I' s W) := fun s X Y a b => ⟨h s X Y a.1 b, h' s X Y a.2 b⟩
theorem StabC.below {β : Type} {B n : Nat} {w : World} (h : n ≤ B) : StabC B (fun (_ : β) W => Below n w W) := fun _ _ _ a b => a.trans (b.mono h)
theorem StabC.blk {β : Type} {B g : Nat} {e : TypeId} (hg : g < B) (f : β → List Value) : StabC B (fun s W => Blk W g e (f s)) := fun _ _ _ a b => (b.block g hg).trans a
theorem StabC.pure {β : Type} {B : Nat} (p : β → Prop) : StabC B (fun s _ => p s) := fun _ _ _ a _ => a

/-- The iterator's contract. What a round that goes on keeps: all blocks from the iterator's first on. -/
def SeqC {α : Type} (F : Fence) (n : Nat) (P : Program) (g : Nat) (lb : Array Value) (encs : α → Array Value) (S Sp : List α → Prop) (N : Nat) (w0 : World) : Prop :=
  ∀ (l : Nat) (J Jx : List α → World → Prop) (W : World), Below w0.heap.size w0 W → StabC W.heap.size J → StabC W.heap.size Jx →
    (∀ pre x W1, J pre W1 → pre.length < N → Sp (pre ++ [x]) → YieldAt F (n - 1) P l (encs x) W1 fun e W' =>
      (e = .returned (.bool true) ∧ J (pre ++ [x]) W' ∧ KeepUp W.heap.size W1 W') ∨ (e = .returned (.bool false) ∧ Jx (pre ++ [x]) W')) →
    J [] W →
    CallsIn F n P g (#[.func (.yield l) #[] #[]] ++ lb) W fun e W' => (∃ v, e = .returned v) ∧ ((∃ xs, S xs ∧ J xs W') ∨ (∃ pre, Sp pre ∧ Jx pre W'))

/-- what a body owes -/
def postC {α : Type} (B : Nat) (I : List α → World → Prop) (Ix : Code → List α → World → Prop) (xs : List α) (W : World) : Exit → Act → World → Prop
  | .normal, _, W' => KeepUp B W W' ∧ I xs W'
  | .ret, _, W' => KeepUp B W W' ∧ Ix .ret xs W'
  | .exit id, _, W' => KeepUp B W W' ∧ Ix (.exit id) xs W'
  | .goto t, _, W' => KeepUp B W W' ∧ Ix (.goto t) xs W'
  | .panic _, _, _ => False
  | .outgrown, _, _ => False

end Go.Proofs.YtcackliabemecaaGreatDoor
