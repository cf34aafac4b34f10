/- The parts of a volume: the iterator's two closures. -/
import Derived.Test.YtcackliabemecaaGreatDoorLibY
import Derived.Laws.EntriesVeiled
namespace Go.Proofs.YtcackliabemecaaGreatDoor
open Go.RowKit
set_option linter.unusedSimpArgs false
set_option linter.unusedVariables false
set_option maxRecDepth 100000
attribute [local go_sem] Oper.semAt_some

theorem room_noneC {F : Fence} (hd : F.depth = none) (k : Nat) : F.room k := fun d h => by rw [hd] at h; cases h
theorem roundIn_anyC {F : Fence} (hd : F.depth = none) {m m' : Nat} {P : Program} {l : Nat} {f : FuncId} {tmps : Array Value} {assign body : Code} {w : World} {R : Ending → World → Prop}
    (h : RoundIn F m P l f tmps assign body w R) : RoundIn F m' P l f tmps assign body w R := ⟨h.1, fun c cs _ => h.2 c cs (room_noneC hd _)⟩
theorem yieldAt_anyC {F : Fence} (hd : F.depth = none) {m : Nat} (m' : Nat) {P : Program} {l : Nat} {args : Array Value} {W : World} {R : Ending → World → Prop} (h : YieldAt F m P l args W R) : YieldAt F m' P l args W R := by
  obtain ⟨fn, tmps, assign, body, hy, hR⟩ := h
  exact ⟨fn, tmps, assign, body, hy, roundIn_anyC hd hR⟩

structure PartT where
  k : Int
  n : Int
  a : Int
  s : Int
def partC (p : PartT) : List Value := [.int .i64 p.k, .int .i64 p.n, .int .i64 p.a, .int .i64 p.s]
def partV (p : PartT) : Value := .agg (partC p).toArray
/-- what a round owes, at whatever depth -/
def RoundsC (F : Fence) (l B N : Nat) (Sp : List PartT → Prop) (J Jx : List PartT → World → Prop) : Prop :=
  ∀ m pre x W, J pre W → pre.length < N → Sp (pre ++ [x]) → YieldAt F m Tryz.prog l #[partV x] W fun e W' =>
    (e = .returned (.bool true) ∧ J (pre ++ [x]) W' ∧ KeepUp B W W') ∨ (e = .returned (.bool false) ∧ Jx (pre ++ [x]) W')
/-- every block from B on but one is as it was -/
def KeepBut (B A : Nat) (W W' : World) : Prop := W.heap.size ≤ W'.heap.size ∧ ∀ k, B ≤ k → k < W.heap.size → k ≠ A → W'.heap[k]? = W.heap[k]?
theorem KeepBut.trans {B A : Nat} {W W1 W2 : World} (a : KeepBut B A W W1) (b : KeepBut B A W1 W2) : KeepBut B A W W2 :=
  ⟨Nat.le_trans a.1 b.1, fun k h1 h2 h3 => (b.2 k h1 (Nat.lt_of_lt_of_le h2 a.1) h3).trans (a.2 k h1 h2 h3)⟩
theorem KeepBut.refl (B A : Nat) (W : World) : KeepBut B A W W := ⟨Nat.le_refl _, fun _ _ _ _ => rfl⟩
theorem KeepBut.blk {B A g : Nat} {W W' : World} {e : TypeId} {L : List Value} (a : KeepBut B A W W') (hg : B ≤ g) (hne : g ≠ A) (h : Blk W g e L) : Blk W' g e L := (a.2 g hg h.lt hne).trans h
