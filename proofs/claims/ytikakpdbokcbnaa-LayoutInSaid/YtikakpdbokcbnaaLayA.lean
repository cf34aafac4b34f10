/- The parts of a volume: the iterator's two closures. -/
import Derived.Test.YtikakpdbokcbnaaLibY
import Derived.Laws.EntriesVeiled
namespace Go.Proofs.Ytikakpdbokcbnaa
open Go.RowKit
set_option linter.unusedSimpArgs false
set_option linter.unusedVariables false
attribute [local go_sem] Oper.semAt_some

theorem room_noneC {F : Fence} (hd : F.depth = none) (k : Nat) : F.room k := fun d h => by rw [hd] at h; cases h
theorem roundIn_anyC {F : Fence} (hd : F.depth = none) {m m' : Nat} {P : Program} {l : Nat} {f : FuncId} {tmps : Array Value} {assign body : Code} {w : World} {R : Ending → World → Prop}
    (h : RoundIn F m P l f tmps assign body w R) : RoundIn F m' P l f tmps assign body w R := ⟨h.1, fun c cs _ => h.2 c cs (room_noneC hd _)⟩
theorem yieldAt_anyC {F : Fence} (hd : F.depth = none) {m : Nat} (m' : Nat) {P : Program} {l : Nat} {args : Array Value} {W : World} {R : Ending → World → Prop} (h : YieldAt F m P l args W R) : YieldAt F m' P l args W R := by
  obtain ⟨fn, tmps, assign, body, hy, hR⟩ := h
  exact ⟨fn, tmps, assign, body, hy, roundIn_anyC hd hR⟩

structure PartT where
  k : Int
  n : Int
  a : Int
  s : Int
def partC (p : PartT) : List Value := [.int .i64 p.k, .int .i64 p.n, .int .i64 p.a, .int .i64 p.s]
def partV (p : PartT) : Value := .agg (partC p).toArray
/-- what a round owes, at whatever depth -/
def RoundsC (F : Fence) (l B N : Nat) (Sp : List PartT → Prop) (J Jx : List PartT → World → Prop) : Prop :=
  ∀ m pre x W, J pre W → pre.length < N → Sp (pre ++ [x]) → YieldAt F m Try.prog l #[partV x] W fun e W' =>
    (e = .returned (.bool true) ∧ J (pre ++ [x]) W' ∧ KeepUp B W W') ∨ (e = .returned (.bool false) ∧ Jx (pre ++ [x]) W')
/-- every block from B on but one is as it was -/
def KeepBut (B A : Nat) (W W' : World) : Prop := W.heap.size ≤ W'.heap.size ∧ ∀ k, B ≤ k → k < W.heap.size → k ≠ A → W'.heap[k]? = W.heap[k]?
theorem KeepBut.trans {B A : Nat} {W W1 W2 : World} (a : KeepBut B A W W1) (b : KeepBut B A W1 W2) : KeepBut B A W W2 :=
  ⟨Nat.le_trans a.1 b.1, fun k h1 h2 h3 => (b.2 k h1 (Nat.lt_of_lt_of_le h2 a.1) h3).trans (a.2 k h1 h2 h3)⟩
theorem KeepBut.refl (B A : Nat) (W : World) : KeepBut B A W W := ⟨Nat.le_refl _, fun _ _ _ _ => rfl⟩
theorem KeepBut.blk {B A g : Nat} {W W' : World} {e : TypeId} {L : List Value} (a : KeepBut B A W W') (hg : B ≤ g) (hne : g ≠ A) (h : Blk W g e L) : Blk W' g e L := (a.2 g hg h.lt hne).trans h

set_option maxHeartbeats 2000000 in
theorem visit_in (F : Fence) (hd : F.depth = none) (hF : F.fn 17) (hro : F.round = none) (l B N A Y : Nat) (Sp : List PartT → Prop) (J Jx : List PartT → World → Prop) (hJ : StabC B J) (hY : RoundsC F l B N Sp J Jx) (hA : B ≤ A) (hB : B ≤ Y) (hne : Y ≠ A)
    (n : Nat) (pre : List PartT) (kd nm T sz : Int) (W : World) (hAc : Blk W A 3 [.int .i64 T]) (hYc : Blk W Y 41 [.func (.yield l) #[] #[]]) (h0 : J pre W) (hlen : pre.length < N) (hsp : Sp (pre ++ [⟨kd, nm, T, sz⟩]))
    (hT : 0 ≤ T) (hT2 : T ≤ 1000000000) (hs : 0 ≤ sz) (hs2 : sz ≤ 1000000000) :
    CallsIn F n Try.prog 17 #[.int .i64 kd, .int .i64 nm, .int .i64 sz, .pointer (some ⟨A, 0, none⟩), .pointer (some ⟨Y, 0, none⟩)] W fun e W' =>
      (e = .returned (.bool true) ∧ J (pre ++ [⟨kd, nm, T, sz⟩]) W' ∧ Blk W' A 3 [.int .i64 (T + sz)] ∧ KeepBut B A W W') ∨ (e = .returned (.bool false) ∧ Jx (pre ++ [⟨kd, nm, T, sz⟩]) W') := by
  have hdd : ∀ k : Nat, (F.depth.isSome = true → 1 ≤ k) := fun k h => by rw [hd] at h; cases h
  have hAlt := hAc.lt
  have hs0 : (W.setCell ⟨A, 0, none⟩ (.int .i64 (T + sz))).heap.size = W.heap.size := by simp [World.setCell]
  have b12 : Below B W ((W.setCell ⟨A, 0, none⟩ (.int .i64 (T + sz))).alloc (.cells #[.int .i64 kd, .int .i64 nm, .int .i64 T, .int .i64 sz] 23)) := ((Below.refl B W).setCell (p := ⟨A, 0, none⟩) hA _).alloc (by omega) _
  have hJ2 : J pre ((W.setCell ⟨A, 0, none⟩ (.int .i64 (T + sz))).alloc (.cells #[.int .i64 kd, .int .i64 nm, .int .i64 T, .int .i64 sz] 23)) := hJ _ _ _ h0 b12
  have hA2 : Blk ((W.setCell ⟨A, 0, none⟩ (.int .i64 (T + sz))).alloc (.cells #[.int .i64 kd, .int .i64 nm, .int .i64 T, .int .i64 sz] 23)) A 3 [.int .i64 (T + sz)] := (hAc.set 0 (.int .i64 (T + sz))).mono ((Below.refl _ _).alloc (Nat.le_refl _) _)
  have hY2 : Blk ((W.setCell ⟨A, 0, none⟩ (.int .i64 (T + sz))).alloc (.cells #[.int .i64 kd, .int .i64 nm, .int .i64 T, .int .i64 sz] 23)) Y 41 [.func (.yield l) #[] #[]] := (hYc.setOtherS hne 0 (.int .i64 (T + sz))).mono ((Below.refl _ _).alloc (Nat.le_refl _) _)
  have hP2 : Blk ((W.setCell ⟨A, 0, none⟩ (.int .i64 (T + sz))).alloc (.cells #[.int .i64 kd, .int .i64 nm, .int .i64 T, .int .i64 sz] 23)) W.heap.size 23 (partC ⟨kd, nm, T, sz⟩) := by
    have q := heap_alloc_new (W.setCell ⟨A, 0, none⟩ (.int .i64 (T + sz))) (.cells #[.int .i64 kd, .int .i64 nm, .int .i64 T, .int .i64 sz] 23)
    rw [hs0] at q; exact q
  have hK2 : KeepBut B A W ((W.setCell ⟨A, 0, none⟩ (.int .i64 (T + sz))).alloc (.cells #[.int .i64 kd, .int .i64 nm, .int .i64 T, .int .i64 sz] 23)) := ⟨by simp [World.setCell], fun k _ h2 h3 => (Below.heap_alloc _ _ _ (by rw [hs0]; exact h2)).trans (Below.heap_setCell _ _ _ _ h3)⟩
  have a0 : W.cell? ⟨A, 0, none⟩ = some (.int .i64 T) := hAc.cell (i := 0) (by simp)
  have f0 : W.frozen? ⟨A, 0, none⟩ = false := hAc.frozen 0
  have y2 : ((W.setCell ⟨A, 0, none⟩ (.int .i64 (T + sz))).alloc (.cells #[.int .i64 kd, .int .i64 nm, .int .i64 T, .int .i64 sz] 23)).cell? ⟨Y, 0, none⟩ = some (.func (.yield l) #[] #[]) := hY2.cell (i := 0) (by simp)
  have p0 : ((W.setCell ⟨A, 0, none⟩ (.int .i64 (T + sz))).alloc (.cells #[.int .i64 kd, .int .i64 nm, .int .i64 T, .int .i64 sz] 23)).cell? ⟨W.heap.size, 0, none⟩ = some (.int .i64 kd) := hP2.cell (i := 0) (by simp [partC])
  have p1 : ((W.setCell ⟨A, 0, none⟩ (.int .i64 (T + sz))).alloc (.cells #[.int .i64 kd, .int .i64 nm, .int .i64 T, .int .i64 sz] 23)).cell? ⟨W.heap.size, 1, none⟩ = some (.int .i64 nm) := hP2.cell (i := 1) (by simp [partC])
  have p2 : ((W.setCell ⟨A, 0, none⟩ (.int .i64 (T + sz))).alloc (.cells #[.int .i64 kd, .int .i64 nm, .int .i64 T, .int .i64 sz] 23)).cell? ⟨W.heap.size, 2, none⟩ = some (.int .i64 T) := hP2.cell (i := 2) (by simp [partC])
  have p3 : ((W.setCell ⟨A, 0, none⟩ (.int .i64 (T + sz))).alloc (.cells #[.int .i64 kd, .int .i64 nm, .int .i64 T, .int .i64 sz] 23)).cell? ⟨W.heap.size, 3, none⟩ = some (.int .i64 sz) := hP2.cell (i := 3) (by simp [partC])
  have es : IntKind.i64.wrap (T + sz) = T + sz := IntWalk.i64_in _ (by omega)
  obtain ⟨fn, tmps, assign, body, hy, hR⟩ := hY (n - 1) pre ⟨kd, nm, T, sz⟩ _ hJ2 hlen hsp
  have hy : (Instr.yield l #[.agg #[.int .i64 kd, .int .i64 nm, .int .i64 T, .int .i64 sz]]).run Try.prog ((W.setCell ⟨A, 0, none⟩ (.int .i64 (T + sz))).alloc (.cells #[.int .i64 kd, .int .i64 nm, .int .i64 T, .int .i64 sz] 23)) = .ok (.round l fn tmps assign body) ((W.setCell ⟨A, 0, none⟩ (.int .i64 (T + sz))).alloc (.cells #[.int .i64 kd, .int .i64 nm, .int .i64 T, .int .i64 sz] 23)) := hy
  have HA2 := hid hA2; have HK2 := hid hK2
  clear hJ2 hA2 hY2 hP2 hK2 h0 hAc hYc hY b12 hs0
  refine callsIn_of_wp Try.func17 rfl hF ?_ hro
  simp only [Try.ntmps17, List.size_toArray, List.length_cons, List.length_nil, Nat.reduceAdd, Nat.reduceSub, Array.replicate_succ, Array.replicate_zero, List.push_toArray, List.append_toArray, List.nil_append, List.cons_append]
  gi_wp2
  refine hR.mono ?_
  rintro e W3 (⟨rfl, hJ3, hk3⟩ | ⟨rfl, hJx3⟩)
  · gi_wp2
    go_ret
    exact .inl ⟨rfl, hJ3, hk3.blk hA HA2.out, HK2.out.trans ⟨hk3.1, fun k h1 h2 _ => hk3.2 k h1 h2⟩⟩
  · gi_wp2
    go_ret
    exact .inr ⟨rfl, hJx3⟩

end Go.Proofs.Ytikakpdbokcbnaa
