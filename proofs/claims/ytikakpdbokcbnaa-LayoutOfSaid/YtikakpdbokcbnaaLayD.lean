/- layout.Size. -/
import Derived.Test.YtikakpdbokcbnaaLayC
import Derived.Laws.StructEq
import Derived.Shelf.Abstract
namespace Go.Proofs.Ytikakpdbokcbnaa
open Go.RowKit Go.Shelf
set_option linter.unusedSimpArgs false
set_option linter.unusedVariables false
attribute [local go_sem] Oper.semAt_some

theorem infoPart : (Try.prog.info? 23).map (·.size) = some 4 := by kernel_rfl
theorem partC_one (p : PartT) : ∀ v ∈ partC p, v.oneCell' = true := by
  intro v hv
  unfold partC at hv
  simp only [List.mem_cons, List.not_mem_nil, or_false] at hv
  rcases hv with e | e | e | e <;> rw [e] <;> rfl
/-- where the last part ends -/
def endOf (l : List PartT) : Int := match l.getLast? with | none => 0 | some p => wrap64 (p.a + p.s)
theorem endOf_snoc (l : List PartT) (p : PartT) : endOf (l ++ [p]) = wrap64 (p.a + p.s) := by unfold endOf; simp
theorem endOf_all : endOf partsL = 23168 := by decide +kernel
/-- the loop's variable in its box -/
def BoxP (B : Nat) (mk : PartT → Nat → Act) (x : PartT) (a' : Act) (W : World) : Prop := ∃ Bx, B ≤ Bx ∧ Blk W Bx 23 (partC x) ∧ a' = mk x Bx
theorem boxP_put {B : Nat} {mk : PartT → Nat → Act} : ∀ (x : PartT) (a' : Act) (X : World) (l : Nat) (o : Loop) (o' : Obj), BoxP B mk x a' X → X.heap[l]? = some (.loop o) → BoxP B mk x a' (X.putObj l o') := by
  rintro x a' X l o o' ⟨Bx, hB, hb, rfl⟩ hl
  refine ⟨Bx, hB, ?_, rfl⟩
  have hne : Bx ≠ l := by
    rintro rfl
    rw [show X.heap[Bx]? = _ from hb] at hl
    cases hl
  exact (World.putObj_heap_other hne).trans hb

set_option maxHeartbeats 4000000 in
set_option maxRecDepth 100000 in
theorem size_any (w : World) : Calls Try.prog 13 #[] w fun e w' => e = .returned (.int .i64 23168) ∧ Below w.heap.size w w' := by
  have hd : Fence.wide.depth = none := rfl
  refine (callsIn_wide (n := 5)).1 ?_
  refine callsIn_of_wp_marks Try.func13 rfl trivial ?_ rfl
  simp only [Try.ntmps13, List.size_toArray, List.length_cons, List.length_nil, Nat.reduceAdd, Nat.reduceSub, Array.replicate_succ, Array.replicate_zero, List.push_toArray, List.append_toArray, List.nil_append, List.cons_append]
  gi_wp2
  have g0 : Blk (w.alloc (.cells #[.int .i64 0] 3)) w.heap.size 3 [.int .i64 (endOf [])] := heap_alloc_new w _
  have b0 : Below w.heap.size w (w.alloc (.cells #[.int .i64 0] 3)) := (Below.refl _ w).alloc (Nat.le_refl _) _
  have hsz : (w.alloc (.cells #[.int .i64 0] 3)).heap.size = w.heap.size + 1 := by simp
  refine wpIn_rangeFunc_C rfl (by omega) (gf := 14) (lb := #[]) rfl trivial (enters_of Try.func14 (by kernel_rfl) rfl)
    (parts_seq Fence.wide rfl trivial trivial trivial rfl (5 - 1) w) b0 (fun _ => rfl)
    (fun pre W => Blk W w.heap.size 3 [.int .i64 (endOf pre)] ∧ Below w.heap.size w W) (fun _ _ _ => False)
    ((StabC.blk (by rw [hsz]; omega) (fun pre => [.int .i64 (endOf pre)])).and (StabC.below (by rw [hsz]; omega))) (fun _ _ _ _ h _ => h) ⟨g0, b0⟩
    (BoxP (w.heap.size + 1) (fun x Bx => { tmps := #[.int .i64 0, .pointer (some ⟨w.heap.size, 0, none⟩), .pointer (some ⟨Bx, 0, none⟩), partV x, undef, undef, undef, undef, undef, undef], defers := [] })) boxP_put ?assign ?body ?done ?stop
  case assign =>
    rintro l pre ⟨k, n, a, s⟩ W K ⟨hg, hb⟩ hlt hK
    simp only [partV, partC]
    gi_wp2
    exact hK _ _ ((KeepUp.refl _ W).alloc _) ⟨hg.mono ((Below.refl _ W).alloc (Nat.le_refl _) _), hb.alloc hb.size _⟩ ⟨W.heap.size, by rw [hsz] at hlt; exact hlt, heap_alloc_new W _, rfl⟩
  case body =>
    rintro l pre x a' W ⟨hg, hb⟩ ⟨Bx, hBx, hx, rfl⟩ hlt _ _
    have z2 : W.cell? ⟨Bx, 2, none⟩ = some (.int .i64 x.a) := hx.cell (i := 2) (by simp [partC])
    have z3 : W.cell? ⟨Bx, 3, none⟩ = some (.int .i64 x.s) := hx.cell (i := 3) (by simp [partC])
    have c0 : W.cell? ⟨w.heap.size, 0, none⟩ = some (.int .i64 (endOf pre)) := hg.cell (i := 0) (by simp)
    have fz : W.frozen? ⟨w.heap.size, 0, none⟩ = false := hg.frozen 0
    have HG := hid hg; have HB := hid hb
    clear hg hb hx
    gi_wp2
    refine ⟨(KeepUp.refl _ W).setCell (p := ⟨w.heap.size, 0, none⟩) (by rw [hsz]; exact Nat.lt_succ_self _) _, ?_, HB.out.setCell (p := ⟨w.heap.size, 0, none⟩) (Nat.le_refl _) _⟩
    rw [endOf_snoc]
    exact HG.out.set 0 _
  case done =>
    rintro D xs W hD rfl ⟨hg, hb⟩ hk
    rw [endOf_all] at hg
    have c0 : W.cell? ⟨w.heap.size, 0, none⟩ = some (.int .i64 23168) := hg.cell (i := 0) (by simp)
    have HB := hid hb
    clear hg hb
    gi_wp2
    refine ⟨by simp, .inl ⟨_, _, rfl, run_takeDeferred hk, ?_⟩⟩
    exact ⟨_, results_tmp rfl _ _ _, rfl, below_putObjC HB.out _ (by rw [hsz] at hD; omega)⟩
  case stop =>
    rintro D c pre W _ _ h _
    exact h.elim

end Go.Proofs.Ytikakpdbokcbnaa
