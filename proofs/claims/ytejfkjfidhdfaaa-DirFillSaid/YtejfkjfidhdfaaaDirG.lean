/- The statements of stage 12: their examples. -/
import Derived.Test.YtejfkjfidhdfaaaDirF
import Derived.Test.YtejfkjfidhdfaaaLibO
namespace Go.Proofs.Ytejfkjfidhdfaaa
open Go.RowKit Go.Shelf
set_option linter.unusedSimpArgs false
set_option linter.unusedVariables false

theorem wpl_storeTc {w : World} {ops : Array Oper} {rest : List Oper} {o : Oper} {act : Act} {Q : Exit → Act → World → Prop} (hgd : o.guard = none) (x y : Operand)
    (ho : o.op = .store 26 x y) (g : Nat) (hx : act.eval x = .pointer (some ⟨g, 0, none⟩)) {e : TypeId} (t : List EntT) (ht : t.length = 16) {C : Array Value} (hy : act.eval y = .agg C) (hC : C = (tabC t).toArray) {L : List Value} (hb : Blk w g e L) (hL : L.length = 32)
    (h : ∀ w', Blk w' g e (tabC t) → w.grownBy w' (some g) → wpList Try.prog ops Q rest (act.put o.dst undef) w') : wpList Try.prog ops Q (o :: rest) act w := by
  subst hC
  exact wpl_storeT hgd x y ho g hx t ht hy hb hL h
theorem wpl_loadGT {w : World} {ops : Array Oper} {rest : List Oper} {o : Oper} {act : Act} {Q : Exit → Act → World → Prop} (hw : Region.wanted o (yielded ops act.tmps) = true) (x : Operand)
    (ho : o.op = .load 26 x) (g : Nat) (hx : act.eval x = .pointer (some ⟨g, 0, none⟩)) {e : TypeId} (t : List EntT) (ht : t.length = 16) (hb : Blk w g e (tabC t))
    (h : wpList Try.prog ops Q rest (act.put o.dst (.agg (tabC t).toArray)) w) : wpList Try.prog ops Q (o :: rest) act w :=
  wpList_step fun K hK => by
    rw [if_pos hw]
    exact wp_load_mid 26 x ho g 0 hx (tabC t) _ hb.range Try.underlying26 rfl (by rw [infoTab, tabC_len, ht]) (hK _ _ h)

def nmA : ByteArray := ⟨#[97]⟩
def nmB : ByteArray := ⟨#[98]⟩
def oneT : List EntT := setT zeroT 14 ⟨nmA, 3⟩
theorem one_len : oneT.length = 16 := by decide +kernel
theorem live1 : placeT zeroT nmA = 14 := by decide +kernel
theorem live2 : findT oneT nmA = 14 := by decide +kernel
theorem live3 : placeT oneT nmA = 15 := by decide +kernel
theorem live4 : findT oneT nmB = -1 := by decide +kernel

theorem l1 (w1 : World) : Calls Try.prog 14 #[.agg (tabC zeroT).toArray, .string nmA] w1 fun e w' => e = .returned (.int .i64 14) ∧ Below w1.heap.size w1 w' := by
  have H1 := placeT_any zeroT nmA (by decide +kernel) (by decide +kernel) w1
  rw [live1] at H1
  exact H1
theorem l2 (w1 : World) : Calls Try.prog 17 #[.agg (tabC zeroT).toArray, .int .i64 14, .agg #[.string nmA, .int .i64 3]] w1 fun e w' => e = .returned (.agg (tabC oneT).toArray) ∧ Below w1.heap.size w1 w' :=
  setT_any zeroT 14 nmA 3 (by decide +kernel) w1
theorem l3 (w1 : World) : Calls Try.prog 12 #[.agg (tabC oneT).toArray, .string nmA] w1 fun e w' => e = .returned (.int .i64 14) ∧ Below w1.heap.size w1 w' := by
  have H1 := findT_any oneT nmA one_len (by decide +kernel) w1
  rw [live2] at H1
  exact H1
theorem l4 (w1 : World) : Calls Try.prog 14 #[.agg (tabC oneT).toArray, .string nmA] w1 fun e w' => e = .returned (.int .i64 15) ∧ Below w1.heap.size w1 w' := by
  have H1 := placeT_any oneT nmA one_len (by decide +kernel) w1
  rw [live3] at H1
  exact H1
theorem l5 (w1 : World) : Calls Try.prog 12 #[.agg (tabC oneT).toArray, .string nmB] w1 fun e w' => e = .returned (.int .i64 (-1)) ∧ Below w1.heap.size w1 w' := by
  have H1 := findT_any oneT nmB one_len (by decide +kernel) w1
  rw [live4] at H1
  exact H1

theorem run_allocT {o : Oper} (ho : o.op = .alloc 26) (ρ : Operand → Value) (w : World) : (execOp ρ o).run Try.prog w = .ok (.value (.pointer (some ⟨w.heap.size, 0, none⟩))) (w.alloc (.cells litT 26)) := by
  unfold execOp; rw [ho]; kernel_rfl
theorem run_buildT {o : Oper} (ho : o.op = .build 26 #[]) (ρ : Operand → Value) (w : World) : (execOp ρ o).run Try.prog w = .ok (.value (.agg litT)) w := by
  unfold execOp; rw [ho]; kernel_rfl
/-- a new table -/
theorem wpl_allocT {w : World} {ops : Array Oper} {rest : List Oper} {o : Oper} {act : Act} {Q : Exit → Act → World → Prop} {z : List EntT} (hz : z = zeroT) (hgd : o.guard = none) (ho : o.op = .alloc 26)
    (h : ∀ w', Blk w' w.heap.size 26 (tabC z) → Below w.heap.size w w' → w'.heap.size = w.heap.size + 1 → wpList Try.prog ops Q rest (act.put o.dst (.pointer (some ⟨w.heap.size, 0, none⟩))) w') : wpList Try.prog ops Q (o :: rest) act w := by
  subst hz
  refine wpl_runTo hgd _ _ (run_allocT ho _ w) ?_
  exact h _ (by rw [litT_eq]; exact blk_newD rfl _ _) (albD _ _) (by simp)
/-- the empty table -/
theorem wpl_buildT {w : World} {ops : Array Oper} {rest : List Oper} {o : Oper} {act : Act} {Q : Exit → Act → World → Prop} {z : List EntT} (hz : z = zeroT) (hgd : o.guard = none) (ho : o.op = .build 26 #[])
    (h : wpList Try.prog ops Q rest (act.put o.dst (.agg (tabC z).toArray)) w) : wpList Try.prog ops Q (o :: rest) act w := by
  subst hz
  refine wpl_runTo hgd _ _ (run_buildT ho _ w) ?_
  rw [litT_eq]; exact h
theorem zero_len : zeroT.length = 16 := by decide +kernel
theorem tab_len {t : List EntT} (h : t.length = 16) : (tabC t).length = 32 := by rw [tabC_len, h]
end Go.Proofs.Ytejfkjfidhdfaaa
