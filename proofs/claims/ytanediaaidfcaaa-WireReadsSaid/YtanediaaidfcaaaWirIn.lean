/- The document's Inner, by kinds. (genWirIn.py) -/
import Derived.Test.YtanediaaidfcaaaWirO2
namespace Go.Proofs.Ytanediaaidfcaaa
open Go.RowKit
set_option linter.unusedSimpArgs false
set_option linter.unusedVariables false

/-- texts that are read may be longer than those that are put -/
def longP (P : PkM) : Prop := ∀ o, o ≤ 12 → (P.S o).length ≤ 500
theorem shortP.long {P : PkM} (h : shortP P) : longP P := fun o ho => by have := h o ho; omega
def stepW (P : PkM) (m : WM) : Fld → WM
  | .num w o lo hi => wnum m (P.I o) w lo hi
  | .text w most o => wtext m (P.S o) w most
  | .names => P.N.foldl (fun m s => wtext m s 1 12) (wnum m P.N.length 1 0 16)
theorem wnum_len (m : WM) (v : Int) (k : Nat) (lo hi : Int) (hk : k ≤ 8) : (wnum m v k lo hi).b.length ≤ m.b.length + 8 := by
  unfold wnum; split
  · show (m.b ++ le k v.toNat).length ≤ _; rw [List.length_append, le_length]; omega
  · show m.b.length ≤ _; omega
theorem wtext_len (m : WM) (s : List UInt8) (k most : Nat) (hk : k ≤ 8) (hs : s.length ≤ 500) : (wtext m s k most).b.length ≤ m.b.length + 508 := by
  have := wnum_len m s.length k 0 most hk
  unfold wtext
  show ((wnum m s.length k 0 most).b ++ s).length ≤ _
  rw [List.length_append]; omega
theorem loadB {w : World} {g off : Nat} {a : Option Addr} {n c : Nat} (h : w.cell? ⟨g, off, none⟩ = some (.slice a n c)) : (Instr.loadAt 37 (.pointer (some ⟨g, off, none⟩))).run Try.prog w = .ok (.slice a n c) w := by
  have u3 := Try.underlying37
  have a3 := Try.isAgg37
  have z3 := Try.sizeOf37
  go_simp
theorem loadBo {w : World} {g off : Nat} {b : Bool} (h : w.cell? ⟨g, off, none⟩ = some (.bool b)) : (Instr.loadAt 4 (.pointer (some ⟨g, off, none⟩))).run Try.prog w = .ok (.bool b) w := by
  have u3 := Try.underlying4
  have a3 := Try.isAgg4
  have z3 := Try.sizeOf4
  go_simp
theorem eqIb (x y : Operand) (v u : Int) (w : World) {b : Bool} (h : (v == u) = b) : (do eqGuard .eql 3 x y (.int .i64 v) (.int .i64 u); binOp .eql 3 (.int .i64 v) (.int .i64 u) : Sem Value).run Try.prog w = .ok (.bool b) w := by
  rw [← h]; exact eqI x y v u w
theorem ltIb (x y : Operand) (v u : Int) (w : World) {b : Bool} (h : decide (v < u) = b) : (do eqGuard .lss 3 x y (.int .i64 v) (.int .i64 u); binOp .lss 3 (.int .i64 v) (.int .i64 u) : Sem Value).run Try.prog w = .ok (.bool b) w := by
  have u3 := Try.underlying3
  have a3 := Try.isAgg3
  have z3 := Try.sizeOf3
  go_simp
theorem addI1 (x y : Operand) (j : Nat) (hj : j ≤ 1000000) (w : World) : (do eqGuard .add 3 x y (.int .i64 (j : Int)) (.int .i64 1); binOp .add 3 (.int .i64 (j : Int)) (.int .i64 1) : Sem Value).run Try.prog w = .ok (.int .i64 ((j + 1 : Nat) : Int)) w := by
  have u3 := Try.underlying3
  have a3 := Try.isAgg3
  have z3 := Try.sizeOf3
  have e1 : IntKind.i64.wrap ((j : Int) + 1) = (j : Int) + 1 := IntWalk.i64_in _ (by omega)
  go_simp
set_option maxRecDepth 100000 in
theorem ixA4 (g j : Nat) (hj : j < 4) (w : World) : (Instr.indexAt 30 (.pointer (some ⟨g, 31, none⟩)) (.int .i64 (j : Int))).run Try.prog w = .ok (.pointer (some ⟨g, 31 + j, none⟩)) w := by
  rcases (by omega : j = 0 ∨ j = 1 ∨ j = 2 ∨ j = 3) with rfl | rfl | rfl | rfl <;> rfl
theorem ixSl (b off n c j : Nat) (hj : j < n) (w : World) : (Instr.indexAt 25 (.slice (some ⟨b, off, none⟩) n c) (.int .i64 (j : Int))).run Try.prog w = .ok (.pointer (some ⟨b, off + j, none⟩)) w := by
  have u3 := Try.underlying25
  have u9 := Try.underlying9
  have z3 := Try.sizeOf9
  have d0 : (j : Int) < (n : Int) := by omega
  have d1 : 0 ≤ (j : Int) := by omega
  go_simp
theorem ixcell {w : World} {g : Nat} {P : PkM} {a : Option Addr} {n c : Nat} (h : Blk w g 35 (pkC P a n c)) (j : Nat) (hj : j < 4) : w.cell? ⟨g, 31 + j, none⟩ = some (.int .i64 (P.I (31 + j))) := pk_cell h (by rcases (by omega : j = 0 ∨ j = 1 ∨ j = 2 ∨ j = 3) with e | e | e | e <;> subst e <;> rfl)
theorem run_lenS {o : Oper} {x : Operand} (ho : o.op = .call { callee := .builtin .len, args := #[x], argTypes := #[25] }) {ρ : Operand → Value} {a : Option Addr} {n c : Nat} (hx : ρ x = .slice a n c) (w : World) : (execOp ρ o).run Try.prog w = .ok (.value (.int .i64 (n : Int))) w := by
  unfold execOp; rw [ho]
  have u3 := Try.underlying25
  simp [resolve, invoke, builtin, hx]
  go_simp
theorem buildW (w : World) : (Instr.build 83 #[]).run Try.prog w = .ok (.agg #[.slice none 0 0, .bool false]) w := by
  go_simp
theorem call_40 (args : Array Value) (w : World) : (callFunc 40 args).run Try.prog w = .ok (.enter 40 args) w := by
  have h := Try.func40
  go_simp
theorem call_41 (args : Array Value) (w : World) : (callFunc 41 args).run Try.prog w = .ok (.enter 41 args) w := by
  have h := Try.func41
  go_simp
theorem call_42 (args : Array Value) (w : World) : (callFunc 42 args).run Try.prog w = .ok (.enter 42 args) w := by
  have h := Try.func42
  go_simp
set_option maxRecDepth 100000 in
theorem fa_23_10_1 (g : Nat) (w : World) : (Instr.fieldAt 23 (.pointer (some ⟨g, 10, none⟩)) 1).run Try.prog w = .ok (.pointer (some ⟨g, 11, none⟩)) w := rfl
set_option maxRecDepth 100000 in
theorem fa_23_10_2 (g : Nat) (w : World) : (Instr.fieldAt 23 (.pointer (some ⟨g, 10, none⟩)) 2).run Try.prog w = .ok (.pointer (some ⟨g, 12, none⟩)) w := rfl
set_option maxRecDepth 100000 in
theorem fa_23_10_3 (g : Nat) (w : World) : (Instr.fieldAt 23 (.pointer (some ⟨g, 10, none⟩)) 3).run Try.prog w = .ok (.pointer (some ⟨g, 13, none⟩)) w := rfl
set_option maxRecDepth 100000 in
theorem fa_23_10_6 (g : Nat) (w : World) : (Instr.fieldAt 23 (.pointer (some ⟨g, 10, none⟩)) 6).run Try.prog w = .ok (.pointer (some ⟨g, 16, none⟩)) w := rfl
set_option maxRecDepth 100000 in
theorem fa_27_24_0 (g : Nat) (w : World) : (Instr.fieldAt 27 (.pointer (some ⟨g, 24, none⟩)) 0).run Try.prog w = .ok (.pointer (some ⟨g, 24, none⟩)) w := rfl
set_option maxRecDepth 100000 in
theorem fa_27_24_1 (g : Nat) (w : World) : (Instr.fieldAt 27 (.pointer (some ⟨g, 24, none⟩)) 1).run Try.prog w = .ok (.pointer (some ⟨g, 25, none⟩)) w := rfl
set_option maxRecDepth 100000 in
theorem fa_27_24_2 (g : Nat) (w : World) : (Instr.fieldAt 27 (.pointer (some ⟨g, 24, none⟩)) 2).run Try.prog w = .ok (.pointer (some ⟨g, 26, none⟩)) w := rfl
set_option maxRecDepth 100000 in
theorem fa_29_20_3 (g : Nat) (w : World) : (Instr.fieldAt 29 (.pointer (some ⟨g, 20, none⟩)) 3).run Try.prog w = .ok (.pointer (some ⟨g, 23, none⟩)) w := rfl
set_option maxRecDepth 100000 in
theorem fa_29_20_4 (g : Nat) (w : World) : (Instr.fieldAt 29 (.pointer (some ⟨g, 20, none⟩)) 4).run Try.prog w = .ok (.pointer (some ⟨g, 24, none⟩)) w := rfl
set_option maxRecDepth 100000 in
theorem fa_33_28_0 (g : Nat) (w : World) : (Instr.fieldAt 33 (.pointer (some ⟨g, 28, none⟩)) 0).run Try.prog w = .ok (.pointer (some ⟨g, 28, none⟩)) w := rfl
set_option maxRecDepth 100000 in
theorem fa_33_28_1 (g : Nat) (w : World) : (Instr.fieldAt 33 (.pointer (some ⟨g, 28, none⟩)) 1).run Try.prog w = .ok (.pointer (some ⟨g, 29, none⟩)) w := rfl
set_option maxRecDepth 100000 in
theorem fa_33_28_2 (g : Nat) (w : World) : (Instr.fieldAt 33 (.pointer (some ⟨g, 28, none⟩)) 2).run Try.prog w = .ok (.pointer (some ⟨g, 30, none⟩)) w := rfl
set_option maxRecDepth 100000 in
theorem fa_33_28_3 (g : Nat) (w : World) : (Instr.fieldAt 33 (.pointer (some ⟨g, 28, none⟩)) 3).run Try.prog w = .ok (.pointer (some ⟨g, 31, none⟩)) w := rfl
set_option maxRecDepth 100000 in
theorem fa_35_0_0 (g : Nat) (w : World) : (Instr.fieldAt 35 (.pointer (some ⟨g, 0, none⟩)) 0).run Try.prog w = .ok (.pointer (some ⟨g, 0, none⟩)) w := rfl
set_option maxRecDepth 100000 in
theorem fa_35_0_1 (g : Nat) (w : World) : (Instr.fieldAt 35 (.pointer (some ⟨g, 0, none⟩)) 1).run Try.prog w = .ok (.pointer (some ⟨g, 1, none⟩)) w := rfl
set_option maxRecDepth 100000 in
theorem fa_35_0_2 (g : Nat) (w : World) : (Instr.fieldAt 35 (.pointer (some ⟨g, 0, none⟩)) 2).run Try.prog w = .ok (.pointer (some ⟨g, 2, none⟩)) w := rfl
set_option maxRecDepth 100000 in
theorem fa_35_0_3 (g : Nat) (w : World) : (Instr.fieldAt 35 (.pointer (some ⟨g, 0, none⟩)) 3).run Try.prog w = .ok (.pointer (some ⟨g, 3, none⟩)) w := rfl
set_option maxRecDepth 100000 in
theorem fa_35_0_4 (g : Nat) (w : World) : (Instr.fieldAt 35 (.pointer (some ⟨g, 0, none⟩)) 4).run Try.prog w = .ok (.pointer (some ⟨g, 4, none⟩)) w := rfl
set_option maxRecDepth 100000 in
theorem fa_35_0_5 (g : Nat) (w : World) : (Instr.fieldAt 35 (.pointer (some ⟨g, 0, none⟩)) 5).run Try.prog w = .ok (.pointer (some ⟨g, 5, none⟩)) w := rfl
set_option maxRecDepth 100000 in
theorem fa_35_0_6 (g : Nat) (w : World) : (Instr.fieldAt 35 (.pointer (some ⟨g, 0, none⟩)) 6).run Try.prog w = .ok (.pointer (some ⟨g, 6, none⟩)) w := rfl
set_option maxRecDepth 100000 in
theorem fa_35_0_7 (g : Nat) (w : World) : (Instr.fieldAt 35 (.pointer (some ⟨g, 0, none⟩)) 7).run Try.prog w = .ok (.pointer (some ⟨g, 7, none⟩)) w := rfl
set_option maxRecDepth 100000 in
theorem fa_35_0_8 (g : Nat) (w : World) : (Instr.fieldAt 35 (.pointer (some ⟨g, 0, none⟩)) 8).run Try.prog w = .ok (.pointer (some ⟨g, 8, none⟩)) w := rfl
set_option maxRecDepth 100000 in
theorem fa_35_0_9 (g : Nat) (w : World) : (Instr.fieldAt 35 (.pointer (some ⟨g, 0, none⟩)) 9).run Try.prog w = .ok (.pointer (some ⟨g, 9, none⟩)) w := rfl
set_option maxRecDepth 100000 in
theorem fa_35_0_10 (g : Nat) (w : World) : (Instr.fieldAt 35 (.pointer (some ⟨g, 0, none⟩)) 10).run Try.prog w = .ok (.pointer (some ⟨g, 10, none⟩)) w := rfl
set_option maxRecDepth 100000 in
theorem fa_35_0_11 (g : Nat) (w : World) : (Instr.fieldAt 35 (.pointer (some ⟨g, 0, none⟩)) 11).run Try.prog w = .ok (.pointer (some ⟨g, 18, none⟩)) w := rfl
set_option maxRecDepth 100000 in
theorem fa_35_0_12 (g : Nat) (w : World) : (Instr.fieldAt 35 (.pointer (some ⟨g, 0, none⟩)) 12).run Try.prog w = .ok (.pointer (some ⟨g, 19, none⟩)) w := rfl
set_option maxRecDepth 100000 in
theorem fa_35_0_13 (g : Nat) (w : World) : (Instr.fieldAt 35 (.pointer (some ⟨g, 0, none⟩)) 13).run Try.prog w = .ok (.pointer (some ⟨g, 20, none⟩)) w := rfl
set_option maxRecDepth 100000 in
theorem fa_35_0_14 (g : Nat) (w : World) : (Instr.fieldAt 35 (.pointer (some ⟨g, 0, none⟩)) 14).run Try.prog w = .ok (.pointer (some ⟨g, 27, none⟩)) w := rfl
set_option maxRecDepth 100000 in
theorem fa_35_0_15 (g : Nat) (w : World) : (Instr.fieldAt 35 (.pointer (some ⟨g, 0, none⟩)) 15).run Try.prog w = .ok (.pointer (some ⟨g, 28, none⟩)) w := rfl
set_option maxRecDepth 100000 in
theorem fa_83_0_0 (g : Nat) (w : World) : (Instr.fieldAt 83 (.pointer (some ⟨g, 0, none⟩)) 0).run Try.prog w = .ok (.pointer (some ⟨g, 0, none⟩)) w := rfl
set_option maxRecDepth 100000 in
theorem fa_83_0_1 (g : Nat) (w : World) : (Instr.fieldAt 83 (.pointer (some ⟨g, 0, none⟩)) 1).run Try.prog w = .ok (.pointer (some ⟨g, 1, none⟩)) w := rfl
end Go.Proofs.Ytanediaaidfcaaa
