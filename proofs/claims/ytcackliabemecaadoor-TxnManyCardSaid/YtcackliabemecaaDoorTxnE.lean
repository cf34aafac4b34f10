/- What Load's walk wants: max, min, copy of a text into bytes; the steps of its loop, pure. -/
import Derived.Test.YtcackliabemecaaDoorTxnD
namespace Go.Proofs.YtcackliabemecaaDoor
open Go.RowKit
set_option linter.unusedSimpArgs false
set_option linter.unusedVariables false
set_option maxRecDepth 100000

theorem run_maxI {P : Program} {o : Oper} {x y : Operand} {t t2 : TypeId} (ho : o.op = .call { callee := .builtin .max, args := #[x, y], argTypes := #[t, t2] }) {ρ : Operand → Value} {i j : Int} (hx : ρ x = .int .i64 i) (hy : ρ y = .int .i64 j) (w : World) : (execOp ρ o).run P w = .ok (.value (.int .i64 (max i j))) w := by
  unfold execOp; rw [ho]
  simp [resolve, invoke, builtin, hx, hy, Builtin.max_, Builtin.max2]
  have e : (if i < j then j else i) = max i j := by split <;> omega
  rw [e]
theorem run_minI {P : Program} {o : Oper} {x y : Operand} {t t2 : TypeId} (ho : o.op = .call { callee := .builtin .min, args := #[x, y], argTypes := #[t, t2] }) {ρ : Operand → Value} {i j : Int} (hx : ρ x = .int .i64 i) (hy : ρ y = .int .i64 j) (w : World) : (execOp ρ o).run P w = .ok (.value (.int .i64 (min i j))) w := by
  unfold execOp; rw [ho]
  simp [resolve, invoke, builtin, hx, hy, Builtin.min_, Builtin.min2]
  have e : (if j < i then j else i) = min i j := by split <;> omega
  rw [e]
theorem run_copyS (w : World) {ty et : TypeId} {g off dLen dCap : Nat} {L : List Value} {s : List UInt8} (hblk : Blk w g et L) (hd : dLen ≤ s.length) (hfit : off + dLen ≤ L.length) :
    ∃ w', (Builtin.copy_ #[22, 9] ty #[.slice (some ⟨g, off, none⟩) dLen dCap, strB s]).run Tryd.prog w = .ok (goInt dLen) w' ∧ Blk w' g et (splice L off ((s.take dLen).map byteV)) ∧ w.grownBy w' (some g) := by
  have hu := Tryd.underlying22
  have hs : (Tryd.prog.info? 5).map (·.size) = some 1 := by kernel_rfl
  have hlen : ((s.take dLen).map byteV).length = dLen := by rw [List.length_map, List.length_take]; omega
  have hst := run_storeCells_at Tryd.prog g off et ((s.take dLen).map byteV) 0 L.toArray w hblk (by rw [hlen]; simpa using hfit) (byteV_one _)
  have hmin : Nat.min s.length dLen = dLen := Nat.min_eq_right hd
  have htk : List.take dLen (List.map (fun b : UInt8 => Value.int IntKind.u8 (b.toNat : Int)) s) = (s.take dLen).map byteV := by rw [List.map_take]; rfl
  rw [hlen] at hst
  simp only [Nat.add_zero] at hst
  refine ⟨w.setRow g (L.take off ++ (s.take dLen).map byteV ++ L.drop (off + dLen)).toArray, ?_, ?_, grown_setRow w g _⟩
  rotate_left
  · unfold Blk
    rw [setRow_heap w g _ _ et _ hblk]
    generalize (s.take dLen).map byteV = cs at hlen
    simp [splice, hlen]
  · cases hq : Tryd.prog.info? 5 with
    | none => simp [hq] at hs
    | some i =>
      simp [Builtin.copy_, run_underlying hu, Builtin.lenOf, Builtin.firstCells, sizeOf, typeInfo, hq, strB, bsB_size, bsB_list, hmin]
      rw [htk, hst]
      simp [Result.andThen]
/-- the first k patches applied -/
theorem ovl_snoc (at_ : Int) (b : List UInt8) (P : List PtM) (p : PtM) : ovl at_ b (P ++ [p]) = ovlB at_ (ovl at_ b P) p := by unfold ovl; rw [List.foldl_append]; rfl
theorem ovl_take {at_ : Int} {b : List UInt8} {P : List PtM} {k : Nat} (hk : k < P.length) : ovl at_ b (P.take (k + 1)) = ovlB at_ (ovl at_ b (P.take k)) P[k] := by rw [← List.take_append_getElem hk, ovl_snoc]
end Go.Proofs.YtcackliabemecaaDoor
