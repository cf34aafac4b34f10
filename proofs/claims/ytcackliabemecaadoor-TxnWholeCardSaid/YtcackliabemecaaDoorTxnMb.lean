/- Merged: TxnE TxnF TxnG TxnH. -/
import Derived.Test.YtcackliabemecaaDoorTxnD
import Derived.Test.YtcackliabemecaaDoorPmMd
/- What Load's walk wants: max, min, copy of a text into bytes; the steps of its loop, pure. -/
namespace Go.Proofs.YtcackliabemecaaDoor
open Go.RowKit
set_option linter.unusedSimpArgs false
set_option linter.unusedVariables false
set_option maxRecDepth 100000

theorem run_maxI {P : Program} {o : Oper} {x y : Operand} {t t2 : TypeId} (ho : o.op = .call { callee := .builtin .max, args := #[x, y], argTypes := #[t, t2] }) {ρ : Operand → Value} {i j : Int} (hx : ρ x = .int .i64 i) (hy : ρ y = .int .i64 j) (w : World) : (execOp ρ o).run P w = .ok (.value (.int .i64 (max i j))) w := by
  unfold execOp; rw [ho]
  simp [resolve, invoke, builtin, hx, hy, Builtin.max_, Builtin.max2]
  have e : (if i < j then j else i) = max i j := by split <;> omega
  rw [e]
theorem run_minI {P : Program} {o : Oper} {x y : Operand} {t t2 : TypeId} (ho : o.op = .call { callee := .builtin .min, args := #[x, y], argTypes := #[t, t2] }) {ρ : Operand → Value} {i j : Int} (hx : ρ x = .int .i64 i) (hy : ρ y = .int .i64 j) (w : World) : (execOp ρ o).run P w = .ok (.value (.int .i64 (min i j))) w := by
  unfold execOp; rw [ho]
  simp [resolve, invoke, builtin, hx, hy, Builtin.min_, Builtin.min2]
  have e : (if j < i then j else i) = min i j := by split <;> omega
  rw [e]
theorem run_copyS (w : World) {ty et : TypeId} {g off dLen dCap : Nat} {L : List Value} {s : List UInt8} (hblk : Blk w g et L) (hd : dLen ≤ s.length) (hfit : off + dLen ≤ L.length) :
    ∃ w', (Builtin.copy_ #[22, 9] ty #[.slice (some ⟨g, off, none⟩) dLen dCap, strB s]).run Tryd.prog w = .ok (goInt dLen) w' ∧ Blk w' g et (splice L off ((s.take dLen).map byteV)) ∧ w.grownBy w' (some g) := by
  have hu := Tryd.underlying22
  have hs : (Tryd.prog.info? 5).map (·.size) = some 1 := by kernel_rfl
  have hlen : ((s.take dLen).map byteV).length = dLen := by rw [List.length_map, List.length_take]; omega
  have hst := run_storeCells_at Tryd.prog g off et ((s.take dLen).map byteV) 0 L.toArray w hblk (by rw [hlen]; simpa using hfit) (byteV_one _)
  have hmin : Nat.min s.length dLen = dLen := Nat.min_eq_right hd
  have htk : List.take dLen (List.map (fun b : UInt8 => Value.int IntKind.u8 (b.toNat : Int)) s) = (s.take dLen).map byteV := by rw [List.map_take]; rfl
  rw [hlen] at hst
  simp only [Nat.add_zero] at hst
  refine ⟨w.setRow g (L.take off ++ (s.take dLen).map byteV ++ L.drop (off + dLen)).toArray, ?_, ?_, grown_setRow w g _⟩
  rotate_left
  · unfold Blk
    rw [setRow_heap w g _ _ et _ hblk]
    generalize (s.take dLen).map byteV = cs at hlen
    simp [splice, hlen]
  · cases hq : Tryd.prog.info? 5 with
    | none => simp [hq] at hs
    | some i =>
      simp [Builtin.copy_, run_underlying hu, Builtin.lenOf, Builtin.firstCells, sizeOf, typeInfo, hq, strB, bsB_size, bsB_list, hmin]
      rw [htk, hst]
      simp [Result.andThen]
/-- the first k patches applied -/
theorem ovl_snoc (at_ : Int) (b : List UInt8) (P : List PtM) (p : PtM) : ovl at_ b (P ++ [p]) = ovlB at_ (ovl at_ b P) p := by unfold ovl; rw [List.foldl_append]; rfl
theorem ovl_take {at_ : Int} {b : List UInt8} {P : List PtM} {k : Nat} (hk : k < P.length) : ovl at_ b (P.take (k + 1)) = ovlB at_ (ovl at_ b (P.take k)) P[k] := by rw [← List.take_append_getElem hk, ovl_snoc]
end Go.Proofs.YtcackliabemecaaDoor
/- Bytes that one owns: a part of them is written over by a text. -/
namespace Go.Proofs.YtcackliabemecaaDoor
open Go.RowKit
set_option linter.unusedSimpArgs false
set_option linter.unusedVariables false
set_option maxRecDepth 100000

theorem take_splice {α : Type} (L x : List α) (lo n : Nat) (h : lo + x.length ≤ n) (hn : n ≤ L.length) : (splice L lo x).take n = splice (L.take n) lo x := by
  unfold splice
  have e1 : (L.take lo).length = lo := by rw [List.length_take]; omega
  (try rw [List.append_assoc]); (try rw [List.append_assoc])
  rw [List.take_append, e1, List.take_append, List.take_of_length_le (l := x) (by omega), List.take_take, List.take_take, List.drop_take, show min n lo = lo by omega, show min lo n = lo by omega, show n - lo - x.length = n - (lo + x.length) by omega]
/-- a part of what one owns, and a text laid there -/
theorem own_copyS {w : World} {B : Nat} {a : Option Addr} {c : Nat} {b : List UInt8} (o : OwnB w B a c b) (lo hi : Nat) (h1 : lo < hi) (h2 : hi ≤ b.length) :
    ∃ g, a = some ⟨g, 0, none⟩ ∧ B ≤ g ∧
      (∀ W, (Instr.sliceAt 22 (.slice a b.length c) (some (.int .i64 (lo : Int))) (some (.int .i64 (hi : Int))) none).run Tryd.prog W = .ok (.slice (some ⟨g, lo, none⟩) (hi - lo) (c - lo)) W) ∧
      (∀ (W : World) (s : List UInt8) (ty : TypeId), OwnB W B a c b → hi - lo ≤ s.length → ∃ w', (Builtin.copy_ #[22, 9] ty #[.slice (some ⟨g, lo, none⟩) (hi - lo) (c - lo), strB s]).run Tryd.prog W = .ok (goInt (hi - lo : Nat)) w' ∧ OwnB w' B a c (splice b lo (s.take (hi - lo))) ∧ W.grownBy w' (some g)) := by
  have r := o.row
  have hc := r.2.1
  obtain ⟨q1, q2⟩ := o
  rcases q2 with ⟨q3, q4⟩ | ⟨g, cap, cur, q3, q4, q5, q6, q7, q8, q9⟩
  · omega
  have e1 : a = some ⟨g, 0, none⟩ := by cases q3; rfl
  have e2 : cap = c := by cases q3; rfl
  subst e1; subst e2
  refine ⟨g, rfl, q4, fun W => ?_, fun W s ty oW hs => ?_⟩
  · rw [run_sliceAt_slice W _ _ _ _ _ unB, run_slice_lh W _ _ _ _ unB _ _ _ _ (by omega) (by omega) (by omega), elB, szB]
    show Result.ok (sliced _ _ _ _ _) W = _
    rw [Int.toNat_natCast, Int.toNat_natCast]
    unfold sliced
    rw [if_neg (by omega)]
    simp [Addr.add]
    omega
  · obtain ⟨p1, p2⟩ := oW
    rcases p2 with ⟨p3, p4⟩ | ⟨g2, cap2, cur2, p3, p4, p5, p6, p7, p8, p9⟩
    · omega
    have e1 : g2 = g := by cases p3; rfl
    have e2 : cap2 = cap := by cases p3; rfl
    subst e1; subst e2
    have hb : Blk W g2 5 cur2.toList := by unfold Blk; rw [p5]
    have hsz : cur2.toList.length = cap2 := by rw [Array.length_toList, p8, Nat.mul_one]
    obtain ⟨w', r1, r2, r3⟩ := run_copyS W (ty := ty) (dCap := cap2 - lo) hb hs (by rw [hsz]; omega : lo + (hi - lo) ≤ _)
    have hl : (s.take (hi - lo)).length = hi - lo := by rw [List.length_take]; omega
    have hsl : (splice b lo (s.take (hi - lo))).length = b.length := length_splice _ _ _ (by rw [hl]; omega)
    refine ⟨w', r1, ?_, r3⟩
    unfold OwnB
    rw [hsl]
    refine ⟨by rw [List.length_map, hsl, Nat.mul_one], .inr ⟨g2, cap2, (splice cur2.toList lo ((s.take (hi - lo)).map byteV)).toArray, rfl, p4, r2, p6, p7, ?_, ?_⟩⟩
    · rw [List.size_toArray, length_splice _ _ _ (by rw [List.length_map, hl, hsz]; omega), hsz, Nat.mul_one]
    · rw [Nat.mul_one] at p9 ⊢
      rw [map_splice, ← p9]
      exact take_splice _ _ _ _ (by rw [List.length_map, hl]; omega) (by omega)
end Go.Proofs.YtcackliabemecaaDoor
/- txn.Load. (genTxnL.py) -/
namespace Go.Proofs.YtcackliabemecaaDoor
open Go.RowKit
set_option linter.unusedSimpArgs false
set_option linter.unusedVariables false
set_option maxRecDepth 100000

theorem addTP (x y : Operand) (i j k : Int) (hk : i + j = k) (h1 : -9223372036854775808 ≤ k) (h2 : k ≤ 9223372036854775807) (w : World) : (do eqGuard .add 3 x y (.int .i64 i) (.int .i64 j); binOp .add 3 (.int .i64 i) (.int .i64 j) : Sem Value).run Tryd.prog w = .ok (.int .i64 k) w := by
  have u3 := Tryd.underlying3
  have a3 := Tryd.isAgg3
  have z3 := Tryd.sizeOf3
  subst hk
  have e1 : IntKind.i64.wrap (i + j) = i + j := IntWalk.i64_in _ (by omega)
  go_simp
theorem own_lt_neT {w : World} {B : Nat} {e : TypeId} {sz : Nat} {a : Option Addr} {n c : Nat} {cs : List Value} (h : Own w B e sz a n c cs) : (Value.slice a n c).ownBlock ≠ some w.heap.size := by
  intro e
  have z := (World.ownsRow.lt h _ e).2
  omega
theorem run_copyOp {o : Oper} {x y : Operand} {t t2 : TypeId} (ho : o.op = .call { callee := .builtin .copy, args := #[x, y], argTypes := #[t, t2] }) {ρ : Operand → Value} {u v r : Value} (hx : ρ x = u) (hy : ρ y = v) {w w' : World} (h : (Builtin.copy_ #[t, t2] o.type #[u, v]).run Tryd.prog w = .ok r w') : (execOp ρ o).run Tryd.prog w = .ok (.value r) w' := by
  unfold execOp; rw [ho]
  simp [resolve, invoke, builtin, hx, hy, h, Result.andThen]
theorem load_no {w : World} {g v d p : Nat} {M : MemM} (h : MemP w g v d p M) (at_ n : Int) (ha : i64B at_) (hn : i64B n) (hi : inM M at_ n = false) :
    Calls Tryd.prog 11 #[.pointer (some ⟨g, 0, none⟩), .int .i64 at_, .int .i64 n] w fun e w' => e = .returned (.tuple #[.slice none 0 0, .int .i64 1]) ∧ w = w' := by
  refine (load_any h at_ n ha hn).mono fun e w' q => ?_
  unfold LoadP at q
  rw [hi] at q
  exact q
theorem load_yes {w : World} {g v d p : Nat} {M : MemM} (h : MemP w g v d p M) (at_ n : Int) (ha : i64B at_) (hn : i64B n) (hi : inM M at_ n = true) {b0 : List UInt8} (hb0 : (M.V.drop at_.toNat).take n.toNat = b0) (hbl : (b0.length : Int) = n) :
    Calls Tryd.prog 11 #[.pointer (some ⟨g, 0, none⟩), .int .i64 at_, .int .i64 n] w fun e w' => ∃ a c, e = .returned (.tuple #[.slice a b0.length c, .int .i64 0]) ∧ OwnB w' w.heap.size a c b0 ∧ Below w.heap.size w w' := by
  refine (load_any h at_ n ha hn).mono fun e w' q => ?_
  unfold LoadP at q
  rw [if_pos hi, hb0, show n.toNat = b0.length by omega] at q
  exact q
theorem callT_11 (args : Array Value) (w : World) : (callFunc 11 args).run Tryd.prog w = .ok (.enter 11 args) w := by
  have h := Tryd.func11
  go_simp
theorem faT_37_0_0 (g : Nat) (w : World) : (Instr.fieldAt 37 (.pointer (some ⟨g, 0, none⟩)) 0).run Tryd.prog w = .ok (.pointer (some ⟨g, 0, none⟩)) w := rfl
theorem faT_37_0_1 (g : Nat) (w : World) : (Instr.fieldAt 37 (.pointer (some ⟨g, 0, none⟩)) 1).run Tryd.prog w = .ok (.pointer (some ⟨g, 1, none⟩)) w := rfl
set_option maxHeartbeats 8000000 in
theorem loadT_no {w : World} {tg g lg v d p0 tc : Nat} {ta : Option Addr} {M : MemM} {P : List PtM} (hm : MemP w g v d p0 M) (hb : Blk w tg 61 (txC g lg ta P.length tc)) (hr : RowPt w ta tc P) (hok : TxOk M P) (hM : M.V.length ≤ 1048576) (at_ n : Int) (ha : i64B at_) (hn : i64B n) (hi : inM M at_ n = false) : Calls Tryd.prog 26 #[.pointer (some ⟨tg, 0, none⟩), .int .i64 at_, .int .i64 n] w fun e w' => e = .returned (.tuple #[.slice none 0 0, .int .i64 1]) ∧ w = w' := by
  have HM := hid hm; have HB0 := hid hb
  clear hm hb hr
  go_enter Tryd.func26, Tryd.ntmps26
  go_step
  go_step
  go_step
  refine wpk_enter (N := 71) (l := [(0, .pointer (some ⟨tg, 0, none⟩)), (1, .int .i64 at_), (2, .int .i64 n)]) ⟨rfl, (by intro x hx; simp only [List.mem_cons, List.not_mem_nil, or_false] at hx; rcases hx with rfl | rfl | rfl <;> rfl), rfl⟩ fun a2 h1 => ?_
  refine wpk_val h1 (wanted_none rfl) rfl (by decide) (fr rfl) (.slice none 0 0) rfl fun a4 h3 => ?_
  refine wpk_val h3 (wanted_none rfl) rfl (by decide) (fr rfl) (.int .i64 0) rfl fun a6 h5 => ?_
  go_step
  go_step
  go_step
  go_step
  go_step
  refine wpk_val h5 (wanted_none rfl) rfl (by decide) (fr rfl) (.pointer (some ⟨tg, 0, none⟩)) (by unfold execOp; simp only [h5.eval (k := 0) (v := .pointer (some ⟨tg, 0, none⟩)) (by simp)]; rfl) fun a8 h7 => ?_
  refine wpk_val h7 (wanted_none rfl) rfl (by decide) (fr rfl) (.pointer (some ⟨tg, 0, none⟩)) (by unfold execOp; simp only [h7.eval (k := 15) (v := .pointer (some ⟨tg, 0, none⟩)) (by simp)]; exact rfl) fun a10 h9 => ?_
  refine wpk_val h9 (wanted_none rfl) rfl (by decide) (fr rfl) (.pointer (some ⟨tg, 0, none⟩)) (by unfold execOp; simp only [h9.eval (k := 16) (v := .pointer (some ⟨tg, 0, none⟩)) (by simp)]; exact run_v (faT_61_0_0 (tg) _)) fun a12 h11 => ?_
  refine wpk_val h11 (wanted_none rfl) rfl (by decide) (fr rfl) (.pointer (some ⟨g, 0, none⟩)) (by unfold execOp; simp only [h11.eval (k := 17) (v := .pointer (some ⟨tg, 0, none⟩)) (by simp)]; exact run_v (loadMP (HB0.out.cell (i := 0) (by show 0 < 3; omega)))) fun a14 h13 => ?_
  refine wpk_val h13 (wanted_none rfl) rfl (by decide) (fr rfl) (.int .i64 at_) (by unfold execOp; simp only [h13.eval (k := 1) (v := .int .i64 at_) (by simp)]; rfl) fun a16 h15 => ?_
  refine wpk_val h15 (wanted_none rfl) rfl (by decide) (fr rfl) (.int .i64 n) (by unfold execOp; simp only [h15.eval (k := 2) (v := .int .i64 n) (by simp)]; rfl) fun a18 h17 => ?_
  refine wpk_call h17 (wanted_none rfl) rfl (by decide) (fr rfl) (fun args => callT_11 args _) rfl #[.pointer (some ⟨g, 0, none⟩), .int .i64 at_, .int .i64 n] (by simp only [List.map_toArray, List.map_cons, List.map_nil, h17.eval (k := 18) (v := .pointer (some ⟨g, 0, none⟩)) (by simp), h17.eval (k := 19) (v := .int .i64 at_) (by simp), h17.eval (k := 20) (v := .int .i64 n) (by simp)]) (R := fun v' w' => v' = .tuple #[.slice none 0 0, .int .i64 1] ∧ w = w') ((load_no HM.out at_ n ha hn hi).mono fun e w' q => ⟨_, q.1, rfl, q.2⟩) fun a20 v1 w1 r1 h19 => ?_
  obtain ⟨rfl, rfl⟩ := r1
  refine wpk_val h19 (wanted_none rfl) rfl (by decide) (fr rfl) (.tuple #[.slice none 0 0, .int .i64 1]) (by unfold execOp; simp only [h19.eval (k := 21) (v := .tuple #[.slice none 0 0, .int .i64 1]) (by simp)]; rfl) fun a22 h21 => ?_
  refine wpk_val h21 (wanted_none rfl) rfl (by decide) (fr rfl) (.slice none 0 0) (by unfold execOp; simp only [h21.eval (k := 14) (v := .tuple #[.slice none 0 0, .int .i64 1]) (by simp)]; exact rfl) fun a24 h23 => ?_
  refine wpk_val h23 (wanted_none rfl) rfl (by decide) (fr rfl) (.int .i64 1) (by unfold execOp; simp only [h23.eval (k := 14) (v := .tuple #[.slice none 0 0, .int .i64 1]) (by simp)]; exact rfl) fun a26 h25 => ?_
  refine wpk_val h25 (wanted_none rfl) rfl (by decide) (fr rfl) (.slice none 0 0) (by unfold execOp; simp only [h25.eval (k := 22) (v := .slice none 0 0) (by simp)]; rfl) fun a28 h27 => ?_
  refine wpk_val h27 (wanted_none rfl) rfl (by decide) (fr rfl) (.int .i64 1) (by unfold execOp; simp only [h27.eval (k := 23) (v := .int .i64 1) (by simp)]; rfl) fun a30 h29 => ?_
  have h31 := h29.subs (l' := [(9, .int .i64 1), (8, .slice none 0 0), (7, .int .i64 0), (6, .slice none 0 0), (0, .pointer (some ⟨tg, 0, none⟩)), (1, .int .i64 at_), (2, .int .i64 n)]) rfl
  clear h29
  go_step
  go_step
  go_step
  go_step
  go_step
  go_step
  refine wpk_val h31 (wanted_none rfl) rfl (by decide) (fr rfl) (.int .i64 1) (by unfold execOp; simp only [h31.eval (k := 9) (v := .int .i64 1) (by simp)]; rfl) fun a33 h32 => ?_
  refine wpk_val h32 (wanted_none rfl) rfl (by decide) (fr rfl) (.bool true) (by unfold execOp; simp only [h32.eval (k := 24) (v := .int .i64 1) (by simp)]; exact run_v (neEP _ _ _ _ _ (by rfl))) fun a35 h34 => ?_
  have h36 := h34.subs (l' := [(25, .bool true), (9, .int .i64 1), (8, .slice none 0 0), (7, .int .i64 0), (6, .slice none 0 0), (0, .pointer (some ⟨tg, 0, none⟩)), (1, .int .i64 at_), (2, .int .i64 n)]) rfl
  clear h34
  go_step
  go_step
  go_step
  refine wp_cond (t := true) (h36.eval (k := 25) (v := .bool true) (by simp)) ?_
  simp only [if_true]
  have h37 := h36.subs (l' := [(9, .int .i64 1), (8, .slice none 0 0), (7, .int .i64 0), (6, .slice none 0 0), (0, .pointer (some ⟨tg, 0, none⟩)), (1, .int .i64 at_), (2, .int .i64 n)]) rfl
  clear h36
  go_step
  go_step
  refine wpk_val h37 (wanted_none rfl) rfl (by decide) (fr rfl) (.int .i64 1) (by unfold execOp; simp only [h37.eval (k := 9) (v := .int .i64 1) (by simp)]; rfl) fun a39 h38 => ?_
  have h40 := h38.subs (l' := [(26, .int .i64 1), (9, .int .i64 1), (8, .slice none 0 0), (7, .int .i64 0), (0, .pointer (some ⟨tg, 0, none⟩)), (1, .int .i64 at_), (2, .int .i64 n)]) rfl
  clear h38
  refine wpk_val h40 (wanted_none rfl) rfl (by decide) (fr rfl) (.slice none 0 0) rfl fun a42 h41 => ?_
  have h43 := h41.subs (l' := [(6, .slice none 0 0), (26, .int .i64 1), (9, .int .i64 1), (8, .slice none 0 0), (0, .pointer (some ⟨tg, 0, none⟩)), (1, .int .i64 at_), (2, .int .i64 n)]) rfl
  clear h41
  refine wpk_val h43 (wanted_none rfl) rfl (by decide) (fr rfl) (.int .i64 1) (by unfold execOp; simp only [h43.eval (k := 26) (v := .int .i64 1) (by simp)]; rfl) fun a45 h44 => ?_
  have h46 := h44.subs (l' := [(7, .int .i64 1), (6, .slice none 0 0), (9, .int .i64 1), (8, .slice none 0 0), (0, .pointer (some ⟨tg, 0, none⟩)), (1, .int .i64 at_), (2, .int .i64 n)]) rfl
  clear h44
  go_step
  go_step
  go_step
  go_step
  simp only [Exit.then, Exit.inBlock]
  exact bodyPost_ret (results_tmp2 rfl (h46.known (6, .slice none 0 0) (by simp)) (h46.known (7, .int .i64 1) (by simp))) h46.defs ⟨rfl, rfl⟩
set_option maxHeartbeats 8000000 in
theorem loadT_yes {w : World} {tg g lg v d p0 tc : Nat} {ta : Option Addr} {M : MemM} {P : List PtM} (hm : MemP w g v d p0 M) (hb : Blk w tg 61 (txC g lg ta P.length tc)) (hr : RowPt w ta tc P) (hok : TxOk M P) (hM : M.V.length ≤ 1048576) (at_ n : Int) (ha : i64B at_) (hn : i64B n) (hi : inM M at_ n = true) {b0 : List UInt8} (hb0 : (M.V.drop at_.toNat).take n.toNat = b0) (hbl : (b0.length : Int) = n) : Calls Tryd.prog 26 #[.pointer (some ⟨tg, 0, none⟩), .int .i64 at_, .int .i64 n] w fun e w' => ∃ ba bc, e = .returned (.tuple #[.slice ba b0.length bc, .int .i64 0]) ∧ OwnB w' w.heap.size ba bc (ovl at_ b0 P) ∧ Below w.heap.size w w' := by
  have HM := hid hm; have HB0 := hid hb; have HR := hid hr
  have hsz := hok.n
  have hin := of_decide_eq_true hi
  clear hm hb hr
  go_enter Tryd.func26, Tryd.ntmps26
  go_step
  go_step
  go_step
  refine wpk_enter (N := 71) (l := [(0, .pointer (some ⟨tg, 0, none⟩)), (1, .int .i64 at_), (2, .int .i64 n)]) ⟨rfl, (by intro x hx; simp only [List.mem_cons, List.not_mem_nil, or_false] at hx; rcases hx with rfl | rfl | rfl <;> rfl), rfl⟩ fun a2 h1 => ?_
  refine wpk_val h1 (wanted_none rfl) rfl (by decide) (fr rfl) (.slice none 0 0) rfl fun a4 h3 => ?_
  refine wpk_val h3 (wanted_none rfl) rfl (by decide) (fr rfl) (.int .i64 0) rfl fun a6 h5 => ?_
  go_step
  go_step
  go_step
  go_step
  go_step
  refine wpk_val h5 (wanted_none rfl) rfl (by decide) (fr rfl) (.pointer (some ⟨tg, 0, none⟩)) (by unfold execOp; simp only [h5.eval (k := 0) (v := .pointer (some ⟨tg, 0, none⟩)) (by simp)]; rfl) fun a8 h7 => ?_
  refine wpk_val h7 (wanted_none rfl) rfl (by decide) (fr rfl) (.pointer (some ⟨tg, 0, none⟩)) (by unfold execOp; simp only [h7.eval (k := 15) (v := .pointer (some ⟨tg, 0, none⟩)) (by simp)]; exact rfl) fun a10 h9 => ?_
  refine wpk_val h9 (wanted_none rfl) rfl (by decide) (fr rfl) (.pointer (some ⟨tg, 0, none⟩)) (by unfold execOp; simp only [h9.eval (k := 16) (v := .pointer (some ⟨tg, 0, none⟩)) (by simp)]; exact run_v (faT_61_0_0 (tg) _)) fun a12 h11 => ?_
  refine wpk_val h11 (wanted_none rfl) rfl (by decide) (fr rfl) (.pointer (some ⟨g, 0, none⟩)) (by unfold execOp; simp only [h11.eval (k := 17) (v := .pointer (some ⟨tg, 0, none⟩)) (by simp)]; exact run_v (loadMP (HB0.out.cell (i := 0) (by show 0 < 3; omega)))) fun a14 h13 => ?_
  refine wpk_val h13 (wanted_none rfl) rfl (by decide) (fr rfl) (.int .i64 at_) (by unfold execOp; simp only [h13.eval (k := 1) (v := .int .i64 at_) (by simp)]; rfl) fun a16 h15 => ?_
  refine wpk_val h15 (wanted_none rfl) rfl (by decide) (fr rfl) (.int .i64 n) (by unfold execOp; simp only [h15.eval (k := 2) (v := .int .i64 n) (by simp)]; rfl) fun a18 h17 => ?_
  refine wpk_call h17 (wanted_none rfl) rfl (by decide) (fr rfl) (fun args => callT_11 args _) rfl #[.pointer (some ⟨g, 0, none⟩), .int .i64 at_, .int .i64 n] (by simp only [List.map_toArray, List.map_cons, List.map_nil, h17.eval (k := 18) (v := .pointer (some ⟨g, 0, none⟩)) (by simp), h17.eval (k := 19) (v := .int .i64 at_) (by simp), h17.eval (k := 20) (v := .int .i64 n) (by simp)]) (R := fun v' w' => ∃ ba bc, v' = .tuple #[.slice ba b0.length bc, .int .i64 0] ∧ OwnB w' w.heap.size ba bc b0 ∧ Below w.heap.size w w') ((load_yes HM.out at_ n ha hn hi hb0 hbl).mono fun e w' q => by obtain ⟨x, y, q1, q2, q3⟩ := q; exact ⟨_, q1, x, y, rfl, q2, q3⟩) fun a20 v1 w1 r1 h19 => ?_
  obtain ⟨ba, bc, rfl, o1, b1⟩ := r1
  have HO0 := hid o1; have HB1 := hid (HB0.out.mono b1); have HW0 := hid b1; clear o1 b1
  refine wpk_val h19 (wanted_none rfl) rfl (by decide) (fr rfl) (.tuple #[.slice ba b0.length bc, .int .i64 0]) (by unfold execOp; simp only [h19.eval (k := 21) (v := .tuple #[.slice ba b0.length bc, .int .i64 0]) (by simp)]; rfl) fun a22 h21 => ?_
  refine wpk_val h21 (wanted_none rfl) rfl (by decide) (fr rfl) (.slice ba b0.length bc) (by unfold execOp; simp only [h21.eval (k := 14) (v := .tuple #[.slice ba b0.length bc, .int .i64 0]) (by simp)]; exact rfl) fun a24 h23 => ?_
  refine wpk_val h23 (wanted_none rfl) rfl (by decide) (fr rfl) (.int .i64 0) (by unfold execOp; simp only [h23.eval (k := 14) (v := .tuple #[.slice ba b0.length bc, .int .i64 0]) (by simp)]; exact rfl) fun a26 h25 => ?_
  refine wpk_val h25 (wanted_none rfl) rfl (by decide) (fr rfl) (.slice ba b0.length bc) (by unfold execOp; simp only [h25.eval (k := 22) (v := .slice ba b0.length bc) (by simp)]; rfl) fun a28 h27 => ?_
  refine wpk_val h27 (wanted_none rfl) rfl (by decide) (fr rfl) (.int .i64 0) (by unfold execOp; simp only [h27.eval (k := 23) (v := .int .i64 0) (by simp)]; rfl) fun a30 h29 => ?_
  have h31 := h29.subs (l' := [(9, .int .i64 0), (8, .slice ba b0.length bc), (7, .int .i64 0), (6, .slice none 0 0), (0, .pointer (some ⟨tg, 0, none⟩)), (1, .int .i64 at_), (2, .int .i64 n)]) rfl
  clear h29
  go_step
  go_step
  go_step
  go_step
  go_step
  go_step
  refine wpk_val h31 (wanted_none rfl) rfl (by decide) (fr rfl) (.int .i64 0) (by unfold execOp; simp only [h31.eval (k := 9) (v := .int .i64 0) (by simp)]; rfl) fun a33 h32 => ?_
  refine wpk_val h32 (wanted_none rfl) rfl (by decide) (fr rfl) (.bool false) (by unfold execOp; simp only [h32.eval (k := 24) (v := .int .i64 0) (by simp)]; exact run_v (neEP _ _ _ _ _ (by rfl))) fun a35 h34 => ?_
  have h36 := h34.subs (l' := [(25, .bool false), (9, .int .i64 0), (8, .slice ba b0.length bc), (7, .int .i64 0), (6, .slice none 0 0), (0, .pointer (some ⟨tg, 0, none⟩)), (1, .int .i64 at_), (2, .int .i64 n)]) rfl
  clear h34
  go_step
  go_step
  go_step
  refine wp_cond (t := false) (h36.eval (k := 25) (v := .bool false) (by simp)) ?_
  simp only [Bool.false_eq_true, if_false]
  have h37 := h36.subs (l' := [(9, .int .i64 0), (8, .slice ba b0.length bc), (7, .int .i64 0), (6, .slice none 0 0), (0, .pointer (some ⟨tg, 0, none⟩)), (1, .int .i64 at_), (2, .int .i64 n)]) rfl
  clear h36
  go_step
  go_step
  go_step
  go_step
  go_step
  go_step
  refine wpk_val h37 (wanted_none rfl) rfl (by decide) (fr rfl) (.pointer (some ⟨tg, 0, none⟩)) (by unfold execOp; simp only [h37.eval (k := 0) (v := .pointer (some ⟨tg, 0, none⟩)) (by simp)]; rfl) fun a39 h38 => ?_
  refine wpk_val h38 (wanted_none rfl) rfl (by decide) (fr rfl) (.pointer (some ⟨tg, 0, none⟩)) (by unfold execOp; simp only [h38.eval (k := 27) (v := .pointer (some ⟨tg, 0, none⟩)) (by simp)]; exact rfl) fun a41 h40 => ?_
  refine wpk_val h40 (wanted_none rfl) rfl (by decide) (fr rfl) (.pointer (some ⟨tg, 2, none⟩)) (by unfold execOp; simp only [h40.eval (k := 28) (v := .pointer (some ⟨tg, 0, none⟩)) (by simp)]; exact run_v (faT_61_0_2 (tg) _)) fun a43 h42 => ?_
  refine wpk_val h42 (wanted_none rfl) rfl (by decide) (fr rfl) (.slice ta P.length tc) (by unfold execOp; simp only [h42.eval (k := 29) (v := .pointer (some ⟨tg, 2, none⟩)) (by simp)]; exact run_v (loadPtsP (HB1.out.cell (i := 2) (by show 2 < 3; omega)))) fun a45 h44 => ?_
  refine wpk_val h44 (wanted_none rfl) rfl (by decide) (fr rfl) (.int .i64 (P.length : Int)) (run_lenP rfl (h44.eval (k := 30) (v := .slice ta P.length tc) (by simp)) _) fun a47 h46 => ?_
  refine wpk_val h46 (wanted_none rfl) rfl (by decide) (fr rfl) (.int .i64 0) rfl fun a49 h48 => ?_
  have h50 := h48.subs (l' := [(32, .int .i64 0), (31, .int .i64 (P.length : Int)), (30, .slice ta P.length tc), (9, .int .i64 0), (8, .slice ba b0.length bc), (7, .int .i64 0), (6, .slice none 0 0), (0, .pointer (some ⟨tg, 0, none⟩)), (1, .int .i64 at_), (2, .int .i64 n)]) rfl
  clear h48
  go_step
  go_step
  go_step
  go_step
  have h51 := h50.subs (l' := [(8, .slice ba b0.length bc), (32, .int .i64 0), (31, .int .i64 (P.length : Int)), (30, .slice ta P.length tc), (9, .int .i64 0), (7, .int .i64 0), (6, .slice none 0 0), (0, .pointer (some ⟨tg, 0, none⟩)), (1, .int .i64 at_), (2, .int .i64 n)]) rfl
  clear h50
  refine wp_loop (I := fun a' w' => ∃ (j : Nat) (eb : List UInt8), j ≤ P.length ∧ Kn 71 [(8, .slice ba b0.length bc), (32, .int .i64 (j : Int)), (31, .int .i64 (P.length : Int)), (30, .slice ta P.length tc), (9, .int .i64 0), (7, .int .i64 0), (6, .slice none 0 0), (0, .pointer (some ⟨tg, 0, none⟩)), (1, .int .i64 at_), (2, .int .i64 n)] a' ∧ eb = ovl at_ b0 (P.take j) ∧ OwnB w' w.heap.size ba bc eb ∧ Below w.heap.size w w') (μ := fun a' _ => P.length - (intOf (a'.eval (.tmp 32))).toNat) ⟨0, b0, Nat.zero_le _, h51, rfl, HO0.out, HW0.out⟩ ?_
  clear HO0 HW0 HB1 h51
  rintro aL aw ⟨j, eb, hj, hK, heb, ho, hb⟩
  have hel : eb.length = b0.length := by rw [heb, ovl_len]
  have HO := hid ho; have HB := hid hb; have HEB := hid heb; clear ho hb heb
  by_cases hlt : j < P.length
  · have hd0 : decide ((j : Int) < (P.length : Int)) = true := decide_eq_true (by omega)
    obtain ⟨pb, poff, ha0, hrg⟩ := rowPt_at (HR.out.mono HB.out) (by omega)
    have hrg := hrg j hlt; have hsp := hok.i P[j] (List.getElem_mem hlt); obtain ⟨p, hp⟩ : ∃ p, p = P[j] := ⟨_, rfl⟩; rw [← hp] at hrg hsp; have HPJ := hid hp; clear hp; obtain ⟨hp1, hp2, hp3⟩ := hsp
    go_step
    go_step
    go_step
    refine wpk_val hK (wanted_none rfl) rfl (by decide) (fr rfl) (.bool true) (by unfold execOp; simp only [hK.eval (k := 32) (v := .int .i64 (j : Int)) (by simp), hK.eval (k := 31) (v := .int .i64 (P.length : Int)) (by simp)]; exact run_v (ltIP _ _ _ _ _ hd0)) fun a53 h52 => ?_
    go_step
    go_step
    go_step
    go_step
    refine wp_cond (t := true) (h52.eval (k := 33) (v := .bool true) (by simp)) ?_
    simp only [if_true]
    have h54 := h52.subs (l' := [(8, .slice ba b0.length bc), (32, .int .i64 (j : Int)), (31, .int .i64 (P.length : Int)), (30, .slice ta P.length tc), (9, .int .i64 0), (7, .int .i64 0), (6, .slice none 0 0), (0, .pointer (some ⟨tg, 0, none⟩)), (1, .int .i64 at_), (2, .int .i64 n)]) rfl
    clear h52
    go_step
    go_step
    go_step
    go_step
    go_step
    go_step
    go_step
    refine wpk_val h54 (wanted_none rfl) rfl (by decide) (fr rfl) (.pointer (some ⟨pb, poff + j * 2, none⟩)) (by unfold execOp; simp only [h54.eval (k := 30) (v := .slice ta P.length tc) (by simp), h54.eval (k := 32) (v := .int .i64 (j : Int)) (by simp)]; exact run_v (by rw [ha0]; exact ixP pb poff _ tc j hlt _)) fun a56 h55 => ?_
    refine wpk_val h55 (wanted_none rfl) rfl (by decide) (fr rfl) (ptV p) (by unfold execOp; simp only [h55.eval (k := 34) (v := .pointer (some ⟨pb, poff + j * 2, none⟩)) (by simp)]; exact run_v (run_loadAt_mid _ _ _ _ (ptC p) _ hrg Tryd.underlying37 rfl (by rw [infoPt]; rfl))) fun a58 h57 => ?_
    refine wpk_val h57 (wanted_none rfl) rfl (by decide) (fr rfl) (.pointer (some ⟨aw.heap.size, 0, none⟩)) (run_allocPt rfl _ aw) fun a60 h59 => ?_
    obtain ⟨wp, hwp⟩ : ∃ x, x = aw.alloc (.cells (ptC ⟨0, []⟩).toArray 37) := ⟨_, rfl⟩
    obtain ⟨gp, hgp⟩ : ∃ x, x = aw.heap.size := ⟨_, rfl⟩
    have hk0 : Blk wp gp 37 (ptC ⟨0, []⟩) := by rw [hwp, hgp]; exact blk_newO rfl _ _
    have HOp : Hid (OwnB wp w.heap.size ba bc eb) := hid (by rw [hwp]; exact Own.alloc HO.out _)
    have HBp : Hid (Below w.heap.size w wp) := hid (by rw [hwp]; exact kept_alloc HB.out _)
    have hgw : w.heap.size ≤ gp := by rw [hgp]; exact HB.out.size
    have hapart : (Value.slice ba eb.length bc).ownBlock ≠ some gp := by rw [hgp]; exact own_lt_neT HO.out
    rw [← hgp] at h59; rw [← hwp]; clear hwp hgp
    refine wpk_storeP h59 rfl rfl rfl gp 0 (h59.eval (k := 11) (v := .pointer (some ⟨gp, 0, none⟩)) (by simp)) (ptC p) (h59.eval (k := 35) (v := ptV p) (by simp)) (by rw [infoPt]; rfl) (ptC_one _) hk0 (by show 0 + 2 ≤ 2; omega) fun a62 wq h61 kq gq => ?_
    rw [splice_all (by rfl)] at kq
    have HP := hid kq; have HOq : Hid (OwnB wq w.heap.size ba bc eb) := hid (own_turnsP HOp.out hk0 (by decide) (Turns.of_grown gq rfl)); have HBq : Hid (Below w.heap.size w wq) := hid (below_grownS HBp.out gq hgw HBp.out.size)
    clear kq gq hk0 HOp HBp
    have h63 := h61.subs (l' := [(11, .pointer (some ⟨gp, 0, none⟩)), (8, .slice ba b0.length bc), (32, .int .i64 (j : Int)), (31, .int .i64 (P.length : Int)), (30, .slice ta P.length tc), (9, .int .i64 0), (7, .int .i64 0), (6, .slice none 0 0), (0, .pointer (some ⟨tg, 0, none⟩)), (1, .int .i64 at_), (2, .int .i64 n)]) rfl
    clear h61
    go_step
    go_step
    go_step
    go_step
    have HPd := hid (HP.out.mono (Below.refl _ _).drew); have HOd : Hid (OwnB wq.drew w.heap.size ba bc eb) := hid (Own.mono HOq.out (Below.refl _ _).drew); have HBd := hid HBq.out.drew
    obtain ⟨fq, hfr⟩ : ∃ x, x = max at_ p.at_ := ⟨_, rfl⟩
    obtain ⟨to, hto⟩ : ∃ x, x = min (at_ + n) (p.at_ + (p.d.length : Int)) := ⟨_, rfl⟩
    refine wp_region_held_drew (S := fun w' => Blk w' gp 37 (ptC p)) (by kernel_rfl) HPd.out (fun hS1 => ?_)
    refine wpk_take hS1 h63 0 rfl rfl (by decide) (fr rfl) (by kernel_rfl) (by kernel_rfl) (by kernel_rfl) (fun _ _ _ _ h => h) (.int .i64 at_) (Or.inl ⟨Eq.refl true, fun w1 hSw => (by show (execOp _ (⟨_, .move (.tmp 1), _, _, _, _⟩ : Oper)).run _ _ = _; exact (by unfold execOp; simp only [h63.eval (k := 1) (v := .int .i64 at_) (by simp)]; exact rfl))⟩) fun a65 h64 => ?_
    refine wpk_take hS1 h64 1 rfl rfl (by decide) (fr rfl) (by kernel_rfl) (by kernel_rfl) (by kernel_rfl) (fun _ _ _ _ h => h) (.pointer (some ⟨gp, 0, none⟩)) (Or.inl ⟨Eq.refl true, fun w1 hSw => (by show (execOp _ (⟨_, .fieldAddr 37 (.tmp 11) 0, _, _, _, _⟩ : Oper)).run _ _ = _; exact (by unfold execOp; simp only [h64.eval (k := 11) (v := .pointer (some ⟨gp, 0, none⟩)) (by simp)]; exact run_v (faT_37_0_0 (gp) _)))⟩) fun a67 h66 => ?_
    refine wpk_take hS1 h66 2 rfl rfl (by decide) (fr rfl) (by kernel_rfl) (by kernel_rfl) (by kernel_rfl) (fun _ _ _ _ h => h) (.int .i64 p.at_) (Or.inl ⟨Eq.refl true, fun w1 hSw => (by show (execOp _ (⟨_, .load 3 (.tmp 37), _, _, _, _⟩ : Oper)).run _ _ = _; exact (by unfold execOp; simp only [h66.eval (k := 37) (v := .pointer (some ⟨gp, 0, none⟩)) (by simp)]; exact run_v (loadIP (hSw.cell (i := 0) (by show 0 < 2; omega)))))⟩) fun a69 h68 => ?_
    refine wpk_take hS1 h68 3 rfl rfl (by decide) (fr rfl) (by kernel_rfl) (by kernel_rfl) (by kernel_rfl) (fun _ _ _ _ h => h) (.int .i64 fq) (Or.inl ⟨Eq.refl true, fun w1 hSw => (by show (execOp _ (⟨_, .call { callee := .builtin .max, args := #[(.tmp 36), (.tmp 38)], argTypes := #[3, 3] }, _, _, _, _⟩ : Oper)).run _ _ = _; exact (by rw [hfr]; exact run_maxI rfl (h68.eval (k := 36) (v := .int .i64 at_) (by simp)) (h68.eval (k := 38) (v := .int .i64 p.at_) (by simp)) _))⟩) fun a71 h70 => ?_
    refine wpk_take hS1 h70 4 rfl rfl (by decide) (fr rfl) (by kernel_rfl) (by kernel_rfl) (by kernel_rfl) (fun _ _ _ _ h => h) (.int .i64 at_) (Or.inl ⟨Eq.refl true, fun w1 hSw => (by show (execOp _ (⟨_, .move (.tmp 1), _, _, _, _⟩ : Oper)).run _ _ = _; exact (by unfold execOp; simp only [h70.eval (k := 1) (v := .int .i64 at_) (by simp)]; exact rfl))⟩) fun a73 h72 => ?_
    refine wpk_take hS1 h72 5 rfl rfl (by decide) (fr rfl) (by kernel_rfl) (by kernel_rfl) (by kernel_rfl) (fun _ _ _ _ h => h) (.int .i64 n) (Or.inl ⟨Eq.refl true, fun w1 hSw => (by show (execOp _ (⟨_, .move (.tmp 2), _, _, _, _⟩ : Oper)).run _ _ = _; exact (by unfold execOp; simp only [h72.eval (k := 2) (v := .int .i64 n) (by simp)]; exact rfl))⟩) fun a75 h74 => ?_
    refine wpk_take hS1 h74 6 rfl rfl (by decide) (fr rfl) (by kernel_rfl) (by kernel_rfl) (by kernel_rfl) (fun _ _ _ _ h => h) (.int .i64 (at_ + n)) (Or.inl ⟨Eq.refl true, fun w1 hSw => (by show (execOp _ (⟨_, .binOp .add 3 (.tmp 40) (.tmp 41) 3, _, _, _, _⟩ : Oper)).run _ _ = _; exact (by unfold execOp; simp only [h74.eval (k := 40) (v := .int .i64 at_) (by simp), h74.eval (k := 41) (v := .int .i64 n) (by simp)]; exact run_v (addTP _ _ _ _ _ rfl (by omega) (by omega) _)))⟩) fun a77 h76 => ?_
    refine wpk_take hS1 h76 7 rfl rfl (by decide) (fr rfl) (by kernel_rfl) (by kernel_rfl) (by kernel_rfl) (fun _ _ _ _ h => h) (.pointer (some ⟨gp, 0, none⟩)) (Or.inl ⟨Eq.refl true, fun w1 hSw => (by show (execOp _ (⟨_, .fieldAddr 37 (.tmp 11) 0, _, _, _, _⟩ : Oper)).run _ _ = _; exact (by unfold execOp; simp only [h76.eval (k := 11) (v := .pointer (some ⟨gp, 0, none⟩)) (by simp)]; exact run_v (faT_37_0_0 (gp) _)))⟩) fun a79 h78 => ?_
    refine wpk_take hS1 h78 8 rfl rfl (by decide) (fr rfl) (by kernel_rfl) (by kernel_rfl) (by kernel_rfl) (fun _ _ _ _ h => h) (.int .i64 p.at_) (Or.inl ⟨Eq.refl true, fun w1 hSw => (by show (execOp _ (⟨_, .load 3 (.tmp 43), _, _, _, _⟩ : Oper)).run _ _ = _; exact (by unfold execOp; simp only [h78.eval (k := 43) (v := .pointer (some ⟨gp, 0, none⟩)) (by simp)]; exact run_v (loadIP (hSw.cell (i := 0) (by show 0 < 2; omega)))))⟩) fun a81 h80 => ?_
    refine wpk_take hS1 h80 9 rfl rfl (by decide) (fr rfl) (by kernel_rfl) (by kernel_rfl) (by kernel_rfl) (fun _ _ _ _ h => h) (.pointer (some ⟨gp, 1, none⟩)) (Or.inl ⟨Eq.refl true, fun w1 hSw => (by show (execOp _ (⟨_, .fieldAddr 37 (.tmp 11) 1, _, _, _, _⟩ : Oper)).run _ _ = _; exact (by unfold execOp; simp only [h80.eval (k := 11) (v := .pointer (some ⟨gp, 0, none⟩)) (by simp)]; exact run_v (faT_37_0_1 (gp) _)))⟩) fun a83 h82 => ?_
    refine wpk_take hS1 h82 10 rfl rfl (by decide) (fr rfl) (by kernel_rfl) (by kernel_rfl) (by kernel_rfl) (fun _ _ _ _ h => h) (strB p.d) (Or.inl ⟨Eq.refl true, fun w1 hSw => (by show (execOp _ (⟨_, .load 9 (.tmp 45), _, _, _, _⟩ : Oper)).run _ _ = _; exact (by unfold execOp; simp only [h82.eval (k := 45) (v := .pointer (some ⟨gp, 1, none⟩)) (by simp)]; exact run_v (loadSP (hSw.cell (i := 1) (by show 1 < 2; omega)))))⟩) fun a85 h84 => ?_
    refine wpk_take hS1 h84 11 rfl rfl (by decide) (fr rfl) (by kernel_rfl) (by kernel_rfl) (by kernel_rfl) (fun _ _ _ _ h => h) (.int .i64 (p.d.length : Int)) (Or.inl ⟨Eq.refl true, fun w1 hSw => (by show (execOp _ (⟨_, .call { callee := .builtin .len, args := #[(.tmp 46)], argTypes := #[9] }, _, _, _, _⟩ : Oper)).run _ _ = _; exact (run_lenSP rfl (h84.eval (k := 46) (v := strB p.d) (by simp)) _))⟩) fun a87 h86 => ?_
    refine wpk_take hS1 h86 12 rfl rfl (by decide) (fr rfl) (by kernel_rfl) (by kernel_rfl) (by kernel_rfl) (fun _ _ _ _ h => h) (.int .i64 (p.at_ + (p.d.length : Int))) (Or.inl ⟨Eq.refl true, fun w1 hSw => (by show (execOp _ (⟨_, .binOp .add 3 (.tmp 44) (.tmp 47) 3, _, _, _, _⟩ : Oper)).run _ _ = _; exact (by unfold execOp; simp only [h86.eval (k := 44) (v := .int .i64 p.at_) (by simp), h86.eval (k := 47) (v := .int .i64 (p.d.length : Int)) (by simp)]; exact run_v (addTP _ _ _ _ _ rfl (by omega) (by omega) _)))⟩) fun a89 h88 => ?_
    refine wpk_take hS1 h88 13 rfl rfl (by decide) (fr rfl) (by kernel_rfl) (by kernel_rfl) (by kernel_rfl) (fun _ _ _ _ h => h) (.int .i64 to) (Or.inl ⟨Eq.refl true, fun w1 hSw => (by show (execOp _ (⟨_, .call { callee := .builtin .min, args := #[(.tmp 42), (.tmp 48)], argTypes := #[3, 3] }, _, _, _, _⟩ : Oper)).run _ _ = _; exact (by rw [hto]; exact run_minI rfl (h88.eval (k := 42) (v := .int .i64 (at_ + n)) (by simp)) (h88.eval (k := 48) (v := .int .i64 (p.at_ + (p.d.length : Int))) (by simp)) _))⟩) fun a91 h90 => ?_
    refine wpk_take hS1 h90 14 rfl rfl (by decide) (fr rfl) (by kernel_rfl) (by kernel_rfl) (by kernel_rfl) (fun _ _ _ _ h => h) (.int .i64 fq) (Or.inl ⟨Eq.refl true, fun w1 hSw => (by show (execOp _ (⟨_, .assign (.tmp 39), _, _, _, _⟩ : Oper)).run _ _ = _; exact (by unfold execOp; simp only [h90.eval (k := 39) (v := .int .i64 fq) (by simp)]; exact rfl))⟩) fun a93 h92 => ?_
    refine wpk_take hS1 h92 15 rfl rfl (by decide) (fr rfl) (by kernel_rfl) (by kernel_rfl) (by kernel_rfl) (fun _ _ _ _ h => h) (.int .i64 to) (Or.inl ⟨Eq.refl true, fun w1 hSw => (by show (execOp _ (⟨_, .assign (.tmp 49), _, _, _, _⟩ : Oper)).run _ _ = _; exact (by unfold execOp; simp only [h92.eval (k := 49) (v := .int .i64 to) (by simp)]; exact rfl))⟩) fun a95 h94 => ?_
    refine wpAnyH_done (by kernel_rfl) ?_ _
    have h96 := h94.subs (l' := [(13, .int .i64 to), (12, .int .i64 fq), (11, .pointer (some ⟨gp, 0, none⟩)), (8, .slice ba b0.length bc), (32, .int .i64 (j : Int)), (31, .int .i64 (P.length : Int)), (30, .slice ta P.length tc), (9, .int .i64 0), (7, .int .i64 0), (6, .slice none 0 0), (0, .pointer (some ⟨tg, 0, none⟩)), (1, .int .i64 at_), (2, .int .i64 n)]) rfl
    clear h94
    go_step
    go_step
    by_cases hcc : fq < to
    · have hc0 : decide (fq < to) = true := decide_eq_true (by omega)
      go_step
      go_step
      refine wpk_val h96 (wanted_none rfl) rfl (by decide) (fr rfl) (.int .i64 fq) (by unfold execOp; simp only [h96.eval (k := 12) (v := .int .i64 fq) (by simp)]; rfl) fun a98 h97 => ?_
      refine wpk_val h97 (wanted_none rfl) rfl (by decide) (fr rfl) (.int .i64 to) (by unfold execOp; simp only [h97.eval (k := 13) (v := .int .i64 to) (by simp)]; rfl) fun a100 h99 => ?_
      refine wpk_val h99 (wanted_none rfl) rfl (by decide) (fr rfl) (.bool true) (by unfold execOp; simp only [h99.eval (k := 50) (v := .int .i64 fq) (by simp), h99.eval (k := 51) (v := .int .i64 to) (by simp)]; exact run_v (ltIP _ _ _ _ _ hc0)) fun a102 h101 => ?_
      have h103 := h101.subs (l' := [(52, .bool true), (13, .int .i64 to), (12, .int .i64 fq), (11, .pointer (some ⟨gp, 0, none⟩)), (8, .slice ba b0.length bc), (32, .int .i64 (j : Int)), (31, .int .i64 (P.length : Int)), (30, .slice ta P.length tc), (9, .int .i64 0), (7, .int .i64 0), (6, .slice none 0 0), (0, .pointer (some ⟨tg, 0, none⟩)), (1, .int .i64 at_), (2, .int .i64 n)]) rfl
      clear h101
      go_step
      go_step
      go_step
      refine wp_cond (t := true) (h103.eval (k := 52) (v := .bool true) (by simp)) ?_
      simp only [if_true]
      have h104 := h103.subs (l' := [(13, .int .i64 to), (12, .int .i64 fq), (11, .pointer (some ⟨gp, 0, none⟩)), (8, .slice ba b0.length bc), (32, .int .i64 (j : Int)), (31, .int .i64 (P.length : Int)), (30, .slice ta P.length tc), (9, .int .i64 0), (7, .int .i64 0), (6, .slice none 0 0), (0, .pointer (some ⟨tg, 0, none⟩)), (1, .int .i64 at_), (2, .int .i64 n)]) rfl
      clear h103
      obtain ⟨lo, hlo⟩ : ∃ x : Nat, fq - at_ = (x : Int) := ⟨(fq - at_).toNat, by omega⟩
      obtain ⟨hi2, hhi⟩ : ∃ x : Nat, to - at_ = (x : Int) := ⟨(to - at_).toNat, by omega⟩
      obtain ⟨sk, hsk⟩ : ∃ x : Nat, fq - p.at_ = (x : Int) := ⟨(fq - p.at_).toNat, by omega⟩
      have HPe := hid (HPd.out.mono (Below.refl _ _).drew); have HOe : Hid (OwnB wq.drew.drew w.heap.size ba bc eb) := hid (Own.mono HOd.out (Below.refl _ _).drew); have HBe := hid HBd.out.drew
      obtain ⟨bg, hbg, hgB, hsl, hcp⟩ := own_copyS HOe.out lo hi2 (by omega) (by omega)
      have hne : gp ≠ bg := by intro e; apply hapart; rw [hbg, e]; rfl
      obtain ⟨wc, r1, r2, r3⟩ := hcp wq.drew.drew (p.d.drop sk) 3 HOe.out (by rw [List.length_drop]; omega)
      have HPc := hid (HPe.out.grownS r3 hne); have HOc := hid r2; have HBc : Hid (Below w.heap.size w wc) := hid (below_grownS HBe.out r3 hgB HBe.out.size); rw [hel] at hsl
      refine wp_region_held_drew (S := fun w' => Blk w' gp 37 (ptC p)) (by kernel_rfl) HPe.out (fun hS2 => ?_)
      refine wpk_take hS2 h104 0 rfl rfl (by decide) (fr rfl) (by kernel_rfl) (by kernel_rfl) (by kernel_rfl) (fun _ _ _ _ h => h) (.slice ba b0.length bc) (Or.inl ⟨Eq.refl true, fun w1 hSw => (by show (execOp _ (⟨_, .move (.tmp 8), _, _, _, _⟩ : Oper)).run _ _ = _; exact (by unfold execOp; simp only [h104.eval (k := 8) (v := .slice ba b0.length bc) (by simp)]; exact rfl))⟩) fun a106 h105 => ?_
      refine wpk_take hS2 h105 1 rfl rfl (by decide) (fr rfl) (by kernel_rfl) (by kernel_rfl) (by kernel_rfl) (fun _ _ _ _ h => h) (.int .i64 fq) (Or.inl ⟨Eq.refl true, fun w1 hSw => (by show (execOp _ (⟨_, .move (.tmp 12), _, _, _, _⟩ : Oper)).run _ _ = _; exact (by unfold execOp; simp only [h105.eval (k := 12) (v := .int .i64 fq) (by simp)]; exact rfl))⟩) fun a108 h107 => ?_
      refine wpk_take hS2 h107 2 rfl rfl (by decide) (fr rfl) (by kernel_rfl) (by kernel_rfl) (by kernel_rfl) (fun _ _ _ _ h => h) (.int .i64 at_) (Or.inl ⟨Eq.refl true, fun w1 hSw => (by show (execOp _ (⟨_, .move (.tmp 1), _, _, _, _⟩ : Oper)).run _ _ = _; exact (by unfold execOp; simp only [h107.eval (k := 1) (v := .int .i64 at_) (by simp)]; exact rfl))⟩) fun a110 h109 => ?_
      refine wpk_take hS2 h109 3 rfl rfl (by decide) (fr rfl) (by kernel_rfl) (by kernel_rfl) (by kernel_rfl) (fun _ _ _ _ h => h) (.int .i64 (lo : Int)) (Or.inl ⟨Eq.refl true, fun w1 hSw => (by show (execOp _ (⟨_, .binOp .sub 3 (.tmp 54) (.tmp 55) 3, _, _, _, _⟩ : Oper)).run _ _ = _; exact (by unfold execOp; simp only [h109.eval (k := 54) (v := .int .i64 fq) (by simp), h109.eval (k := 55) (v := .int .i64 at_) (by simp)]; exact run_v (subIP _ _ _ _ _ hlo (by omega) (by omega) _)))⟩) fun a112 h111 => ?_
      refine wpk_take hS2 h111 4 rfl rfl (by decide) (fr rfl) (by kernel_rfl) (by kernel_rfl) (by kernel_rfl) (fun _ _ _ _ h => h) (.int .i64 to) (Or.inl ⟨Eq.refl true, fun w1 hSw => (by show (execOp _ (⟨_, .move (.tmp 13), _, _, _, _⟩ : Oper)).run _ _ = _; exact (by unfold execOp; simp only [h111.eval (k := 13) (v := .int .i64 to) (by simp)]; exact rfl))⟩) fun a114 h113 => ?_
      refine wpk_take hS2 h113 5 rfl rfl (by decide) (fr rfl) (by kernel_rfl) (by kernel_rfl) (by kernel_rfl) (fun _ _ _ _ h => h) (.int .i64 at_) (Or.inl ⟨Eq.refl true, fun w1 hSw => (by show (execOp _ (⟨_, .move (.tmp 1), _, _, _, _⟩ : Oper)).run _ _ = _; exact (by unfold execOp; simp only [h113.eval (k := 1) (v := .int .i64 at_) (by simp)]; exact rfl))⟩) fun a116 h115 => ?_
      refine wpk_take hS2 h115 6 rfl rfl (by decide) (fr rfl) (by kernel_rfl) (by kernel_rfl) (by kernel_rfl) (fun _ _ _ _ h => h) (.int .i64 (hi2 : Int)) (Or.inl ⟨Eq.refl true, fun w1 hSw => (by show (execOp _ (⟨_, .binOp .sub 3 (.tmp 57) (.tmp 58) 3, _, _, _, _⟩ : Oper)).run _ _ = _; exact (by unfold execOp; simp only [h115.eval (k := 57) (v := .int .i64 to) (by simp), h115.eval (k := 58) (v := .int .i64 at_) (by simp)]; exact run_v (subIP _ _ _ _ _ hhi (by omega) (by omega) _)))⟩) fun a118 h117 => ?_
      refine wpk_take hS2 h117 7 rfl rfl (by decide) (fr rfl) (by kernel_rfl) (by kernel_rfl) (by kernel_rfl) (fun _ _ _ _ h => h) (.slice (some ⟨bg, lo, none⟩) (hi2 - lo) (bc - lo)) (Or.inl ⟨Eq.refl true, fun w1 hSw => (by show (execOp _ (⟨_, .slice 22 (.tmp 53) (some (.tmp 56)) (some (.tmp 59)) none, _, _, _, _⟩ : Oper)).run _ _ = _; exact (by unfold execOp; simp only [Option.map_some, Option.map_none, h117.eval (k := 53) (v := .slice ba b0.length bc) (by simp), h117.eval (k := 56) (v := .int .i64 (lo : Int)) (by simp), h117.eval (k := 59) (v := .int .i64 (hi2 : Int)) (by simp)]; exact run_v (hsl _)))⟩) fun a120 h119 => ?_
      refine wpk_take hS2 h119 8 rfl rfl (by decide) (fr rfl) (by kernel_rfl) (by kernel_rfl) (by kernel_rfl) (fun _ _ _ _ h => h) (.pointer (some ⟨gp, 1, none⟩)) (Or.inl ⟨Eq.refl true, fun w1 hSw => (by show (execOp _ (⟨_, .fieldAddr 37 (.tmp 11) 1, _, _, _, _⟩ : Oper)).run _ _ = _; exact (by unfold execOp; simp only [h119.eval (k := 11) (v := .pointer (some ⟨gp, 0, none⟩)) (by simp)]; exact run_v (faT_37_0_1 (gp) _)))⟩) fun a122 h121 => ?_
      refine wpk_take hS2 h121 9 rfl rfl (by decide) (fr rfl) (by kernel_rfl) (by kernel_rfl) (by kernel_rfl) (fun _ _ _ _ h => h) (strB p.d) (Or.inl ⟨Eq.refl true, fun w1 hSw => (by show (execOp _ (⟨_, .load 9 (.tmp 61), _, _, _, _⟩ : Oper)).run _ _ = _; exact (by unfold execOp; simp only [h121.eval (k := 61) (v := .pointer (some ⟨gp, 1, none⟩)) (by simp)]; exact run_v (loadSP (hSw.cell (i := 1) (by show 1 < 2; omega)))))⟩) fun a124 h123 => ?_
      refine wpk_take hS2 h123 10 rfl rfl (by decide) (fr rfl) (by kernel_rfl) (by kernel_rfl) (by kernel_rfl) (fun _ _ _ _ h => h) (.int .i64 fq) (Or.inl ⟨Eq.refl true, fun w1 hSw => (by show (execOp _ (⟨_, .move (.tmp 12), _, _, _, _⟩ : Oper)).run _ _ = _; exact (by unfold execOp; simp only [h123.eval (k := 12) (v := .int .i64 fq) (by simp)]; exact rfl))⟩) fun a126 h125 => ?_
      refine wpk_take hS2 h125 11 rfl rfl (by decide) (fr rfl) (by kernel_rfl) (by kernel_rfl) (by kernel_rfl) (fun _ _ _ _ h => h) (.pointer (some ⟨gp, 0, none⟩)) (Or.inl ⟨Eq.refl true, fun w1 hSw => (by show (execOp _ (⟨_, .fieldAddr 37 (.tmp 11) 0, _, _, _, _⟩ : Oper)).run _ _ = _; exact (by unfold execOp; simp only [h125.eval (k := 11) (v := .pointer (some ⟨gp, 0, none⟩)) (by simp)]; exact run_v (faT_37_0_0 (gp) _)))⟩) fun a128 h127 => ?_
      refine wpk_take hS2 h127 12 rfl rfl (by decide) (fr rfl) (by kernel_rfl) (by kernel_rfl) (by kernel_rfl) (fun _ _ _ _ h => h) (.int .i64 p.at_) (Or.inl ⟨Eq.refl true, fun w1 hSw => (by show (execOp _ (⟨_, .load 3 (.tmp 64), _, _, _, _⟩ : Oper)).run _ _ = _; exact (by unfold execOp; simp only [h127.eval (k := 64) (v := .pointer (some ⟨gp, 0, none⟩)) (by simp)]; exact run_v (loadIP (hSw.cell (i := 0) (by show 0 < 2; omega)))))⟩) fun a130 h129 => ?_
      refine wpk_take hS2 h129 13 rfl rfl (by decide) (fr rfl) (by kernel_rfl) (by kernel_rfl) (by kernel_rfl) (fun _ _ _ _ h => h) (.int .i64 (sk : Int)) (Or.inl ⟨Eq.refl true, fun w1 hSw => (by show (execOp _ (⟨_, .binOp .sub 3 (.tmp 63) (.tmp 65) 3, _, _, _, _⟩ : Oper)).run _ _ = _; exact (by unfold execOp; simp only [h129.eval (k := 63) (v := .int .i64 fq) (by simp), h129.eval (k := 65) (v := .int .i64 p.at_) (by simp)]; exact run_v (subIP _ _ _ _ _ hsk (by omega) (by omega) _)))⟩) fun a132 h131 => ?_
      refine wpk_take hS2 h131 14 rfl rfl (by decide) (fr rfl) (by kernel_rfl) (by kernel_rfl) (by kernel_rfl) (fun _ _ _ _ h => h) (strB (p.d.drop sk)) (Or.inl ⟨Eq.refl true, fun w1 hSw => (by show (execOp _ (⟨_, .slice 9 (.tmp 62) (some (.tmp 66)) none none, _, _, _, _⟩ : Oper)).run _ _ = _; exact (by unfold execOp; simp only [Option.map_some, Option.map_none, h131.eval (k := 62) (v := strB p.d) (by simp), h131.eval (k := 66) (v := .int .i64 (sk : Int)) (by simp)]; exact run_v (slSL p.d sk (by omega) _)))⟩) fun a134 h133 => ?_
      refine wpk_only 15 rfl rfl (by kernel_rfl) fun KK hK => op_val (w' := wc) h133 rfl (by decide) (fr rfl) (goInt (hi2 - lo : Nat)) (by show (execOp _ (⟨_, .call { callee := .builtin .copy, args := #[(.tmp 60), (.tmp 67)], argTypes := #[22, 9] }, _, _, _, _⟩ : Oper)).run _ _ = _; exact (run_copyOp rfl (h133.eval (k := 60) (v := .slice (some ⟨bg, lo, none⟩) (hi2 - lo) (bc - lo)) (by simp)) (h133.eval (k := 67) (v := strB (p.d.drop sk)) (by simp)) r1)) fun a136 h135 => hK _ _ (HPc.out) fun hS3 => ?_
      clear hK KK
      refine wpAnyH_done (by kernel_rfl) ?_ _
      have h137 := h135.subs (l' := [(13, .int .i64 to), (12, .int .i64 fq), (11, .pointer (some ⟨gp, 0, none⟩)), (8, .slice ba b0.length bc), (32, .int .i64 (j : Int)), (31, .int .i64 (P.length : Int)), (30, .slice ta P.length tc), (9, .int .i64 0), (7, .int .i64 0), (6, .slice none 0 0), (0, .pointer (some ⟨tg, 0, none⟩)), (1, .int .i64 at_), (2, .int .i64 n)]) rfl
      clear h135
      go_step
      go_step
      go_step
      refine wpk_val h137 (wanted_none rfl) rfl (by decide) (fr rfl) (.int .i64 ((j + 1 : Nat) : Int)) (by unfold execOp; simp only [h137.eval (k := 32) (v := .int .i64 (j : Int)) (by simp)]; exact run_v (addIP _ _ j (by omega) _)) fun a139 h138 => ?_
      have h140 := h138.subs (l' := [(69, .int .i64 ((j + 1 : Nat) : Int)), (13, .int .i64 to), (12, .int .i64 fq), (11, .pointer (some ⟨gp, 0, none⟩)), (8, .slice ba b0.length bc), (31, .int .i64 (P.length : Int)), (30, .slice ta P.length tc), (9, .int .i64 0), (7, .int .i64 0), (6, .slice none 0 0), (0, .pointer (some ⟨tg, 0, none⟩)), (1, .int .i64 at_), (2, .int .i64 n)]) rfl
      clear h138
      refine wpk_val h140 (wanted_none rfl) rfl (by decide) (fr rfl) (.int .i64 ((j + 1 : Nat) : Int)) (by unfold execOp; simp only [h140.eval (k := 69) (v := .int .i64 ((j + 1 : Nat) : Int)) (by simp)]; rfl) fun a142 h141 => ?_
      have h143 := h141.subs (l' := [(32, .int .i64 ((j + 1 : Nat) : Int)), (13, .int .i64 to), (12, .int .i64 fq), (11, .pointer (some ⟨gp, 0, none⟩)), (8, .slice ba b0.length bc), (31, .int .i64 (P.length : Int)), (30, .slice ta P.length tc), (9, .int .i64 0), (7, .int .i64 0), (6, .slice none 0 0), (0, .pointer (some ⟨tg, 0, none⟩)), (1, .int .i64 at_), (2, .int .i64 n)]) rfl
      clear h141
      go_step
      go_step
      refine ⟨⟨j + 1, ovlB at_ eb p, by omega, by exact h143.subs rfl, ?_, ?_, HBc.out⟩, ?_⟩
      · rw [ovl_take hlt, ← HEB.out, ← HPJ.out]
      · rw [← ovl_copy (fr := fq) (to := to) hfr (by rw [hto, hel, hbl]) hcc, hlo, hsk, Int.toNat_natCast, Int.toNat_natCast, show (to - fq).toNat = hi2 - lo by omega]; exact HOc.out
      · rw [h143.eval (k := 32) (v := .int .i64 ((j + 1 : Nat) : Int)) (by simp), hK.eval (k := 32) (v := .int .i64 (j : Int)) (by simp)]; simp [intOf]; omega
    · have hc0 : decide (fq < to) = false := decide_eq_false (by omega)
      go_step
      go_step
      refine wpk_val h96 (wanted_none rfl) rfl (by decide) (fr rfl) (.int .i64 fq) (by unfold execOp; simp only [h96.eval (k := 12) (v := .int .i64 fq) (by simp)]; rfl) fun a145 h144 => ?_
      refine wpk_val h144 (wanted_none rfl) rfl (by decide) (fr rfl) (.int .i64 to) (by unfold execOp; simp only [h144.eval (k := 13) (v := .int .i64 to) (by simp)]; rfl) fun a147 h146 => ?_
      refine wpk_val h146 (wanted_none rfl) rfl (by decide) (fr rfl) (.bool false) (by unfold execOp; simp only [h146.eval (k := 50) (v := .int .i64 fq) (by simp), h146.eval (k := 51) (v := .int .i64 to) (by simp)]; exact run_v (ltIP _ _ _ _ _ hc0)) fun a149 h148 => ?_
      have h150 := h148.subs (l' := [(52, .bool false), (13, .int .i64 to), (12, .int .i64 fq), (11, .pointer (some ⟨gp, 0, none⟩)), (8, .slice ba b0.length bc), (32, .int .i64 (j : Int)), (31, .int .i64 (P.length : Int)), (30, .slice ta P.length tc), (9, .int .i64 0), (7, .int .i64 0), (6, .slice none 0 0), (0, .pointer (some ⟨tg, 0, none⟩)), (1, .int .i64 at_), (2, .int .i64 n)]) rfl
      clear h148
      go_step
      go_step
      go_step
      refine wp_cond (t := false) (h150.eval (k := 52) (v := .bool false) (by simp)) ?_
      simp only [Bool.false_eq_true, if_false]
      have h151 := h150.subs (l' := [(13, .int .i64 to), (12, .int .i64 fq), (11, .pointer (some ⟨gp, 0, none⟩)), (8, .slice ba b0.length bc), (32, .int .i64 (j : Int)), (31, .int .i64 (P.length : Int)), (30, .slice ta P.length tc), (9, .int .i64 0), (7, .int .i64 0), (6, .slice none 0 0), (0, .pointer (some ⟨tg, 0, none⟩)), (1, .int .i64 at_), (2, .int .i64 n)]) rfl
      clear h150
      go_step
      go_step
      go_step
      go_step
      refine wpk_val h151 (wanted_none rfl) rfl (by decide) (fr rfl) (.int .i64 ((j + 1 : Nat) : Int)) (by unfold execOp; simp only [h151.eval (k := 32) (v := .int .i64 (j : Int)) (by simp)]; exact run_v (addIP _ _ j (by omega) _)) fun a153 h152 => ?_
      have h154 := h152.subs (l' := [(69, .int .i64 ((j + 1 : Nat) : Int)), (13, .int .i64 to), (12, .int .i64 fq), (11, .pointer (some ⟨gp, 0, none⟩)), (8, .slice ba b0.length bc), (31, .int .i64 (P.length : Int)), (30, .slice ta P.length tc), (9, .int .i64 0), (7, .int .i64 0), (6, .slice none 0 0), (0, .pointer (some ⟨tg, 0, none⟩)), (1, .int .i64 at_), (2, .int .i64 n)]) rfl
      clear h152
      refine wpk_val h154 (wanted_none rfl) rfl (by decide) (fr rfl) (.int .i64 ((j + 1 : Nat) : Int)) (by unfold execOp; simp only [h154.eval (k := 69) (v := .int .i64 ((j + 1 : Nat) : Int)) (by simp)]; rfl) fun a156 h155 => ?_
      have h157 := h155.subs (l' := [(32, .int .i64 ((j + 1 : Nat) : Int)), (13, .int .i64 to), (12, .int .i64 fq), (11, .pointer (some ⟨gp, 0, none⟩)), (8, .slice ba b0.length bc), (31, .int .i64 (P.length : Int)), (30, .slice ta P.length tc), (9, .int .i64 0), (7, .int .i64 0), (6, .slice none 0 0), (0, .pointer (some ⟨tg, 0, none⟩)), (1, .int .i64 at_), (2, .int .i64 n)]) rfl
      clear h155
      go_step
      go_step
      refine ⟨⟨j + 1, ovlB at_ eb p, by omega, by exact h157.subs rfl, ?_, ?_, HBd.out⟩, ?_⟩
      · rw [ovl_take hlt, ← HEB.out, ← HPJ.out]
      · rw [ovl_none (fr := fq) (to := to) hfr (by rw [hto, hel, hbl]) hcc]; exact HOd.out
      · rw [h157.eval (k := 32) (v := .int .i64 ((j + 1 : Nat) : Int)) (by simp), hK.eval (k := 32) (v := .int .i64 (j : Int)) (by simp)]; simp [intOf]; omega
  · have hd0 : decide ((j : Int) < (P.length : Int)) = false := decide_eq_false (by omega)
    obtain rfl : j = P.length := by omega
    go_step
    go_step
    go_step
    refine wpk_val hK (wanted_none rfl) rfl (by decide) (fr rfl) (.bool false) (by unfold execOp; simp only [hK.eval (k := 32) (v := .int .i64 (P.length : Int)) (by simp), hK.eval (k := 31) (v := .int .i64 (P.length : Int)) (by simp)]; exact run_v (ltIP _ _ _ _ _ hd0)) fun a159 h158 => ?_
    go_step
    go_step
    go_step
    go_step
    refine wp_cond (t := false) (h158.eval (k := 33) (v := .bool false) (by simp)) ?_
    simp only [Bool.false_eq_true, if_false]
    have h160 := h158.subs (l' := [(8, .slice ba b0.length bc), (32, .int .i64 (P.length : Int)), (31, .int .i64 (P.length : Int)), (30, .slice ta P.length tc), (9, .int .i64 0), (7, .int .i64 0), (6, .slice none 0 0), (0, .pointer (some ⟨tg, 0, none⟩)), (1, .int .i64 at_), (2, .int .i64 n)]) rfl
    clear h158
    go_step
    go_step
    go_step
    go_step
    go_step
    go_step
    go_step
    refine wpk_val h160 (wanted_none rfl) rfl (by decide) (fr rfl) (.slice ba b0.length bc) (by unfold execOp; simp only [h160.eval (k := 8) (v := .slice ba b0.length bc) (by simp)]; rfl) fun a162 h161 => ?_
    have h163 := h161.subs (l' := [(70, .slice ba b0.length bc), (8, .slice ba b0.length bc), (32, .int .i64 (P.length : Int)), (31, .int .i64 (P.length : Int)), (30, .slice ta P.length tc), (9, .int .i64 0), (7, .int .i64 0), (0, .pointer (some ⟨tg, 0, none⟩)), (1, .int .i64 at_), (2, .int .i64 n)]) rfl
    clear h161
    refine wpk_val h163 (wanted_none rfl) rfl (by decide) (fr rfl) (.slice ba b0.length bc) (by unfold execOp; simp only [h163.eval (k := 70) (v := .slice ba b0.length bc) (by simp)]; rfl) fun a165 h164 => ?_
    have h166 := h164.subs (l' := [(6, .slice ba b0.length bc), (70, .slice ba b0.length bc), (8, .slice ba b0.length bc), (32, .int .i64 (P.length : Int)), (31, .int .i64 (P.length : Int)), (30, .slice ta P.length tc), (9, .int .i64 0), (0, .pointer (some ⟨tg, 0, none⟩)), (1, .int .i64 at_), (2, .int .i64 n)]) rfl
    clear h164
    refine wpk_val h166 (wanted_none rfl) rfl (by decide) (fr rfl) (.int .i64 0) rfl fun a168 h167 => ?_
    have h169 := h167.subs (l' := [(7, .int .i64 0), (6, .slice ba b0.length bc), (8, .slice ba b0.length bc), (32, .int .i64 (P.length : Int)), (31, .int .i64 (P.length : Int)), (30, .slice ta P.length tc), (9, .int .i64 0), (0, .pointer (some ⟨tg, 0, none⟩)), (1, .int .i64 at_), (2, .int .i64 n)]) rfl
    clear h167
    go_step
    go_step
    go_step
    go_step
    rw [List.take_length] at HEB
    exact bodyPost_ret (results_tmp2 rfl (h169.known (6, .slice ba b0.length bc) (by simp)) (h169.known (7, .int .i64 0) (by simp))) h169.defs ⟨ba, bc, rfl, by have z := HO.out; rw [HEB.out] at z; exact z, HB.out⟩
end Go.Proofs.YtcackliabemecaaDoor
/- begin: a memory, a log, a transaction, and the document's. -/
namespace Go.Proofs.YtcackliabemecaaDoor
open Go.RowKit
set_option linter.unusedSimpArgs false
set_option linter.unusedVariables false
set_option maxRecDepth 100000

/-- the blocks of a pair -/
structure TK where
  g : Nat
  v : Nat
  d : Nat
  p : Nat
  lg : Nat
  tg : Nat
  gr : Nat
  vr : Nat
  dr : Nat
  ar : Nat
  lr : Nat
  dt : Nat
  pp : Nat
def pairT (K : TK) : List Value := [.pointer (some ⟨K.g, 0, none⟩), .pointer (some ⟨K.lg, 0, none⟩), .pointer (some ⟨K.tg, 0, none⟩), .pointer (some ⟨K.gr, 0, none⟩), .pointer (some ⟨K.dt, 0, none⟩)]
def txR (K : TK) (ra : Option Addr) (n rc : Nat) : List Value := [.pointer (some ⟨K.gr, 0, none⟩), .pointer (some ⟨K.lr, 0, none⟩), .slice ra n rc]
/-- the order in which they were laid -/
structure TK.ord (K : TK) (A B : Nat) : Prop where
  g : A ≤ K.g ∧ K.g < K.lg
  v : A ≤ K.v ∧ K.v < K.lg
  d : A ≤ K.d ∧ K.d < K.lg
  p : A ≤ K.p ∧ K.p < K.lg
  lg : K.lg < K.tg
  gr : K.tg < K.gr ∧ K.gr < K.lr
  vr : K.tg < K.vr ∧ K.vr < K.lr
  dr : K.tg < K.dr ∧ K.dr < K.lr
  ar : K.tg < K.ar ∧ K.ar < K.lr
  lr : K.lr < K.dt
  dt : K.dt < K.pp
  pp : K.pp < B
theorem newR1024T (w : World) : Calls Tryd.prog 23 #[.int .i64 1024] w fun e w' => ∃ g v d a, e = .returned (.pointer (some ⟨g, 0, none⟩)) ∧ MemR w' g v d a mem0 ∧ (w.heap.size ≤ g ∧ w.heap.size ≤ v ∧ w.heap.size ≤ d ∧ w.heap.size ≤ a) ∧ Below w.heap.size w w' := by
  refine (newR_any 1024 w (by omega)).mono ?_
  intro e w' z
  unfold NewR at z
  rw [if_pos (by decide), mem0_eq] at z
  exact z
set_option maxHeartbeats 8000000 in
theorem beginT_any (w : World) : Calls Tryd.prog 5 #[] w fun e w' => ∃ K : TK, e = .returned (.pointer (some ⟨K.pp, 0, none⟩)) ∧ LogP w' K.lg K.g K.v K.d K.p 512 512 mem0 ∧ Blk w' K.tg 61 (txC K.g K.lg none 0 0) ∧ MemR w' K.gr K.vr K.dr K.ar mem0 ∧ Blk w' K.lr 57 (logC K.gr 512 512) ∧ Blk w' K.dt 59 (txR K none 0 0) ∧ Blk w' K.pp 32 (pairT K) ∧ K.ord w.heap.size w'.heap.size ∧ Below w.heap.size w w' := by
  go_enter Tryd.func5, Tryd.ntmps5
  go_wp2_with fail
  refine (new1024 w).mono ?_
  rintro e w1 ⟨g, v, d, p, rfl, m1, ⟨hg, hv, hd, hp⟩, b1⟩
  have M1 := hid m1; have B1 := hid b1
  clear m1 b1
  go_wp2_with fail
  refine (newlog w1 M1.out).mono ?_
  rintro e w2 ⟨lg, rfl, l2, hlg, b2⟩
  have L2 := hid l2; have B2 := hid (kept_trans B1.out b2); have s1 := B1.out.size; have lt2 := l2.lt; have hlt1 : g < w1.heap.size ∧ v < w1.heap.size ∧ d < w1.heap.size ∧ p < w1.heap.size := by obtain ⟨_, _, _, _, _, _, q1, q2, q3, q4⟩ := mem_apart M1.out; exact ⟨q1, q2, q3, q4⟩
  clear l2 b2
  go_wp2_with fail
  refine (newT_any w2 g lg).mono ?_
  rintro e w3 ⟨tg, rfl, k3, htg, b3⟩
  have K3 := hid k3; have B3 := hid (kept_trans B2.out b3); have L3 := hid (L2.out.mono b3); have s2 := B2.out.size; have s3 := b3.size; have lt3 := k3.lt
  clear k3 b3
  go_wp2_with fail
  refine (newR1024T w3).mono ?_
  rintro e w4 ⟨gr, vr, dr, ar, rfl, m4, ⟨hgr, hvr, hdr, har⟩, b4⟩
  have hlt4 : gr < w4.heap.size ∧ vr < w4.heap.size ∧ dr < w4.heap.size ∧ ar < w4.heap.size := ⟨m4.2.2.1.lt, m4.2.2.2.1.lt, m4.2.2.2.2.1.lt, m4.2.2.2.2.2.lt⟩
  have M4 := hid m4; have B4 := hid (kept_trans B3.out b4); have L4 := hid (L3.out.mono b4); have K4 := hid (K3.out.mono b4); have s4 := b4.size
  clear m4 b4
  go_wp2_with fail
  go_ret
  obtain ⟨w5, hw5⟩ : ∃ x, x = w4.alloc (.cells #[.pointer (some ⟨gr, 0, none⟩), .int .i64 512, .int .i64 512] 57) := ⟨_, rfl⟩
  have b5 : Below w4.heap.size w4 w5 := by rw [hw5]; exact albO _ _
  have k5 : Blk w5 w4.heap.size 57 (logC gr 512 512) := by rw [hw5]; exact blk_newO rfl _ _
  have s5 : w5.heap.size = w4.heap.size + 1 := by rw [hw5]; simp
  rw [← hw5]
  obtain ⟨w6, hw6⟩ : ∃ x, x = w5.alloc (.cells #[.pointer (some ⟨gr, 0, none⟩), .pointer (some ⟨w4.heap.size, 0, none⟩), .slice none 0 0] 59) := ⟨_, rfl⟩
  have b6 : Below w5.heap.size w5 w6 := by rw [hw6]; exact albO _ _
  have k6 : Blk w6 w5.heap.size 59 [.pointer (some ⟨gr, 0, none⟩), .pointer (some ⟨w4.heap.size, 0, none⟩), .slice none 0 0] := by rw [hw6]; exact blk_newO rfl _ _
  have s6 : w6.heap.size = w5.heap.size + 1 := by rw [hw6]; simp
  have e6 : w5.heap.size = w4.heap.size + 1 := s5
  rw [← s5, ← hw6]
  obtain ⟨w7, hw7⟩ : ∃ x, x = w6.alloc (.cells #[.pointer (some ⟨g, 0, none⟩), .pointer (some ⟨lg, 0, none⟩), .pointer (some ⟨tg, 0, none⟩), .pointer (some ⟨gr, 0, none⟩), .pointer (some ⟨w5.heap.size, 0, none⟩)] 32) := ⟨_, rfl⟩
  have b7 : Below w6.heap.size w6 w7 := by rw [hw7]; exact albO _ _
  have k7 : Blk w7 w6.heap.size 32 [.pointer (some ⟨g, 0, none⟩), .pointer (some ⟨lg, 0, none⟩), .pointer (some ⟨tg, 0, none⟩), .pointer (some ⟨gr, 0, none⟩), .pointer (some ⟨w5.heap.size, 0, none⟩)] := by rw [hw7]; exact blk_newO rfl _ _
  have s7 : w7.heap.size = w6.heap.size + 1 := by rw [hw7]; simp
  rw [← hw7]
  refine ⟨⟨g, v, d, p, lg, tg, gr, vr, dr, ar, w4.heap.size, w5.heap.size, w6.heap.size⟩, ?_, ((L4.out.mono b5).mono b6).mono b7, ((K4.out.mono b5).mono b6).mono b7, ((M4.out.mono b5).mono b6).mono b7, (k5.mono b6).mono b7, k6.mono b7, k7, ⟨⟨?_, ?_⟩, ⟨?_, ?_⟩, ⟨?_, ?_⟩, ⟨?_, ?_⟩, ?_, ⟨?_, ?_⟩, ⟨?_, ?_⟩, ⟨?_, ?_⟩, ⟨?_, ?_⟩, ?_, ?_, ?_⟩, kept_trans (kept_trans (kept_trans B4.out b5) b6) b7⟩
  case refine_1 => exact congrArg (fun n => Ending.returned (.pointer (some ⟨n, 0, none⟩))) (show _ = w6.heap.size by omega)
  all_goals (dsimp only; omega)
end Go.Proofs.YtcackliabemecaaDoor
