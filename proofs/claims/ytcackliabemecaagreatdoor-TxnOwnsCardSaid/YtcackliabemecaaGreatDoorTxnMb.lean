/- Merged: TxnMb TxnMc. -/
import Derived.Test.YtcackliabemecaaGreatDoorTxnD
import Derived.Test.YtcackliabemecaaGreatDoorPmMd
import Derived.Lib.SlBytesConst
/- Merged: TxnE TxnF TxnG TxnH. -/
/- What Load's walk wants: max, min, copy of a text into bytes; the steps of its loop, pure. -/
namespace Go.Proofs.YtcackliabemecaaGreatDoor
open Go.RowKit
set_option linter.unusedSimpArgs false
set_option linter.unusedVariables false
set_option maxRecDepth 100000

theorem run_maxI {P : Program} {o : Oper} {x y : Operand} {t t2 : TypeId} (ho : o.op = .call { callee := .builtin .max, args := #[x, y], argTypes := #[t, t2] }) {ρ : Operand → Value} {i j : Int} (hx : ρ x = .int .i64 i) (hy : ρ y = .int .i64 j) (w : World) : (execOp ρ o).run P w = .ok (.value (.int .i64 (max i j))) w := by
  unfold execOp; rw [ho]
  simp [resolve, invoke, builtin, hx, hy, Builtin.max_, Builtin.max2]
  have e : (if i < j then j else i) = max i j := by split <;> omega
  rw [e]
theorem run_minI {P : Program} {o : Oper} {x y : Operand} {t t2 : TypeId} (ho : o.op = .call { callee := .builtin .min, args := #[x, y], argTypes := #[t, t2] }) {ρ : Operand → Value} {i j : Int} (hx : ρ x = .int .i64 i) (hy : ρ y = .int .i64 j) (w : World) : (execOp ρ o).run P w = .ok (.value (.int .i64 (min i j))) w := by
  unfold execOp; rw [ho]
  simp [resolve, invoke, builtin, hx, hy, Builtin.min_, Builtin.min2]
  have e : (if j < i then j else i) = min i j := by split <;> omega
  rw [e]
theorem run_copyS (w : World) {ty et : TypeId} {g off dLen dCap : Nat} {L : List Value} {s : List UInt8} (hblk : Blk w g et L) (hd : dLen ≤ s.length) (hfit : off + dLen ≤ L.length) :
    ∃ w', (Builtin.copy_ #[26, 9] ty #[.slice (some ⟨g, off, none⟩) dLen dCap, strB s]).run Tryz.prog w = .ok (goInt dLen) w' ∧ Blk w' g et (splice L off ((s.take dLen).map byteV)) ∧ w.grownBy w' (some g) := by
  have hu := Tryz.underlying26
  have hs : (Tryz.prog.info? 5).map (·.size) = some 1 := by kernel_rfl
  have hlen : ((s.take dLen).map byteV).length = dLen := by rw [List.length_map, List.length_take]; omega
  have hst := run_storeCells_at Tryz.prog g off et ((s.take dLen).map byteV) 0 L.toArray w hblk (by rw [hlen]; simpa using hfit) (byteV_one _)
  have hmin : Nat.min s.length dLen = dLen := Nat.min_eq_right hd
  have htk : List.take dLen (List.map (fun b : UInt8 => Value.int IntKind.u8 (b.toNat : Int)) s) = (s.take dLen).map byteV := by rw [List.map_take]; rfl
  rw [hlen] at hst
  simp only [Nat.add_zero] at hst
  refine ⟨w.setRow g (L.take off ++ (s.take dLen).map byteV ++ L.drop (off + dLen)).toArray, ?_, ?_, grown_setRow w g _⟩
  rotate_left
  · unfold Blk
    rw [setRow_heap w g _ _ et _ hblk]
    generalize (s.take dLen).map byteV = cs at hlen
    simp [splice, hlen]
  · cases hq : Tryz.prog.info? 5 with
    | none => simp [hq] at hs
    | some i =>
      simp [Builtin.copy_, run_underlying hu, Builtin.lenOf, Builtin.firstCells, sizeOf, typeInfo, hq, strB, bsB_size, bsB_list, hmin]
      rw [htk, hst]
      simp [Result.andThen]
/-- the first k patches applied -/
theorem ovl_snoc (at_ : Int) (b : List UInt8) (P : List PtM) (p : PtM) : ovl at_ b (P ++ [p]) = ovlB at_ (ovl at_ b P) p := by unfold ovl; rw [List.foldl_append]; rfl
theorem ovl_take {at_ : Int} {b : List UInt8} {P : List PtM} {k : Nat} (hk : k < P.length) : ovl at_ b (P.take (k + 1)) = ovlB at_ (ovl at_ b (P.take k)) P[k] := by rw [← List.take_append_getElem hk, ovl_snoc]
end Go.Proofs.YtcackliabemecaaGreatDoor
/- Bytes that one owns: a part of them is written over by a text. -/
namespace Go.Proofs.YtcackliabemecaaGreatDoor
open Go.RowKit
set_option linter.unusedSimpArgs false
set_option linter.unusedVariables false
set_option maxRecDepth 100000

theorem take_splice {α : Type} (L x : List α) (lo n : Nat) (h : lo + x.length ≤ n) (hn : n ≤ L.length) : (splice L lo x).take n = splice (L.take n) lo x := by
  unfold splice
  have e1 : (L.take lo).length = lo := by rw [List.length_take]; omega
  (try rw [List.append_assoc]); (try rw [List.append_assoc])
  rw [List.take_append, e1, List.take_append, List.take_of_length_le (l := x) (by omega), List.take_take, List.take_take, List.drop_take, show min n lo = lo by omega, show min lo n = lo by omega, show n - lo - x.length = n - (lo + x.length) by omega]
/-- a part of what one owns, and a text laid there -/
theorem own_copyS {w : World} {B : Nat} {a : Option Addr} {c : Nat} {b : List UInt8} (o : OwnB w B a c b) (lo hi : Nat) (h1 : lo < hi) (h2 : hi ≤ b.length) :
    ∃ g, a = some ⟨g, 0, none⟩ ∧ B ≤ g ∧
      (∀ W, (Instr.sliceAt 26 (.slice a b.length c) (some (.int .i64 (lo : Int))) (some (.int .i64 (hi : Int))) none).run Tryz.prog W = .ok (.slice (some ⟨g, lo, none⟩) (hi - lo) (c - lo)) W) ∧
      (∀ (W : World) (s : List UInt8) (ty : TypeId), OwnB W B a c b → hi - lo ≤ s.length → ∃ w', (Builtin.copy_ #[26, 9] ty #[.slice (some ⟨g, lo, none⟩) (hi - lo) (c - lo), strB s]).run Tryz.prog W = .ok (goInt (hi - lo : Nat)) w' ∧ OwnB w' B a c (splice b lo (s.take (hi - lo))) ∧ W.grownBy w' (some g)) := by
  have r := o.row
  have hc := r.2.1
  obtain ⟨q1, q2⟩ := o
  rcases q2 with ⟨q3, q4⟩ | ⟨g, cap, cur, q3, q4, q5, q6, q7, q8, q9⟩
  · omega
  have e1 : a = some ⟨g, 0, none⟩ := by cases q3; rfl
  have e2 : cap = c := by cases q3; rfl
  subst e1; subst e2
  refine ⟨g, rfl, q4, fun W => ?_, fun W s ty oW hs => ?_⟩
  · rw [run_sliceAt_slice W _ _ _ _ _ unB, run_slice_lh W _ _ _ _ unB _ _ _ _ (by omega) (by omega) (by omega), elB, szB]
    show Result.ok (sliced _ _ _ _ _) W = _
    rw [Int.toNat_natCast, Int.toNat_natCast]
    unfold sliced
    rw [if_neg (by omega)]
    simp [Addr.add]
    omega
  · obtain ⟨p1, p2⟩ := oW
    rcases p2 with ⟨p3, p4⟩ | ⟨g2, cap2, cur2, p3, p4, p5, p6, p7, p8, p9⟩
    · omega
    have e1 : g2 = g := by cases p3; rfl
    have e2 : cap2 = cap := by cases p3; rfl
    subst e1; subst e2
    have hb : Blk W g2 5 cur2.toList := by unfold Blk; rw [p5]
    have hsz : cur2.toList.length = cap2 := by rw [Array.length_toList, p8, Nat.mul_one]
    obtain ⟨w', r1, r2, r3⟩ := run_copyS W (ty := ty) (dCap := cap2 - lo) hb hs (by rw [hsz]; omega : lo + (hi - lo) ≤ _)
    have hl : (s.take (hi - lo)).length = hi - lo := by rw [List.length_take]; omega
    have hsl : (splice b lo (s.take (hi - lo))).length = b.length := length_splice _ _ _ (by rw [hl]; omega)
    refine ⟨w', r1, ?_, r3⟩
    unfold OwnB
    rw [hsl]
    refine ⟨by rw [List.length_map, hsl, Nat.mul_one], .inr ⟨g2, cap2, (splice cur2.toList lo ((s.take (hi - lo)).map byteV)).toArray, rfl, p4, r2, p6, p7, ?_, ?_⟩⟩
    · rw [List.size_toArray, length_splice _ _ _ (by rw [List.length_map, hl, hsz]; omega), hsz, Nat.mul_one]
    · rw [Nat.mul_one] at p9 ⊢
      rw [map_splice, ← p9]
      exact take_splice _ _ _ _ (by rw [List.length_map, hl]; omega) (by omega)
end Go.Proofs.YtcackliabemecaaGreatDoor
/- txn.Load. (genTxnL.py) -/
namespace Go.Proofs.YtcackliabemecaaGreatDoor
open Go.RowKit
set_option linter.unusedSimpArgs false
set_option linter.unusedVariables false
set_option maxRecDepth 100000

theorem addTP (x y : Operand) (i j k : Int) (hk : i + j = k) (h1 : -9223372036854775808 ≤ k) (h2 : k ≤ 9223372036854775807) (w : World) : (do eqGuard .add 3 x y (.int .i64 i) (.int .i64 j); binOp .add 3 (.int .i64 i) (.int .i64 j) : Sem Value).run Tryz.prog w = .ok (.int .i64 k) w := by
  have u3 := Tryz.underlying3
  have a3 := Tryz.isAgg3
  have z3 := Tryz.sizeOf3
  subst hk
  have e1 : IntKind.i64.wrap (i + j) = i + j := IntWalk.i64_in _ (by omega)
  go_simp
theorem own_lt_neT {w : World} {B : Nat} {e : TypeId} {sz : Nat} {a : Option Addr} {n c : Nat} {cs : List Value} (h : Own w B e sz a n c cs) : (Value.slice a n c).ownBlock ≠ some w.heap.size := by
  intro e
  have z := (World.ownsRow.lt h _ e).2
  omega
theorem run_copyOp {o : Oper} {x y : Operand} {t t2 : TypeId} (ho : o.op = .call { callee := .builtin .copy, args := #[x, y], argTypes := #[t, t2] }) {ρ : Operand → Value} {u v r : Value} (hx : ρ x = u) (hy : ρ y = v) {w w' : World} (h : (Builtin.copy_ #[t, t2] o.type #[u, v]).run Tryz.prog w = .ok r w') : (execOp ρ o).run Tryz.prog w = .ok (.value r) w' := by
  unfold execOp; rw [ho]
  simp [resolve, invoke, builtin, hx, hy, h, Result.andThen]
theorem load_no {w : World} {g v d p : Nat} {M : MemM} (h : MemP w g v d p M) (at_ n : Int) (ha : i64B at_) (hn : i64B n) (hi : inM M at_ n = false) :
    Calls Tryz.prog 10 #[.pointer (some ⟨g, 0, none⟩), .int .i64 at_, .int .i64 n] w fun e w' => e = .returned (.tuple #[.slice none 0 0, .int .i64 1]) ∧ w = w' := by
  refine (load_any h at_ n ha hn).mono fun e w' q => ?_
  unfold LoadP at q
  rw [hi] at q
  exact q
theorem load_yes {w : World} {g v d p : Nat} {M : MemM} (h : MemP w g v d p M) (at_ n : Int) (ha : i64B at_) (hn : i64B n) (hi : inM M at_ n = true) {b0 : List UInt8} (hb0 : (M.V.drop at_.toNat).take n.toNat = b0) (hbl : (b0.length : Int) = n) :
    Calls Tryz.prog 10 #[.pointer (some ⟨g, 0, none⟩), .int .i64 at_, .int .i64 n] w fun e w' => ∃ a c, e = .returned (.tuple #[.slice a b0.length c, .int .i64 0]) ∧ OwnB w' w.heap.size a c b0 ∧ Below w.heap.size w w' := by
  refine (load_any h at_ n ha hn).mono fun e w' q => ?_
  unfold LoadP at q
  rw [if_pos hi, hb0, show n.toNat = b0.length by omega] at q
  exact q
theorem callT_11 (args : Array Value) (w : World) : (callFunc 10 args).run Tryz.prog w = .ok (.enter 10 args) w := by
  have h := Tryz.func10
  go_simp
theorem faT_37_0_0 (g : Nat) (w : World) : (Instr.fieldAt 47 (.pointer (some ⟨g, 0, none⟩)) 0).run Tryz.prog w = .ok (.pointer (some ⟨g, 0, none⟩)) w := rfl
theorem faT_37_0_1 (g : Nat) (w : World) : (Instr.fieldAt 47 (.pointer (some ⟨g, 0, none⟩)) 1).run Tryz.prog w = .ok (.pointer (some ⟨g, 1, none⟩)) w := rfl
set_option maxHeartbeats 8000000 in
theorem loadT_no {w : World} {tg g lg v d p0 tc : Nat} {ta : Option Addr} {M : MemM} {P : List PtM} (hm : MemP w g v d p0 M) (hb : Blk w tg 69 (txC g lg ta P.length tc)) (hr : RowPt w ta tc P) (hok : TxOk M P) (hM : M.V.length ≤ 1048576) (at_ n : Int) (ha : i64B at_) (hn : i64B n) (hi : inM M at_ n = false) : Calls Tryz.prog 14 #[.pointer (some ⟨tg, 0, none⟩), .int .i64 at_, .int .i64 n] w fun e w' => e = .returned (.tuple #[.slice none 0 0, .int .i64 1]) ∧ w = w' := by
  have HM := hid hm; have HB0 := hid hb
  clear hm hb hr
  go_enter Tryz.func14, Tryz.ntmps14
  iterate 3 go_step
  refine wpk_enter (N := 71) (l := [(0, .pointer (some ⟨tg, 0, none⟩)), (1, .int .i64 at_), (2, .int .i64 n)]) ⟨rfl, (by intro x hx; simp only [List.mem_cons, List.not_mem_nil, or_false] at hx; rcases hx with rfl | rfl | rfl <;> rfl), rfl⟩ fun a2 h1 => ?_
  refine wv h1 rfl rfl rfl rfl (.slice none 0 0) rfl fun a4 h3 => ?_
  refine wv h3 rfl rfl rfl rfl (.int .i64 0) rfl fun a6 h5 => ?_
  iterate 5 go_step
  refine wmk h5 rfl rfl rfl rfl 0 rfl (fun _ => rfl) fun a8 h7 => ?_
  refine wv h7 rfl rfl rfl rfl (.pointer (some ⟨tg, 0, none⟩)) (by unfold execOp; simp only [h7.ev 15 rfl]; exact rfl) fun a10 h9 => ?_
  refine wv h9 rfl rfl rfl rfl (.pointer (some ⟨tg, 0, none⟩)) (by unfold execOp; simp only [h9.ev 16 rfl]; exact run_v (faT_61_0_0 (tg) _)) fun a12 h11 => ?_
  refine wv h11 rfl rfl rfl rfl (.pointer (some ⟨g, 0, none⟩)) (by unfold execOp; simp only [h11.ev 17 rfl]; exact run_v (loadMP (HB0.out.cell (i := 0) (by show 0 < 3; omega)))) fun a14 h13 => ?_
  refine wmk h13 rfl rfl rfl rfl 1 rfl (fun _ => rfl) fun a16 h15 => ?_
  refine wmk h15 rfl rfl rfl rfl 2 rfl (fun _ => rfl) fun a18 h17 => ?_
  refine wpk_call h17 (wanted_none rfl) rfl (by decide) (fr rfl) (fun args => callT_11 args _) rfl #[.pointer (some ⟨g, 0, none⟩), .int .i64 at_, .int .i64 n] (by simp only [List.map_toArray, List.map_cons, List.map_nil, h17.ev 18 rfl, h17.ev 19 rfl, h17.ev 20 rfl]) (R := fun v' w' => v' = .tuple #[.slice none 0 0, .int .i64 1] ∧ w = w') ((load_no HM.out at_ n ha hn hi).mono fun e w' q => ⟨_, q.1, rfl, q.2⟩) fun a20 v1 w1 r1 h19 => ?_
  obtain ⟨rfl, rfl⟩ := r1
  refine wmk h19 rfl rfl rfl rfl 21 rfl (fun _ => rfl) fun a22 h21 => ?_
  refine wv h21 rfl rfl rfl rfl (.slice none 0 0) (by unfold execOp; simp only [h21.ev 14 rfl]; exact rfl) fun a24 h23 => ?_
  refine wv h23 rfl rfl rfl rfl (.int .i64 1) (by unfold execOp; simp only [h23.ev 14 rfl]; exact rfl) fun a26 h25 => ?_
  refine wmk h25 rfl rfl rfl rfl 22 rfl (fun _ => rfl) fun a28 h27 => ?_
  refine wmk h27 rfl rfl rfl rfl 23 rfl (fun _ => rfl) fun a30 h29 => ?_
  have h31 := h29.subs (l' := [(9, _), (8, _), (7, _), (6, _), (0, _), (1, _), (2, _)]) rfl
  clear h29
  iterate 6 go_step
  refine wmk h31 rfl rfl rfl rfl 9 rfl (fun _ => rfl) fun a33 h32 => ?_
  refine wv h32 rfl rfl rfl rfl (.bool true) (by unfold execOp; simp only [h32.ev 24 rfl]; exact run_v (neEP _ _ _ _ _ (by rfl))) fun a35 h34 => ?_
  have h36 := h34.subs (l' := [(25, _), (9, _), (8, _), (7, _), (6, _), (0, _), (1, _), (2, _)]) rfl
  clear h34
  iterate 3 go_step
  refine wp_cond (t := true) (h36.ev 25 rfl) ?_
  simp only [if_true]
  have h37 := h36.subs (l' := [(9, _), (8, _), (7, _), (6, _), (0, _), (1, _), (2, _)]) rfl
  clear h36
  iterate 2 go_step
  refine wmk h37 rfl rfl rfl rfl 9 rfl (fun _ => rfl) fun a39 h38 => ?_
  have h40 := h38.subs (l' := [(26, _), (9, _), (8, _), (7, _), (0, _), (1, _), (2, _)]) rfl
  clear h38
  refine wv h40 rfl rfl rfl rfl (.slice none 0 0) rfl fun a42 h41 => ?_
  have h43 := h41.subs (l' := [(6, _), (26, _), (9, _), (8, _), (0, _), (1, _), (2, _)]) rfl
  clear h41
  refine wmk h43 rfl rfl rfl rfl 26 rfl (fun _ => rfl) fun a45 h44 => ?_
  have h46 := h44.subs (l' := [(7, _), (6, _), (9, _), (8, _), (0, _), (1, _), (2, _)]) rfl
  clear h44
  iterate 4 go_step
  simp only [Exit.then, Exit.inBlock]
  exact bodyPost_ret (results_tmp2 rfl (h46.known (6, .slice none 0 0) (by simp)) (h46.known (7, .int .i64 1) (by simp))) h46.defs ⟨rfl, rfl⟩
set_option maxHeartbeats 8000000 in
theorem loadT_yes {w : World} {tg g lg v d p0 tc : Nat} {ta : Option Addr} {M : MemM} {P : List PtM} (hm : MemP w g v d p0 M) (hb : Blk w tg 69 (txC g lg ta P.length tc)) (hr : RowPt w ta tc P) (hok : TxOk M P) (hM : M.V.length ≤ 1048576) (at_ n : Int) (ha : i64B at_) (hn : i64B n) (hi : inM M at_ n = true) {b0 : List UInt8} (hb0 : (M.V.drop at_.toNat).take n.toNat = b0) (hbl : (b0.length : Int) = n) : Calls Tryz.prog 14 #[.pointer (some ⟨tg, 0, none⟩), .int .i64 at_, .int .i64 n] w fun e w' => ∃ ba bc, e = .returned (.tuple #[.slice ba b0.length bc, .int .i64 0]) ∧ OwnB w' w.heap.size ba bc (ovl at_ b0 P) ∧ Below w.heap.size w w' := by
  have HM := hid hm; have HB0 := hid hb; have HR := hid hr
  have hsz := hok.n
  have hin := of_decide_eq_true hi
  clear hm hb hr
  go_enter Tryz.func14, Tryz.ntmps14
  iterate 3 go_step
  refine wpk_enter (N := 71) (l := [(0, .pointer (some ⟨tg, 0, none⟩)), (1, .int .i64 at_), (2, .int .i64 n)]) ⟨rfl, (by intro x hx; simp only [List.mem_cons, List.not_mem_nil, or_false] at hx; rcases hx with rfl | rfl | rfl <;> rfl), rfl⟩ fun a2 h1 => ?_
  refine wv h1 rfl rfl rfl rfl (.slice none 0 0) rfl fun a4 h3 => ?_
  refine wv h3 rfl rfl rfl rfl (.int .i64 0) rfl fun a6 h5 => ?_
  iterate 5 go_step
  refine wmk h5 rfl rfl rfl rfl 0 rfl (fun _ => rfl) fun a8 h7 => ?_
  refine wv h7 rfl rfl rfl rfl (.pointer (some ⟨tg, 0, none⟩)) (by unfold execOp; simp only [h7.ev 15 rfl]; exact rfl) fun a10 h9 => ?_
  refine wv h9 rfl rfl rfl rfl (.pointer (some ⟨tg, 0, none⟩)) (by unfold execOp; simp only [h9.ev 16 rfl]; exact run_v (faT_61_0_0 (tg) _)) fun a12 h11 => ?_
  refine wv h11 rfl rfl rfl rfl (.pointer (some ⟨g, 0, none⟩)) (by unfold execOp; simp only [h11.ev 17 rfl]; exact run_v (loadMP (HB0.out.cell (i := 0) (by show 0 < 3; omega)))) fun a14 h13 => ?_
  refine wmk h13 rfl rfl rfl rfl 1 rfl (fun _ => rfl) fun a16 h15 => ?_
  refine wmk h15 rfl rfl rfl rfl 2 rfl (fun _ => rfl) fun a18 h17 => ?_
  refine wpk_call h17 (wanted_none rfl) rfl (by decide) (fr rfl) (fun args => callT_11 args _) rfl #[.pointer (some ⟨g, 0, none⟩), .int .i64 at_, .int .i64 n] (by simp only [List.map_toArray, List.map_cons, List.map_nil, h17.ev 18 rfl, h17.ev 19 rfl, h17.ev 20 rfl]) (R := fun v' w' => ∃ ba bc, v' = .tuple #[.slice ba b0.length bc, .int .i64 0] ∧ OwnB w' w.heap.size ba bc b0 ∧ Below w.heap.size w w') ((load_yes HM.out at_ n ha hn hi hb0 hbl).mono fun e w' q => by obtain ⟨x, y, q1, q2, q3⟩ := q; exact ⟨_, q1, x, y, rfl, q2, q3⟩) fun a20 v1 w1 r1 h19 => ?_
  obtain ⟨ba, bc, rfl, o1, b1⟩ := r1
  have HO0 := hid o1; have HB1 := hid (HB0.out.mono b1); have HW0 := hid b1; clear o1 b1
  refine wmk h19 rfl rfl rfl rfl 21 rfl (fun _ => rfl) fun a22 h21 => ?_
  refine wv h21 rfl rfl rfl rfl (.slice ba b0.length bc) (by unfold execOp; simp only [h21.ev 14 rfl]; exact rfl) fun a24 h23 => ?_
  refine wv h23 rfl rfl rfl rfl (.int .i64 0) (by unfold execOp; simp only [h23.ev 14 rfl]; exact rfl) fun a26 h25 => ?_
  refine wmk h25 rfl rfl rfl rfl 22 rfl (fun _ => rfl) fun a28 h27 => ?_
  refine wmk h27 rfl rfl rfl rfl 23 rfl (fun _ => rfl) fun a30 h29 => ?_
  have h31 := h29.subs (l' := [(9, _), (8, _), (7, _), (6, _), (0, _), (1, _), (2, _)]) rfl
  clear h29
  iterate 6 go_step
  refine wmk h31 rfl rfl rfl rfl 9 rfl (fun _ => rfl) fun a33 h32 => ?_
  refine wv h32 rfl rfl rfl rfl (.bool false) (by unfold execOp; simp only [h32.ev 24 rfl]; exact run_v (neEP _ _ _ _ _ (by rfl))) fun a35 h34 => ?_
  have h36 := h34.subs (l' := [(25, _), (9, _), (8, _), (7, _), (6, _), (0, _), (1, _), (2, _)]) rfl
  clear h34
  iterate 3 go_step
  refine wp_cond (t := false) (h36.ev 25 rfl) ?_
  simp only [Bool.false_eq_true, if_false]
  have h37 := h36.subs (l' := [(9, _), (8, _), (7, _), (6, _), (0, _), (1, _), (2, _)]) rfl
  clear h36
  iterate 6 go_step
  refine wmk h37 rfl rfl rfl rfl 0 rfl (fun _ => rfl) fun a39 h38 => ?_
  refine wv h38 rfl rfl rfl rfl (.pointer (some ⟨tg, 0, none⟩)) (by unfold execOp; simp only [h38.ev 27 rfl]; exact rfl) fun a41 h40 => ?_
  refine wv h40 rfl rfl rfl rfl (.pointer (some ⟨tg, 2, none⟩)) (by unfold execOp; simp only [h40.ev 28 rfl]; exact run_v (faT_61_0_2 (tg) _)) fun a43 h42 => ?_
  refine wv h42 rfl rfl rfl rfl (.slice ta P.length tc) (by unfold execOp; simp only [h42.ev 29 rfl]; exact run_v (loadPtsP (HB1.out.cell (i := 2) (by show 2 < 3; omega)))) fun a45 h44 => ?_
  refine wv h44 rfl rfl rfl rfl (.int .i64 (P.length : Int)) (run_lenP rfl (h44.ev 30 rfl) _) fun a47 h46 => ?_
  refine wv h46 rfl rfl rfl rfl (.int .i64 0) rfl fun a49 h48 => ?_
  have h50 := h48.subs (l' := [(32, _), (31, _), (30, _), (9, _), (8, _), (7, _), (6, _), (0, _), (1, _), (2, _)]) rfl
  clear h48
  iterate 4 go_step
  have h51 := h50.subs (l' := [(8, _), (32, _), (31, _), (30, _), (9, _), (7, _), (6, _), (0, _), (1, _), (2, _)]) rfl
  clear h50
  refine wp_loop (I := fun a' w' => ∃ (j : Nat) (eb : List UInt8), j ≤ P.length ∧ Kn 71 [(8, .slice ba b0.length bc), (32, .int .i64 (j : Int)), (31, .int .i64 (P.length : Int)), (30, .slice ta P.length tc), (9, .int .i64 0), (7, .int .i64 0), (6, .slice none 0 0), (0, .pointer (some ⟨tg, 0, none⟩)), (1, .int .i64 at_), (2, .int .i64 n)] a' ∧ eb = ovl at_ b0 (P.take j) ∧ OwnB w' w.heap.size ba bc eb ∧ Below w.heap.size w w') (μ := fun a' _ => P.length - (intOf (a'.eval (.tmp 32))).toNat) ⟨0, b0, Nat.zero_le _, h51, rfl, HO0.out, HW0.out⟩ ?_
  clear HO0 HW0 HB1 h51
  rintro aL aw ⟨j, eb, hj, hK, heb, ho, hb⟩
  have hel : eb.length = b0.length := by rw [heb, ovl_len]
  have HO := hid ho; have HB := hid hb; have HEB := hid heb; clear ho hb heb
  by_cases hlt : j < P.length
  · have hd0 : decide ((j : Int) < (P.length : Int)) = true := decide_eq_true (by omega)
    obtain ⟨pb, poff, ha0, hrg⟩ := rowPt_at (HR.out.mono HB.out) (by omega)
    have hrg := hrg j hlt; have hsp := hok.i P[j] (List.getElem_mem hlt); obtain ⟨p, hp⟩ : ∃ p, p = P[j] := ⟨_, rfl⟩; rw [← hp] at hrg hsp; have HPJ := hid hp; clear hp; obtain ⟨hp1, hp2, hp3⟩ := hsp
    iterate 3 go_step
    refine wv hK rfl rfl rfl rfl (.bool true) (by unfold execOp; simp only [hK.ev 32 rfl, hK.ev 31 rfl]; exact run_v (ltIP _ _ _ _ _ hd0)) fun a53 h52 => ?_
    iterate 4 go_step
    refine wp_cond (t := true) (h52.ev 33 rfl) ?_
    simp only [if_true]
    have h54 := h52.subs (l' := [(8, _), (32, _), (31, _), (30, _), (9, _), (7, _), (6, _), (0, _), (1, _), (2, _)]) rfl
    clear h52
    iterate 7 go_step
    refine wv h54 rfl rfl rfl rfl (.pointer (some ⟨pb, poff + j * 2, none⟩)) (by unfold execOp; simp only [h54.ev 30 rfl, h54.ev 32 rfl]; exact run_v (by rw [ha0]; exact ixP pb poff _ tc j hlt _)) fun a56 h55 => ?_
    refine wv h55 rfl rfl rfl rfl (ptV p) (by unfold execOp; simp only [h55.ev 34 rfl]; exact run_v (run_loadAt_mid _ _ _ _ (ptC p) _ hrg Tryz.underlying47 rfl (by rw [infoPt]; rfl))) fun a58 h57 => ?_
    refine wv h57 rfl rfl rfl rfl (.pointer (some ⟨aw.heap.size, 0, none⟩)) (run_allocPt rfl _ aw) fun a60 h59 => ?_
    obtain ⟨wp, hwp⟩ : ∃ x, x = aw.alloc (.cells (ptC ⟨0, []⟩).toArray 47) := ⟨_, rfl⟩
    obtain ⟨gp, hgp⟩ : ∃ x, x = aw.heap.size := ⟨_, rfl⟩
    have hk0 : Blk wp gp 47 (ptC ⟨0, []⟩) := by rw [hwp, hgp]; exact blk_newO rfl _ _
    have HOp : Hid (OwnB wp w.heap.size ba bc eb) := hid (by rw [hwp]; exact Own.alloc HO.out _)
    have HBp : Hid (Below w.heap.size w wp) := hid (by rw [hwp]; exact kept_alloc HB.out _)
    have hgw : w.heap.size ≤ gp := by rw [hgp]; exact HB.out.size
    have hapart : (Value.slice ba eb.length bc).ownBlock ≠ some gp := by rw [hgp]; exact own_lt_neT HO.out
    rw [← hgp] at h59; rw [← hwp]; clear hwp hgp
    refine wpk_storeP h59 rfl rfl rfl gp 0 (h59.ev 11 rfl) (ptC p) (h59.ev 35 rfl) (by rw [infoPt]; rfl) (ptC_one _) hk0 (by show 0 + 2 ≤ 2; omega) fun a62 wq h61 kq gq => ?_
    rw [splice_all (by rfl)] at kq
    have HP := hid kq; have HOq : Hid (OwnB wq w.heap.size ba bc eb) := hid (own_turnsP HOp.out hk0 (by decide) (Turns.of_grown gq rfl)); have HBq : Hid (Below w.heap.size w wq) := hid (below_grownS HBp.out gq hgw HBp.out.size)
    clear kq gq hk0 HOp HBp
    have h63 := h61.subs (l' := [(11, _), (8, _), (32, _), (31, _), (30, _), (9, _), (7, _), (6, _), (0, _), (1, _), (2, _)]) rfl
    clear h61
    iterate 4 go_step
    have HPd := hid (HP.out.mono (Below.refl _ _).drew); have HOd : Hid (OwnB wq.drew w.heap.size ba bc eb) := hid (Own.mono HOq.out (Below.refl _ _).drew); have HBd := hid HBq.out.drew
    obtain ⟨fq, hfr⟩ : ∃ x, x = max at_ p.at_ := ⟨_, rfl⟩
    obtain ⟨to, hto⟩ : ∃ x, x = min (at_ + n) (p.at_ + (p.d.length : Int)) := ⟨_, rfl⟩
    refine wp_region_held_drew (S := fun w' => Blk w' gp 47 (ptC p)) (by kernel_rfl) HPd.out (fun hS1 => ?_)
    refine tkm hS1 h63 0 1 rfl rfl rfl rfl (by kernel_rfl) (fun _ _ _ _ h => h) rfl (fun _ => rfl) rfl fun a65 h64 => ?_
    refine tkf hS1 h64 1 11 rfl rfl rfl rfl (by kernel_rfl) (fun _ _ _ _ h => h) rfl rfl rfl (fun w => faT_37_0_0 _ w) fun a67 h66 => ?_
    refine tkl hS1 h66 2 37 rfl rfl rfl rfl (by kernel_rfl) (fun _ _ _ _ h => h) rfl rfl rfl (fun _ hSw => (loadIP (hSw.cell (i := 0) (by show 0 < 2; omega)))) fun a69 h68 => ?_
    refine wpk_take hS1 h68 3 rfl rfl (by decide) (fr rfl) (by kernel_rfl) (by kernel_rfl) (by kernel_rfl) (fun _ _ _ _ h => h) (.int .i64 fq) (Or.inl ⟨Eq.refl true, fun w1 hSw => (by show (execOp _ (⟨_, .call { callee := .builtin .max, args := #[(.tmp 36), (.tmp 38)], argTypes := #[3, 3] }, _, _, _, _⟩ : Oper)).run _ _ = _; exact (by rw [hfr]; exact run_maxI rfl (h68.ev 36 rfl) (h68.ev 38 rfl) _))⟩) fun a71 h70 => ?_
    refine tkm hS1 h70 4 1 rfl rfl rfl rfl (by kernel_rfl) (fun _ _ _ _ h => h) rfl (fun _ => rfl) rfl fun a73 h72 => ?_
    refine tkm hS1 h72 5 2 rfl rfl rfl rfl (by kernel_rfl) (fun _ _ _ _ h => h) rfl (fun _ => rfl) rfl fun a75 h74 => ?_
    refine wpk_take hS1 h74 6 rfl rfl (by decide) (fr rfl) (by kernel_rfl) (by kernel_rfl) (by kernel_rfl) (fun _ _ _ _ h => h) (.int .i64 (at_ + n)) (Or.inl ⟨Eq.refl true, fun w1 hSw => (by show (execOp _ (⟨_, .binOp .add 3 (.tmp 40) (.tmp 41) 3, _, _, _, _⟩ : Oper)).run _ _ = _; exact (by unfold execOp; simp only [h74.ev 40 rfl, h74.ev 41 rfl]; exact run_v (addTP _ _ _ _ _ rfl (by omega) (by omega) _)))⟩) fun a77 h76 => ?_
    refine tkf hS1 h76 7 11 rfl rfl rfl rfl (by kernel_rfl) (fun _ _ _ _ h => h) rfl rfl rfl (fun w => faT_37_0_0 _ w) fun a79 h78 => ?_
    refine tkl hS1 h78 8 43 rfl rfl rfl rfl (by kernel_rfl) (fun _ _ _ _ h => h) rfl rfl rfl (fun _ hSw => (loadIP (hSw.cell (i := 0) (by show 0 < 2; omega)))) fun a81 h80 => ?_
    refine tkf hS1 h80 9 11 rfl rfl rfl rfl (by kernel_rfl) (fun _ _ _ _ h => h) rfl rfl rfl (fun w => faT_37_0_1 _ w) fun a83 h82 => ?_
    refine tkl hS1 h82 10 45 rfl rfl rfl rfl (by kernel_rfl) (fun _ _ _ _ h => h) rfl rfl rfl (fun _ hSw => (loadSP (hSw.cell (i := 1) (by show 1 < 2; omega)))) fun a85 h84 => ?_
    refine wpk_take hS1 h84 11 rfl rfl (by decide) (fr rfl) (by kernel_rfl) (by kernel_rfl) (by kernel_rfl) (fun _ _ _ _ h => h) (.int .i64 (p.d.length : Int)) (Or.inl ⟨Eq.refl true, fun w1 hSw => (by show (execOp _ (⟨_, .call { callee := .builtin .len, args := #[(.tmp 46)], argTypes := #[9] }, _, _, _, _⟩ : Oper)).run _ _ = _; exact (run_lenSP rfl (h84.ev 46 rfl) _))⟩) fun a87 h86 => ?_
    refine wpk_take hS1 h86 12 rfl rfl (by decide) (fr rfl) (by kernel_rfl) (by kernel_rfl) (by kernel_rfl) (fun _ _ _ _ h => h) (.int .i64 (p.at_ + (p.d.length : Int))) (Or.inl ⟨Eq.refl true, fun w1 hSw => (by show (execOp _ (⟨_, .binOp .add 3 (.tmp 44) (.tmp 47) 3, _, _, _, _⟩ : Oper)).run _ _ = _; exact (by unfold execOp; simp only [h86.ev 44 rfl, h86.ev 47 rfl]; exact run_v (addTP _ _ _ _ _ rfl (by omega) (by omega) _)))⟩) fun a89 h88 => ?_
    refine wpk_take hS1 h88 13 rfl rfl (by decide) (fr rfl) (by kernel_rfl) (by kernel_rfl) (by kernel_rfl) (fun _ _ _ _ h => h) (.int .i64 to) (Or.inl ⟨Eq.refl true, fun w1 hSw => (by show (execOp _ (⟨_, .call { callee := .builtin .min, args := #[(.tmp 42), (.tmp 48)], argTypes := #[3, 3] }, _, _, _, _⟩ : Oper)).run _ _ = _; exact (by rw [hto]; exact run_minI rfl (h88.ev 42 rfl) (h88.ev 48 rfl) _))⟩) fun a91 h90 => ?_
    refine tkm hS1 h90 14 39 rfl rfl rfl rfl (by kernel_rfl) (fun _ _ _ _ h => h) rfl (fun _ => rfl) rfl fun a93 h92 => ?_
    refine tkm hS1 h92 15 49 rfl rfl rfl rfl (by kernel_rfl) (fun _ _ _ _ h => h) rfl (fun _ => rfl) rfl fun a95 h94 => ?_
    refine wpAnyH_done (by kernel_rfl) ?_ _
    have h96 := h94.subs (l' := [(13, _), (12, _), (11, _), (8, _), (32, _), (31, _), (30, _), (9, _), (7, _), (6, _), (0, _), (1, _), (2, _)]) rfl
    clear h94
    iterate 2 go_step
    by_cases hcc : fq < to
    · have hc0 : decide (fq < to) = true := decide_eq_true (by omega)
      iterate 2 go_step
      refine wmk h96 rfl rfl rfl rfl 12 rfl (fun _ => rfl) fun a98 h97 => ?_
      refine wmk h97 rfl rfl rfl rfl 13 rfl (fun _ => rfl) fun a100 h99 => ?_
      refine wv h99 rfl rfl rfl rfl (.bool true) (by unfold execOp; simp only [h99.ev 50 rfl, h99.ev 51 rfl]; exact run_v (ltIP _ _ _ _ _ hc0)) fun a102 h101 => ?_
      have h103 := h101.subs (l' := [(52, _), (13, _), (12, _), (11, _), (8, _), (32, _), (31, _), (30, _), (9, _), (7, _), (6, _), (0, _), (1, _), (2, _)]) rfl
      clear h101
      iterate 3 go_step
      refine wp_cond (t := true) (h103.ev 52 rfl) ?_
      simp only [if_true]
      have h104 := h103.subs (l' := [(13, _), (12, _), (11, _), (8, _), (32, _), (31, _), (30, _), (9, _), (7, _), (6, _), (0, _), (1, _), (2, _)]) rfl
      clear h103
      obtain ⟨lo, hlo⟩ : ∃ x : Nat, fq - at_ = (x : Int) := ⟨(fq - at_).toNat, by omega⟩
      obtain ⟨hi2, hhi⟩ : ∃ x : Nat, to - at_ = (x : Int) := ⟨(to - at_).toNat, by omega⟩
      obtain ⟨sk, hsk⟩ : ∃ x : Nat, fq - p.at_ = (x : Int) := ⟨(fq - p.at_).toNat, by omega⟩
      have HPe := hid (HPd.out.mono (Below.refl _ _).drew); have HOe : Hid (OwnB wq.drew.drew w.heap.size ba bc eb) := hid (Own.mono HOd.out (Below.refl _ _).drew); have HBe := hid HBd.out.drew
      obtain ⟨bg, hbg, hgB, hsl, hcp⟩ := own_copyS HOe.out lo hi2 (by omega) (by omega)
      have hne : gp ≠ bg := by intro e; apply hapart; rw [hbg, e]; rfl
      obtain ⟨wc, r1, r2, r3⟩ := hcp wq.drew.drew (p.d.drop sk) 3 HOe.out (by rw [List.length_drop]; omega)
      have HPc := hid (HPe.out.grownS r3 hne); have HOc := hid r2; have HBc : Hid (Below w.heap.size w wc) := hid (below_grownS HBe.out r3 hgB HBe.out.size); rw [hel] at hsl
      refine wp_region_held_drew (S := fun w' => Blk w' gp 47 (ptC p)) (by kernel_rfl) HPe.out (fun hS2 => ?_)
      refine tkm hS2 h104 0 8 rfl rfl rfl rfl (by kernel_rfl) (fun _ _ _ _ h => h) rfl (fun _ => rfl) rfl fun a106 h105 => ?_
      refine tkm hS2 h105 1 12 rfl rfl rfl rfl (by kernel_rfl) (fun _ _ _ _ h => h) rfl (fun _ => rfl) rfl fun a108 h107 => ?_
      refine tkm hS2 h107 2 1 rfl rfl rfl rfl (by kernel_rfl) (fun _ _ _ _ h => h) rfl (fun _ => rfl) rfl fun a110 h109 => ?_
      refine wpk_take hS2 h109 3 rfl rfl (by decide) (fr rfl) (by kernel_rfl) (by kernel_rfl) (by kernel_rfl) (fun _ _ _ _ h => h) (.int .i64 (lo : Int)) (Or.inl ⟨Eq.refl true, fun w1 hSw => (by show (execOp _ (⟨_, .binOp .sub 3 (.tmp 54) (.tmp 55) 3, _, _, _, _⟩ : Oper)).run _ _ = _; exact (by unfold execOp; simp only [h109.ev 54 rfl, h109.ev 55 rfl]; exact run_v (subIP _ _ _ _ _ hlo (by omega) (by omega) _)))⟩) fun a112 h111 => ?_
      refine tkm hS2 h111 4 13 rfl rfl rfl rfl (by kernel_rfl) (fun _ _ _ _ h => h) rfl (fun _ => rfl) rfl fun a114 h113 => ?_
      refine tkm hS2 h113 5 1 rfl rfl rfl rfl (by kernel_rfl) (fun _ _ _ _ h => h) rfl (fun _ => rfl) rfl fun a116 h115 => ?_
      refine wpk_take hS2 h115 6 rfl rfl (by decide) (fr rfl) (by kernel_rfl) (by kernel_rfl) (by kernel_rfl) (fun _ _ _ _ h => h) (.int .i64 (hi2 : Int)) (Or.inl ⟨Eq.refl true, fun w1 hSw => (by show (execOp _ (⟨_, .binOp .sub 3 (.tmp 57) (.tmp 58) 3, _, _, _, _⟩ : Oper)).run _ _ = _; exact (by unfold execOp; simp only [h115.ev 57 rfl, h115.ev 58 rfl]; exact run_v (subIP _ _ _ _ _ hhi (by omega) (by omega) _)))⟩) fun a118 h117 => ?_
      refine wpk_take hS2 h117 7 rfl rfl (by decide) (fr rfl) (by kernel_rfl) (by kernel_rfl) (by kernel_rfl) (fun _ _ _ _ h => h) (.slice (some ⟨bg, lo, none⟩) (hi2 - lo) (bc - lo)) (Or.inl ⟨Eq.refl true, fun w1 hSw => (by show (execOp _ (⟨_, .slice 26 (.tmp 53) (some (.tmp 56)) (some (.tmp 59)) none, _, _, _, _⟩ : Oper)).run _ _ = _; exact (by unfold execOp; simp only [Option.map_some, Option.map_none, h117.ev 53 rfl, h117.ev 56 rfl, h117.ev 59 rfl]; exact run_v (hsl _)))⟩) fun a120 h119 => ?_
      refine tkf hS2 h119 8 11 rfl rfl rfl rfl (by kernel_rfl) (fun _ _ _ _ h => h) rfl rfl rfl (fun w => faT_37_0_1 _ w) fun a122 h121 => ?_
      refine tkl hS2 h121 9 61 rfl rfl rfl rfl (by kernel_rfl) (fun _ _ _ _ h => h) rfl rfl rfl (fun _ hSw => (loadSP (hSw.cell (i := 1) (by show 1 < 2; omega)))) fun a124 h123 => ?_
      refine tkm hS2 h123 10 12 rfl rfl rfl rfl (by kernel_rfl) (fun _ _ _ _ h => h) rfl (fun _ => rfl) rfl fun a126 h125 => ?_
      refine tkf hS2 h125 11 11 rfl rfl rfl rfl (by kernel_rfl) (fun _ _ _ _ h => h) rfl rfl rfl (fun w => faT_37_0_0 _ w) fun a128 h127 => ?_
      refine tkl hS2 h127 12 64 rfl rfl rfl rfl (by kernel_rfl) (fun _ _ _ _ h => h) rfl rfl rfl (fun _ hSw => (loadIP (hSw.cell (i := 0) (by show 0 < 2; omega)))) fun a130 h129 => ?_
      refine wpk_take hS2 h129 13 rfl rfl (by decide) (fr rfl) (by kernel_rfl) (by kernel_rfl) (by kernel_rfl) (fun _ _ _ _ h => h) (.int .i64 (sk : Int)) (Or.inl ⟨Eq.refl true, fun w1 hSw => (by show (execOp _ (⟨_, .binOp .sub 3 (.tmp 63) (.tmp 65) 3, _, _, _, _⟩ : Oper)).run _ _ = _; exact (by unfold execOp; simp only [h129.ev 63 rfl, h129.ev 65 rfl]; exact run_v (subIP _ _ _ _ _ hsk (by omega) (by omega) _)))⟩) fun a132 h131 => ?_
      refine wpk_take hS2 h131 14 rfl rfl (by decide) (fr rfl) (by kernel_rfl) (by kernel_rfl) (by kernel_rfl) (fun _ _ _ _ h => h) (strB (p.d.drop sk)) (Or.inl ⟨Eq.refl true, fun w1 hSw => (by show (execOp _ (⟨_, .slice 9 (.tmp 62) (some (.tmp 66)) none none, _, _, _, _⟩ : Oper)).run _ _ = _; exact (by unfold execOp; simp only [Option.map_some, Option.map_none, h131.ev 62 rfl, h131.ev 66 rfl]; exact run_v (slSL p.d sk (by omega) _)))⟩) fun a134 h133 => ?_
      refine wpk_only 15 rfl rfl (by kernel_rfl) fun KK hK => op_val (w' := wc) h133 rfl (by decide) (fr rfl) (goInt (hi2 - lo : Nat)) (by show (execOp _ (⟨_, .call { callee := .builtin .copy, args := #[(.tmp 60), (.tmp 67)], argTypes := #[26, 9] }, _, _, _, _⟩ : Oper)).run _ _ = _; exact (run_copyOp rfl (h133.ev 60 rfl) (h133.ev 67 rfl) r1)) fun a136 h135 => hK _ _ (HPc.out) fun hS3 => ?_
      clear hK KK
      refine wpAnyH_done (by kernel_rfl) ?_ _
      have h137 := h135.subs (l' := [(13, _), (12, _), (11, _), (8, _), (32, _), (31, _), (30, _), (9, _), (7, _), (6, _), (0, _), (1, _), (2, _)]) rfl
      clear h135
      iterate 3 go_step
      refine wv h137 rfl rfl rfl rfl (.int .i64 ((j + 1 : Nat) : Int)) (by unfold execOp; simp only [h137.ev 32 rfl]; exact run_v (addIP _ _ j (by omega) _)) fun a139 h138 => ?_
      have h140 := h138.subs (l' := [(69, _), (13, _), (12, _), (11, _), (8, _), (31, _), (30, _), (9, _), (7, _), (6, _), (0, _), (1, _), (2, _)]) rfl
      clear h138
      refine wmk h140 rfl rfl rfl rfl 69 rfl (fun _ => rfl) fun a142 h141 => ?_
      have h143 := h141.subs (l' := [(32, _), (13, _), (12, _), (11, _), (8, _), (31, _), (30, _), (9, _), (7, _), (6, _), (0, _), (1, _), (2, _)]) rfl
      clear h141
      iterate 2 go_step
      refine ⟨⟨j + 1, ovlB at_ eb p, by omega, by exact h143.subs rfl, ?_, ?_, HBc.out⟩, ?_⟩
      · rw [ovl_take hlt, ← HEB.out, ← HPJ.out]
      · rw [← ovl_copy (fr := fq) (to := to) hfr (by rw [hto, hel, hbl]) hcc, hlo, hsk, Int.toNat_natCast, Int.toNat_natCast, show (to - fq).toNat = hi2 - lo by omega]; exact HOc.out
      · rw [h143.ev 32 rfl, hK.ev 32 rfl]; simp [intOf]; omega
    · have hc0 : decide (fq < to) = false := decide_eq_false (by omega)
      iterate 2 go_step
      refine wmk h96 rfl rfl rfl rfl 12 rfl (fun _ => rfl) fun a145 h144 => ?_
      refine wmk h144 rfl rfl rfl rfl 13 rfl (fun _ => rfl) fun a147 h146 => ?_
      refine wv h146 rfl rfl rfl rfl (.bool false) (by unfold execOp; simp only [h146.ev 50 rfl, h146.ev 51 rfl]; exact run_v (ltIP _ _ _ _ _ hc0)) fun a149 h148 => ?_
      have h150 := h148.subs (l' := [(52, _), (13, _), (12, _), (11, _), (8, _), (32, _), (31, _), (30, _), (9, _), (7, _), (6, _), (0, _), (1, _), (2, _)]) rfl
      clear h148
      iterate 3 go_step
      refine wp_cond (t := false) (h150.ev 52 rfl) ?_
      simp only [Bool.false_eq_true, if_false]
      have h151 := h150.subs (l' := [(13, _), (12, _), (11, _), (8, _), (32, _), (31, _), (30, _), (9, _), (7, _), (6, _), (0, _), (1, _), (2, _)]) rfl
      clear h150
      iterate 4 go_step
      refine wv h151 rfl rfl rfl rfl (.int .i64 ((j + 1 : Nat) : Int)) (by unfold execOp; simp only [h151.ev 32 rfl]; exact run_v (addIP _ _ j (by omega) _)) fun a153 h152 => ?_
      have h154 := h152.subs (l' := [(69, _), (13, _), (12, _), (11, _), (8, _), (31, _), (30, _), (9, _), (7, _), (6, _), (0, _), (1, _), (2, _)]) rfl
      clear h152
      refine wmk h154 rfl rfl rfl rfl 69 rfl (fun _ => rfl) fun a156 h155 => ?_
      have h157 := h155.subs (l' := [(32, _), (13, _), (12, _), (11, _), (8, _), (31, _), (30, _), (9, _), (7, _), (6, _), (0, _), (1, _), (2, _)]) rfl
      clear h155
      iterate 2 go_step
      refine ⟨⟨j + 1, ovlB at_ eb p, by omega, by exact h157.subs rfl, ?_, ?_, HBd.out⟩, ?_⟩
      · rw [ovl_take hlt, ← HEB.out, ← HPJ.out]
      · rw [ovl_none (fr := fq) (to := to) hfr (by rw [hto, hel, hbl]) hcc]; exact HOd.out
      · rw [h157.ev 32 rfl, hK.ev 32 rfl]; simp [intOf]; omega
  · have hd0 : decide ((j : Int) < (P.length : Int)) = false := decide_eq_false (by omega)
    obtain rfl : j = P.length := by omega
    iterate 3 go_step
    refine wv hK rfl rfl rfl rfl (.bool false) (by unfold execOp; simp only [hK.ev 32 rfl, hK.ev 31 rfl]; exact run_v (ltIP _ _ _ _ _ hd0)) fun a159 h158 => ?_
    iterate 4 go_step
    refine wp_cond (t := false) (h158.ev 33 rfl) ?_
    simp only [Bool.false_eq_true, if_false]
    have h160 := h158.subs (l' := [(8, _), (32, _), (31, _), (30, _), (9, _), (7, _), (6, _), (0, _), (1, _), (2, _)]) rfl
    clear h158
    iterate 7 go_step
    refine wmk h160 rfl rfl rfl rfl 8 rfl (fun _ => rfl) fun a162 h161 => ?_
    have h163 := h161.subs (l' := [(70, _), (8, _), (32, _), (31, _), (30, _), (9, _), (7, _), (0, _), (1, _), (2, _)]) rfl
    clear h161
    refine wmk h163 rfl rfl rfl rfl 70 rfl (fun _ => rfl) fun a165 h164 => ?_
    have h166 := h164.subs (l' := [(6, _), (70, _), (8, _), (32, _), (31, _), (30, _), (9, _), (0, _), (1, _), (2, _)]) rfl
    clear h164
    refine wv h166 rfl rfl rfl rfl (.int .i64 0) rfl fun a168 h167 => ?_
    have h169 := h167.subs (l' := [(7, _), (6, _), (8, _), (32, _), (31, _), (30, _), (9, _), (0, _), (1, _), (2, _)]) rfl
    clear h167
    iterate 4 go_step
    rw [List.take_length] at HEB
    exact bodyPost_ret (results_tmp2 rfl (h169.known (6, .slice ba b0.length bc) (by simp)) (h169.known (7, .int .i64 0) (by simp))) h169.defs ⟨ba, bc, rfl, by have z := HO.out; rw [HEB.out] at z; exact z, HB.out⟩
end Go.Proofs.YtcackliabemecaaGreatDoor
/- begin: a memory, a log, a transaction, and the document's. -/
namespace Go.Proofs.YtcackliabemecaaGreatDoor
open Go.RowKit
set_option linter.unusedSimpArgs false
set_option linter.unusedVariables false
set_option maxRecDepth 100000

/-- the blocks of a pair -/
structure TK where
  g : Nat
  v : Nat
  d : Nat
  p : Nat
  lg : Nat
  tg : Nat
  gr : Nat
  vr : Nat
  dr : Nat
  ar : Nat
  lr : Nat
  dt : Nat
  pp : Nat
def pairT (K : TK) : List Value := [.pointer (some ⟨K.g, 0, none⟩), .pointer (some ⟨K.lg, 0, none⟩), .pointer (some ⟨K.tg, 0, none⟩), .pointer (some ⟨K.gr, 0, none⟩), .pointer (some ⟨K.dt, 0, none⟩)]
def txR (K : TK) (ra : Option Addr) (n rc : Nat) : List Value := [.pointer (some ⟨K.gr, 0, none⟩), .pointer (some ⟨K.lr, 0, none⟩), .slice ra n rc]
/-- the order in which they were laid -/
structure TK.ord (K : TK) (A B : Nat) : Prop where
  g : A ≤ K.g ∧ K.g < K.lg
  v : A ≤ K.v ∧ K.v < K.lg
  d : A ≤ K.d ∧ K.d < K.lg
  p : A ≤ K.p ∧ K.p < K.lg
  lg : K.lg < K.tg
  gr : K.tg < K.gr ∧ K.gr < K.lr
  vr : K.tg < K.vr ∧ K.vr < K.lr
  dr : K.tg < K.dr ∧ K.dr < K.lr
  ar : K.tg < K.ar ∧ K.ar < K.lr
  lr : K.lr < K.dt
  dt : K.dt < K.pp
  pp : K.pp < B
theorem newR1024T (w : World) : Calls Tryz.prog 19 #[.int .i64 1024] w fun e w' => ∃ g v d a, e = .returned (.pointer (some ⟨g, 0, none⟩)) ∧ MemR w' g v d a mem0 ∧ (w.heap.size ≤ g ∧ w.heap.size ≤ v ∧ w.heap.size ≤ d ∧ w.heap.size ≤ a) ∧ Below w.heap.size w w' := by
  refine (newR_any 1024 w (by omega)).mono ?_
  intro e w' z
  unfold NewR at z
  rw [if_pos (by decide), mem0_eq] at z
  exact z
set_option maxHeartbeats 8000000 in
theorem beginT_any (w : World) : Calls Tryz.prog 6 #[] w fun e w' => ∃ K : TK, e = .returned (.pointer (some ⟨K.pp, 0, none⟩)) ∧ LogP w' K.lg K.g K.v K.d K.p 512 512 mem0 ∧ Blk w' K.tg 69 (txC K.g K.lg none 0 0) ∧ MemR w' K.gr K.vr K.dr K.ar mem0 ∧ Blk w' K.lr 54 (logC K.gr 512 512) ∧ Blk w' K.dt 56 (txR K none 0 0) ∧ Blk w' K.pp 40 (pairT K) ∧ K.ord w.heap.size w'.heap.size ∧ Below w.heap.size w w' := by
  go_enter Tryz.func6, Tryz.ntmps6
  go_wp2_with fail
  refine (new1024 w).mono ?_
  rintro e w1 ⟨g, v, d, p, rfl, m1, ⟨hg, hv, hd, hp⟩, b1⟩
  have M1 := hid m1; have B1 := hid b1
  clear m1 b1
  go_wp2_with fail
  refine (newlog w1 M1.out).mono ?_
  rintro e w2 ⟨lg, rfl, l2, hlg, b2⟩
  have L2 := hid l2; have B2 := hid (kept_trans B1.out b2); have s1 := B1.out.size; have lt2 := l2.lt; have hlt1 : g < w1.heap.size ∧ v < w1.heap.size ∧ d < w1.heap.size ∧ p < w1.heap.size := by obtain ⟨_, _, _, _, _, _, q1, q2, q3, q4⟩ := mem_apart M1.out; exact ⟨q1, q2, q3, q4⟩
  clear l2 b2
  go_wp2_with fail
  refine (newT_any w2 g lg).mono ?_
  rintro e w3 ⟨tg, rfl, k3, htg, b3⟩
  have K3 := hid k3; have B3 := hid (kept_trans B2.out b3); have L3 := hid (L2.out.mono b3); have s2 := B2.out.size; have s3 := b3.size; have lt3 := k3.lt
  clear k3 b3
  go_wp2_with fail
  refine (newR1024T w3).mono ?_
  rintro e w4 ⟨gr, vr, dr, ar, rfl, m4, ⟨hgr, hvr, hdr, har⟩, b4⟩
  have hlt4 : gr < w4.heap.size ∧ vr < w4.heap.size ∧ dr < w4.heap.size ∧ ar < w4.heap.size := ⟨m4.2.2.1.lt, m4.2.2.2.1.lt, m4.2.2.2.2.1.lt, m4.2.2.2.2.2.lt⟩
  have M4 := hid m4; have B4 := hid (kept_trans B3.out b4); have L4 := hid (L3.out.mono b4); have K4 := hid (K3.out.mono b4); have s4 := b4.size
  clear m4 b4
  go_wp2_with fail
  go_ret
  obtain ⟨w5, hw5⟩ : ∃ x, x = w4.alloc (.cells #[.pointer (some ⟨gr, 0, none⟩), .int .i64 512, .int .i64 512] 54) := ⟨_, rfl⟩
  have b5 : Below w4.heap.size w4 w5 := by rw [hw5]; exact albO _ _
  have k5 : Blk w5 w4.heap.size 54 (logC gr 512 512) := by rw [hw5]; exact blk_newO rfl _ _
  have s5 : w5.heap.size = w4.heap.size + 1 := by rw [hw5]; simp
  rw [← hw5]
  obtain ⟨w6, hw6⟩ : ∃ x, x = w5.alloc (.cells #[.pointer (some ⟨gr, 0, none⟩), .pointer (some ⟨w4.heap.size, 0, none⟩), .slice none 0 0] 56) := ⟨_, rfl⟩
  have b6 : Below w5.heap.size w5 w6 := by rw [hw6]; exact albO _ _
  have k6 : Blk w6 w5.heap.size 56 [.pointer (some ⟨gr, 0, none⟩), .pointer (some ⟨w4.heap.size, 0, none⟩), .slice none 0 0] := by rw [hw6]; exact blk_newO rfl _ _
  have s6 : w6.heap.size = w5.heap.size + 1 := by rw [hw6]; simp
  have e6 : w5.heap.size = w4.heap.size + 1 := s5
  rw [← s5, ← hw6]
  obtain ⟨w7, hw7⟩ : ∃ x, x = w6.alloc (.cells #[.pointer (some ⟨g, 0, none⟩), .pointer (some ⟨lg, 0, none⟩), .pointer (some ⟨tg, 0, none⟩), .pointer (some ⟨gr, 0, none⟩), .pointer (some ⟨w5.heap.size, 0, none⟩)] 40) := ⟨_, rfl⟩
  have b7 : Below w6.heap.size w6 w7 := by rw [hw7]; exact albO _ _
  have k7 : Blk w7 w6.heap.size 40 [.pointer (some ⟨g, 0, none⟩), .pointer (some ⟨lg, 0, none⟩), .pointer (some ⟨tg, 0, none⟩), .pointer (some ⟨gr, 0, none⟩), .pointer (some ⟨w5.heap.size, 0, none⟩)] := by rw [hw7]; exact blk_newO rfl _ _
  have s7 : w7.heap.size = w6.heap.size + 1 := by rw [hw7]; simp
  rw [← hw7]
  refine ⟨⟨g, v, d, p, lg, tg, gr, vr, dr, ar, w4.heap.size, w5.heap.size, w6.heap.size⟩, ?_, ((L4.out.mono b5).mono b6).mono b7, ((K4.out.mono b5).mono b6).mono b7, ((M4.out.mono b5).mono b6).mono b7, (k5.mono b6).mono b7, k6.mono b7, k7, ⟨⟨?_, ?_⟩, ⟨?_, ?_⟩, ⟨?_, ?_⟩, ⟨?_, ?_⟩, ?_, ⟨?_, ?_⟩, ⟨?_, ?_⟩, ⟨?_, ?_⟩, ⟨?_, ?_⟩, ?_, ?_, ?_⟩, kept_trans (kept_trans (kept_trans B4.out b5) b6) b7⟩
  case refine_1 => exact congrArg (fun n => Ending.returned (.pointer (some ⟨n, 0, none⟩))) (show _ = w6.heap.size by omega)
  all_goals (dsimp only; omega)
end Go.Proofs.YtcackliabemecaaGreatDoor
/- Merged: TxnI TxnJ TxnK TxnL. -/
/- The document's example of a transaction, pure. -/
namespace Go.Proofs.YtcackliabemecaaGreatDoor
open Go.RowKit
set_option linter.unusedSimpArgs false
set_option linter.unusedVariables false
set_option maxRecDepth 100000

def exS1 : PtM := ⟨3, [97, 98]⟩
def exS2 : PtM := ⟨4, [120]⟩
theorem exS_ok : encOk [exS1, exS2] = true := by decide +kernel
theorem exS_len : (encL [exS1, exS2]).length = 24 := by rw [encL_len8 exS_ok, encB_eq exS_ok]; rfl
theorem app3E : appE mem0 512 512 [exS1, exS2] = 0 := by
  unfold appE encE
  rw [if_pos exS_ok, if_pos rfl, logR0, exS_len]; rfl
def mem3 : MemM := appM mem0 512 512 [exS1, exS2]
theorem logR3 : logR mem3.V 512 512 = ([[exS1, exS2]], 24) := by
  unfold mem3
  rw [logR_app log0, if_pos app3E, logR0, exS_len]; rfl
def mem4 : MemM := redoM mem3 512 512
theorem mem3_len : mem3.V.length = 1024 := by unfold mem3; rw [appM_len, mem0_len]
theorem mem4_len : mem4.V.length = 1024 := by unfold mem4; rw [redoM_len, mem3_len]
theorem mem4_D : mem4.D = mem4.V := redoM_D (appM_ok mem0_ok _ _ _) (appM_D mem0_ok mem0_D _ _ _) _ _
theorem two_splice {V : List UInt8} (h : 5 ≤ V.length) : ((splice (splice V 3 [97, 98]) 4 [120]).drop 3).take 2 = [97, 120] := by
  match V, h with
  | a :: b :: c :: d :: e :: r, _ => rfl
theorem two_st {V : List UInt8} (h1 : 3 + ([97, 98] : List UInt8).length ≤ V.length) (h2 : 4 + ([120] : List UInt8).length ≤ (splice V 3 [97, 98]).length) : [exS1, exS2].foldl stV V = splice (splice V 3 [97, 98]) 4 [120] := by
  have z1 : stV V exS1 = splice V 3 [97, 98] := app_V (q := 3) (b := [97, 98]) h1
  rw [List.foldl_cons, z1]
  exact app_V (q := 4) (b := [120]) h2
theorem mem4_eq : redoM (appM mem0 512 512 [exS1, exS2]) 512 512 = mem4 := by unfold mem4 mem3; rfl
attribute [irreducible] mem3
theorem last4 : (mem4.D.drop 3).take 2 = [97, 120] := by
  rw [mem4_D]
  unfold mem4 redoM
  rw [show setM (writeM mem3 (logR mem3.V 512 512).1.flatten) 512 0 = setM (writeM mem3 (logR mem3.V 512 512).1.flatten) 512 ((0 : Nat) : Int) from rfl, setM_V (by rw [writeM_len, mem3_len]; omega)]
  have h1 : (3 : Nat) + ([97, 98] : List UInt8).length ≤ mem3.V.length := by rw [mem3_len]; show 3 + 2 ≤ _; omega
  have l1 : (splice mem3.V 3 [97, 98]).length = 1024 := by rw [length_splice _ _ _ h1, mem3_len]
  have h2 : (4 : Nat) + ([120] : List UInt8).length ≤ (splice mem3.V 3 [97, 98]).length := by rw [l1]; show 4 + 1 ≤ _; omega
  have e : (writeM mem3 (logR mem3.V 512 512).1.flatten).V = splice (splice mem3.V 3 [97, 98]) 4 [120] := by
    rw [writeM_V, logR3, List.flatten_cons, List.flatten_nil, List.append_nil]
    exact two_st h1 h2
  rw [e]
  have hl : (splice (splice mem3.V 3 [97, 98]) 4 [120]).length = 1024 := by rw [length_splice _ _ _ h2, l1]
  rw [sl_splice (by rw [le_length, hl]; omega) (.inl (by omega)) (by rw [hl]; omega)]
  exact two_splice (by rw [mem3_len]; omega)
theorem in4 : inM mem4 3 2 = true := by rw [show (2 : Int) = ((2 : Nat) : Int) from rfl, inM_iff, mem4_len]; omega
theorem in0 : inM mem0 3 2 = true := by rw [show (2 : Int) = ((2 : Nat) : Int) from rfl, inM_iff, mem0_len]; omega
theorem view0 : (mem0.V.drop 3).take 2 = [0, 0] := by rw [mem0_V, List.drop_replicate, List.take_replicate]; rfl
theorem ovl0 : ovl 3 [0, 0] [exS1, exS2] = [97, 120] := by decide +kernel
theorem ok1 : okT mem0 [] 3 ([97, 98] : List UInt8).length = true := by
  unfold okT; rw [decide_eq_true_iff, mem0_len]; decide
theorem ok2 : okT mem0 [exS1] 4 ([120] : List UInt8).length = true := by
  unfold okT; rw [decide_eq_true_iff, mem0_len]; decide
theorem put1 : putT mem0 [] 3 [97, 98] = [exS1] := by unfold putT; rw [if_pos ok1]; rfl
theorem put2 : putT mem0 [exS1] 4 [120] = [exS1, exS2] := by unfold putT; rw [if_pos ok2]; rfl
theorem err1 : errT mem0 [] 3 2 = 0 := if_pos ok1
theorem err2 : errT mem0 [exS1] 4 1 = 0 := if_pos ok2
theorem comE0 : comE mem0 [exS1, exS2] = 0 := by unfold comE; rw [if_neg (by decide), app3E]
theorem comM0 : comM mem0 [exS1, exS2] = mem4 := by unfold comM; rw [if_neg (by decide), if_pos app3E, mem4_eq]
theorem comP0 : comP mem0 [exS1, exS2] = [] := by unfold comP; rw [if_neg (by decide), if_pos app3E]
theorem txS : TxOk mem0 [exS1, exS2] := by
  have z := ((TxOk.nil mem0).put 3 [97, 98])
  rw [put1] at z
  have y := z.put 4 [120]
  rw [put2] at y
  exact y
attribute [irreducible] mem4
end Go.Proofs.YtcackliabemecaaGreatDoor
/- The document's example of a transaction. -/
namespace Go.Proofs.YtcackliabemecaaGreatDoor
open Go.RowKit
set_option linter.unusedSimpArgs false
set_option linter.unusedVariables false
set_option maxRecDepth 100000

/-- a transaction, its log, its memory, its patches; X a block that stays -/
structure TxP (w : World) (B pp tg g lg v d p dt gr : Nat) (ta : Option Addr) (tc : Nat) (M : MemM) (P : List PtM) : Prop where
  l : LogP w lg g v d p 512 512 M
  t : Blk w tg 69 (txC g lg ta P.length tc)
  o : OwnPt w B ta tc P
  q : Blk w pp 40 [.pointer (some ⟨g, 0, none⟩), .pointer (some ⟨lg, 0, none⟩), .pointer (some ⟨tg, 0, none⟩), .pointer (some ⟨gr, 0, none⟩), .pointer (some ⟨dt, 0, none⟩)]
  b : B ≤ w.heap.size
  n : g < lg ∧ v < lg ∧ d < lg ∧ p < lg ∧ lg < tg ∧ tg < pp ∧ pp < B
theorem TxP.mono {w w' : World} {B pp tg g lg v d p dt gr tc : Nat} {ta : Option Addr} {M : MemM} {P : List PtM} (h : TxP w B pp tg g lg v d p dt gr ta tc M P) (b : Below w.heap.size w w') : TxP w' B pp tg g lg v d p dt gr ta tc M P :=
  ⟨h.l.mono b, h.t.mono b, Own.mono h.o b, h.q.mono b, Nat.le_trans h.b b.size, h.n⟩
theorem TxP.cells {w : World} {B pp tg g lg v d p dt gr tc : Nat} {ta : Option Addr} {M : MemM} {P : List PtM} (h : TxP w B pp tg g lg v d p dt gr ta tc M P) : w.cell? ⟨pp, 0, none⟩ = some (.pointer (some ⟨g, 0, none⟩)) ∧ w.cell? ⟨pp, 2, none⟩ = some (.pointer (some ⟨tg, 0, none⟩)) :=
  ⟨h.q.cell (i := 0) (by show 0 < 5; omega), h.q.cell (i := 2) (by show 2 < 5; omega)⟩
theorem TxP.store {w : World} {B pp tg g lg v d p dt gr tc : Nat} {ta : Option Addr} {M : MemM} {P : List PtM} (h : TxP w B pp tg g lg v d p dt gr ta tc M P) (hM : M.V.length ≤ 1048576) (hP : P.length ≤ 64) {a : Option Addr} {c : Nat} {xs : List UInt8} (h0 : RowB w a c xs) (hx : xs.length ≤ 1000000) {at_ : Int} (ha : i64B at_) :
    Calls Tryz.prog 20 #[.pointer (some ⟨tg, 0, none⟩), .int .i64 at_, .slice a xs.length c] w fun e w' => e = .returned (.int .i64 (errT M P at_ xs.length)) ∧ ∃ ta tc, TxP w' B pp tg g lg v d p dt gr ta tc M (putT M P at_ xs) ∧ Turns (fun k => k = tg ∨ B ≤ k) w w' := by
  obtain ⟨n1, n2, n3, n4, n5, n6, n7⟩ := h.n
  refine (storeT_any h.l.m h.t h.o h.b (by omega) hM h0 ha hP (by omega)).mono ?_
  rintro e w' ⟨rfl, ta2, tc2, k1, k2, t⟩
  exact ⟨rfl, ta2, tc2, ⟨logP_turns h.l t (by omega) (by omega) (by omega) (by omega) (by omega), k1, k2, t.blk h.q (by omega), Nat.le_trans h.b t.size, h.n⟩, t⟩
theorem TxP.commit {w : World} {B pp tg g lg v d p dt gr tc : Nat} {ta : Option Addr} {M : MemM} {P : List PtM} (h : TxP w B pp tg g lg v d p dt gr ta tc M P) (hok : LogOk 512 512 M) (hx : TxOk M P) :
    Calls Tryz.prog 13 #[.pointer (some ⟨tg, 0, none⟩)] w fun e w' => e = .returned (.int .i64 (comE M P)) ∧ ∃ ta tc, TxP w' B pp tg g lg v d p dt gr ta tc (comM M P) (comP M P) ∧ Turns (fun k => XM v d p k ∨ k = tg) w w' := by
  obtain ⟨n1, n2, n3, n4, n5, n6, n7⟩ := h.n
  refine (commitT_any (B := B) h.l hok h.t h.o.row (by omega) (by omega) (by omega) (by omega) (by omega) hx.n (hx.pts hok.v).1 h.o ⟨by omega, by omega, by omega, by omega⟩).mono ?_
  rintro e w' ⟨rfl, ta2, tc2, k0, k1, k2, t⟩
  exact ⟨rfl, ta2, tc2, ⟨k0, k1, k2, t.blk h.q (by unfold XM; omega), Nat.le_trans h.b t.size, h.n⟩, t⟩
theorem beginT (w : World) : Calls Tryz.prog 6 #[] w fun e w' => ∃ pp tg g lg v d p dt gr, e = .returned (.pointer (some ⟨pp, 0, none⟩)) ∧ TxP w' w'.heap.size pp tg g lg v d p dt gr none 0 mem0 [] ∧ (w.heap.size ≤ g ∧ w.heap.size ≤ v ∧ w.heap.size ≤ d ∧ w.heap.size ≤ p) ∧ Below w.heap.size w w' := by
  refine (beginT_any w).mono ?_
  rintro e w1 ⟨⟨g, v, d, p, lg, tg, gr, vr, dr, ar, lr, dt, pp⟩, rfl, l1, k1, m1, r1, d1, p1, o1, b1⟩
  obtain ⟨o1, o2, o3, o4, o5, o6, o7, o8, o9, o10, o11, o12⟩ := o1
  dsimp only at o1 o2 o3 o4 o5 o6 o7 o8 o9 o10 o11 o12
  exact ⟨pp, tg, g, lg, v, d, p, dt, gr, rfl, ⟨l1, k1, Own.nil _ _ _ _, p1, Nat.le_refl _, ⟨by omega, by omega, by omega, by omega, by omega, by omega, by omega⟩⟩, ⟨by omega, by omega, by omega, by omega⟩, b1⟩
end Go.Proofs.YtcackliabemecaaGreatDoor
/- lives: the document's example of a transaction. -/
namespace Go.Proofs.YtcackliabemecaaGreatDoor
open Go.RowKit
set_option linter.unusedSimpArgs false
set_option linter.unusedVariables false
set_option maxRecDepth 100000

theorem row_newF (w : World) (L : List Value) (e : TypeId) (fz : Nat × Nat) (hl : L.length ≤ 9223372036854775807) : Row (w.alloc (.cells L.toArray e fz)) 1 (some ⟨w.heap.size, 0, none⟩) L.length L.length L := by
  refine ⟨by simp, Nat.le_refl _, by unfold maxLen; omega, fun h => by (cases h), fun _ => ⟨w.heap.size, 0, rfl, by simp, fun j u hu => ?_⟩⟩
  have hh := heap_alloc_new w (.cells L.toArray e fz)
  unfold World.cell?
  rw [show (⟨w.heap.size, 0 + j, none⟩ : Addr).block = w.heap.size from rfl, hh]
  simpa using hu
section
variable {w : World} {B pp tg g lg v d p dt gr tc : Nat} {ta : Option Addr}
theorem storeX1 (h : TxP w B pp tg g lg v d p dt gr ta tc mem0 []) : Calls Tryz.prog 20 #[.pointer (some ⟨tg, 0, none⟩), .int .i64 3, .slice (some ⟨w.heap.size, 0, none⟩) 2 2] (w.alloc (.cells #[.int .u8 97, .int .u8 98] 5 (2, 3))) fun e w' => e = .returned (.int .i64 0) ∧ ∃ ta tc, TxP w' B pp tg g lg v d p dt gr ta tc mem0 [exS1] ∧ Turns (fun k => k = tg ∨ B ≤ k) w w' := by
  have hb := albO w (.cells #[.int .u8 97, .int .u8 98] 5 (2, 3))
  have r : RowB (w.alloc (.cells #[.int .u8 97, .int .u8 98] 5 (2, 3))) (some ⟨w.heap.size, 0, none⟩) 2 [97, 98] := row_newF w ([97, 98].map fun x : Int => Value.int .u8 x) 5 _ (by simp)
  refine ((h.mono hb).store (by rw [mem0_len]; omega) (by decide) r (by decide) (at_ := 3) (by unfold i64B; omega)).mono ?_
  rintro e w' ⟨rfl, ta, tc, q, t⟩
  rw [put1] at q
  exact ⟨by rw [show ([97, 98] : List UInt8).length = 2 from rfl, err1], ta, tc, q, (Turns.of_below hb).trans t⟩
theorem storeX2 (h : TxP w B pp tg g lg v d p dt gr ta tc mem0 [exS1]) : Calls Tryz.prog 20 #[.pointer (some ⟨tg, 0, none⟩), .int .i64 4, .slice (some ⟨w.heap.size, 0, none⟩) 1 1] (w.alloc (.cells #[.int .u8 120] 5 (1, 2))) fun e w' => e = .returned (.int .i64 0) ∧ ∃ ta tc, TxP w' B pp tg g lg v d p dt gr ta tc mem0 [exS1, exS2] ∧ Turns (fun k => k = tg ∨ B ≤ k) w w' := by
  have hb := albO w (.cells #[.int .u8 120] 5 (1, 2))
  have r : RowB (w.alloc (.cells #[.int .u8 120] 5 (1, 2))) (some ⟨w.heap.size, 0, none⟩) 1 [120] := row_newF w ([120].map fun x : Int => Value.int .u8 x) 5 _ (by simp)
  refine ((h.mono hb).store (by rw [mem0_len]; omega) (by decide) r (by decide) (at_ := 4) (by unfold i64B; omega)).mono ?_
  rintro e w' ⟨rfl, ta, tc, q, t⟩
  rw [put2] at q
  exact ⟨by rw [show ([120] : List UInt8).length = 1 from rfl, err2], ta, tc, q, (Turns.of_below hb).trans t⟩
theorem loadX (h : TxP w B pp tg g lg v d p dt gr ta tc mem0 [exS1, exS2]) : Calls Tryz.prog 14 #[.pointer (some ⟨tg, 0, none⟩), .int .i64 3, .int .i64 2] w fun e w' => ∃ a c, e = .returned (.tuple #[.slice a 2 c, .int .i64 0]) ∧ OwnB w' w.heap.size a c [97, 120] ∧ Below w.heap.size w w' := by
  refine (loadT_yes h.l.m h.t h.o.row txS (by rw [mem0_len]; omega) 3 2 (by unfold i64B; omega) (by unfold i64B; omega) in0 (b0 := [0, 0]) view0 rfl).mono ?_
  rintro e w' ⟨a, c, rfl, o, b⟩
  rw [ovl0] at o
  exact ⟨a, c, rfl, o, b⟩
theorem mloadX (h : TxP w B pp tg g lg v d p dt gr ta tc mem0 [exS1, exS2]) : Calls Tryz.prog 10 #[.pointer (some ⟨g, 0, none⟩), .int .i64 3, .int .i64 2] w fun e w' => ∃ a c, e = .returned (.tuple #[.slice a 2 c, .int .i64 0]) ∧ OwnB w' w.heap.size a c [0, 0] ∧ Below w.heap.size w w' := by
  refine (load_yes h.l.m 3 2 (by unfold i64B; omega) (by unfold i64B; omega) in0 (b0 := [0, 0]) view0 rfl).mono ?_
  rintro e w' ⟨a, c, rfl, o, b⟩
  exact ⟨a, c, rfl, o, b⟩
theorem commitX (h : TxP w B pp tg g lg v d p dt gr ta tc mem0 [exS1, exS2]) : Calls Tryz.prog 13 #[.pointer (some ⟨tg, 0, none⟩)] w fun e w' => e = .returned (.int .i64 0) ∧ ∃ ta tc, TxP w' B pp tg g lg v d p dt gr ta tc mem4 [] ∧ Turns (fun k => XM v d p k ∨ k = tg) w w' := by
  refine (h.commit log0 txS).mono ?_
  rintro e w' ⟨rfl, ta, tc, q, t⟩
  rw [comM0, comP0] at q
  rw [comE0]
  exact ⟨rfl, ta, tc, q, t⟩
theorem lastsX4 (h : TxP w B pp tg g lg v d p dt gr ta tc mem4 []) : Calls Tryz.prog 28 #[.pointer (some ⟨g, 0, none⟩), .int .i64 3, .int .i64 2] w fun e w' => ∃ a c, e = .returned (.tuple #[.slice a 2 c, .int .i64 0]) ∧ RowB w' a c [97, 120] ∧ Below w.heap.size w w' := by
  refine (lasts_any h.l.m 3 2 (by omega) (by omega)).mono ?_
  intro e w' z
  unfold LoadP at z
  rw [if_pos in4] at z
  obtain ⟨a, c, rfl, o, b⟩ := z
  have hr := o.row
  rw [show ((3 : Int)).toNat = 3 from rfl, show ((2 : Int)).toNat = 2 from rfl, last4] at hr
  exact ⟨a, c, rfl, hr, b⟩
end
set_option maxHeartbeats 8000000 in
theorem lives09_any (w : World) : Calls Tryz.prog 9 #[] w fun e w' => e = .returned (.bool true) ∧ Below w.heap.size w w' := by
  have kc := fun (w : World) (C : Array Value) (n c : Nat) => Lib.run_convert_bytes_const (P := Tryz.prog) w 26 5 C n c Tryz.underlying26 Tryz.underlying5
  go_enter Tryz.func9, Tryz.ntmps9
  go_wp2_with fail
  refine (beginT w).mono ?_
  rintro e w1 ⟨pp, tg, g, lg, v, d, p, dt, gr, rfl, t1, ⟨hg, hv, hd, hp⟩, b1⟩
  have T1 := hid t1; have B1 := hid b1
  have n1 := hid t1.n
  have s1 := hid b1.size
  obtain ⟨c0, c2⟩ := t1.cells
  clear t1 b1
  go_wp2_with fail
  refine (storeX1 T1.out).mono ?_
  rintro e w2 ⟨rfl, ta2, tc2, t2, u2⟩
  have B2 := hid (B1.out.trans (u2.below (B := w.heap.size) s1.out (fun k hk => by have z := n1.out; have y := s1.out; omega)))
  have T2 := hid t2; have s12 := hid u2.size; clear c0 c2
  obtain ⟨c0, c2⟩ := t2.cells
  clear t2 u2
  go_wp2_with fail
  refine (storeX2 T2.out).mono ?_
  rintro e w3 ⟨rfl, ta3, tc3, t3, u3⟩
  have B3 := hid (B2.out.trans (u3.below (B := w.heap.size) B2.out.size (fun k hk => by have z := n1.out; have y := s1.out; omega)))
  have T3 := hid t3; have s13 := hid (Nat.le_trans s12.out u3.size); clear c0 c2
  obtain ⟨c0, c2⟩ := t3.cells
  clear t3 u3
  go_wp2_with fail
  refine (loadX T3.out).mono ?_
  rintro e w4 ⟨a4, e4, rfl, r4, b4⟩
  have T4 := hid (T3.out.mono b4); have B4 := hid (kept_trans B3.out b4); have R4 := hid r4; have s34 := hid b4.size; clear c0 c2
  obtain ⟨c0, c2⟩ := T4.out.cells
  clear r4 b4
  go_wp2_with fail
  refine (mloadX T4.out).mono ?_
  rintro e w5 ⟨a5, e5, rfl, r5, b5⟩
  have T5 := hid (T4.out.mono b5); have B5 := hid (kept_trans B4.out b5); have R4b := hid (Own.mono R4.out b5); have R5 := hid r5; clear c0 c2
  obtain ⟨c0, c2⟩ := T5.out.cells
  clear r5 b5
  go_wp2_with fail
  refine (commitX T5.out).mono ?_
  rintro e w6 ⟨rfl, ta6, tc6, t6, u6⟩
  have B6 := hid (B5.out.trans (u6.below (B := w.heap.size) B5.out.size (fun k hk => by have z := n1.out; rcases hk with (e | e | e) | e <;> omega)))
  have y3 := B3.out.size; have z1 := n1.out; have x3 : w1.heap.size ≤ w3.heap.size := s13.out; have x4 : w3.heap.size ≤ w4.heap.size := s34.out; have R4c := hid ((u6.own R4b.out (fun k hk => by rcases hk with (e | e | e) | e <;> omega)).row); have R5c := hid ((u6.own R5.out (fun k hk => by rcases hk with (e | e | e) | e <;> omega)).row)
  have T6 := hid t6; clear c0 c2
  obtain ⟨c0, c2⟩ := t6.cells
  clear t6 u6
  go_wp2_with fail
  refine (lastsX4 T6.out).mono ?_
  rintro e w7 ⟨a7, e7, rfl, r7, b7⟩
  have B7 := hid (kept_trans B6.out b7)
  have hcv4 : (convert 26 9 (.slice a4 2 e4)).run Tryz.prog w7 = .ok (.string ⟨#[97, 120]⟩) w7 := run_str (R4c.out.mono b7)
  have hcv5 : (convert 26 9 (.slice a5 2 e5)).run Tryz.prog w7 = .ok (.string ⟨#[0, 0]⟩) w7 := run_str (R5c.out.mono b7)
  have hcv7 : (convert 26 9 (.slice a7 2 e7)).run Tryz.prog w7 = .ok (.string ⟨#[97, 120]⟩) w7 := run_str r7
  clear r7 b7
  go_wp2_with fail
  go_ret
  exact ⟨rfl, B7.out⟩
end Go.Proofs.YtcackliabemecaaGreatDoor
/- Many patches, pure (for TxnMany). -/
namespace Go.Proofs.YtcackliabemecaaGreatDoor
open Go.RowKit
set_option linter.unusedSimpArgs false
set_option linter.unusedVariables false
set_option maxRecDepth 100000

def manyP (b : List UInt8) (i : Nat) : List PtM := (List.range (min i 64)).map fun (k : Nat) => (⟨(k : Int), b⟩ : PtM)
end Go.Proofs.YtcackliabemecaaGreatDoor
