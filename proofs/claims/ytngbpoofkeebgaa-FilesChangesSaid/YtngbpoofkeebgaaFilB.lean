/- resized, Change, and the document's. (genFil.py) -/
import Derived.Test.YtngbpoofkeebgaaFilA
namespace Go.Proofs.Ytngbpoofkeebgaa
open Go.RowKit
set_option linter.unusedSimpArgs false
set_option linter.unusedVariables false
set_option maxRecDepth 100000

/-- a record, by its parts -/
structure RecT where
  c : Int
  i : Int
  t : Bool
  o : Int
  d : List UInt8
def recL (r : RecT) : List Value := [.int .i64 r.c, .int .i64 r.i, .bool r.t, .int .i64 r.o, .string (fB r.d)]
theorem recL_one (r : RecT) : ∀ v ∈ recL r, v.oneCell' = true := by intro v hv; simp [recL] at hv; rcases hv with rfl | rfl | rfl | rfl | rfl <;> rfl
theorem infoRec : (Try.prog.info? 23).map (·.size) = some 5 := by kernel_rfl
def mayR (r : RecT) : Bool := recMay r.c r.i r.t r.o (fB r.d)
theorem mayR_f (r : RecT) (w : World) : Calls Try.prog 8 #[.agg (recL r).toArray] w fun e w' => e = .returned (.bool (mayR r)) ∧ Below w.heap.size w w' := recMay_any r.c r.i r.t r.o (fB r.d) w
theorem mayR_r (r : RecT) (w : World) : Calls Try.prog 9 #[.agg (recL r).toArray] w fun e w' => e = .returned (.bool (mayR r)) ∧ Below w.heap.size w w' := recMayRef_any r.c r.i r.t r.o (fB r.d) w
theorem mayR_b {r : RecT} (h : mayR r = true) : 0 ≤ r.o ∧ r.o ≤ 256 ∧ r.d.length ≤ 64 ∧ r.o + r.d.length ≤ 256 := by
  unfold mayR recMay at h
  rw [decide_eq_true_iff, fB_size] at h
  omega
def chE (l : List UInt8) (r : RecT) : Int := if mayR r = true then (if 256 < (chL l r.t r.o.toNat r.d).length then 19 else 0) else 1
def chB (l : List UInt8) (r : RecT) : List UInt8 := if chE l r = 0 then chL l r.t r.o.toNat r.d else []
theorem chR_no {l : List UInt8} {r : RecT} (h : mayR r = false) : Ending.returned (.tuple #[.string (fB []), .int .i64 1]) = .returned (.tuple #[.string (fB (chB l r)), .int .i64 (chE l r)]) := by
  have e : chE l r = 1 := by unfold chE; rw [h, if_neg (by decide)]
  have b : chB l r = [] := by unfold chB; rw [e, if_neg (by decide)]
  rw [e, b]
theorem chR_big {l : List UInt8} {r : RecT} (h : mayR r = true) (hb : 256 < (chL l r.t r.o.toNat r.d).length) : Ending.returned (.tuple #[.string (fB []), .int .i64 19]) = .returned (.tuple #[.string (fB (chB l r)), .int .i64 (chE l r)]) := by
  have e : chE l r = 19 := by unfold chE; rw [if_pos h, if_pos hb]
  have b : chB l r = [] := by unfold chB; rw [e, if_neg (by decide)]
  rw [e, b]
theorem chR_ok {l : List UInt8} {r : RecT} (h : mayR r = true) (hb : ¬ 256 < (chL l r.t r.o.toNat r.d).length) : Ending.returned (.tuple #[.string (fB (chL l r.t r.o.toNat r.d)), .int .i64 0]) = .returned (.tuple #[.string (fB (chB l r)), .int .i64 (chE l r)]) := by
  have e : chE l r = 0 := by unfold chE; rw [if_pos h, if_neg hb]
  have b : chB l r = chL l r.t r.o.toNat r.d := by unfold chB; rw [e, if_pos rfl]
  rw [e, b]
def ChP (l : List UInt8) (r : RecT) (w : World) (e : Ending) (w' : World) : Prop := e = .returned (.tuple #[.string (fB (chB l r)), .int .i64 (chE l r)]) ∧ Below w.heap.size w w'
section
variable {l : List UInt8} {r : RecT}
theorem ch_t (hT : r.t = true) : rzL l r.o.toNat = chL l r.t r.o.toNat r.d := by unfold chL; rw [if_pos hT]
theorem ch_n (hT : r.t = false) (hD : r.d = []) : l = chL l r.t r.o.toNat r.d := by unfold chL; rw [hT, if_neg (by decide), if_pos hD]
theorem ch_l (hT : r.t = false) (hD : ¬ r.d = []) : ((rzL l r.o.toNat ++ r.d) ++ (l.drop (r.o.toNat + r.d.length))) = chL l r.t r.o.toNat r.d := by unfold chL; rw [hT, if_neg (by decide), if_neg hD]
theorem ch_s (hT : r.t = false) (hD : ¬ r.d = []) (h : ¬ r.o.toNat + r.d.length < l.length) : (rzL l r.o.toNat ++ r.d) = chL l r.t r.o.toNat r.d := by
  rw [← ch_l hT hD, List.drop_of_length_le (by omega), List.append_nil]
theorem ch_d (hT : r.t = false) (hD : ¬ r.d = []) (h : 0 ≤ r.o) : ((((rzL l (max (r.o.toNat + r.d.length) l.length)).take r.o.toNat) ++ r.d) ++ ((rzL l (max (r.o.toNat + r.d.length) l.length)).drop (r.o.toNat + r.d.length))) = chL l r.t r.o.toNat r.d := by
  rw [take_rz (by omega) (by omega), drop_rz rfl, ch_l hT hD]
end
theorem addF (x y : Operand) (a b : List UInt8) (h : a.length + b.length ≤ 9223372036854775807) (w : World) : (do eqGuard .add 9 x y (.string (fB a)) (.string (fB b)); binOp .add 9 (.string (fB a)) (.string (fB b)) : Sem Value).run Try.prog w = .ok (.string (fB (a ++ b))) w := by
  have u3 := Try.underlying9
  have a3 := Try.isAgg9
  have z3 := Try.sizeOf9
  have h1 := fB_size a
  have h2 := fB_size b
  have h3 : ¬ ((fB a).size + (fB b).size > 9223372036854775807) := by omega
  have h4 : ¬ (9223372036854775807 < (fB a).size + (fB b).size) := by omega
  rw [← fB_app]
  obtain ⟨A, hA⟩ : ∃ A, A = fB a := ⟨_, rfl⟩
  obtain ⟨B, hB⟩ : ∃ A, A = fB b := ⟨_, rfl⟩
  rw [← hA] at h1 h3 h4 ⊢; rw [← hB] at h2 h3 h4 ⊢
  clear hA hB
  go_simp
theorem addF1 (x y : Operand) (l : List UInt8) (j : Nat) (h : l.length + j ≤ 1000000) (w : World) : (do eqGuard .add 9 x y (.string (fB (l ++ List.replicate j 0))) (.string (fB [0])); binOp .add 9 (.string (fB (l ++ List.replicate j 0))) (.string (fB [0])) : Sem Value).run Try.prog w = .ok (.string (fB (l ++ List.replicate (j + 1) 0))) w := by
  have z := addF x y (l ++ List.replicate j 0) [0] (by rw [List.length_append, List.length_replicate]; show _ + 1 ≤ _; omega) w
  rw [List.append_assoc, ← List.replicate_succ'] at z
  exact z
theorem slHF (s : List UInt8) (n : Nat) (m : Int) (hm : m = n) (hn : n ≤ s.length) (w : World) : (Instr.sliceAt 9 (.string (fB s)) none (some (.int .i64 m)) none).run Try.prog w = .ok (.string (fB (s.take n))) w := by
  have u9 := Try.underlying9
  have hsz := fB_size s
  subst hm
  rw [← fB_take]
  have d0 : 0 ≤ (n : Int) := by omega
  have d1 : (n : Int) ≤ ((fB s).size : Int) := by omega
  have d2 : n ≤ (fB s).size := by omega
  obtain ⟨A, hA⟩ : ∃ A, A = fB s := ⟨_, rfl⟩
  rw [← hA] at hsz d1 d2 ⊢
  clear hA
  go_simp
theorem slLF (s : List UInt8) (n : Nat) (m : Int) (hm : m = n) (hn : n ≤ s.length) (w : World) : (Instr.sliceAt 9 (.string (fB s)) (some (.int .i64 m)) none none).run Try.prog w = .ok (.string (fB (s.drop n))) w := by
  have u9 := Try.underlying9
  have hsz := fB_size s
  subst hm
  rw [← fB_drop]
  have d0 : 0 ≤ (n : Int) := by omega
  have d1 : (n : Int) ≤ ((fB s).size : Int) := by omega
  have d2 : n ≤ (fB s).size := by omega
  obtain ⟨A, hA⟩ : ∃ A, A = fB s := ⟨_, rfl⟩
  rw [← hA] at hsz d1 d2 ⊢
  clear hA
  go_simp
theorem eqFx (a b : List UInt8) : decide (fB a = fB b) = decide (a = b) := by
  by_cases h : a = b
  · rw [h, decide_eq_true rfl, decide_eq_true rfl]
  · rw [decide_eq_false h, decide_eq_false (fun e => h (fB_inj e))]
theorem eqF (x y : Operand) (a b : List UInt8) (w : World) {v : Bool} (h : decide (a = b) = v) : (do eqGuard .eql 9 x y (.string (fB a)) (.string (fB b)); binOp .eql 9 (.string (fB a)) (.string (fB b)) : Sem Value).run Try.prog w = .ok (.bool v) w := by
  have u3 := Try.underlying9
  have a3 := Try.isAgg9
  have z3 := Try.sizeOf9
  have z := eqFx a b
  rw [h] at z
  obtain ⟨A, hA⟩ : ∃ A, A = fB a := ⟨_, rfl⟩
  obtain ⟨B, hB⟩ : ∃ A, A = fB b := ⟨_, rfl⟩
  rw [← hA, ← hB] at z ⊢
  clear hA hB h
  cases v
  · have q : ¬ A = B := of_decide_eq_false z
    have q2 : ¬ A.toList = B.toList := fun h => q (by rw [ByteArray.toList_eq, ByteArray.toList_eq] at h; exact ByteArray.ext (Array.toList_inj.1 h))
    go_simp
  · have q : A = B := of_decide_eq_true z
    subst q
    go_simp
theorem neF (x y : Operand) (a b : List UInt8) (w : World) {v : Bool} (h : decide (a ≠ b) = v) : (do eqGuard .neq 9 x y (.string (fB a)) (.string (fB b)); binOp .neq 9 (.string (fB a)) (.string (fB b)) : Sem Value).run Try.prog w = .ok (.bool v) w := by
  have u3 := Try.underlying9
  have a3 := Try.isAgg9
  have z3 := Try.sizeOf9
  have z := eqFx a b
  obtain ⟨A, hA⟩ : ∃ A, A = fB a := ⟨_, rfl⟩
  obtain ⟨B, hB⟩ : ∃ A, A = fB b := ⟨_, rfl⟩
  rw [← hA, ← hB] at z ⊢
  clear hA hB
  cases v
  · have q : A = B := of_decide_eq_true (by rw [z]; exact decide_eq_true (Decidable.not_not.1 (of_decide_eq_false h)))
    subst q
    go_simp
  · have q : ¬ A = B := of_decide_eq_false (by rw [z]; exact decide_eq_false (of_decide_eq_true h))
    have q2 : ¬ A.toList = B.toList := fun h => q (by rw [ByteArray.toList_eq, ByteArray.toList_eq] at h; exact ByteArray.ext (Array.toList_inj.1 h))
    go_simp
theorem eqBF (x y : Operand) (a : Bool) (w : World) : (do eqGuard .eql 4 x y (.bool a) (.bool a); binOp .eql 4 (.bool a) (.bool a) : Sem Value).run Try.prog w = .ok (.bool true) w := by
  have u3 := Try.underlying4
  have a3 := Try.isAgg4
  have z3 := Try.sizeOf4
  cases a <;> go_simp
theorem ltIP (x y : Operand) (v u : Int) (w : World) {b : Bool} (h : decide (v < u) = b) : (do eqGuard .lss 3 x y (.int .i64 v) (.int .i64 u); binOp .lss 3 (.int .i64 v) (.int .i64 u) : Sem Value).run Try.prog w = .ok (.bool b) w := by
  have u3 := Try.underlying3
  have a3 := Try.isAgg3
  have z3 := Try.sizeOf3
  go_simp
theorem gtIP (x y : Operand) (v u : Int) (w : World) {b : Bool} (h : decide (u < v) = b) : (do eqGuard .gtr 3 x y (.int .i64 v) (.int .i64 u); binOp .gtr 3 (.int .i64 v) (.int .i64 u) : Sem Value).run Try.prog w = .ok (.bool b) w := by
  have u3 := Try.underlying3
  have a3 := Try.isAgg3
  have z3 := Try.sizeOf3
  go_simp
theorem leIP (x y : Operand) (v u : Int) (w : World) {b : Bool} (h : decide (v ≤ u) = b) : (do eqGuard .leq 3 x y (.int .i64 v) (.int .i64 u); binOp .leq 3 (.int .i64 v) (.int .i64 u) : Sem Value).run Try.prog w = .ok (.bool b) w := by
  have u3 := Try.underlying3
  have a3 := Try.isAgg3
  have z3 := Try.sizeOf3
  go_simp
theorem eqEP (x y : Operand) (v u : Int) (w : World) {b : Bool} (h : (v == u) = b) : (do eqGuard .eql 25 x y (.int .i64 v) (.int .i64 u); binOp .eql 25 (.int .i64 v) (.int .i64 u) : Sem Value).run Try.prog w = .ok (.bool b) w := by
  have u3 := Try.underlying25
  have a3 := Try.isAgg25
  have z3 := Try.sizeOf25
  go_simp
theorem neEP (x y : Operand) (v u : Int) (w : World) {b : Bool} (h : (v != u) = b) : (do eqGuard .neq 25 x y (.int .i64 v) (.int .i64 u); binOp .neq 25 (.int .i64 v) (.int .i64 u) : Sem Value).run Try.prog w = .ok (.bool b) w := by
  have u3 := Try.underlying25
  have a3 := Try.isAgg25
  have z3 := Try.sizeOf25
  go_simp
theorem addNP (x y : Operand) (i j k : Int) (hk : i + j = k) (h1 : -9223372036854775808 ≤ k) (h2 : k ≤ 9223372036854775807) (w : World) : (do eqGuard .add 3 x y (.int .i64 i) (.int .i64 j); binOp .add 3 (.int .i64 i) (.int .i64 j) : Sem Value).run Try.prog w = .ok (.int .i64 k) w := by
  have u3 := Try.underlying3
  have a3 := Try.isAgg3
  have z3 := Try.sizeOf3
  subst hk
  have e1 : IntKind.i64.wrap (i + j) = i + j := IntWalk.i64_in _ (by omega)
  go_simp
theorem subIP (x y : Operand) (i j k : Int) (hk : i - j = k) (h1 : -9223372036854775808 ≤ k) (h2 : k ≤ 9223372036854775807) (w : World) : (do eqGuard .sub 3 x y (.int .i64 i) (.int .i64 j); binOp .sub 3 (.int .i64 i) (.int .i64 j) : Sem Value).run Try.prog w = .ok (.int .i64 k) w := by
  have u3 := Try.underlying3
  have a3 := Try.isAgg3
  have z3 := Try.sizeOf3
  subst hk
  have e1 : IntKind.i64.wrap (i - j) = i - j := IntWalk.i64_in _ (by omega)
  go_simp
theorem run_not {P : Program} {o : Oper} {ty : TypeId} {x : Operand} {w : World} (ho : o.op = .unOp .not ty x) {ρ : Operand → Value} {b : Bool} (hb : ρ x = .bool b) : (execOp ρ o).run P w = .ok (.value (.bool (!b))) w := by
  unfold execOp; rw [ho]; simp only [hb]; rfl
theorem run_lenF {o : Oper} {x : Operand} (ho : o.op = .call { callee := .builtin .len, args := #[x], argTypes := #[9] }) {ρ : Operand → Value} {s : List UInt8} (hx : ρ x = .string (fB s)) {n : Nat} (hn : s.length = n) (w : World) : (execOp ρ o).run Try.prog w = .ok (.value (.int .i64 (n : Int))) w := by
  unfold execOp; rw [ho]
  have u3 := Try.underlying9
  have h1 := fB_size s
  simp [resolve, invoke, builtin, hx]
  go_simp
theorem run_maxF {P : Program} {o : Oper} {x y : Operand} {t t2 : TypeId} (ho : o.op = .call { callee := .builtin .max, args := #[x, y], argTypes := #[t, t2] }) {ρ : Operand → Value} {i j : Int} (hx : ρ x = .int .i64 i) (hy : ρ y = .int .i64 j) (w : World) : (execOp ρ o).run P w = .ok (.value (.int .i64 (max i j))) w := by
  unfold execOp; rw [ho]
  simp [resolve, invoke, builtin, hx, hy, Builtin.max_, Builtin.max2]
  have e : (if i < j then j else i) = max i j := by split <;> omega
  rw [e]
theorem loadIF {w : World} {g off : Nat} {x : Int} (h : w.cell? ⟨g, off, none⟩ = some (.int .i64 x)) : (Instr.loadAt 3 (.pointer (some ⟨g, off, none⟩))).run Try.prog w = .ok (.int .i64 x) w := by
  have u3 := Try.underlying3
  have a3 := Try.isAgg3
  have z3 := Try.sizeOf3
  go_simp
theorem loadSF {w : World} {g off : Nat} {x : ByteArray} (h : w.cell? ⟨g, off, none⟩ = some (.string x)) : (Instr.loadAt 9 (.pointer (some ⟨g, off, none⟩))).run Try.prog w = .ok (.string x) w := by
  have u3 := Try.underlying9
  have a3 := Try.isAgg9
  have z3 := Try.sizeOf9
  go_simp
theorem loadBF {w : World} {g off : Nat} {x : Bool} (h : w.cell? ⟨g, off, none⟩ = some (.bool x)) : (Instr.loadAt 4 (.pointer (some ⟨g, off, none⟩))).run Try.prog w = .ok (.bool x) w := by
  have u3 := Try.underlying4
  have a3 := Try.isAgg4
  have z3 := Try.sizeOf4
  go_simp
theorem blkF_at {w : World} {g : Nat} {e : TypeId} {L : List Value} (h : Blk w g e L) {i : Nat} {u : Value} (hu : L[i]? = some u) : w.cell? ⟨g, i, none⟩ = some u := by
  have hlt : i < L.length := (List.getElem?_eq_some_iff.1 hu).1
  rw [h.cell hlt]
  rw [List.getElem?_eq_getElem hlt] at hu
  exact hu
theorem cellT {w : World} {g : Nat} {r : RecT} {b : Bool} (h : Blk w g 23 (recL r)) (hT : r.t = b) : w.cell? ⟨g, 2, none⟩ = some (.bool b) := hT ▸ h.cell (i := 2) (by show 2 < 5; omega)
theorem wpl_boxRec {w : World} {ops : Array Oper} {rest : List Oper} {o : Oper} {act : Act} {Q : Exit → Act → World → Prop} (hgd : o.guard = none) {y : Operand} (ho : o.op = .box 23 y) (x : RecT) (hy : act.eval y = .agg (recL x).toArray)
    (h : ∀ gb w', gb = w.heap.size ∧ Blk w' gb 23 (recL x) → Below w.heap.size w w' → wpList Try.prog ops Q rest (act.put o.dst (.pointer (some ⟨gb, 0, none⟩))) w') : wpList Try.prog ops Q (o :: rest) act w := by
  have hrun : (execOp act.eval o).run Try.prog w = .ok (.value (.pointer (some ⟨w.heap.size, 0, none⟩))) (w.alloc (.cells (recL x).toArray 23)) := by
    unfold execOp; rw [ho]; simp only [hy]; rfl
  exact wpl_runTo hgd _ _ hrun (h _ _ ⟨rfl, blk_newO rfl _ _⟩ (albO _ _))
/-- the only operation that is ready, under a guard maybe -/
theorem wpk_onlyW {P : Program} {ops : Array Oper} {Q : Exit → Act → World → Prop} {md : Region.Mode} {S : World → Prop} {oi : Oper} {fuel : Nat} {listed : Array Bool} {a : Act} {w : World} (i : Nat) (hi : ops[i]? = some oi) (hw : Region.wanted oi (yielded ops a.tmps) = true) (hr : Region.ready md ops listed = [i])
    (k : ∀ K : Act → World → Prop, (∀ a' w', S w' → (S w' → wpAnyH P md ops Q S fuel (listed.setIfInBounds i true) a' w') → K a' w') → Oper.wp P oi a w K Q) : wpAnyH P md ops Q S (fuel + 1) listed a w :=
  wpAnyH_ready hr (by simp) (AllReadyH.cons hi (fun K hK => by
    rw [if_pos hw]
    exact k K (Shut.out hK)) AllReadyH.nil)
theorem callF_8 (args : Array Value) (w : World) : (callFunc 8 args).run Try.prog w = .ok (.enter 8 args) w := by
  have h := Try.func8
  go_simp
theorem callF_9 (args : Array Value) (w : World) : (callFunc 9 args).run Try.prog w = .ok (.enter 9 args) w := by
  have h := Try.func9
  go_simp
theorem callF_11 (args : Array Value) (w : World) : (callFunc 11 args).run Try.prog w = .ok (.enter 11 args) w := by
  have h := Try.func11
  go_simp
theorem callF_12 (args : Array Value) (w : World) : (callFunc 12 args).run Try.prog w = .ok (.enter 12 args) w := by
  have h := Try.func12
  go_simp
theorem callF_13 (args : Array Value) (w : World) : (callFunc 13 args).run Try.prog w = .ok (.enter 13 args) w := by
  have h := Try.func13
  go_simp
theorem faF_23_0_2 (g : Nat) (w : World) : (Instr.fieldAt 23 (.pointer (some ⟨g, 0, none⟩)) 2).run Try.prog w = .ok (.pointer (some ⟨g, 2, none⟩)) w := rfl
theorem faF_23_0_3 (g : Nat) (w : World) : (Instr.fieldAt 23 (.pointer (some ⟨g, 0, none⟩)) 3).run Try.prog w = .ok (.pointer (some ⟨g, 3, none⟩)) w := rfl
theorem faF_23_0_4 (g : Nat) (w : World) : (Instr.fieldAt 23 (.pointer (some ⟨g, 0, none⟩)) 4).run Try.prog w = .ok (.pointer (some ⟨g, 4, none⟩)) w := rfl

set_option maxHeartbeats 2000000 in
theorem resized_long (l : List UInt8) (n k : Nat) (hn : n ≤ 1000000) (hl : l.length ≤ 1000000) (h : l.length < n) (hk : k = n - l.length) (w : World) :
    Calls Try.prog 11 #[.string (fB l), .int .i64 (n : Int)] w fun e w' => e = .returned (.string (fB (l ++ List.replicate k 0))) ∧ Below w.heap.size w w' := by
  go_enter Try.func11, Try.ntmps11
  go_step
  go_step
  go_step
  refine wpk_enter (N := 19) (l := [(0, .string (fB l)), (1, .int .i64 (n : Int))]) ⟨rfl, (by intro x hx; simp only [List.mem_cons, List.not_mem_nil, or_false] at hx; rcases hx with rfl | rfl <;> rfl), rfl⟩ fun a2 h1 => ?_
  refine wpk_val h1 (wanted_none rfl) rfl (by decide) (fr rfl) (.string (fB [])) rfl fun a4 h3 => ?_
  go_step
  go_step
  go_step
  go_step
  go_step
  go_step
  refine wpk_val h3 (wanted_none rfl) rfl (by decide) (fr rfl) (.int .i64 (n : Int)) (by unfold execOp; simp only [h3.eval (k := 1) (v := .int .i64 (n : Int)) (by simp)]; rfl) fun a6 h5 => ?_
  refine wpk_val h5 (wanted_none rfl) rfl (by decide) (fr rfl) (.string (fB l)) (by unfold execOp; simp only [h5.eval (k := 0) (v := .string (fB l)) (by simp)]; rfl) fun a8 h7 => ?_
  refine wpk_val h7 (wanted_none rfl) rfl (by decide) (fr rfl) (.int .i64 (l.length : Int)) (run_lenF rfl (h7.eval (k := 6) (v := .string (fB l)) (by simp)) (by rfl) _) fun a10 h9 => ?_
  refine wpk_val h9 (wanted_none rfl) rfl (by decide) (fr rfl) (.bool false) (by unfold execOp; simp only [h9.eval (k := 5) (v := .int .i64 (n : Int)) (by simp), h9.eval (k := 7) (v := .int .i64 (l.length : Int)) (by simp)]; exact run_v (leIP _ _ _ _ _ (decide_eq_false (by omega)))) fun a12 h11 => ?_
  have h13 := h11.subs (l' := [(8, .bool false), (4, .string (fB [])), (0, .string (fB l)), (1, .int .i64 (n : Int))]) rfl
  clear h11
  go_step
  go_step
  go_step
  refine wp_cond (t := false) (h13.eval (k := 8) (v := .bool false) (by simp)) ?_
  simp only [Bool.false_eq_true, if_false]
  have h14 := h13.subs (l' := [(4, .string (fB [])), (0, .string (fB l)), (1, .int .i64 (n : Int))]) rfl
  clear h13
  go_step
  go_step
  go_step
  go_step
  go_step
  refine wpk_val h14 (wanted_none rfl) rfl (by decide) (fr rfl) (.string (fB l)) (by unfold execOp; simp only [h14.eval (k := 0) (v := .string (fB l)) (by simp)]; rfl) fun a16 h15 => ?_
  refine wpk_val h15 (wanted_none rfl) rfl (by decide) (fr rfl) (.int .i64 (n : Int)) (by unfold execOp; simp only [h15.eval (k := 1) (v := .int .i64 (n : Int)) (by simp)]; rfl) fun a18 h17 => ?_
  refine wpk_val h17 (wanted_none rfl) rfl (by decide) (fr rfl) (.string (fB l)) (by unfold execOp; simp only [h17.eval (k := 0) (v := .string (fB l)) (by simp)]; rfl) fun a20 h19 => ?_
  refine wpk_val h19 (wanted_none rfl) rfl (by decide) (fr rfl) (.int .i64 (l.length : Int)) (run_lenF rfl (h19.eval (k := 14) (v := .string (fB l)) (by simp)) (by rfl) _) fun a22 h21 => ?_
  refine wpk_val h21 (wanted_none rfl) rfl (by decide) (fr rfl) (.int .i64 (k : Int)) (by unfold execOp; simp only [h21.eval (k := 13) (v := .int .i64 (n : Int)) (by simp), h21.eval (k := 15) (v := .int .i64 (l.length : Int)) (by simp)]; exact run_v (subIP _ _ _ _ _ (by omega) (by omega) (by omega) _)) fun a24 h23 => ?_
  refine wpk_call h23 (wanted_none rfl) rfl (by decide) (fr rfl) (fun args => callF_13 args _) rfl #[.string (fB [0]), .int .i64 (k : Int)] (by simp only [List.map_toArray, List.map_cons, List.map_nil, h23.eval (k := 16) (v := .int .i64 (k : Int)) (by simp)]; rfl) (R := fun v' w' => v' = .string (fB (List.replicate k 0)) ∧ Below w.heap.size w w') ((zeros_any k (by omega) w).mono fun e w' q => ⟨_, q.1, rfl, q.2⟩) fun a26 v1 w1 r1 h25 => ?_
  obtain ⟨rfl, b1⟩ := r1; have B1 := hid b1; clear b1
  refine wpk_val h25 (wanted_none rfl) rfl (by decide) (fr rfl) (.string (fB (l ++ (List.replicate k 0)))) (by unfold execOp; simp only [h25.eval (k := 12) (v := .string (fB l)) (by simp), h25.eval (k := 17) (v := .string (fB (List.replicate k 0))) (by simp)]; exact run_v (addF _ _ _ _ (by first | omega | (simp only [List.length_append, List.length_take, List.length_drop, rzL_len, List.length_replicate, List.length_cons, List.length_nil]; omega)) _)) fun a28 h27 => ?_
  have h29 := h27.subs (l' := [(18, .string (fB (l ++ (List.replicate k 0)))), (17, .string (fB (List.replicate k 0))), (16, .int .i64 (k : Int)), (15, .int .i64 (l.length : Int)), (14, .string (fB l)), (13, .int .i64 (n : Int)), (12, .string (fB l)), (0, .string (fB l)), (1, .int .i64 (n : Int))]) rfl
  clear h27
  refine wpk_val h29 (wanted_none rfl) rfl (by decide) (fr rfl) (.string (fB (l ++ (List.replicate k 0)))) (by unfold execOp; simp only [h29.eval (k := 18) (v := .string (fB (l ++ (List.replicate k 0)))) (by simp)]; rfl) fun a31 h30 => ?_
  have h32 := h30.subs (l' := [(4, .string (fB (l ++ (List.replicate k 0)))), (0, .string (fB l)), (1, .int .i64 (n : Int))]) rfl
  clear h30
  go_step
  go_step
  go_step
  go_step
  exact bodyPost_ret (results_tmp1 rfl (h32.known (4, .string (fB (l ++ (List.replicate k 0)))) (by simp))) h32.defs ⟨rfl, B1.out⟩
theorem resized_any (l : List UInt8) (n : Nat) (hn : n ≤ 1000000) (hl : l.length ≤ 1000000) (w : World) :
    Calls Try.prog 11 #[.string (fB l), .int .i64 (n : Int)] w fun e w' => e = .returned (.string (fB (rzL l n))) ∧ Below w.heap.size w w' := by
  by_cases h : n ≤ l.length
  · exact resized_short l n h hn hl w
  · rw [rzL_ext (by omega)]
    exact resized_long l n _ hn hl (by omega) rfl w
set_option maxHeartbeats 2000000 in
theorem sized_short (l : List UInt8) (n : Nat) (h : n < l.length) (hn : n ≤ 1000000) (hl : l.length ≤ 1000000) (w : World) :
    Calls Try.prog 12 #[.string (fB l), .int .i64 (n : Int)] w fun e w' => e = .returned (.string (fB (rzL l n))) ∧ w = w' := by
  go_enter Try.func12, Try.ntmps12
  go_step
  go_step
  go_step
  refine wpk_enter (N := 19) (l := [(0, .string (fB l)), (1, .int .i64 (n : Int))]) ⟨rfl, (by intro x hx; simp only [List.mem_cons, List.not_mem_nil, or_false] at hx; rcases hx with rfl | rfl <;> rfl), rfl⟩ fun a2 h1 => ?_
  refine wpk_val h1 (wanted_none rfl) rfl (by decide) (fr rfl) (.string (fB [])) rfl fun a4 h3 => ?_
  go_step
  go_step
  go_step
  go_step
  go_step
  go_step
  refine wpk_val h3 (wanted_none rfl) rfl (by decide) (fr rfl) (.int .i64 (n : Int)) (by unfold execOp; simp only [h3.eval (k := 1) (v := .int .i64 (n : Int)) (by simp)]; rfl) fun a6 h5 => ?_
  refine wpk_val h5 (wanted_none rfl) rfl (by decide) (fr rfl) (.string (fB l)) (by unfold execOp; simp only [h5.eval (k := 0) (v := .string (fB l)) (by simp)]; rfl) fun a8 h7 => ?_
  refine wpk_val h7 (wanted_none rfl) rfl (by decide) (fr rfl) (.int .i64 (l.length : Int)) (run_lenF rfl (h7.eval (k := 6) (v := .string (fB l)) (by simp)) (by rfl) _) fun a10 h9 => ?_
  refine wpk_val h9 (wanted_none rfl) rfl (by decide) (fr rfl) (.bool true) (by unfold execOp; simp only [h9.eval (k := 5) (v := .int .i64 (n : Int)) (by simp), h9.eval (k := 7) (v := .int .i64 (l.length : Int)) (by simp)]; exact run_v (ltIP _ _ _ _ _ (decide_eq_true (by omega)))) fun a12 h11 => ?_
  have h13 := h11.subs (l' := [(8, .bool true), (4, .string (fB [])), (0, .string (fB l)), (1, .int .i64 (n : Int))]) rfl
  clear h11
  go_step
  go_step
  go_step
  refine wp_cond (t := true) (h13.eval (k := 8) (v := .bool true) (by simp)) ?_
  simp only [if_true]
  have h14 := h13.subs (l' := [(4, .string (fB [])), (0, .string (fB l)), (1, .int .i64 (n : Int))]) rfl
  clear h13
  go_step
  go_step
  refine wpk_val h14 (wanted_none rfl) rfl (by decide) (fr rfl) (.string (fB l)) (by unfold execOp; simp only [h14.eval (k := 0) (v := .string (fB l)) (by simp)]; rfl) fun a16 h15 => ?_
  refine wpk_val h15 (wanted_none rfl) rfl (by decide) (fr rfl) (.int .i64 (n : Int)) (by unfold execOp; simp only [h15.eval (k := 1) (v := .int .i64 (n : Int)) (by simp)]; rfl) fun a18 h17 => ?_
  refine wpk_val h17 (wanted_none rfl) rfl (by decide) (fr rfl) (.string (fB (l.take n))) (by unfold execOp; simp only [Option.map_some, Option.map_none, h17.eval (k := 9) (v := .string (fB l)) (by simp), h17.eval (k := 10) (v := .int .i64 (n : Int)) (by simp)]; exact run_v (slHF _ _ _ (by omega) (by omega) _)) fun a20 h19 => ?_
  have h21 := h19.subs (l' := [(11, .string (fB (l.take n))), (10, .int .i64 (n : Int)), (9, .string (fB l)), (0, .string (fB l)), (1, .int .i64 (n : Int))]) rfl
  clear h19
  refine wpk_val h21 (wanted_none rfl) rfl (by decide) (fr rfl) (.string (fB (l.take n))) (by unfold execOp; simp only [h21.eval (k := 11) (v := .string (fB (l.take n))) (by simp)]; rfl) fun a23 h22 => ?_
  have h24 := h22.subs (l' := [(4, .string (fB (l.take n))), (0, .string (fB l)), (1, .int .i64 (n : Int))]) rfl
  clear h22
  go_step
  go_step
  go_step
  go_step
  simp only [Exit.then, Exit.inBlock]
  exact bodyPost_ret (results_tmp1 rfl (h24.known (4, .string (fB (l.take n))) (by simp))) h24.defs ⟨(by rw [rzL_cut (by omega)]), rfl⟩
set_option maxHeartbeats 2000000 in
theorem sized_long (l : List UInt8) (n : Nat) (hn : n ≤ 1000000) (hl : l.length ≤ 1000000) (h : l.length ≤ n) (w : World) :
    Calls Try.prog 12 #[.string (fB l), .int .i64 (n : Int)] w fun e w' => e = .returned (.string (fB (rzL l n))) ∧ w = w' := by
  go_enter Try.func12, Try.ntmps12
  go_step
  go_step
  go_step
  refine wpk_enter (N := 19) (l := [(0, .string (fB l)), (1, .int .i64 (n : Int))]) ⟨rfl, (by intro x hx; simp only [List.mem_cons, List.not_mem_nil, or_false] at hx; rcases hx with rfl | rfl <;> rfl), rfl⟩ fun a2 h1 => ?_
  refine wpk_val h1 (wanted_none rfl) rfl (by decide) (fr rfl) (.string (fB [])) rfl fun a4 h3 => ?_
  go_step
  go_step
  go_step
  go_step
  go_step
  go_step
  refine wpk_val h3 (wanted_none rfl) rfl (by decide) (fr rfl) (.int .i64 (n : Int)) (by unfold execOp; simp only [h3.eval (k := 1) (v := .int .i64 (n : Int)) (by simp)]; rfl) fun a6 h5 => ?_
  refine wpk_val h5 (wanted_none rfl) rfl (by decide) (fr rfl) (.string (fB l)) (by unfold execOp; simp only [h5.eval (k := 0) (v := .string (fB l)) (by simp)]; rfl) fun a8 h7 => ?_
  refine wpk_val h7 (wanted_none rfl) rfl (by decide) (fr rfl) (.int .i64 (l.length : Int)) (run_lenF rfl (h7.eval (k := 6) (v := .string (fB l)) (by simp)) (by rfl) _) fun a10 h9 => ?_
  refine wpk_val h9 (wanted_none rfl) rfl (by decide) (fr rfl) (.bool false) (by unfold execOp; simp only [h9.eval (k := 5) (v := .int .i64 (n : Int)) (by simp), h9.eval (k := 7) (v := .int .i64 (l.length : Int)) (by simp)]; exact run_v (ltIP _ _ _ _ _ (decide_eq_false (by omega)))) fun a12 h11 => ?_
  have h13 := h11.subs (l' := [(8, .bool false), (4, .string (fB [])), (0, .string (fB l)), (1, .int .i64 (n : Int))]) rfl
  clear h11
  go_step
  go_step
  go_step
  refine wp_cond (t := false) (h13.eval (k := 8) (v := .bool false) (by simp)) ?_
  simp only [Bool.false_eq_true, if_false]
  have h14 := h13.subs (l' := [(4, .string (fB [])), (0, .string (fB l)), (1, .int .i64 (n : Int))]) rfl
  clear h13
  go_step
  go_step
  go_step
  go_step
  go_step
  have h15 := h14.subs (l' := [(0, .string (fB l)), (1, .int .i64 (n : Int))]) rfl
  clear h14
  refine wp_loop (I := fun a' w' => ∃ j : Nat, l.length + j ≤ n ∧ Kn 19 [(0, .string (fB (l ++ List.replicate j 0))), (1, .int .i64 (n : Int))] a' ∧ w = w') (μ := fun a' _ => n - (match a'.eval (.tmp 0) with | .string b => b.size | _ => 0)) ⟨0, by omega, (by rw [List.replicate_zero, List.append_nil]; exact h15), rfl⟩ ?_
  rintro aL aw ⟨j, hj, hK, rfl⟩
  by_cases hlt : l.length + j < n
  case pos =>
    go_step
    go_step
    go_step
    go_step
    refine wpk_val hK (wanted_none rfl) rfl (by decide) (fr rfl) (.string (fB (l ++ List.replicate j 0))) (by unfold execOp; simp only [hK.eval (k := 0) (v := .string (fB (l ++ List.replicate j 0))) (by simp)]; rfl) fun a17 h16 => ?_
    refine wpk_val h16 (wanted_none rfl) rfl (by decide) (fr rfl) (.int .i64 ((l.length + j : Nat) : Int)) (run_lenF rfl (h16.eval (k := 12) (v := .string (fB (l ++ List.replicate j 0))) (by simp)) (by rw [List.length_append, List.length_replicate]) _) fun a19 h18 => ?_
    refine wpk_val h18 (wanted_none rfl) rfl (by decide) (fr rfl) (.int .i64 (n : Int)) (by unfold execOp; simp only [h18.eval (k := 1) (v := .int .i64 (n : Int)) (by simp)]; rfl) fun a21 h20 => ?_
    refine wpk_val h20 (wanted_none rfl) rfl (by decide) (fr rfl) (.bool true) (by unfold execOp; simp only [h20.eval (k := 13) (v := .int .i64 ((l.length + j : Nat) : Int)) (by simp), h20.eval (k := 14) (v := .int .i64 (n : Int)) (by simp)]; exact run_v (ltIP _ _ _ _ _ (decide_eq_true (by omega)))) fun a23 h22 => ?_
    have h24 := h22.subs (l' := [(15, .bool true), (0, .string (fB (l ++ List.replicate j 0))), (1, .int .i64 (n : Int))]) rfl
    clear h22
    go_step
    go_step
    go_step
    refine wp_cond (t := true) (h24.eval (k := 15) (v := .bool true) (by simp)) ?_
    simp only [if_true]
    have h25 := h24.subs (l' := [(0, .string (fB (l ++ List.replicate j 0))), (1, .int .i64 (n : Int))]) rfl
    clear h24
    go_step
    go_step
    go_step
    go_step
    go_step
    refine wpk_val h25 (wanted_none rfl) rfl (by decide) (fr rfl) (.string (fB (l ++ List.replicate j 0))) (by unfold execOp; simp only [h25.eval (k := 0) (v := .string (fB (l ++ List.replicate j 0))) (by simp)]; rfl) fun a27 h26 => ?_
    refine wpk_val h26 (wanted_none rfl) rfl (by decide) (fr rfl) (.string (fB (l ++ List.replicate (j + 1) 0))) (by unfold execOp; simp only [h26.eval (k := 16) (v := .string (fB (l ++ List.replicate j 0))) (by simp)]; exact run_v ((addF1 _ _ _ _ (by omega) _))) fun a29 h28 => ?_
    have h30 := h28.subs (l' := [(17, .string (fB (l ++ List.replicate (j + 1) 0))), (16, .string (fB (l ++ List.replicate j 0))), (1, .int .i64 (n : Int))]) rfl
    clear h28
    refine wpk_val h30 (wanted_none rfl) rfl (by decide) (fr rfl) (.string (fB (l ++ List.replicate (j + 1) 0))) (by unfold execOp; simp only [h30.eval (k := 17) (v := .string (fB (l ++ List.replicate (j + 1) 0))) (by simp)]; rfl) fun a32 h31 => ?_
    have h33 := h31.subs (l' := [(0, .string (fB (l ++ List.replicate (j + 1) 0))), (1, .int .i64 (n : Int))]) rfl
    clear h31
    go_step
    go_step
    refine ⟨⟨j + 1, by omega, h33.subs rfl, rfl⟩, ?_⟩
    rw [h33.eval (k := 0) (v := .string (fB (l ++ List.replicate (j + 1) 0))) (by simp), hK.eval (k := 0) (v := .string (fB (l ++ List.replicate j 0))) (by simp)]; simp only [fB_size, List.length_append, List.length_replicate]; omega
  go_step
  go_step
  go_step
  go_step
  refine wpk_val hK (wanted_none rfl) rfl (by decide) (fr rfl) (.string (fB (l ++ List.replicate j 0))) (by unfold execOp; simp only [hK.eval (k := 0) (v := .string (fB (l ++ List.replicate j 0))) (by simp)]; rfl) fun a35 h34 => ?_
  refine wpk_val h34 (wanted_none rfl) rfl (by decide) (fr rfl) (.int .i64 ((l.length + j : Nat) : Int)) (run_lenF rfl (h34.eval (k := 12) (v := .string (fB (l ++ List.replicate j 0))) (by simp)) (by rw [List.length_append, List.length_replicate]) _) fun a37 h36 => ?_
  refine wpk_val h36 (wanted_none rfl) rfl (by decide) (fr rfl) (.int .i64 (n : Int)) (by unfold execOp; simp only [h36.eval (k := 1) (v := .int .i64 (n : Int)) (by simp)]; rfl) fun a39 h38 => ?_
  refine wpk_val h38 (wanted_none rfl) rfl (by decide) (fr rfl) (.bool false) (by unfold execOp; simp only [h38.eval (k := 13) (v := .int .i64 ((l.length + j : Nat) : Int)) (by simp), h38.eval (k := 14) (v := .int .i64 (n : Int)) (by simp)]; exact run_v (ltIP _ _ _ _ _ (decide_eq_false (by omega)))) fun a41 h40 => ?_
  have h42 := h40.subs (l' := [(15, .bool false), (0, .string (fB (l ++ List.replicate j 0))), (1, .int .i64 (n : Int))]) rfl
  clear h40
  go_step
  go_step
  go_step
  refine wp_cond (t := false) (h42.eval (k := 15) (v := .bool false) (by simp)) ?_
  simp only [Bool.false_eq_true, if_false]
  have h43 := h42.subs (l' := [(0, .string (fB (l ++ List.replicate j 0))), (1, .int .i64 (n : Int))]) rfl
  clear h42
  go_step
  go_step
  go_step
  go_step
  go_step
  go_step
  go_step
  refine wpk_val h43 (wanted_none rfl) rfl (by decide) (fr rfl) (.string (fB (l ++ List.replicate j 0))) (by unfold execOp; simp only [h43.eval (k := 0) (v := .string (fB (l ++ List.replicate j 0))) (by simp)]; rfl) fun a45 h44 => ?_
  refine wpk_val h44 (wanted_none rfl) rfl (by decide) (fr rfl) (.string (fB (l ++ List.replicate j 0))) (by unfold execOp; simp only [h44.eval (k := 18) (v := .string (fB (l ++ List.replicate j 0))) (by simp)]; rfl) fun a47 h46 => ?_
  have h48 := h46.subs (l' := [(4, .string (fB (l ++ List.replicate j 0))), (0, .string (fB (l ++ List.replicate j 0))), (1, .int .i64 (n : Int))]) rfl
  clear h46
  go_step
  go_step
  go_step
  go_step
  exact bodyPost_ret (results_tmp1 rfl (h48.known (4, .string (fB (l ++ List.replicate j 0))) (by simp))) h48.defs ⟨(by rw [rzL_ext (by omega), show n - l.length = j by omega]), rfl⟩
theorem sized_any (l : List UInt8) (n : Nat) (hn : n ≤ 1000000) (hl : l.length ≤ 1000000) (w : World) :
    Calls Try.prog 12 #[.string (fB l), .int .i64 (n : Int)] w fun e w' => e = .returned (.string (fB (rzL l n))) ∧ w = w' := by
  by_cases h : n < l.length
  · exact sized_short l n h hn hl w
  · exact sized_long l n hn hl (by omega) w
section
variable (r : RecT) (l : List UInt8) (hl : l.length ≤ 1000) (h0 : 0 ≤ r.o) (h1 : r.o ≤ 256)
include hl h0 h1
theorem resized_o (w : World) : Calls Try.prog 11 #[.string (fB l), .int .i64 r.o] w fun e w' => e = .returned (.string (fB (rzL l r.o.toNat))) ∧ Below w.heap.size w w' := by
  have z := resized_any l r.o.toNat (by omega) (by omega) w
  rw [Int.toNat_of_nonneg h0] at z
  exact z
theorem sized_o (w : World) : Calls Try.prog 12 #[.string (fB l), .int .i64 r.o] w fun e w' => e = .returned (.string (fB (rzL l r.o.toNat))) ∧ w = w' := by
  have z := sized_any l r.o.toNat (by omega) (by omega) w
  rw [Int.toNat_of_nonneg h0] at z
  exact z
end
theorem resized_m (r : RecT) (l : List UInt8) (hl : l.length ≤ 1000) (h : r.o.toNat + r.d.length ≤ 1000) (w : World) : Calls Try.prog 11 #[.string (fB l), .int .i64 (max ((r.o.toNat + r.d.length : Nat) : Int) (l.length : Int))] w fun e w' => e = .returned (.string (fB (rzL l (max (r.o.toNat + r.d.length) l.length)))) ∧ Below w.heap.size w w' := by
  have z := resized_any l (max (r.o.toNat + r.d.length) l.length) (by omega) (by omega) w
  rw [show (((max (r.o.toNat + r.d.length) l.length) : Nat) : Int) = max ((r.o.toNat + r.d.length : Nat) : Int) (l.length : Int) by omega] at z
  exact z
set_option maxHeartbeats 4000000 in
theorem ch_no (l : List UInt8) (r : RecT) (w : World) (hl : l.length ≤ 1000) (hd9 : r.d.length ≤ 1000000) (hM : mayR r = false) : Calls Try.prog 6 #[.string (fB l), .agg (recL r).toArray] w (ChP l r w) := by
  have hmay := hM
  have hres := chR_no (l := l) hM
  go_enter Try.func6, Try.ntmps6
  go_step
  go_step
  refine wpl_boxRec rfl rfl r rfl ?_
  rintro gb wb ⟨hgb, kb⟩ bb
  have HK := hid kb; have HB := hid bb; clear kb bb
  refine wpk_enter (N := 48) (l := [(0, .string (fB l)), (3, .pointer (some ⟨gb, 0, none⟩))]) ⟨rfl, (by intro x hx; simp only [List.mem_cons, List.not_mem_nil, or_false] at hx; rcases hx with rfl | rfl <;> rfl), rfl⟩ fun a2 h1 => ?_
  refine wpk_val h1 (wanted_none rfl) rfl (by decide) (fr rfl) (.string (fB [])) rfl fun a4 h3 => ?_
  refine wpk_val h3 (wanted_none rfl) rfl (by decide) (fr rfl) (.int .i64 0) rfl fun a6 h5 => ?_
  go_step
  go_step
  go_step
  go_step
  go_step
  go_step
  refine wpk_val h5 (wanted_none rfl) rfl (by decide) (fr rfl) (.agg (recL r).toArray) (by unfold execOp; simp only [h5.eval (k := 3) (v := .pointer (some ⟨gb, 0, none⟩)) (by simp)]; exact run_v (run_loadAt_mid _ _ _ _ (recL r) _ (fun i u hu => by rw [Nat.zero_add]; exact blkF_at HK.out hu) Try.underlying23 rfl (by rw [infoRec]; rfl))) fun a8 h7 => ?_
  refine wpk_call h7 (wanted_none rfl) rfl (by decide) (fr rfl) (fun args => callF_8 args _) rfl #[.agg (recL r).toArray] (by simp only [List.map_toArray, List.map_cons, List.map_nil, h7.eval (k := 7) (v := .agg (recL r).toArray) (by simp)]) (R := fun v' w' => v' = .bool (mayR r) ∧ Below wb.heap.size wb w') ((mayR_f r _).mono fun e w' q => ⟨_, q.1, rfl, q.2⟩) fun a10 v2 w2 r2 h9 => ?_
  obtain ⟨rfl, b2⟩ := r2; rw [hmay] at h9; have HK2 := hid (HK.out.mono b2); have HB2 := hid (kept_trans HB.out b2); clear b2
  refine wpk_val h9 (wanted_none rfl) rfl (by decide) (fr rfl) (.bool true) (run_not rfl (h9.eval (k := 8) (v := .bool false) (by simp))) fun a12 h11 => ?_
  have h13 := h11.subs (l' := [(9, .bool true), (5, .int .i64 0), (4, .string (fB [])), (0, .string (fB l)), (3, .pointer (some ⟨gb, 0, none⟩))]) rfl
  clear h11
  go_step
  go_step
  go_step
  refine wp_cond (t := true) (h13.eval (k := 9) (v := .bool true) (by simp)) ?_
  simp only [if_true]
  have h14 := h13.subs (l' := [(5, .int .i64 0), (4, .string (fB [])), (0, .string (fB l)), (3, .pointer (some ⟨gb, 0, none⟩))]) rfl
  clear h13
  go_step
  go_step
  have h15 := h14.subs (l' := [(5, .int .i64 0), (0, .string (fB l)), (3, .pointer (some ⟨gb, 0, none⟩))]) rfl
  clear h14
  refine wpk_val h15 (wanted_none rfl) rfl (by decide) (fr rfl) (.string (fB [])) rfl fun a17 h16 => ?_
  have h18 := h16.subs (l' := [(4, .string (fB [])), (0, .string (fB l)), (3, .pointer (some ⟨gb, 0, none⟩))]) rfl
  clear h16
  refine wpk_val h18 (wanted_none rfl) rfl (by decide) (fr rfl) (.int .i64 1) rfl fun a20 h19 => ?_
  go_step
  go_step
  go_step
  go_step
  simp only [Exit.then, Exit.inBlock]
  exact bodyPost_ret (results_tmp2 rfl (h19.known (4, .string (fB [])) (by simp)) (h19.known (5, .int .i64 1) (by simp))) h19.defs ⟨hres, HB2.out⟩
set_option maxHeartbeats 4000000 in
theorem cch_tb (l : List UInt8) (r : RecT) (w : World) (hl : l.length ≤ 1000) (hd9 : r.d.length ≤ 1000000) (hM : mayR r = true) (hT : r.t = true) (hB : 256 < (chL l r.t r.o.toNat r.d).length) : Calls Try.prog 6 #[.string (fB l), .agg (recL r).toArray] w (ChP l r w) := by
  have hmay := hM
  obtain ⟨hm1, hm2, hm3, hm4⟩ := mayR_b hM
  have hres := chR_big (l := l) hM hB
  go_enter Try.func6, Try.ntmps6
  go_step
  go_step
  refine wpl_boxRec rfl rfl r rfl ?_
  rintro gb wb ⟨hgb, kb⟩ bb
  have HK := hid kb; have HB := hid bb; clear kb bb
  refine wpk_enter (N := 48) (l := [(0, .string (fB l)), (3, .pointer (some ⟨gb, 0, none⟩))]) ⟨rfl, (by intro x hx; simp only [List.mem_cons, List.not_mem_nil, or_false] at hx; rcases hx with rfl | rfl <;> rfl), rfl⟩ fun a2 h1 => ?_
  refine wpk_val h1 (wanted_none rfl) rfl (by decide) (fr rfl) (.string (fB [])) rfl fun a4 h3 => ?_
  refine wpk_val h3 (wanted_none rfl) rfl (by decide) (fr rfl) (.int .i64 0) rfl fun a6 h5 => ?_
  go_step
  go_step
  go_step
  go_step
  go_step
  go_step
  refine wpk_val h5 (wanted_none rfl) rfl (by decide) (fr rfl) (.agg (recL r).toArray) (by unfold execOp; simp only [h5.eval (k := 3) (v := .pointer (some ⟨gb, 0, none⟩)) (by simp)]; exact run_v (run_loadAt_mid _ _ _ _ (recL r) _ (fun i u hu => by rw [Nat.zero_add]; exact blkF_at HK.out hu) Try.underlying23 rfl (by rw [infoRec]; rfl))) fun a8 h7 => ?_
  refine wpk_call h7 (wanted_none rfl) rfl (by decide) (fr rfl) (fun args => callF_8 args _) rfl #[.agg (recL r).toArray] (by simp only [List.map_toArray, List.map_cons, List.map_nil, h7.eval (k := 7) (v := .agg (recL r).toArray) (by simp)]) (R := fun v' w' => v' = .bool (mayR r) ∧ Below wb.heap.size wb w') ((mayR_f r _).mono fun e w' q => ⟨_, q.1, rfl, q.2⟩) fun a10 v2 w2 r2 h9 => ?_
  obtain ⟨rfl, b2⟩ := r2; rw [hmay] at h9; have HK2 := hid (HK.out.mono b2); have HB2 := hid (kept_trans HB.out b2); clear b2
  refine wpk_val h9 (wanted_none rfl) rfl (by decide) (fr rfl) (.bool false) (run_not rfl (h9.eval (k := 8) (v := .bool true) (by simp))) fun a12 h11 => ?_
  have h13 := h11.subs (l' := [(9, .bool false), (5, .int .i64 0), (4, .string (fB [])), (0, .string (fB l)), (3, .pointer (some ⟨gb, 0, none⟩))]) rfl
  clear h11
  go_step
  go_step
  go_step
  refine wp_cond (t := false) (h13.eval (k := 9) (v := .bool false) (by simp)) ?_
  simp only [Bool.false_eq_true, if_false]
  have h14 := h13.subs (l' := [(5, .int .i64 0), (4, .string (fB [])), (0, .string (fB l)), (3, .pointer (some ⟨gb, 0, none⟩))]) rfl
  clear h13
  go_step
  go_step
  go_step
  go_step
  go_step
  go_step
  refine wpk_val h14 (wanted_none rfl) rfl (by decide) (fr rfl) (.pointer (some ⟨gb, 3, none⟩)) (by unfold execOp; simp only [h14.eval (k := 3) (v := .pointer (some ⟨gb, 0, none⟩)) (by simp)]; exact run_v (faF_23_0_3 (gb) _)) fun a16 h15 => ?_
  refine wpk_val h15 (wanted_none rfl) rfl (by decide) (fr rfl) (.int .i64 r.o) (by unfold execOp; simp only [h15.eval (k := 10) (v := .pointer (some ⟨gb, 3, none⟩)) (by simp)]; exact run_v (loadIF (HK2.out.cell (i := 3) (by show 3 < 5; omega)))) fun a18 h17 => ?_
  refine wpk_val h17 (wanted_none rfl) rfl (by decide) (fr rfl) (.pointer (some ⟨gb, 4, none⟩)) (by unfold execOp; simp only [h17.eval (k := 3) (v := .pointer (some ⟨gb, 0, none⟩)) (by simp)]; exact run_v (faF_23_0_4 (gb) _)) fun a20 h19 => ?_
  refine wpk_val h19 (wanted_none rfl) rfl (by decide) (fr rfl) (.string (fB r.d)) (by unfold execOp; simp only [h19.eval (k := 12) (v := .pointer (some ⟨gb, 4, none⟩)) (by simp)]; exact run_v (loadSF (HK2.out.cell (i := 4) (by show 4 < 5; omega)))) fun a22 h21 => ?_
  refine wpk_val h21 (wanted_none rfl) rfl (by decide) (fr rfl) (.int .i64 (r.d.length : Int)) (run_lenF rfl (h21.eval (k := 13) (v := .string (fB r.d)) (by simp)) (by rfl) _) fun a24 h23 => ?_
  refine wpk_val h23 (wanted_none rfl) rfl (by decide) (fr rfl) (.int .i64 ((r.o.toNat + r.d.length : Nat) : Int)) (by unfold execOp; simp only [h23.eval (k := 11) (v := .int .i64 r.o) (by simp), h23.eval (k := 14) (v := .int .i64 (r.d.length : Int)) (by simp)]; exact run_v (addNP _ _ _ _ _ (by omega) (by omega) (by omega) _)) fun a26 h25 => ?_
  refine wpk_val h25 (wanted_none rfl) rfl (by decide) (fr rfl) (.int .i64 ((r.o.toNat + r.d.length : Nat) : Int)) (by unfold execOp; simp only [h25.eval (k := 15) (v := .int .i64 ((r.o.toNat + r.d.length : Nat) : Int)) (by simp)]; rfl) fun a28 h27 => ?_
  have h29 := h27.subs (l' := [(6, .int .i64 ((r.o.toNat + r.d.length : Nat) : Int)), (5, .int .i64 0), (4, .string (fB [])), (0, .string (fB l)), (3, .pointer (some ⟨gb, 0, none⟩))]) rfl
  clear h27
  go_step
  go_step
  go_step
  go_step
  go_step
  go_step
  refine wpk_val h29 (wanted_none rfl) rfl (by decide) (fr rfl) (.pointer (some ⟨gb, 2, none⟩)) (by unfold execOp; simp only [h29.eval (k := 3) (v := .pointer (some ⟨gb, 0, none⟩)) (by simp)]; exact run_v (faF_23_0_2 (gb) _)) fun a31 h30 => ?_
  refine wpk_val h30 (wanted_none rfl) rfl (by decide) (fr rfl) (.bool true) (by unfold execOp; simp only [h30.eval (k := 17) (v := .pointer (some ⟨gb, 2, none⟩)) (by simp)]; exact run_v (loadBF (cellT HK2.out hT))) fun a33 h32 => ?_
  refine wpk_val h32 (wanted_none rfl) rfl (by decide) (fr rfl) (.bool true) (by unfold execOp; simp only [h32.eval (k := 18) (v := .bool true) (by simp)]; rfl) fun a35 h34 => ?_
  have h36 := h34.subs (l' := [(16, .bool true), (6, .int .i64 ((r.o.toNat + r.d.length : Nat) : Int)), (5, .int .i64 0), (4, .string (fB [])), (0, .string (fB l)), (3, .pointer (some ⟨gb, 0, none⟩))]) rfl
  clear h34
  go_step
  go_step
  go_step
  refine wp_cond (t := true) (h36.eval (k := 16) (v := .bool true) (by simp)) ?_
  simp only [if_true]
  have h37 := h36.subs (l' := [(6, .int .i64 ((r.o.toNat + r.d.length : Nat) : Int)), (5, .int .i64 0), (4, .string (fB [])), (0, .string (fB l)), (3, .pointer (some ⟨gb, 0, none⟩))]) rfl
  clear h36
  go_step
  refine wpk_val h37 (wanted_none rfl) rfl (by decide) (fr rfl) (.string (fB l)) (by unfold execOp; simp only [h37.eval (k := 0) (v := .string (fB l)) (by simp)]; rfl) fun a39 h38 => ?_
  refine wpk_val h38 (wanted_none rfl) rfl (by decide) (fr rfl) (.pointer (some ⟨gb, 3, none⟩)) (by unfold execOp; simp only [h38.eval (k := 3) (v := .pointer (some ⟨gb, 0, none⟩)) (by simp)]; exact run_v (faF_23_0_3 (gb) _)) fun a41 h40 => ?_
  refine wpk_val h40 (wanted_none rfl) rfl (by decide) (fr rfl) (.int .i64 r.o) (by unfold execOp; simp only [h40.eval (k := 20) (v := .pointer (some ⟨gb, 3, none⟩)) (by simp)]; exact run_v (loadIF (HK2.out.cell (i := 3) (by show 3 < 5; omega)))) fun a43 h42 => ?_
  refine wpk_call h42 (wanted_none rfl) rfl (by decide) (fr rfl) (fun args => callF_11 args _) rfl #[.string (fB l), .int .i64 r.o] (by simp only [List.map_toArray, List.map_cons, List.map_nil, h42.eval (k := 19) (v := .string (fB l)) (by simp), h42.eval (k := 21) (v := .int .i64 r.o) (by simp)]) (R := fun v' w' => v' = .string (fB (rzL l r.o.toNat)) ∧ Below w2.heap.size w2 w') ((resized_o r l (by omega) (by omega) (by omega) _).mono fun e w' q => ⟨_, q.1, rfl, q.2⟩) fun a45 v3 w3 r3 h44 => ?_
  obtain ⟨rfl, b3⟩ := r3; have HK3 := hid (HK2.out.mono b3); have HB3 := hid (kept_trans HB2.out b3); clear b3
  have h46 := h44.subs (l' := [(22, .string (fB (rzL l r.o.toNat))), (21, .int .i64 r.o), (20, .pointer (some ⟨gb, 3, none⟩)), (19, .string (fB l)), (6, .int .i64 ((r.o.toNat + r.d.length : Nat) : Int)), (5, .int .i64 0), (4, .string (fB [])), (3, .pointer (some ⟨gb, 0, none⟩))]) rfl
  clear h44
  refine wpk_val h46 (wanted_none rfl) rfl (by decide) (fr rfl) (.string (fB (rzL l r.o.toNat))) (by unfold execOp; simp only [h46.eval (k := 22) (v := .string (fB (rzL l r.o.toNat))) (by simp)]; rfl) fun a48 h47 => ?_
  have h49 := h47.subs (l' := [(0, .string (fB (rzL l r.o.toNat))), (6, .int .i64 ((r.o.toNat + r.d.length : Nat) : Int)), (5, .int .i64 0), (4, .string (fB [])), (3, .pointer (some ⟨gb, 0, none⟩))]) rfl
  clear h47
  go_step
  go_step
  go_step
  have hz : (rzL l r.o.toNat) = chL l r.t r.o.toNat r.d := ch_t hT
  rw [hz] at h49
  go_step
  go_step
  go_step
  refine wpk_val h49 (wanted_none rfl) rfl (by decide) (fr rfl) (.string (fB (chL l r.t r.o.toNat r.d))) (by unfold execOp; simp only [h49.eval (k := 0) (v := .string (fB (chL l r.t r.o.toNat r.d))) (by simp)]; rfl) fun a51 h50 => ?_
  refine wpk_val h50 (wanted_none rfl) rfl (by decide) (fr rfl) (.int .i64 ((chL l r.t r.o.toNat r.d).length : Int)) (run_lenF rfl (h50.eval (k := 44) (v := .string (fB (chL l r.t r.o.toNat r.d))) (by simp)) (by rfl) _) fun a53 h52 => ?_
  refine wpk_val h52 (wanted_none rfl) rfl (by decide) (fr rfl) (.bool true) (by unfold execOp; simp only [h52.eval (k := 45) (v := .int .i64 ((chL l r.t r.o.toNat r.d).length : Int)) (by simp)]; exact run_v (gtIP _ _ _ _ _ (decide_eq_true (by omega)))) fun a55 h54 => ?_
  have h56 := h54.subs (l' := [(46, .bool true), (0, .string (fB (chL l r.t r.o.toNat r.d))), (6, .int .i64 ((r.o.toNat + r.d.length : Nat) : Int)), (5, .int .i64 0), (4, .string (fB [])), (3, .pointer (some ⟨gb, 0, none⟩))]) rfl
  clear h54
  go_step
  go_step
  go_step
  refine wp_cond (t := true) (h56.eval (k := 46) (v := .bool true) (by simp)) ?_
  simp only [if_true]
  have h57 := h56.subs (l' := [(0, .string (fB (chL l r.t r.o.toNat r.d))), (6, .int .i64 ((r.o.toNat + r.d.length : Nat) : Int)), (5, .int .i64 0), (4, .string (fB [])), (3, .pointer (some ⟨gb, 0, none⟩))]) rfl
  clear h56
  go_step
  go_step
  have h58 := h57.subs (l' := [(0, .string (fB (chL l r.t r.o.toNat r.d))), (6, .int .i64 ((r.o.toNat + r.d.length : Nat) : Int)), (5, .int .i64 0), (3, .pointer (some ⟨gb, 0, none⟩))]) rfl
  clear h57
  refine wpk_val h58 (wanted_none rfl) rfl (by decide) (fr rfl) (.string (fB [])) rfl fun a60 h59 => ?_
  have h61 := h59.subs (l' := [(4, .string (fB [])), (0, .string (fB (chL l r.t r.o.toNat r.d))), (6, .int .i64 ((r.o.toNat + r.d.length : Nat) : Int)), (3, .pointer (some ⟨gb, 0, none⟩))]) rfl
  clear h59
  refine wpk_val h61 (wanted_none rfl) rfl (by decide) (fr rfl) (.int .i64 19) rfl fun a63 h62 => ?_
  go_step
  go_step
  go_step
  go_step
  simp only [Exit.then, Exit.inBlock]
  exact bodyPost_ret (results_tmp2 rfl (h62.known (4, .string (fB [])) (by simp)) (h62.known (5, .int .i64 19) (by simp))) h62.defs ⟨hres, HB3.out⟩
set_option maxHeartbeats 4000000 in
theorem cch_ts (l : List UInt8) (r : RecT) (w : World) (hl : l.length ≤ 1000) (hd9 : r.d.length ≤ 1000000) (hM : mayR r = true) (hT : r.t = true) (hB : ¬ 256 < (chL l r.t r.o.toNat r.d).length) : Calls Try.prog 6 #[.string (fB l), .agg (recL r).toArray] w (ChP l r w) := by
  have hmay := hM
  obtain ⟨hm1, hm2, hm3, hm4⟩ := mayR_b hM
  have hres := chR_ok (l := l) hM hB
  go_enter Try.func6, Try.ntmps6
  go_step
  go_step
  refine wpl_boxRec rfl rfl r rfl ?_
  rintro gb wb ⟨hgb, kb⟩ bb
  have HK := hid kb; have HB := hid bb; clear kb bb
  refine wpk_enter (N := 48) (l := [(0, .string (fB l)), (3, .pointer (some ⟨gb, 0, none⟩))]) ⟨rfl, (by intro x hx; simp only [List.mem_cons, List.not_mem_nil, or_false] at hx; rcases hx with rfl | rfl <;> rfl), rfl⟩ fun a2 h1 => ?_
  refine wpk_val h1 (wanted_none rfl) rfl (by decide) (fr rfl) (.string (fB [])) rfl fun a4 h3 => ?_
  refine wpk_val h3 (wanted_none rfl) rfl (by decide) (fr rfl) (.int .i64 0) rfl fun a6 h5 => ?_
  go_step
  go_step
  go_step
  go_step
  go_step
  go_step
  refine wpk_val h5 (wanted_none rfl) rfl (by decide) (fr rfl) (.agg (recL r).toArray) (by unfold execOp; simp only [h5.eval (k := 3) (v := .pointer (some ⟨gb, 0, none⟩)) (by simp)]; exact run_v (run_loadAt_mid _ _ _ _ (recL r) _ (fun i u hu => by rw [Nat.zero_add]; exact blkF_at HK.out hu) Try.underlying23 rfl (by rw [infoRec]; rfl))) fun a8 h7 => ?_
  refine wpk_call h7 (wanted_none rfl) rfl (by decide) (fr rfl) (fun args => callF_8 args _) rfl #[.agg (recL r).toArray] (by simp only [List.map_toArray, List.map_cons, List.map_nil, h7.eval (k := 7) (v := .agg (recL r).toArray) (by simp)]) (R := fun v' w' => v' = .bool (mayR r) ∧ Below wb.heap.size wb w') ((mayR_f r _).mono fun e w' q => ⟨_, q.1, rfl, q.2⟩) fun a10 v2 w2 r2 h9 => ?_
  obtain ⟨rfl, b2⟩ := r2; rw [hmay] at h9; have HK2 := hid (HK.out.mono b2); have HB2 := hid (kept_trans HB.out b2); clear b2
  refine wpk_val h9 (wanted_none rfl) rfl (by decide) (fr rfl) (.bool false) (run_not rfl (h9.eval (k := 8) (v := .bool true) (by simp))) fun a12 h11 => ?_
  have h13 := h11.subs (l' := [(9, .bool false), (5, .int .i64 0), (4, .string (fB [])), (0, .string (fB l)), (3, .pointer (some ⟨gb, 0, none⟩))]) rfl
  clear h11
  go_step
  go_step
  go_step
  refine wp_cond (t := false) (h13.eval (k := 9) (v := .bool false) (by simp)) ?_
  simp only [Bool.false_eq_true, if_false]
  have h14 := h13.subs (l' := [(5, .int .i64 0), (4, .string (fB [])), (0, .string (fB l)), (3, .pointer (some ⟨gb, 0, none⟩))]) rfl
  clear h13
  go_step
  go_step
  go_step
  go_step
  go_step
  go_step
  refine wpk_val h14 (wanted_none rfl) rfl (by decide) (fr rfl) (.pointer (some ⟨gb, 3, none⟩)) (by unfold execOp; simp only [h14.eval (k := 3) (v := .pointer (some ⟨gb, 0, none⟩)) (by simp)]; exact run_v (faF_23_0_3 (gb) _)) fun a16 h15 => ?_
  refine wpk_val h15 (wanted_none rfl) rfl (by decide) (fr rfl) (.int .i64 r.o) (by unfold execOp; simp only [h15.eval (k := 10) (v := .pointer (some ⟨gb, 3, none⟩)) (by simp)]; exact run_v (loadIF (HK2.out.cell (i := 3) (by show 3 < 5; omega)))) fun a18 h17 => ?_
  refine wpk_val h17 (wanted_none rfl) rfl (by decide) (fr rfl) (.pointer (some ⟨gb, 4, none⟩)) (by unfold execOp; simp only [h17.eval (k := 3) (v := .pointer (some ⟨gb, 0, none⟩)) (by simp)]; exact run_v (faF_23_0_4 (gb) _)) fun a20 h19 => ?_
  refine wpk_val h19 (wanted_none rfl) rfl (by decide) (fr rfl) (.string (fB r.d)) (by unfold execOp; simp only [h19.eval (k := 12) (v := .pointer (some ⟨gb, 4, none⟩)) (by simp)]; exact run_v (loadSF (HK2.out.cell (i := 4) (by show 4 < 5; omega)))) fun a22 h21 => ?_
  refine wpk_val h21 (wanted_none rfl) rfl (by decide) (fr rfl) (.int .i64 (r.d.length : Int)) (run_lenF rfl (h21.eval (k := 13) (v := .string (fB r.d)) (by simp)) (by rfl) _) fun a24 h23 => ?_
  refine wpk_val h23 (wanted_none rfl) rfl (by decide) (fr rfl) (.int .i64 ((r.o.toNat + r.d.length : Nat) : Int)) (by unfold execOp; simp only [h23.eval (k := 11) (v := .int .i64 r.o) (by simp), h23.eval (k := 14) (v := .int .i64 (r.d.length : Int)) (by simp)]; exact run_v (addNP _ _ _ _ _ (by omega) (by omega) (by omega) _)) fun a26 h25 => ?_
  refine wpk_val h25 (wanted_none rfl) rfl (by decide) (fr rfl) (.int .i64 ((r.o.toNat + r.d.length : Nat) : Int)) (by unfold execOp; simp only [h25.eval (k := 15) (v := .int .i64 ((r.o.toNat + r.d.length : Nat) : Int)) (by simp)]; rfl) fun a28 h27 => ?_
  have h29 := h27.subs (l' := [(6, .int .i64 ((r.o.toNat + r.d.length : Nat) : Int)), (5, .int .i64 0), (4, .string (fB [])), (0, .string (fB l)), (3, .pointer (some ⟨gb, 0, none⟩))]) rfl
  clear h27
  go_step
  go_step
  go_step
  go_step
  go_step
  go_step
  refine wpk_val h29 (wanted_none rfl) rfl (by decide) (fr rfl) (.pointer (some ⟨gb, 2, none⟩)) (by unfold execOp; simp only [h29.eval (k := 3) (v := .pointer (some ⟨gb, 0, none⟩)) (by simp)]; exact run_v (faF_23_0_2 (gb) _)) fun a31 h30 => ?_
  refine wpk_val h30 (wanted_none rfl) rfl (by decide) (fr rfl) (.bool true) (by unfold execOp; simp only [h30.eval (k := 17) (v := .pointer (some ⟨gb, 2, none⟩)) (by simp)]; exact run_v (loadBF (cellT HK2.out hT))) fun a33 h32 => ?_
  refine wpk_val h32 (wanted_none rfl) rfl (by decide) (fr rfl) (.bool true) (by unfold execOp; simp only [h32.eval (k := 18) (v := .bool true) (by simp)]; rfl) fun a35 h34 => ?_
  have h36 := h34.subs (l' := [(16, .bool true), (6, .int .i64 ((r.o.toNat + r.d.length : Nat) : Int)), (5, .int .i64 0), (4, .string (fB [])), (0, .string (fB l)), (3, .pointer (some ⟨gb, 0, none⟩))]) rfl
  clear h34
  go_step
  go_step
  go_step
  refine wp_cond (t := true) (h36.eval (k := 16) (v := .bool true) (by simp)) ?_
  simp only [if_true]
  have h37 := h36.subs (l' := [(6, .int .i64 ((r.o.toNat + r.d.length : Nat) : Int)), (5, .int .i64 0), (4, .string (fB [])), (0, .string (fB l)), (3, .pointer (some ⟨gb, 0, none⟩))]) rfl
  clear h36
  go_step
  refine wpk_val h37 (wanted_none rfl) rfl (by decide) (fr rfl) (.string (fB l)) (by unfold execOp; simp only [h37.eval (k := 0) (v := .string (fB l)) (by simp)]; rfl) fun a39 h38 => ?_
  refine wpk_val h38 (wanted_none rfl) rfl (by decide) (fr rfl) (.pointer (some ⟨gb, 3, none⟩)) (by unfold execOp; simp only [h38.eval (k := 3) (v := .pointer (some ⟨gb, 0, none⟩)) (by simp)]; exact run_v (faF_23_0_3 (gb) _)) fun a41 h40 => ?_
  refine wpk_val h40 (wanted_none rfl) rfl (by decide) (fr rfl) (.int .i64 r.o) (by unfold execOp; simp only [h40.eval (k := 20) (v := .pointer (some ⟨gb, 3, none⟩)) (by simp)]; exact run_v (loadIF (HK2.out.cell (i := 3) (by show 3 < 5; omega)))) fun a43 h42 => ?_
  refine wpk_call h42 (wanted_none rfl) rfl (by decide) (fr rfl) (fun args => callF_11 args _) rfl #[.string (fB l), .int .i64 r.o] (by simp only [List.map_toArray, List.map_cons, List.map_nil, h42.eval (k := 19) (v := .string (fB l)) (by simp), h42.eval (k := 21) (v := .int .i64 r.o) (by simp)]) (R := fun v' w' => v' = .string (fB (rzL l r.o.toNat)) ∧ Below w2.heap.size w2 w') ((resized_o r l (by omega) (by omega) (by omega) _).mono fun e w' q => ⟨_, q.1, rfl, q.2⟩) fun a45 v3 w3 r3 h44 => ?_
  obtain ⟨rfl, b3⟩ := r3; have HK3 := hid (HK2.out.mono b3); have HB3 := hid (kept_trans HB2.out b3); clear b3
  have h46 := h44.subs (l' := [(22, .string (fB (rzL l r.o.toNat))), (21, .int .i64 r.o), (20, .pointer (some ⟨gb, 3, none⟩)), (19, .string (fB l)), (6, .int .i64 ((r.o.toNat + r.d.length : Nat) : Int)), (5, .int .i64 0), (4, .string (fB [])), (3, .pointer (some ⟨gb, 0, none⟩))]) rfl
  clear h44
  refine wpk_val h46 (wanted_none rfl) rfl (by decide) (fr rfl) (.string (fB (rzL l r.o.toNat))) (by unfold execOp; simp only [h46.eval (k := 22) (v := .string (fB (rzL l r.o.toNat))) (by simp)]; rfl) fun a48 h47 => ?_
  have h49 := h47.subs (l' := [(0, .string (fB (rzL l r.o.toNat))), (6, .int .i64 ((r.o.toNat + r.d.length : Nat) : Int)), (5, .int .i64 0), (4, .string (fB [])), (3, .pointer (some ⟨gb, 0, none⟩))]) rfl
  clear h47
  go_step
  go_step
  go_step
  have hz : (rzL l r.o.toNat) = chL l r.t r.o.toNat r.d := ch_t hT
  rw [hz] at h49
  go_step
  go_step
  go_step
  refine wpk_val h49 (wanted_none rfl) rfl (by decide) (fr rfl) (.string (fB (chL l r.t r.o.toNat r.d))) (by unfold execOp; simp only [h49.eval (k := 0) (v := .string (fB (chL l r.t r.o.toNat r.d))) (by simp)]; rfl) fun a51 h50 => ?_
  refine wpk_val h50 (wanted_none rfl) rfl (by decide) (fr rfl) (.int .i64 ((chL l r.t r.o.toNat r.d).length : Int)) (run_lenF rfl (h50.eval (k := 44) (v := .string (fB (chL l r.t r.o.toNat r.d))) (by simp)) (by rfl) _) fun a53 h52 => ?_
  refine wpk_val h52 (wanted_none rfl) rfl (by decide) (fr rfl) (.bool false) (by unfold execOp; simp only [h52.eval (k := 45) (v := .int .i64 ((chL l r.t r.o.toNat r.d).length : Int)) (by simp)]; exact run_v (gtIP _ _ _ _ _ (decide_eq_false (by omega)))) fun a55 h54 => ?_
  have h56 := h54.subs (l' := [(46, .bool false), (0, .string (fB (chL l r.t r.o.toNat r.d))), (6, .int .i64 ((r.o.toNat + r.d.length : Nat) : Int)), (5, .int .i64 0), (4, .string (fB [])), (3, .pointer (some ⟨gb, 0, none⟩))]) rfl
  clear h54
  go_step
  go_step
  go_step
  refine wp_cond (t := false) (h56.eval (k := 46) (v := .bool false) (by simp)) ?_
  simp only [Bool.false_eq_true, if_false]
  have h57 := h56.subs (l' := [(0, .string (fB (chL l r.t r.o.toNat r.d))), (6, .int .i64 ((r.o.toNat + r.d.length : Nat) : Int)), (5, .int .i64 0), (4, .string (fB [])), (3, .pointer (some ⟨gb, 0, none⟩))]) rfl
  clear h56
  go_step
  go_step
  go_step
  go_step
  go_step
  refine wpk_val h57 (wanted_none rfl) rfl (by decide) (fr rfl) (.string (fB (chL l r.t r.o.toNat r.d))) (by unfold execOp; simp only [h57.eval (k := 0) (v := .string (fB (chL l r.t r.o.toNat r.d))) (by simp)]; rfl) fun a59 h58 => ?_
  have h60 := h58.subs (l' := [(47, .string (fB (chL l r.t r.o.toNat r.d))), (0, .string (fB (chL l r.t r.o.toNat r.d))), (6, .int .i64 ((r.o.toNat + r.d.length : Nat) : Int)), (5, .int .i64 0), (3, .pointer (some ⟨gb, 0, none⟩))]) rfl
  clear h58
  refine wpk_val h60 (wanted_none rfl) rfl (by decide) (fr rfl) (.string (fB (chL l r.t r.o.toNat r.d))) (by unfold execOp; simp only [h60.eval (k := 47) (v := .string (fB (chL l r.t r.o.toNat r.d))) (by simp)]; rfl) fun a62 h61 => ?_
  have h63 := h61.subs (l' := [(4, .string (fB (chL l r.t r.o.toNat r.d))), (47, .string (fB (chL l r.t r.o.toNat r.d))), (0, .string (fB (chL l r.t r.o.toNat r.d))), (6, .int .i64 ((r.o.toNat + r.d.length : Nat) : Int)), (3, .pointer (some ⟨gb, 0, none⟩))]) rfl
  clear h61
  refine wpk_val h63 (wanted_none rfl) rfl (by decide) (fr rfl) (.int .i64 0) rfl fun a65 h64 => ?_
  have h66 := h64.subs (l' := [(5, .int .i64 0), (4, .string (fB (chL l r.t r.o.toNat r.d))), (0, .string (fB (chL l r.t r.o.toNat r.d))), (6, .int .i64 ((r.o.toNat + r.d.length : Nat) : Int)), (3, .pointer (some ⟨gb, 0, none⟩))]) rfl
  clear h64
  go_step
  go_step
  go_step
  go_step
  exact bodyPost_ret (results_tmp2 rfl (h66.known (4, .string (fB (chL l r.t r.o.toNat r.d))) (by simp)) (h66.known (5, .int .i64 0) (by simp))) h66.defs ⟨hres, HB3.out⟩
set_option maxHeartbeats 4000000 in
theorem cch_db (l : List UInt8) (r : RecT) (w : World) (hl : l.length ≤ 1000) (hd9 : r.d.length ≤ 1000000) (hM : mayR r = true) (hT : r.t = false) (hD : ¬ r.d = []) (hB : 256 < (chL l r.t r.o.toNat r.d).length) : Calls Try.prog 6 #[.string (fB l), .agg (recL r).toArray] w (ChP l r w) := by
  have hmay := hM
  obtain ⟨hm1, hm2, hm3, hm4⟩ := mayR_b hM
  have hres := chR_big (l := l) hM hB
  go_enter Try.func6, Try.ntmps6
  go_step
  go_step
  refine wpl_boxRec rfl rfl r rfl ?_
  rintro gb wb ⟨hgb, kb⟩ bb
  have HK := hid kb; have HB := hid bb; clear kb bb
  refine wpk_enter (N := 48) (l := [(0, .string (fB l)), (3, .pointer (some ⟨gb, 0, none⟩))]) ⟨rfl, (by intro x hx; simp only [List.mem_cons, List.not_mem_nil, or_false] at hx; rcases hx with rfl | rfl <;> rfl), rfl⟩ fun a2 h1 => ?_
  refine wpk_val h1 (wanted_none rfl) rfl (by decide) (fr rfl) (.string (fB [])) rfl fun a4 h3 => ?_
  refine wpk_val h3 (wanted_none rfl) rfl (by decide) (fr rfl) (.int .i64 0) rfl fun a6 h5 => ?_
  go_step
  go_step
  go_step
  go_step
  go_step
  go_step
  refine wpk_val h5 (wanted_none rfl) rfl (by decide) (fr rfl) (.agg (recL r).toArray) (by unfold execOp; simp only [h5.eval (k := 3) (v := .pointer (some ⟨gb, 0, none⟩)) (by simp)]; exact run_v (run_loadAt_mid _ _ _ _ (recL r) _ (fun i u hu => by rw [Nat.zero_add]; exact blkF_at HK.out hu) Try.underlying23 rfl (by rw [infoRec]; rfl))) fun a8 h7 => ?_
  refine wpk_call h7 (wanted_none rfl) rfl (by decide) (fr rfl) (fun args => callF_8 args _) rfl #[.agg (recL r).toArray] (by simp only [List.map_toArray, List.map_cons, List.map_nil, h7.eval (k := 7) (v := .agg (recL r).toArray) (by simp)]) (R := fun v' w' => v' = .bool (mayR r) ∧ Below wb.heap.size wb w') ((mayR_f r _).mono fun e w' q => ⟨_, q.1, rfl, q.2⟩) fun a10 v2 w2 r2 h9 => ?_
  obtain ⟨rfl, b2⟩ := r2; rw [hmay] at h9; have HK2 := hid (HK.out.mono b2); have HB2 := hid (kept_trans HB.out b2); clear b2
  refine wpk_val h9 (wanted_none rfl) rfl (by decide) (fr rfl) (.bool false) (run_not rfl (h9.eval (k := 8) (v := .bool true) (by simp))) fun a12 h11 => ?_
  have h13 := h11.subs (l' := [(9, .bool false), (5, .int .i64 0), (4, .string (fB [])), (0, .string (fB l)), (3, .pointer (some ⟨gb, 0, none⟩))]) rfl
  clear h11
  go_step
  go_step
  go_step
  refine wp_cond (t := false) (h13.eval (k := 9) (v := .bool false) (by simp)) ?_
  simp only [Bool.false_eq_true, if_false]
  have h14 := h13.subs (l' := [(5, .int .i64 0), (4, .string (fB [])), (0, .string (fB l)), (3, .pointer (some ⟨gb, 0, none⟩))]) rfl
  clear h13
  go_step
  go_step
  go_step
  go_step
  go_step
  go_step
  refine wpk_val h14 (wanted_none rfl) rfl (by decide) (fr rfl) (.pointer (some ⟨gb, 3, none⟩)) (by unfold execOp; simp only [h14.eval (k := 3) (v := .pointer (some ⟨gb, 0, none⟩)) (by simp)]; exact run_v (faF_23_0_3 (gb) _)) fun a16 h15 => ?_
  refine wpk_val h15 (wanted_none rfl) rfl (by decide) (fr rfl) (.int .i64 r.o) (by unfold execOp; simp only [h15.eval (k := 10) (v := .pointer (some ⟨gb, 3, none⟩)) (by simp)]; exact run_v (loadIF (HK2.out.cell (i := 3) (by show 3 < 5; omega)))) fun a18 h17 => ?_
  refine wpk_val h17 (wanted_none rfl) rfl (by decide) (fr rfl) (.pointer (some ⟨gb, 4, none⟩)) (by unfold execOp; simp only [h17.eval (k := 3) (v := .pointer (some ⟨gb, 0, none⟩)) (by simp)]; exact run_v (faF_23_0_4 (gb) _)) fun a20 h19 => ?_
  refine wpk_val h19 (wanted_none rfl) rfl (by decide) (fr rfl) (.string (fB r.d)) (by unfold execOp; simp only [h19.eval (k := 12) (v := .pointer (some ⟨gb, 4, none⟩)) (by simp)]; exact run_v (loadSF (HK2.out.cell (i := 4) (by show 4 < 5; omega)))) fun a22 h21 => ?_
  refine wpk_val h21 (wanted_none rfl) rfl (by decide) (fr rfl) (.int .i64 (r.d.length : Int)) (run_lenF rfl (h21.eval (k := 13) (v := .string (fB r.d)) (by simp)) (by rfl) _) fun a24 h23 => ?_
  refine wpk_val h23 (wanted_none rfl) rfl (by decide) (fr rfl) (.int .i64 ((r.o.toNat + r.d.length : Nat) : Int)) (by unfold execOp; simp only [h23.eval (k := 11) (v := .int .i64 r.o) (by simp), h23.eval (k := 14) (v := .int .i64 (r.d.length : Int)) (by simp)]; exact run_v (addNP _ _ _ _ _ (by omega) (by omega) (by omega) _)) fun a26 h25 => ?_
  refine wpk_val h25 (wanted_none rfl) rfl (by decide) (fr rfl) (.int .i64 ((r.o.toNat + r.d.length : Nat) : Int)) (by unfold execOp; simp only [h25.eval (k := 15) (v := .int .i64 ((r.o.toNat + r.d.length : Nat) : Int)) (by simp)]; rfl) fun a28 h27 => ?_
  have h29 := h27.subs (l' := [(6, .int .i64 ((r.o.toNat + r.d.length : Nat) : Int)), (5, .int .i64 0), (4, .string (fB [])), (0, .string (fB l)), (3, .pointer (some ⟨gb, 0, none⟩))]) rfl
  clear h27
  go_step
  go_step
  go_step
  go_step
  go_step
  go_step
  refine wpk_val h29 (wanted_none rfl) rfl (by decide) (fr rfl) (.pointer (some ⟨gb, 2, none⟩)) (by unfold execOp; simp only [h29.eval (k := 3) (v := .pointer (some ⟨gb, 0, none⟩)) (by simp)]; exact run_v (faF_23_0_2 (gb) _)) fun a31 h30 => ?_
  refine wpk_val h30 (wanted_none rfl) rfl (by decide) (fr rfl) (.bool false) (by unfold execOp; simp only [h30.eval (k := 17) (v := .pointer (some ⟨gb, 2, none⟩)) (by simp)]; exact run_v (loadBF (cellT HK2.out hT))) fun a33 h32 => ?_
  refine wpk_val h32 (wanted_none rfl) rfl (by decide) (fr rfl) (.bool false) (by unfold execOp; simp only [h32.eval (k := 18) (v := .bool false) (by simp)]; rfl) fun a35 h34 => ?_
  have h36 := h34.subs (l' := [(16, .bool false), (6, .int .i64 ((r.o.toNat + r.d.length : Nat) : Int)), (5, .int .i64 0), (4, .string (fB [])), (0, .string (fB l)), (3, .pointer (some ⟨gb, 0, none⟩))]) rfl
  clear h34
  go_step
  go_step
  go_step
  refine wp_cond (t := false) (h36.eval (k := 16) (v := .bool false) (by simp)) ?_
  simp only [Bool.false_eq_true, if_false]
  have h37 := h36.subs (l' := [(6, .int .i64 ((r.o.toNat + r.d.length : Nat) : Int)), (5, .int .i64 0), (4, .string (fB [])), (0, .string (fB l)), (3, .pointer (some ⟨gb, 0, none⟩))]) rfl
  clear h36
  go_step
  go_step
  refine wpk_val h37 (wanted_none rfl) rfl (by decide) (fr rfl) (.pointer (some ⟨gb, 4, none⟩)) (by unfold execOp; simp only [h37.eval (k := 3) (v := .pointer (some ⟨gb, 0, none⟩)) (by simp)]; exact run_v (faF_23_0_4 (gb) _)) fun a39 h38 => ?_
  refine wpk_val h38 (wanted_none rfl) rfl (by decide) (fr rfl) (.string (fB r.d)) (by unfold execOp; simp only [h38.eval (k := 24) (v := .pointer (some ⟨gb, 4, none⟩)) (by simp)]; exact run_v (loadSF (HK2.out.cell (i := 4) (by show 4 < 5; omega)))) fun a41 h40 => ?_
  refine wpk_val h40 (wanted_none rfl) rfl (by decide) (fr rfl) (.bool true) (by unfold execOp; simp only [h40.eval (k := 25) (v := .string (fB r.d)) (by simp)]; exact run_v (neF _ _ _ _ _ (decide_eq_true (by assumption)))) fun a43 h42 => ?_
  refine wpk_val h42 (wanted_none rfl) rfl (by decide) (fr rfl) (.bool true) (by unfold execOp; simp only [h42.eval (k := 26) (v := .bool true) (by simp)]; rfl) fun a45 h44 => ?_
  have h46 := h44.subs (l' := [(23, .bool true), (6, .int .i64 ((r.o.toNat + r.d.length : Nat) : Int)), (5, .int .i64 0), (4, .string (fB [])), (0, .string (fB l)), (3, .pointer (some ⟨gb, 0, none⟩))]) rfl
  clear h44
  go_step
  go_step
  go_step
  refine wp_cond (t := true) (h46.eval (k := 23) (v := .bool true) (by simp)) ?_
  simp only [if_true]
  have h47 := h46.subs (l' := [(6, .int .i64 ((r.o.toNat + r.d.length : Nat) : Int)), (5, .int .i64 0), (4, .string (fB [])), (0, .string (fB l)), (3, .pointer (some ⟨gb, 0, none⟩))]) rfl
  clear h46
  go_step
  go_step
  refine wpk_val h47 (wanted_none rfl) rfl (by decide) (fr rfl) (.string (fB l)) (by unfold execOp; simp only [h47.eval (k := 0) (v := .string (fB l)) (by simp)]; rfl) fun a49 h48 => ?_
  refine wpk_val h48 (wanted_none rfl) rfl (by decide) (fr rfl) (.int .i64 ((r.o.toNat + r.d.length : Nat) : Int)) (by unfold execOp; simp only [h48.eval (k := 6) (v := .int .i64 ((r.o.toNat + r.d.length : Nat) : Int)) (by simp)]; rfl) fun a51 h50 => ?_
  refine wpk_val h50 (wanted_none rfl) rfl (by decide) (fr rfl) (.string (fB l)) (by unfold execOp; simp only [h50.eval (k := 0) (v := .string (fB l)) (by simp)]; rfl) fun a53 h52 => ?_
  refine wpk_val h52 (wanted_none rfl) rfl (by decide) (fr rfl) (.int .i64 (l.length : Int)) (run_lenF rfl (h52.eval (k := 29) (v := .string (fB l)) (by simp)) (by rfl) _) fun a55 h54 => ?_
  refine wpk_val h54 (wanted_none rfl) rfl (by decide) (fr rfl) (.int .i64 (max ((r.o.toNat + r.d.length : Nat) : Int) (l.length : Int))) (run_maxF rfl (h54.eval (k := 28) (v := .int .i64 ((r.o.toNat + r.d.length : Nat) : Int)) (by simp)) (h54.eval (k := 30) (v := .int .i64 (l.length : Int)) (by simp)) _) fun a57 h56 => ?_
  refine wpk_call h56 (wanted_none rfl) rfl (by decide) (fr rfl) (fun args => callF_11 args _) rfl #[.string (fB l), .int .i64 (max ((r.o.toNat + r.d.length : Nat) : Int) (l.length : Int))] (by simp only [List.map_toArray, List.map_cons, List.map_nil, h56.eval (k := 27) (v := .string (fB l)) (by simp), h56.eval (k := 31) (v := .int .i64 (max ((r.o.toNat + r.d.length : Nat) : Int) (l.length : Int))) (by simp)]) (R := fun v' w' => v' = .string (fB (rzL l (max (r.o.toNat + r.d.length) l.length))) ∧ Below w2.heap.size w2 w') ((resized_m r l (by omega) (by omega) _).mono fun e w' q => ⟨_, q.1, rfl, q.2⟩) fun a59 v3 w3 r3 h58 => ?_
  obtain ⟨rfl, b3⟩ := r3; have HK3 := hid (HK2.out.mono b3); have HB3 := hid (kept_trans HB2.out b3); clear b3
  have h60 := h58.subs (l' := [(32, .string (fB (rzL l (max (r.o.toNat + r.d.length) l.length)))), (31, .int .i64 (max ((r.o.toNat + r.d.length : Nat) : Int) (l.length : Int))), (30, .int .i64 (l.length : Int)), (29, .string (fB l)), (28, .int .i64 ((r.o.toNat + r.d.length : Nat) : Int)), (27, .string (fB l)), (6, .int .i64 ((r.o.toNat + r.d.length : Nat) : Int)), (5, .int .i64 0), (4, .string (fB [])), (3, .pointer (some ⟨gb, 0, none⟩))]) rfl
  clear h58
  refine wpk_val h60 (wanted_none rfl) rfl (by decide) (fr rfl) (.string (fB (rzL l (max (r.o.toNat + r.d.length) l.length)))) (by unfold execOp; simp only [h60.eval (k := 32) (v := .string (fB (rzL l (max (r.o.toNat + r.d.length) l.length)))) (by simp)]; rfl) fun a62 h61 => ?_
  have h63 := h61.subs (l' := [(0, .string (fB (rzL l (max (r.o.toNat + r.d.length) l.length)))), (6, .int .i64 ((r.o.toNat + r.d.length : Nat) : Int)), (5, .int .i64 0), (4, .string (fB [])), (3, .pointer (some ⟨gb, 0, none⟩))]) rfl
  clear h61
  go_step
  go_step
  go_step
  have HK4 := hid (HK3.out.mono (Below.refl _ _).drew); have HB4 := hid (Below.drew (HB3.out))
  refine wp_region_held_drew (S := fun w' => w' = w3.drew) (by kernel_rfl) rfl (fun hS64 => ?_)
  refine wpk_take hS64 h63 0 rfl rfl (by decide) (fr rfl) (by kernel_rfl) (by kernel_rfl) (by kernel_rfl) (fun _ _ _ _ h => h) (.string (fB (rzL l (max (r.o.toNat + r.d.length) l.length)))) (Or.inl ⟨Eq.refl true, fun w1 hSw => (by cases hSw; exact (by show (execOp _ (⟨_, .move (.tmp 0), _, _, _, _⟩ : Oper)).run _ _ = _; exact (by unfold execOp; simp only [h63.eval (k := 0) (v := .string (fB (rzL l (max (r.o.toNat + r.d.length) l.length)))) (by simp)]; rfl)))⟩) fun a66 h65 => ?_
  refine wpk_take hS64 h65 1 rfl rfl (by decide) (fr rfl) (by kernel_rfl) (by kernel_rfl) (by kernel_rfl) (fun _ _ _ _ h => h) (.pointer (some ⟨gb, 3, none⟩)) (Or.inl ⟨Eq.refl true, fun w1 hSw => (by cases hSw; exact (by show (execOp _ (⟨_, .fieldAddr 23 (.tmp 3) 3, _, _, _, _⟩ : Oper)).run _ _ = _; exact (by unfold execOp; simp only [h65.eval (k := 3) (v := .pointer (some ⟨gb, 0, none⟩)) (by simp)]; exact run_v (faF_23_0_3 (gb) _))))⟩) fun a68 h67 => ?_
  refine wpk_take hS64 h67 2 rfl rfl (by decide) (fr rfl) (by kernel_rfl) (by kernel_rfl) (by kernel_rfl) (fun _ _ _ _ h => h) (.int .i64 r.o) (Or.inl ⟨Eq.refl true, fun w1 hSw => (by cases hSw; exact (by show (execOp _ (⟨_, .load 3 (.tmp 34), _, _, _, _⟩ : Oper)).run _ _ = _; exact (by unfold execOp; simp only [h67.eval (k := 34) (v := .pointer (some ⟨gb, 3, none⟩)) (by simp)]; exact run_v (loadIF (HK4.out.cell (i := 3) (by show 3 < 5; omega))))))⟩) fun a70 h69 => ?_
  refine wpk_take hS64 h69 3 rfl rfl (by decide) (fr rfl) (by kernel_rfl) (by kernel_rfl) (by kernel_rfl) (fun _ _ _ _ h => h) (.string (fB ((rzL l (max (r.o.toNat + r.d.length) l.length)).take r.o.toNat))) (Or.inl ⟨Eq.refl true, fun w1 hSw => (by cases hSw; exact (by show (execOp _ (⟨_, .slice 9 (.tmp 33) none (some (.tmp 35)) none, _, _, _, _⟩ : Oper)).run _ _ = _; exact (by unfold execOp; simp only [Option.map_some, Option.map_none, h69.eval (k := 33) (v := .string (fB (rzL l (max (r.o.toNat + r.d.length) l.length)))) (by simp), h69.eval (k := 35) (v := .int .i64 r.o) (by simp)]; exact run_v (slHF _ _ _ (by omega) (by simp only [rzL_len]; omega) _))))⟩) fun a72 h71 => ?_
  refine wpk_take hS64 h71 4 rfl rfl (by decide) (fr rfl) (by kernel_rfl) (by kernel_rfl) (by kernel_rfl) (fun _ _ _ _ h => h) (.pointer (some ⟨gb, 4, none⟩)) (Or.inl ⟨Eq.refl true, fun w1 hSw => (by cases hSw; exact (by show (execOp _ (⟨_, .fieldAddr 23 (.tmp 3) 4, _, _, _, _⟩ : Oper)).run _ _ = _; exact (by unfold execOp; simp only [h71.eval (k := 3) (v := .pointer (some ⟨gb, 0, none⟩)) (by simp)]; exact run_v (faF_23_0_4 (gb) _))))⟩) fun a74 h73 => ?_
  refine wpk_take hS64 h73 5 rfl rfl (by decide) (fr rfl) (by kernel_rfl) (by kernel_rfl) (by kernel_rfl) (fun _ _ _ _ h => h) (.string (fB r.d)) (Or.inl ⟨Eq.refl true, fun w1 hSw => (by cases hSw; exact (by show (execOp _ (⟨_, .load 9 (.tmp 37), _, _, _, _⟩ : Oper)).run _ _ = _; exact (by unfold execOp; simp only [h73.eval (k := 37) (v := .pointer (some ⟨gb, 4, none⟩)) (by simp)]; exact run_v (loadSF (HK4.out.cell (i := 4) (by show 4 < 5; omega))))))⟩) fun a76 h75 => ?_
  refine wpk_take hS64 h75 6 rfl rfl (by decide) (fr rfl) (by kernel_rfl) (by kernel_rfl) (by kernel_rfl) (fun _ _ _ _ h => h) (.string (fB (((rzL l (max (r.o.toNat + r.d.length) l.length)).take r.o.toNat) ++ r.d))) (Or.inl ⟨Eq.refl true, fun w1 hSw => (by cases hSw; exact (by show (execOp _ (⟨_, .binOp .add 9 (.tmp 36) (.tmp 38) 9, _, _, _, _⟩ : Oper)).run _ _ = _; exact (by unfold execOp; simp only [h75.eval (k := 36) (v := .string (fB ((rzL l (max (r.o.toNat + r.d.length) l.length)).take r.o.toNat))) (by simp), h75.eval (k := 38) (v := .string (fB r.d)) (by simp)]; exact run_v (addF _ _ _ _ (by first | omega | (simp only [List.length_append, List.length_take, List.length_drop, rzL_len, List.length_replicate, List.length_cons, List.length_nil]; omega)) _))))⟩) fun a78 h77 => ?_
  refine wpk_take hS64 h77 7 rfl rfl (by decide) (fr rfl) (by kernel_rfl) (by kernel_rfl) (by kernel_rfl) (fun _ _ _ _ h => h) (.string (fB (rzL l (max (r.o.toNat + r.d.length) l.length)))) (Or.inl ⟨Eq.refl true, fun w1 hSw => (by cases hSw; exact (by show (execOp _ (⟨_, .move (.tmp 0), _, _, _, _⟩ : Oper)).run _ _ = _; exact (by unfold execOp; simp only [h77.eval (k := 0) (v := .string (fB (rzL l (max (r.o.toNat + r.d.length) l.length)))) (by simp)]; rfl)))⟩) fun a80 h79 => ?_
  refine wpk_take hS64 h79 8 rfl rfl (by decide) (fr rfl) (by kernel_rfl) (by kernel_rfl) (by kernel_rfl) (fun _ _ _ _ h => h) (.int .i64 ((r.o.toNat + r.d.length : Nat) : Int)) (Or.inl ⟨Eq.refl true, fun w1 hSw => (by cases hSw; exact (by show (execOp _ (⟨_, .move (.tmp 6), _, _, _, _⟩ : Oper)).run _ _ = _; exact (by unfold execOp; simp only [h79.eval (k := 6) (v := .int .i64 ((r.o.toNat + r.d.length : Nat) : Int)) (by simp)]; rfl)))⟩) fun a82 h81 => ?_
  refine wpk_take hS64 h81 9 rfl rfl (by decide) (fr rfl) (by kernel_rfl) (by kernel_rfl) (by kernel_rfl) (fun _ _ _ _ h => h) (.string (fB ((rzL l (max (r.o.toNat + r.d.length) l.length)).drop (r.o.toNat + r.d.length)))) (Or.inl ⟨Eq.refl true, fun w1 hSw => (by cases hSw; exact (by show (execOp _ (⟨_, .slice 9 (.tmp 40) (some (.tmp 41)) none none, _, _, _, _⟩ : Oper)).run _ _ = _; exact (by unfold execOp; simp only [Option.map_some, Option.map_none, h81.eval (k := 40) (v := .string (fB (rzL l (max (r.o.toNat + r.d.length) l.length)))) (by simp), h81.eval (k := 41) (v := .int .i64 ((r.o.toNat + r.d.length : Nat) : Int)) (by simp)]; exact run_v (slLF _ _ _ (by omega) (by simp only [rzL_len]; omega) _))))⟩) fun a84 h83 => ?_
  refine wpk_take hS64 h83 10 rfl rfl (by decide) (fr rfl) (by kernel_rfl) (by kernel_rfl) (by kernel_rfl) (fun _ _ _ _ h => h) (.string (fB ((((rzL l (max (r.o.toNat + r.d.length) l.length)).take r.o.toNat) ++ r.d) ++ ((rzL l (max (r.o.toNat + r.d.length) l.length)).drop (r.o.toNat + r.d.length))))) (Or.inl ⟨Eq.refl true, fun w1 hSw => (by cases hSw; exact (by show (execOp _ (⟨_, .binOp .add 9 (.tmp 39) (.tmp 42) 9, _, _, _, _⟩ : Oper)).run _ _ = _; exact (by unfold execOp; simp only [h83.eval (k := 39) (v := .string (fB (((rzL l (max (r.o.toNat + r.d.length) l.length)).take r.o.toNat) ++ r.d))) (by simp), h83.eval (k := 42) (v := .string (fB ((rzL l (max (r.o.toNat + r.d.length) l.length)).drop (r.o.toNat + r.d.length)))) (by simp)]; exact run_v (addF _ _ _ _ (by first | omega | (simp only [List.length_append, List.length_take, List.length_drop, rzL_len, List.length_replicate, List.length_cons, List.length_nil]; omega)) _))))⟩) fun a86 h85 => ?_
  have h87 := h85.subs (l' := [(43, .string (fB ((((rzL l (max (r.o.toNat + r.d.length) l.length)).take r.o.toNat) ++ r.d) ++ ((rzL l (max (r.o.toNat + r.d.length) l.length)).drop (r.o.toNat + r.d.length))))), (42, .string (fB ((rzL l (max (r.o.toNat + r.d.length) l.length)).drop (r.o.toNat + r.d.length)))), (41, .int .i64 ((r.o.toNat + r.d.length : Nat) : Int)), (40, .string (fB (rzL l (max (r.o.toNat + r.d.length) l.length)))), (39, .string (fB (((rzL l (max (r.o.toNat + r.d.length) l.length)).take r.o.toNat) ++ r.d))), (38, .string (fB r.d)), (37, .pointer (some ⟨gb, 4, none⟩)), (36, .string (fB ((rzL l (max (r.o.toNat + r.d.length) l.length)).take r.o.toNat))), (35, .int .i64 r.o), (34, .pointer (some ⟨gb, 3, none⟩)), (33, .string (fB (rzL l (max (r.o.toNat + r.d.length) l.length)))), (6, .int .i64 ((r.o.toNat + r.d.length : Nat) : Int)), (5, .int .i64 0), (4, .string (fB [])), (3, .pointer (some ⟨gb, 0, none⟩))]) rfl
  clear h85
  refine wpk_take hS64 h87 11 rfl rfl (by decide) (fr rfl) (by kernel_rfl) (by kernel_rfl) (by kernel_rfl) (fun _ _ _ _ h => h) (.string (fB ((((rzL l (max (r.o.toNat + r.d.length) l.length)).take r.o.toNat) ++ r.d) ++ ((rzL l (max (r.o.toNat + r.d.length) l.length)).drop (r.o.toNat + r.d.length))))) (Or.inl ⟨Eq.refl true, fun w1 hSw => (by cases hSw; exact (by show (execOp _ (⟨_, .assign (.tmp 43), _, _, _, _⟩ : Oper)).run _ _ = _; exact (by unfold execOp; simp only [h87.eval (k := 43) (v := .string (fB ((((rzL l (max (r.o.toNat + r.d.length) l.length)).take r.o.toNat) ++ r.d) ++ ((rzL l (max (r.o.toNat + r.d.length) l.length)).drop (r.o.toNat + r.d.length))))) (by simp)]; rfl)))⟩) fun a89 h88 => ?_
  refine wpAnyH_done (by kernel_rfl) ?_ _
  have h90 := h88.subs (l' := [(0, .string (fB ((((rzL l (max (r.o.toNat + r.d.length) l.length)).take r.o.toNat) ++ r.d) ++ ((rzL l (max (r.o.toNat + r.d.length) l.length)).drop (r.o.toNat + r.d.length))))), (6, .int .i64 ((r.o.toNat + r.d.length : Nat) : Int)), (5, .int .i64 0), (4, .string (fB [])), (3, .pointer (some ⟨gb, 0, none⟩))]) rfl
  clear h88
  go_step
  go_step
  have hz : ((((rzL l (max (r.o.toNat + r.d.length) l.length)).take r.o.toNat) ++ r.d) ++ ((rzL l (max (r.o.toNat + r.d.length) l.length)).drop (r.o.toNat + r.d.length))) = chL l r.t r.o.toNat r.d := ch_d hT hD (by omega)
  rw [hz] at h90
  go_step
  go_step
  go_step
  refine wpk_val h90 (wanted_none rfl) rfl (by decide) (fr rfl) (.string (fB (chL l r.t r.o.toNat r.d))) (by unfold execOp; simp only [h90.eval (k := 0) (v := .string (fB (chL l r.t r.o.toNat r.d))) (by simp)]; rfl) fun a92 h91 => ?_
  refine wpk_val h91 (wanted_none rfl) rfl (by decide) (fr rfl) (.int .i64 ((chL l r.t r.o.toNat r.d).length : Int)) (run_lenF rfl (h91.eval (k := 44) (v := .string (fB (chL l r.t r.o.toNat r.d))) (by simp)) (by rfl) _) fun a94 h93 => ?_
  refine wpk_val h93 (wanted_none rfl) rfl (by decide) (fr rfl) (.bool true) (by unfold execOp; simp only [h93.eval (k := 45) (v := .int .i64 ((chL l r.t r.o.toNat r.d).length : Int)) (by simp)]; exact run_v (gtIP _ _ _ _ _ (decide_eq_true (by omega)))) fun a96 h95 => ?_
  have h97 := h95.subs (l' := [(46, .bool true), (0, .string (fB (chL l r.t r.o.toNat r.d))), (6, .int .i64 ((r.o.toNat + r.d.length : Nat) : Int)), (5, .int .i64 0), (4, .string (fB [])), (3, .pointer (some ⟨gb, 0, none⟩))]) rfl
  clear h95
  go_step
  go_step
  go_step
  refine wp_cond (t := true) (h97.eval (k := 46) (v := .bool true) (by simp)) ?_
  simp only [if_true]
  have h98 := h97.subs (l' := [(0, .string (fB (chL l r.t r.o.toNat r.d))), (6, .int .i64 ((r.o.toNat + r.d.length : Nat) : Int)), (5, .int .i64 0), (4, .string (fB [])), (3, .pointer (some ⟨gb, 0, none⟩))]) rfl
  clear h97
  go_step
  go_step
  have h99 := h98.subs (l' := [(0, .string (fB (chL l r.t r.o.toNat r.d))), (6, .int .i64 ((r.o.toNat + r.d.length : Nat) : Int)), (5, .int .i64 0), (3, .pointer (some ⟨gb, 0, none⟩))]) rfl
  clear h98
  refine wpk_val h99 (wanted_none rfl) rfl (by decide) (fr rfl) (.string (fB [])) rfl fun a101 h100 => ?_
  have h102 := h100.subs (l' := [(4, .string (fB [])), (0, .string (fB (chL l r.t r.o.toNat r.d))), (6, .int .i64 ((r.o.toNat + r.d.length : Nat) : Int)), (3, .pointer (some ⟨gb, 0, none⟩))]) rfl
  clear h100
  refine wpk_val h102 (wanted_none rfl) rfl (by decide) (fr rfl) (.int .i64 19) rfl fun a104 h103 => ?_
  go_step
  go_step
  go_step
  go_step
  simp only [Exit.then, Exit.inBlock]
  exact bodyPost_ret (results_tmp2 rfl (h103.known (4, .string (fB [])) (by simp)) (h103.known (5, .int .i64 19) (by simp))) h103.defs ⟨hres, HB4.out⟩
set_option maxHeartbeats 4000000 in
theorem cch_ds (l : List UInt8) (r : RecT) (w : World) (hl : l.length ≤ 1000) (hd9 : r.d.length ≤ 1000000) (hM : mayR r = true) (hT : r.t = false) (hD : ¬ r.d = []) (hB : ¬ 256 < (chL l r.t r.o.toNat r.d).length) : Calls Try.prog 6 #[.string (fB l), .agg (recL r).toArray] w (ChP l r w) := by
  have hmay := hM
  obtain ⟨hm1, hm2, hm3, hm4⟩ := mayR_b hM
  have hres := chR_ok (l := l) hM hB
  go_enter Try.func6, Try.ntmps6
  go_step
  go_step
  refine wpl_boxRec rfl rfl r rfl ?_
  rintro gb wb ⟨hgb, kb⟩ bb
  have HK := hid kb; have HB := hid bb; clear kb bb
  refine wpk_enter (N := 48) (l := [(0, .string (fB l)), (3, .pointer (some ⟨gb, 0, none⟩))]) ⟨rfl, (by intro x hx; simp only [List.mem_cons, List.not_mem_nil, or_false] at hx; rcases hx with rfl | rfl <;> rfl), rfl⟩ fun a2 h1 => ?_
  refine wpk_val h1 (wanted_none rfl) rfl (by decide) (fr rfl) (.string (fB [])) rfl fun a4 h3 => ?_
  refine wpk_val h3 (wanted_none rfl) rfl (by decide) (fr rfl) (.int .i64 0) rfl fun a6 h5 => ?_
  go_step
  go_step
  go_step
  go_step
  go_step
  go_step
  refine wpk_val h5 (wanted_none rfl) rfl (by decide) (fr rfl) (.agg (recL r).toArray) (by unfold execOp; simp only [h5.eval (k := 3) (v := .pointer (some ⟨gb, 0, none⟩)) (by simp)]; exact run_v (run_loadAt_mid _ _ _ _ (recL r) _ (fun i u hu => by rw [Nat.zero_add]; exact blkF_at HK.out hu) Try.underlying23 rfl (by rw [infoRec]; rfl))) fun a8 h7 => ?_
  refine wpk_call h7 (wanted_none rfl) rfl (by decide) (fr rfl) (fun args => callF_8 args _) rfl #[.agg (recL r).toArray] (by simp only [List.map_toArray, List.map_cons, List.map_nil, h7.eval (k := 7) (v := .agg (recL r).toArray) (by simp)]) (R := fun v' w' => v' = .bool (mayR r) ∧ Below wb.heap.size wb w') ((mayR_f r _).mono fun e w' q => ⟨_, q.1, rfl, q.2⟩) fun a10 v2 w2 r2 h9 => ?_
  obtain ⟨rfl, b2⟩ := r2; rw [hmay] at h9; have HK2 := hid (HK.out.mono b2); have HB2 := hid (kept_trans HB.out b2); clear b2
  refine wpk_val h9 (wanted_none rfl) rfl (by decide) (fr rfl) (.bool false) (run_not rfl (h9.eval (k := 8) (v := .bool true) (by simp))) fun a12 h11 => ?_
  have h13 := h11.subs (l' := [(9, .bool false), (5, .int .i64 0), (4, .string (fB [])), (0, .string (fB l)), (3, .pointer (some ⟨gb, 0, none⟩))]) rfl
  clear h11
  go_step
  go_step
  go_step
  refine wp_cond (t := false) (h13.eval (k := 9) (v := .bool false) (by simp)) ?_
  simp only [Bool.false_eq_true, if_false]
  have h14 := h13.subs (l' := [(5, .int .i64 0), (4, .string (fB [])), (0, .string (fB l)), (3, .pointer (some ⟨gb, 0, none⟩))]) rfl
  clear h13
  go_step
  go_step
  go_step
  go_step
  go_step
  go_step
  refine wpk_val h14 (wanted_none rfl) rfl (by decide) (fr rfl) (.pointer (some ⟨gb, 3, none⟩)) (by unfold execOp; simp only [h14.eval (k := 3) (v := .pointer (some ⟨gb, 0, none⟩)) (by simp)]; exact run_v (faF_23_0_3 (gb) _)) fun a16 h15 => ?_
  refine wpk_val h15 (wanted_none rfl) rfl (by decide) (fr rfl) (.int .i64 r.o) (by unfold execOp; simp only [h15.eval (k := 10) (v := .pointer (some ⟨gb, 3, none⟩)) (by simp)]; exact run_v (loadIF (HK2.out.cell (i := 3) (by show 3 < 5; omega)))) fun a18 h17 => ?_
  refine wpk_val h17 (wanted_none rfl) rfl (by decide) (fr rfl) (.pointer (some ⟨gb, 4, none⟩)) (by unfold execOp; simp only [h17.eval (k := 3) (v := .pointer (some ⟨gb, 0, none⟩)) (by simp)]; exact run_v (faF_23_0_4 (gb) _)) fun a20 h19 => ?_
  refine wpk_val h19 (wanted_none rfl) rfl (by decide) (fr rfl) (.string (fB r.d)) (by unfold execOp; simp only [h19.eval (k := 12) (v := .pointer (some ⟨gb, 4, none⟩)) (by simp)]; exact run_v (loadSF (HK2.out.cell (i := 4) (by show 4 < 5; omega)))) fun a22 h21 => ?_
  refine wpk_val h21 (wanted_none rfl) rfl (by decide) (fr rfl) (.int .i64 (r.d.length : Int)) (run_lenF rfl (h21.eval (k := 13) (v := .string (fB r.d)) (by simp)) (by rfl) _) fun a24 h23 => ?_
  refine wpk_val h23 (wanted_none rfl) rfl (by decide) (fr rfl) (.int .i64 ((r.o.toNat + r.d.length : Nat) : Int)) (by unfold execOp; simp only [h23.eval (k := 11) (v := .int .i64 r.o) (by simp), h23.eval (k := 14) (v := .int .i64 (r.d.length : Int)) (by simp)]; exact run_v (addNP _ _ _ _ _ (by omega) (by omega) (by omega) _)) fun a26 h25 => ?_
  refine wpk_val h25 (wanted_none rfl) rfl (by decide) (fr rfl) (.int .i64 ((r.o.toNat + r.d.length : Nat) : Int)) (by unfold execOp; simp only [h25.eval (k := 15) (v := .int .i64 ((r.o.toNat + r.d.length : Nat) : Int)) (by simp)]; rfl) fun a28 h27 => ?_
  have h29 := h27.subs (l' := [(6, .int .i64 ((r.o.toNat + r.d.length : Nat) : Int)), (5, .int .i64 0), (4, .string (fB [])), (0, .string (fB l)), (3, .pointer (some ⟨gb, 0, none⟩))]) rfl
  clear h27
  go_step
  go_step
  go_step
  go_step
  go_step
  go_step
  refine wpk_val h29 (wanted_none rfl) rfl (by decide) (fr rfl) (.pointer (some ⟨gb, 2, none⟩)) (by unfold execOp; simp only [h29.eval (k := 3) (v := .pointer (some ⟨gb, 0, none⟩)) (by simp)]; exact run_v (faF_23_0_2 (gb) _)) fun a31 h30 => ?_
  refine wpk_val h30 (wanted_none rfl) rfl (by decide) (fr rfl) (.bool false) (by unfold execOp; simp only [h30.eval (k := 17) (v := .pointer (some ⟨gb, 2, none⟩)) (by simp)]; exact run_v (loadBF (cellT HK2.out hT))) fun a33 h32 => ?_
  refine wpk_val h32 (wanted_none rfl) rfl (by decide) (fr rfl) (.bool false) (by unfold execOp; simp only [h32.eval (k := 18) (v := .bool false) (by simp)]; rfl) fun a35 h34 => ?_
  have h36 := h34.subs (l' := [(16, .bool false), (6, .int .i64 ((r.o.toNat + r.d.length : Nat) : Int)), (5, .int .i64 0), (4, .string (fB [])), (0, .string (fB l)), (3, .pointer (some ⟨gb, 0, none⟩))]) rfl
  clear h34
  go_step
  go_step
  go_step
  refine wp_cond (t := false) (h36.eval (k := 16) (v := .bool false) (by simp)) ?_
  simp only [Bool.false_eq_true, if_false]
  have h37 := h36.subs (l' := [(6, .int .i64 ((r.o.toNat + r.d.length : Nat) : Int)), (5, .int .i64 0), (4, .string (fB [])), (0, .string (fB l)), (3, .pointer (some ⟨gb, 0, none⟩))]) rfl
  clear h36
  go_step
  go_step
  refine wpk_val h37 (wanted_none rfl) rfl (by decide) (fr rfl) (.pointer (some ⟨gb, 4, none⟩)) (by unfold execOp; simp only [h37.eval (k := 3) (v := .pointer (some ⟨gb, 0, none⟩)) (by simp)]; exact run_v (faF_23_0_4 (gb) _)) fun a39 h38 => ?_
  refine wpk_val h38 (wanted_none rfl) rfl (by decide) (fr rfl) (.string (fB r.d)) (by unfold execOp; simp only [h38.eval (k := 24) (v := .pointer (some ⟨gb, 4, none⟩)) (by simp)]; exact run_v (loadSF (HK2.out.cell (i := 4) (by show 4 < 5; omega)))) fun a41 h40 => ?_
  refine wpk_val h40 (wanted_none rfl) rfl (by decide) (fr rfl) (.bool true) (by unfold execOp; simp only [h40.eval (k := 25) (v := .string (fB r.d)) (by simp)]; exact run_v (neF _ _ _ _ _ (decide_eq_true (by assumption)))) fun a43 h42 => ?_
  refine wpk_val h42 (wanted_none rfl) rfl (by decide) (fr rfl) (.bool true) (by unfold execOp; simp only [h42.eval (k := 26) (v := .bool true) (by simp)]; rfl) fun a45 h44 => ?_
  have h46 := h44.subs (l' := [(23, .bool true), (6, .int .i64 ((r.o.toNat + r.d.length : Nat) : Int)), (5, .int .i64 0), (4, .string (fB [])), (0, .string (fB l)), (3, .pointer (some ⟨gb, 0, none⟩))]) rfl
  clear h44
  go_step
  go_step
  go_step
  refine wp_cond (t := true) (h46.eval (k := 23) (v := .bool true) (by simp)) ?_
  simp only [if_true]
  have h47 := h46.subs (l' := [(6, .int .i64 ((r.o.toNat + r.d.length : Nat) : Int)), (5, .int .i64 0), (4, .string (fB [])), (0, .string (fB l)), (3, .pointer (some ⟨gb, 0, none⟩))]) rfl
  clear h46
  go_step
  go_step
  refine wpk_val h47 (wanted_none rfl) rfl (by decide) (fr rfl) (.string (fB l)) (by unfold execOp; simp only [h47.eval (k := 0) (v := .string (fB l)) (by simp)]; rfl) fun a49 h48 => ?_
  refine wpk_val h48 (wanted_none rfl) rfl (by decide) (fr rfl) (.int .i64 ((r.o.toNat + r.d.length : Nat) : Int)) (by unfold execOp; simp only [h48.eval (k := 6) (v := .int .i64 ((r.o.toNat + r.d.length : Nat) : Int)) (by simp)]; rfl) fun a51 h50 => ?_
  refine wpk_val h50 (wanted_none rfl) rfl (by decide) (fr rfl) (.string (fB l)) (by unfold execOp; simp only [h50.eval (k := 0) (v := .string (fB l)) (by simp)]; rfl) fun a53 h52 => ?_
  refine wpk_val h52 (wanted_none rfl) rfl (by decide) (fr rfl) (.int .i64 (l.length : Int)) (run_lenF rfl (h52.eval (k := 29) (v := .string (fB l)) (by simp)) (by rfl) _) fun a55 h54 => ?_
  refine wpk_val h54 (wanted_none rfl) rfl (by decide) (fr rfl) (.int .i64 (max ((r.o.toNat + r.d.length : Nat) : Int) (l.length : Int))) (run_maxF rfl (h54.eval (k := 28) (v := .int .i64 ((r.o.toNat + r.d.length : Nat) : Int)) (by simp)) (h54.eval (k := 30) (v := .int .i64 (l.length : Int)) (by simp)) _) fun a57 h56 => ?_
  refine wpk_call h56 (wanted_none rfl) rfl (by decide) (fr rfl) (fun args => callF_11 args _) rfl #[.string (fB l), .int .i64 (max ((r.o.toNat + r.d.length : Nat) : Int) (l.length : Int))] (by simp only [List.map_toArray, List.map_cons, List.map_nil, h56.eval (k := 27) (v := .string (fB l)) (by simp), h56.eval (k := 31) (v := .int .i64 (max ((r.o.toNat + r.d.length : Nat) : Int) (l.length : Int))) (by simp)]) (R := fun v' w' => v' = .string (fB (rzL l (max (r.o.toNat + r.d.length) l.length))) ∧ Below w2.heap.size w2 w') ((resized_m r l (by omega) (by omega) _).mono fun e w' q => ⟨_, q.1, rfl, q.2⟩) fun a59 v3 w3 r3 h58 => ?_
  obtain ⟨rfl, b3⟩ := r3; have HK3 := hid (HK2.out.mono b3); have HB3 := hid (kept_trans HB2.out b3); clear b3
  have h60 := h58.subs (l' := [(32, .string (fB (rzL l (max (r.o.toNat + r.d.length) l.length)))), (31, .int .i64 (max ((r.o.toNat + r.d.length : Nat) : Int) (l.length : Int))), (30, .int .i64 (l.length : Int)), (29, .string (fB l)), (28, .int .i64 ((r.o.toNat + r.d.length : Nat) : Int)), (27, .string (fB l)), (6, .int .i64 ((r.o.toNat + r.d.length : Nat) : Int)), (5, .int .i64 0), (4, .string (fB [])), (3, .pointer (some ⟨gb, 0, none⟩))]) rfl
  clear h58
  refine wpk_val h60 (wanted_none rfl) rfl (by decide) (fr rfl) (.string (fB (rzL l (max (r.o.toNat + r.d.length) l.length)))) (by unfold execOp; simp only [h60.eval (k := 32) (v := .string (fB (rzL l (max (r.o.toNat + r.d.length) l.length)))) (by simp)]; rfl) fun a62 h61 => ?_
  have h63 := h61.subs (l' := [(0, .string (fB (rzL l (max (r.o.toNat + r.d.length) l.length)))), (6, .int .i64 ((r.o.toNat + r.d.length : Nat) : Int)), (5, .int .i64 0), (4, .string (fB [])), (3, .pointer (some ⟨gb, 0, none⟩))]) rfl
  clear h61
  go_step
  go_step
  go_step
  have HK4 := hid (HK3.out.mono (Below.refl _ _).drew); have HB4 := hid (Below.drew (HB3.out))
  refine wp_region_held_drew (S := fun w' => w' = w3.drew) (by kernel_rfl) rfl (fun hS64 => ?_)
  refine wpk_take hS64 h63 0 rfl rfl (by decide) (fr rfl) (by kernel_rfl) (by kernel_rfl) (by kernel_rfl) (fun _ _ _ _ h => h) (.string (fB (rzL l (max (r.o.toNat + r.d.length) l.length)))) (Or.inl ⟨Eq.refl true, fun w1 hSw => (by cases hSw; exact (by show (execOp _ (⟨_, .move (.tmp 0), _, _, _, _⟩ : Oper)).run _ _ = _; exact (by unfold execOp; simp only [h63.eval (k := 0) (v := .string (fB (rzL l (max (r.o.toNat + r.d.length) l.length)))) (by simp)]; rfl)))⟩) fun a66 h65 => ?_
  refine wpk_take hS64 h65 1 rfl rfl (by decide) (fr rfl) (by kernel_rfl) (by kernel_rfl) (by kernel_rfl) (fun _ _ _ _ h => h) (.pointer (some ⟨gb, 3, none⟩)) (Or.inl ⟨Eq.refl true, fun w1 hSw => (by cases hSw; exact (by show (execOp _ (⟨_, .fieldAddr 23 (.tmp 3) 3, _, _, _, _⟩ : Oper)).run _ _ = _; exact (by unfold execOp; simp only [h65.eval (k := 3) (v := .pointer (some ⟨gb, 0, none⟩)) (by simp)]; exact run_v (faF_23_0_3 (gb) _))))⟩) fun a68 h67 => ?_
  refine wpk_take hS64 h67 2 rfl rfl (by decide) (fr rfl) (by kernel_rfl) (by kernel_rfl) (by kernel_rfl) (fun _ _ _ _ h => h) (.int .i64 r.o) (Or.inl ⟨Eq.refl true, fun w1 hSw => (by cases hSw; exact (by show (execOp _ (⟨_, .load 3 (.tmp 34), _, _, _, _⟩ : Oper)).run _ _ = _; exact (by unfold execOp; simp only [h67.eval (k := 34) (v := .pointer (some ⟨gb, 3, none⟩)) (by simp)]; exact run_v (loadIF (HK4.out.cell (i := 3) (by show 3 < 5; omega))))))⟩) fun a70 h69 => ?_
  refine wpk_take hS64 h69 3 rfl rfl (by decide) (fr rfl) (by kernel_rfl) (by kernel_rfl) (by kernel_rfl) (fun _ _ _ _ h => h) (.string (fB ((rzL l (max (r.o.toNat + r.d.length) l.length)).take r.o.toNat))) (Or.inl ⟨Eq.refl true, fun w1 hSw => (by cases hSw; exact (by show (execOp _ (⟨_, .slice 9 (.tmp 33) none (some (.tmp 35)) none, _, _, _, _⟩ : Oper)).run _ _ = _; exact (by unfold execOp; simp only [Option.map_some, Option.map_none, h69.eval (k := 33) (v := .string (fB (rzL l (max (r.o.toNat + r.d.length) l.length)))) (by simp), h69.eval (k := 35) (v := .int .i64 r.o) (by simp)]; exact run_v (slHF _ _ _ (by omega) (by simp only [rzL_len]; omega) _))))⟩) fun a72 h71 => ?_
  refine wpk_take hS64 h71 4 rfl rfl (by decide) (fr rfl) (by kernel_rfl) (by kernel_rfl) (by kernel_rfl) (fun _ _ _ _ h => h) (.pointer (some ⟨gb, 4, none⟩)) (Or.inl ⟨Eq.refl true, fun w1 hSw => (by cases hSw; exact (by show (execOp _ (⟨_, .fieldAddr 23 (.tmp 3) 4, _, _, _, _⟩ : Oper)).run _ _ = _; exact (by unfold execOp; simp only [h71.eval (k := 3) (v := .pointer (some ⟨gb, 0, none⟩)) (by simp)]; exact run_v (faF_23_0_4 (gb) _))))⟩) fun a74 h73 => ?_
  refine wpk_take hS64 h73 5 rfl rfl (by decide) (fr rfl) (by kernel_rfl) (by kernel_rfl) (by kernel_rfl) (fun _ _ _ _ h => h) (.string (fB r.d)) (Or.inl ⟨Eq.refl true, fun w1 hSw => (by cases hSw; exact (by show (execOp _ (⟨_, .load 9 (.tmp 37), _, _, _, _⟩ : Oper)).run _ _ = _; exact (by unfold execOp; simp only [h73.eval (k := 37) (v := .pointer (some ⟨gb, 4, none⟩)) (by simp)]; exact run_v (loadSF (HK4.out.cell (i := 4) (by show 4 < 5; omega))))))⟩) fun a76 h75 => ?_
  refine wpk_take hS64 h75 6 rfl rfl (by decide) (fr rfl) (by kernel_rfl) (by kernel_rfl) (by kernel_rfl) (fun _ _ _ _ h => h) (.string (fB (((rzL l (max (r.o.toNat + r.d.length) l.length)).take r.o.toNat) ++ r.d))) (Or.inl ⟨Eq.refl true, fun w1 hSw => (by cases hSw; exact (by show (execOp _ (⟨_, .binOp .add 9 (.tmp 36) (.tmp 38) 9, _, _, _, _⟩ : Oper)).run _ _ = _; exact (by unfold execOp; simp only [h75.eval (k := 36) (v := .string (fB ((rzL l (max (r.o.toNat + r.d.length) l.length)).take r.o.toNat))) (by simp), h75.eval (k := 38) (v := .string (fB r.d)) (by simp)]; exact run_v (addF _ _ _ _ (by first | omega | (simp only [List.length_append, List.length_take, List.length_drop, rzL_len, List.length_replicate, List.length_cons, List.length_nil]; omega)) _))))⟩) fun a78 h77 => ?_
  refine wpk_take hS64 h77 7 rfl rfl (by decide) (fr rfl) (by kernel_rfl) (by kernel_rfl) (by kernel_rfl) (fun _ _ _ _ h => h) (.string (fB (rzL l (max (r.o.toNat + r.d.length) l.length)))) (Or.inl ⟨Eq.refl true, fun w1 hSw => (by cases hSw; exact (by show (execOp _ (⟨_, .move (.tmp 0), _, _, _, _⟩ : Oper)).run _ _ = _; exact (by unfold execOp; simp only [h77.eval (k := 0) (v := .string (fB (rzL l (max (r.o.toNat + r.d.length) l.length)))) (by simp)]; rfl)))⟩) fun a80 h79 => ?_
  refine wpk_take hS64 h79 8 rfl rfl (by decide) (fr rfl) (by kernel_rfl) (by kernel_rfl) (by kernel_rfl) (fun _ _ _ _ h => h) (.int .i64 ((r.o.toNat + r.d.length : Nat) : Int)) (Or.inl ⟨Eq.refl true, fun w1 hSw => (by cases hSw; exact (by show (execOp _ (⟨_, .move (.tmp 6), _, _, _, _⟩ : Oper)).run _ _ = _; exact (by unfold execOp; simp only [h79.eval (k := 6) (v := .int .i64 ((r.o.toNat + r.d.length : Nat) : Int)) (by simp)]; rfl)))⟩) fun a82 h81 => ?_
  refine wpk_take hS64 h81 9 rfl rfl (by decide) (fr rfl) (by kernel_rfl) (by kernel_rfl) (by kernel_rfl) (fun _ _ _ _ h => h) (.string (fB ((rzL l (max (r.o.toNat + r.d.length) l.length)).drop (r.o.toNat + r.d.length)))) (Or.inl ⟨Eq.refl true, fun w1 hSw => (by cases hSw; exact (by show (execOp _ (⟨_, .slice 9 (.tmp 40) (some (.tmp 41)) none none, _, _, _, _⟩ : Oper)).run _ _ = _; exact (by unfold execOp; simp only [Option.map_some, Option.map_none, h81.eval (k := 40) (v := .string (fB (rzL l (max (r.o.toNat + r.d.length) l.length)))) (by simp), h81.eval (k := 41) (v := .int .i64 ((r.o.toNat + r.d.length : Nat) : Int)) (by simp)]; exact run_v (slLF _ _ _ (by omega) (by simp only [rzL_len]; omega) _))))⟩) fun a84 h83 => ?_
  refine wpk_take hS64 h83 10 rfl rfl (by decide) (fr rfl) (by kernel_rfl) (by kernel_rfl) (by kernel_rfl) (fun _ _ _ _ h => h) (.string (fB ((((rzL l (max (r.o.toNat + r.d.length) l.length)).take r.o.toNat) ++ r.d) ++ ((rzL l (max (r.o.toNat + r.d.length) l.length)).drop (r.o.toNat + r.d.length))))) (Or.inl ⟨Eq.refl true, fun w1 hSw => (by cases hSw; exact (by show (execOp _ (⟨_, .binOp .add 9 (.tmp 39) (.tmp 42) 9, _, _, _, _⟩ : Oper)).run _ _ = _; exact (by unfold execOp; simp only [h83.eval (k := 39) (v := .string (fB (((rzL l (max (r.o.toNat + r.d.length) l.length)).take r.o.toNat) ++ r.d))) (by simp), h83.eval (k := 42) (v := .string (fB ((rzL l (max (r.o.toNat + r.d.length) l.length)).drop (r.o.toNat + r.d.length)))) (by simp)]; exact run_v (addF _ _ _ _ (by first | omega | (simp only [List.length_append, List.length_take, List.length_drop, rzL_len, List.length_replicate, List.length_cons, List.length_nil]; omega)) _))))⟩) fun a86 h85 => ?_
  have h87 := h85.subs (l' := [(43, .string (fB ((((rzL l (max (r.o.toNat + r.d.length) l.length)).take r.o.toNat) ++ r.d) ++ ((rzL l (max (r.o.toNat + r.d.length) l.length)).drop (r.o.toNat + r.d.length))))), (42, .string (fB ((rzL l (max (r.o.toNat + r.d.length) l.length)).drop (r.o.toNat + r.d.length)))), (41, .int .i64 ((r.o.toNat + r.d.length : Nat) : Int)), (40, .string (fB (rzL l (max (r.o.toNat + r.d.length) l.length)))), (39, .string (fB (((rzL l (max (r.o.toNat + r.d.length) l.length)).take r.o.toNat) ++ r.d))), (38, .string (fB r.d)), (37, .pointer (some ⟨gb, 4, none⟩)), (36, .string (fB ((rzL l (max (r.o.toNat + r.d.length) l.length)).take r.o.toNat))), (35, .int .i64 r.o), (34, .pointer (some ⟨gb, 3, none⟩)), (33, .string (fB (rzL l (max (r.o.toNat + r.d.length) l.length)))), (6, .int .i64 ((r.o.toNat + r.d.length : Nat) : Int)), (5, .int .i64 0), (4, .string (fB [])), (3, .pointer (some ⟨gb, 0, none⟩))]) rfl
  clear h85
  refine wpk_take hS64 h87 11 rfl rfl (by decide) (fr rfl) (by kernel_rfl) (by kernel_rfl) (by kernel_rfl) (fun _ _ _ _ h => h) (.string (fB ((((rzL l (max (r.o.toNat + r.d.length) l.length)).take r.o.toNat) ++ r.d) ++ ((rzL l (max (r.o.toNat + r.d.length) l.length)).drop (r.o.toNat + r.d.length))))) (Or.inl ⟨Eq.refl true, fun w1 hSw => (by cases hSw; exact (by show (execOp _ (⟨_, .assign (.tmp 43), _, _, _, _⟩ : Oper)).run _ _ = _; exact (by unfold execOp; simp only [h87.eval (k := 43) (v := .string (fB ((((rzL l (max (r.o.toNat + r.d.length) l.length)).take r.o.toNat) ++ r.d) ++ ((rzL l (max (r.o.toNat + r.d.length) l.length)).drop (r.o.toNat + r.d.length))))) (by simp)]; rfl)))⟩) fun a89 h88 => ?_
  refine wpAnyH_done (by kernel_rfl) ?_ _
  have h90 := h88.subs (l' := [(0, .string (fB ((((rzL l (max (r.o.toNat + r.d.length) l.length)).take r.o.toNat) ++ r.d) ++ ((rzL l (max (r.o.toNat + r.d.length) l.length)).drop (r.o.toNat + r.d.length))))), (6, .int .i64 ((r.o.toNat + r.d.length : Nat) : Int)), (5, .int .i64 0), (4, .string (fB [])), (3, .pointer (some ⟨gb, 0, none⟩))]) rfl
  clear h88
  go_step
  go_step
  have hz : ((((rzL l (max (r.o.toNat + r.d.length) l.length)).take r.o.toNat) ++ r.d) ++ ((rzL l (max (r.o.toNat + r.d.length) l.length)).drop (r.o.toNat + r.d.length))) = chL l r.t r.o.toNat r.d := ch_d hT hD (by omega)
  rw [hz] at h90
  go_step
  go_step
  go_step
  refine wpk_val h90 (wanted_none rfl) rfl (by decide) (fr rfl) (.string (fB (chL l r.t r.o.toNat r.d))) (by unfold execOp; simp only [h90.eval (k := 0) (v := .string (fB (chL l r.t r.o.toNat r.d))) (by simp)]; rfl) fun a92 h91 => ?_
  refine wpk_val h91 (wanted_none rfl) rfl (by decide) (fr rfl) (.int .i64 ((chL l r.t r.o.toNat r.d).length : Int)) (run_lenF rfl (h91.eval (k := 44) (v := .string (fB (chL l r.t r.o.toNat r.d))) (by simp)) (by rfl) _) fun a94 h93 => ?_
  refine wpk_val h93 (wanted_none rfl) rfl (by decide) (fr rfl) (.bool false) (by unfold execOp; simp only [h93.eval (k := 45) (v := .int .i64 ((chL l r.t r.o.toNat r.d).length : Int)) (by simp)]; exact run_v (gtIP _ _ _ _ _ (decide_eq_false (by omega)))) fun a96 h95 => ?_
  have h97 := h95.subs (l' := [(46, .bool false), (0, .string (fB (chL l r.t r.o.toNat r.d))), (6, .int .i64 ((r.o.toNat + r.d.length : Nat) : Int)), (5, .int .i64 0), (4, .string (fB [])), (3, .pointer (some ⟨gb, 0, none⟩))]) rfl
  clear h95
  go_step
  go_step
  go_step
  refine wp_cond (t := false) (h97.eval (k := 46) (v := .bool false) (by simp)) ?_
  simp only [Bool.false_eq_true, if_false]
  have h98 := h97.subs (l' := [(0, .string (fB (chL l r.t r.o.toNat r.d))), (6, .int .i64 ((r.o.toNat + r.d.length : Nat) : Int)), (5, .int .i64 0), (4, .string (fB [])), (3, .pointer (some ⟨gb, 0, none⟩))]) rfl
  clear h97
  go_step
  go_step
  go_step
  go_step
  go_step
  refine wpk_val h98 (wanted_none rfl) rfl (by decide) (fr rfl) (.string (fB (chL l r.t r.o.toNat r.d))) (by unfold execOp; simp only [h98.eval (k := 0) (v := .string (fB (chL l r.t r.o.toNat r.d))) (by simp)]; rfl) fun a100 h99 => ?_
  have h101 := h99.subs (l' := [(47, .string (fB (chL l r.t r.o.toNat r.d))), (0, .string (fB (chL l r.t r.o.toNat r.d))), (6, .int .i64 ((r.o.toNat + r.d.length : Nat) : Int)), (5, .int .i64 0), (3, .pointer (some ⟨gb, 0, none⟩))]) rfl
  clear h99
  refine wpk_val h101 (wanted_none rfl) rfl (by decide) (fr rfl) (.string (fB (chL l r.t r.o.toNat r.d))) (by unfold execOp; simp only [h101.eval (k := 47) (v := .string (fB (chL l r.t r.o.toNat r.d))) (by simp)]; rfl) fun a103 h102 => ?_
  have h104 := h102.subs (l' := [(4, .string (fB (chL l r.t r.o.toNat r.d))), (47, .string (fB (chL l r.t r.o.toNat r.d))), (0, .string (fB (chL l r.t r.o.toNat r.d))), (6, .int .i64 ((r.o.toNat + r.d.length : Nat) : Int)), (3, .pointer (some ⟨gb, 0, none⟩))]) rfl
  clear h102
  refine wpk_val h104 (wanted_none rfl) rfl (by decide) (fr rfl) (.int .i64 0) rfl fun a106 h105 => ?_
  have h107 := h105.subs (l' := [(5, .int .i64 0), (4, .string (fB (chL l r.t r.o.toNat r.d))), (0, .string (fB (chL l r.t r.o.toNat r.d))), (6, .int .i64 ((r.o.toNat + r.d.length : Nat) : Int)), (3, .pointer (some ⟨gb, 0, none⟩))]) rfl
  clear h105
  go_step
  go_step
  go_step
  go_step
  exact bodyPost_ret (results_tmp2 rfl (h107.known (4, .string (fB (chL l r.t r.o.toNat r.d))) (by simp)) (h107.known (5, .int .i64 0) (by simp))) h107.defs ⟨hres, HB4.out⟩
set_option maxHeartbeats 4000000 in
theorem cch_nb (l : List UInt8) (r : RecT) (w : World) (hl : l.length ≤ 1000) (hd9 : r.d.length ≤ 1000000) (hM : mayR r = true) (hT : r.t = false) (hD :  r.d = []) (hB : 256 < (chL l r.t r.o.toNat r.d).length) : Calls Try.prog 6 #[.string (fB l), .agg (recL r).toArray] w (ChP l r w) := by
  have hmay := hM
  obtain ⟨hm1, hm2, hm3, hm4⟩ := mayR_b hM
  have hres := chR_big (l := l) hM hB
  go_enter Try.func6, Try.ntmps6
  go_step
  go_step
  refine wpl_boxRec rfl rfl r rfl ?_
  rintro gb wb ⟨hgb, kb⟩ bb
  have HK := hid kb; have HB := hid bb; clear kb bb
  refine wpk_enter (N := 48) (l := [(0, .string (fB l)), (3, .pointer (some ⟨gb, 0, none⟩))]) ⟨rfl, (by intro x hx; simp only [List.mem_cons, List.not_mem_nil, or_false] at hx; rcases hx with rfl | rfl <;> rfl), rfl⟩ fun a2 h1 => ?_
  refine wpk_val h1 (wanted_none rfl) rfl (by decide) (fr rfl) (.string (fB [])) rfl fun a4 h3 => ?_
  refine wpk_val h3 (wanted_none rfl) rfl (by decide) (fr rfl) (.int .i64 0) rfl fun a6 h5 => ?_
  go_step
  go_step
  go_step
  go_step
  go_step
  go_step
  refine wpk_val h5 (wanted_none rfl) rfl (by decide) (fr rfl) (.agg (recL r).toArray) (by unfold execOp; simp only [h5.eval (k := 3) (v := .pointer (some ⟨gb, 0, none⟩)) (by simp)]; exact run_v (run_loadAt_mid _ _ _ _ (recL r) _ (fun i u hu => by rw [Nat.zero_add]; exact blkF_at HK.out hu) Try.underlying23 rfl (by rw [infoRec]; rfl))) fun a8 h7 => ?_
  refine wpk_call h7 (wanted_none rfl) rfl (by decide) (fr rfl) (fun args => callF_8 args _) rfl #[.agg (recL r).toArray] (by simp only [List.map_toArray, List.map_cons, List.map_nil, h7.eval (k := 7) (v := .agg (recL r).toArray) (by simp)]) (R := fun v' w' => v' = .bool (mayR r) ∧ Below wb.heap.size wb w') ((mayR_f r _).mono fun e w' q => ⟨_, q.1, rfl, q.2⟩) fun a10 v2 w2 r2 h9 => ?_
  obtain ⟨rfl, b2⟩ := r2; rw [hmay] at h9; have HK2 := hid (HK.out.mono b2); have HB2 := hid (kept_trans HB.out b2); clear b2
  refine wpk_val h9 (wanted_none rfl) rfl (by decide) (fr rfl) (.bool false) (run_not rfl (h9.eval (k := 8) (v := .bool true) (by simp))) fun a12 h11 => ?_
  have h13 := h11.subs (l' := [(9, .bool false), (5, .int .i64 0), (4, .string (fB [])), (0, .string (fB l)), (3, .pointer (some ⟨gb, 0, none⟩))]) rfl
  clear h11
  go_step
  go_step
  go_step
  refine wp_cond (t := false) (h13.eval (k := 9) (v := .bool false) (by simp)) ?_
  simp only [Bool.false_eq_true, if_false]
  have h14 := h13.subs (l' := [(5, .int .i64 0), (4, .string (fB [])), (0, .string (fB l)), (3, .pointer (some ⟨gb, 0, none⟩))]) rfl
  clear h13
  go_step
  go_step
  go_step
  go_step
  go_step
  go_step
  refine wpk_val h14 (wanted_none rfl) rfl (by decide) (fr rfl) (.pointer (some ⟨gb, 3, none⟩)) (by unfold execOp; simp only [h14.eval (k := 3) (v := .pointer (some ⟨gb, 0, none⟩)) (by simp)]; exact run_v (faF_23_0_3 (gb) _)) fun a16 h15 => ?_
  refine wpk_val h15 (wanted_none rfl) rfl (by decide) (fr rfl) (.int .i64 r.o) (by unfold execOp; simp only [h15.eval (k := 10) (v := .pointer (some ⟨gb, 3, none⟩)) (by simp)]; exact run_v (loadIF (HK2.out.cell (i := 3) (by show 3 < 5; omega)))) fun a18 h17 => ?_
  refine wpk_val h17 (wanted_none rfl) rfl (by decide) (fr rfl) (.pointer (some ⟨gb, 4, none⟩)) (by unfold execOp; simp only [h17.eval (k := 3) (v := .pointer (some ⟨gb, 0, none⟩)) (by simp)]; exact run_v (faF_23_0_4 (gb) _)) fun a20 h19 => ?_
  refine wpk_val h19 (wanted_none rfl) rfl (by decide) (fr rfl) (.string (fB r.d)) (by unfold execOp; simp only [h19.eval (k := 12) (v := .pointer (some ⟨gb, 4, none⟩)) (by simp)]; exact run_v (loadSF (HK2.out.cell (i := 4) (by show 4 < 5; omega)))) fun a22 h21 => ?_
  refine wpk_val h21 (wanted_none rfl) rfl (by decide) (fr rfl) (.int .i64 (r.d.length : Int)) (run_lenF rfl (h21.eval (k := 13) (v := .string (fB r.d)) (by simp)) (by rfl) _) fun a24 h23 => ?_
  refine wpk_val h23 (wanted_none rfl) rfl (by decide) (fr rfl) (.int .i64 ((r.o.toNat + r.d.length : Nat) : Int)) (by unfold execOp; simp only [h23.eval (k := 11) (v := .int .i64 r.o) (by simp), h23.eval (k := 14) (v := .int .i64 (r.d.length : Int)) (by simp)]; exact run_v (addNP _ _ _ _ _ (by omega) (by omega) (by omega) _)) fun a26 h25 => ?_
  refine wpk_val h25 (wanted_none rfl) rfl (by decide) (fr rfl) (.int .i64 ((r.o.toNat + r.d.length : Nat) : Int)) (by unfold execOp; simp only [h25.eval (k := 15) (v := .int .i64 ((r.o.toNat + r.d.length : Nat) : Int)) (by simp)]; rfl) fun a28 h27 => ?_
  have h29 := h27.subs (l' := [(6, .int .i64 ((r.o.toNat + r.d.length : Nat) : Int)), (5, .int .i64 0), (4, .string (fB [])), (0, .string (fB l)), (3, .pointer (some ⟨gb, 0, none⟩))]) rfl
  clear h27
  go_step
  go_step
  go_step
  go_step
  go_step
  go_step
  refine wpk_val h29 (wanted_none rfl) rfl (by decide) (fr rfl) (.pointer (some ⟨gb, 2, none⟩)) (by unfold execOp; simp only [h29.eval (k := 3) (v := .pointer (some ⟨gb, 0, none⟩)) (by simp)]; exact run_v (faF_23_0_2 (gb) _)) fun a31 h30 => ?_
  refine wpk_val h30 (wanted_none rfl) rfl (by decide) (fr rfl) (.bool false) (by unfold execOp; simp only [h30.eval (k := 17) (v := .pointer (some ⟨gb, 2, none⟩)) (by simp)]; exact run_v (loadBF (cellT HK2.out hT))) fun a33 h32 => ?_
  refine wpk_val h32 (wanted_none rfl) rfl (by decide) (fr rfl) (.bool false) (by unfold execOp; simp only [h32.eval (k := 18) (v := .bool false) (by simp)]; rfl) fun a35 h34 => ?_
  have h36 := h34.subs (l' := [(16, .bool false), (6, .int .i64 ((r.o.toNat + r.d.length : Nat) : Int)), (5, .int .i64 0), (4, .string (fB [])), (0, .string (fB l)), (3, .pointer (some ⟨gb, 0, none⟩))]) rfl
  clear h34
  go_step
  go_step
  go_step
  refine wp_cond (t := false) (h36.eval (k := 16) (v := .bool false) (by simp)) ?_
  simp only [Bool.false_eq_true, if_false]
  have h37 := h36.subs (l' := [(6, .int .i64 ((r.o.toNat + r.d.length : Nat) : Int)), (5, .int .i64 0), (4, .string (fB [])), (0, .string (fB l)), (3, .pointer (some ⟨gb, 0, none⟩))]) rfl
  clear h36
  go_step
  go_step
  refine wpk_val h37 (wanted_none rfl) rfl (by decide) (fr rfl) (.pointer (some ⟨gb, 4, none⟩)) (by unfold execOp; simp only [h37.eval (k := 3) (v := .pointer (some ⟨gb, 0, none⟩)) (by simp)]; exact run_v (faF_23_0_4 (gb) _)) fun a39 h38 => ?_
  refine wpk_val h38 (wanted_none rfl) rfl (by decide) (fr rfl) (.string (fB r.d)) (by unfold execOp; simp only [h38.eval (k := 24) (v := .pointer (some ⟨gb, 4, none⟩)) (by simp)]; exact run_v (loadSF (HK2.out.cell (i := 4) (by show 4 < 5; omega)))) fun a41 h40 => ?_
  refine wpk_val h40 (wanted_none rfl) rfl (by decide) (fr rfl) (.bool false) (by unfold execOp; simp only [h40.eval (k := 25) (v := .string (fB r.d)) (by simp)]; exact run_v (neF _ _ _ _ _ (decide_eq_false (fun h => h (by first | rfl | assumption))))) fun a43 h42 => ?_
  refine wpk_val h42 (wanted_none rfl) rfl (by decide) (fr rfl) (.bool false) (by unfold execOp; simp only [h42.eval (k := 26) (v := .bool false) (by simp)]; rfl) fun a45 h44 => ?_
  have h46 := h44.subs (l' := [(23, .bool false), (6, .int .i64 ((r.o.toNat + r.d.length : Nat) : Int)), (5, .int .i64 0), (4, .string (fB [])), (0, .string (fB l)), (3, .pointer (some ⟨gb, 0, none⟩))]) rfl
  clear h44
  go_step
  go_step
  go_step
  refine wp_cond (t := false) (h46.eval (k := 23) (v := .bool false) (by simp)) ?_
  simp only [Bool.false_eq_true, if_false]
  have h47 := h46.subs (l' := [(6, .int .i64 ((r.o.toNat + r.d.length : Nat) : Int)), (5, .int .i64 0), (4, .string (fB [])), (0, .string (fB l)), (3, .pointer (some ⟨gb, 0, none⟩))]) rfl
  clear h46
  go_step
  go_step
  go_step
  have hz : l = chL l r.t r.o.toNat r.d := ch_n hT hD
  rw [hz] at h47
  go_step
  go_step
  go_step
  refine wpk_val h47 (wanted_none rfl) rfl (by decide) (fr rfl) (.string (fB (chL l r.t r.o.toNat r.d))) (by unfold execOp; simp only [h47.eval (k := 0) (v := .string (fB (chL l r.t r.o.toNat r.d))) (by simp)]; rfl) fun a49 h48 => ?_
  refine wpk_val h48 (wanted_none rfl) rfl (by decide) (fr rfl) (.int .i64 ((chL l r.t r.o.toNat r.d).length : Int)) (run_lenF rfl (h48.eval (k := 44) (v := .string (fB (chL l r.t r.o.toNat r.d))) (by simp)) (by rfl) _) fun a51 h50 => ?_
  refine wpk_val h50 (wanted_none rfl) rfl (by decide) (fr rfl) (.bool true) (by unfold execOp; simp only [h50.eval (k := 45) (v := .int .i64 ((chL l r.t r.o.toNat r.d).length : Int)) (by simp)]; exact run_v (gtIP _ _ _ _ _ (decide_eq_true (by omega)))) fun a53 h52 => ?_
  have h54 := h52.subs (l' := [(46, .bool true), (6, .int .i64 ((r.o.toNat + r.d.length : Nat) : Int)), (5, .int .i64 0), (4, .string (fB [])), (0, .string (fB (chL l r.t r.o.toNat r.d))), (3, .pointer (some ⟨gb, 0, none⟩))]) rfl
  clear h52
  go_step
  go_step
  go_step
  refine wp_cond (t := true) (h54.eval (k := 46) (v := .bool true) (by simp)) ?_
  simp only [if_true]
  have h55 := h54.subs (l' := [(6, .int .i64 ((r.o.toNat + r.d.length : Nat) : Int)), (5, .int .i64 0), (4, .string (fB [])), (0, .string (fB (chL l r.t r.o.toNat r.d))), (3, .pointer (some ⟨gb, 0, none⟩))]) rfl
  clear h54
  go_step
  go_step
  have h56 := h55.subs (l' := [(6, .int .i64 ((r.o.toNat + r.d.length : Nat) : Int)), (5, .int .i64 0), (0, .string (fB (chL l r.t r.o.toNat r.d))), (3, .pointer (some ⟨gb, 0, none⟩))]) rfl
  clear h55
  refine wpk_val h56 (wanted_none rfl) rfl (by decide) (fr rfl) (.string (fB [])) rfl fun a58 h57 => ?_
  have h59 := h57.subs (l' := [(4, .string (fB [])), (6, .int .i64 ((r.o.toNat + r.d.length : Nat) : Int)), (0, .string (fB (chL l r.t r.o.toNat r.d))), (3, .pointer (some ⟨gb, 0, none⟩))]) rfl
  clear h57
  refine wpk_val h59 (wanted_none rfl) rfl (by decide) (fr rfl) (.int .i64 19) rfl fun a61 h60 => ?_
  go_step
  go_step
  go_step
  go_step
  simp only [Exit.then, Exit.inBlock]
  exact bodyPost_ret (results_tmp2 rfl (h60.known (4, .string (fB [])) (by simp)) (h60.known (5, .int .i64 19) (by simp))) h60.defs ⟨hres, HB2.out⟩
set_option maxHeartbeats 4000000 in
theorem cch_ns (l : List UInt8) (r : RecT) (w : World) (hl : l.length ≤ 1000) (hd9 : r.d.length ≤ 1000000) (hM : mayR r = true) (hT : r.t = false) (hD :  r.d = []) (hB : ¬ 256 < (chL l r.t r.o.toNat r.d).length) : Calls Try.prog 6 #[.string (fB l), .agg (recL r).toArray] w (ChP l r w) := by
  have hmay := hM
  obtain ⟨hm1, hm2, hm3, hm4⟩ := mayR_b hM
  have hres := chR_ok (l := l) hM hB
  go_enter Try.func6, Try.ntmps6
  go_step
  go_step
  refine wpl_boxRec rfl rfl r rfl ?_
  rintro gb wb ⟨hgb, kb⟩ bb
  have HK := hid kb; have HB := hid bb; clear kb bb
  refine wpk_enter (N := 48) (l := [(0, .string (fB l)), (3, .pointer (some ⟨gb, 0, none⟩))]) ⟨rfl, (by intro x hx; simp only [List.mem_cons, List.not_mem_nil, or_false] at hx; rcases hx with rfl | rfl <;> rfl), rfl⟩ fun a2 h1 => ?_
  refine wpk_val h1 (wanted_none rfl) rfl (by decide) (fr rfl) (.string (fB [])) rfl fun a4 h3 => ?_
  refine wpk_val h3 (wanted_none rfl) rfl (by decide) (fr rfl) (.int .i64 0) rfl fun a6 h5 => ?_
  go_step
  go_step
  go_step
  go_step
  go_step
  go_step
  refine wpk_val h5 (wanted_none rfl) rfl (by decide) (fr rfl) (.agg (recL r).toArray) (by unfold execOp; simp only [h5.eval (k := 3) (v := .pointer (some ⟨gb, 0, none⟩)) (by simp)]; exact run_v (run_loadAt_mid _ _ _ _ (recL r) _ (fun i u hu => by rw [Nat.zero_add]; exact blkF_at HK.out hu) Try.underlying23 rfl (by rw [infoRec]; rfl))) fun a8 h7 => ?_
  refine wpk_call h7 (wanted_none rfl) rfl (by decide) (fr rfl) (fun args => callF_8 args _) rfl #[.agg (recL r).toArray] (by simp only [List.map_toArray, List.map_cons, List.map_nil, h7.eval (k := 7) (v := .agg (recL r).toArray) (by simp)]) (R := fun v' w' => v' = .bool (mayR r) ∧ Below wb.heap.size wb w') ((mayR_f r _).mono fun e w' q => ⟨_, q.1, rfl, q.2⟩) fun a10 v2 w2 r2 h9 => ?_
  obtain ⟨rfl, b2⟩ := r2; rw [hmay] at h9; have HK2 := hid (HK.out.mono b2); have HB2 := hid (kept_trans HB.out b2); clear b2
  refine wpk_val h9 (wanted_none rfl) rfl (by decide) (fr rfl) (.bool false) (run_not rfl (h9.eval (k := 8) (v := .bool true) (by simp))) fun a12 h11 => ?_
  have h13 := h11.subs (l' := [(9, .bool false), (5, .int .i64 0), (4, .string (fB [])), (0, .string (fB l)), (3, .pointer (some ⟨gb, 0, none⟩))]) rfl
  clear h11
  go_step
  go_step
  go_step
  refine wp_cond (t := false) (h13.eval (k := 9) (v := .bool false) (by simp)) ?_
  simp only [Bool.false_eq_true, if_false]
  have h14 := h13.subs (l' := [(5, .int .i64 0), (4, .string (fB [])), (0, .string (fB l)), (3, .pointer (some ⟨gb, 0, none⟩))]) rfl
  clear h13
  go_step
  go_step
  go_step
  go_step
  go_step
  go_step
  refine wpk_val h14 (wanted_none rfl) rfl (by decide) (fr rfl) (.pointer (some ⟨gb, 3, none⟩)) (by unfold execOp; simp only [h14.eval (k := 3) (v := .pointer (some ⟨gb, 0, none⟩)) (by simp)]; exact run_v (faF_23_0_3 (gb) _)) fun a16 h15 => ?_
  refine wpk_val h15 (wanted_none rfl) rfl (by decide) (fr rfl) (.int .i64 r.o) (by unfold execOp; simp only [h15.eval (k := 10) (v := .pointer (some ⟨gb, 3, none⟩)) (by simp)]; exact run_v (loadIF (HK2.out.cell (i := 3) (by show 3 < 5; omega)))) fun a18 h17 => ?_
  refine wpk_val h17 (wanted_none rfl) rfl (by decide) (fr rfl) (.pointer (some ⟨gb, 4, none⟩)) (by unfold execOp; simp only [h17.eval (k := 3) (v := .pointer (some ⟨gb, 0, none⟩)) (by simp)]; exact run_v (faF_23_0_4 (gb) _)) fun a20 h19 => ?_
  refine wpk_val h19 (wanted_none rfl) rfl (by decide) (fr rfl) (.string (fB r.d)) (by unfold execOp; simp only [h19.eval (k := 12) (v := .pointer (some ⟨gb, 4, none⟩)) (by simp)]; exact run_v (loadSF (HK2.out.cell (i := 4) (by show 4 < 5; omega)))) fun a22 h21 => ?_
  refine wpk_val h21 (wanted_none rfl) rfl (by decide) (fr rfl) (.int .i64 (r.d.length : Int)) (run_lenF rfl (h21.eval (k := 13) (v := .string (fB r.d)) (by simp)) (by rfl) _) fun a24 h23 => ?_
  refine wpk_val h23 (wanted_none rfl) rfl (by decide) (fr rfl) (.int .i64 ((r.o.toNat + r.d.length : Nat) : Int)) (by unfold execOp; simp only [h23.eval (k := 11) (v := .int .i64 r.o) (by simp), h23.eval (k := 14) (v := .int .i64 (r.d.length : Int)) (by simp)]; exact run_v (addNP _ _ _ _ _ (by omega) (by omega) (by omega) _)) fun a26 h25 => ?_
  refine wpk_val h25 (wanted_none rfl) rfl (by decide) (fr rfl) (.int .i64 ((r.o.toNat + r.d.length : Nat) : Int)) (by unfold execOp; simp only [h25.eval (k := 15) (v := .int .i64 ((r.o.toNat + r.d.length : Nat) : Int)) (by simp)]; rfl) fun a28 h27 => ?_
  have h29 := h27.subs (l' := [(6, .int .i64 ((r.o.toNat + r.d.length : Nat) : Int)), (5, .int .i64 0), (4, .string (fB [])), (0, .string (fB l)), (3, .pointer (some ⟨gb, 0, none⟩))]) rfl
  clear h27
  go_step
  go_step
  go_step
  go_step
  go_step
  go_step
  refine wpk_val h29 (wanted_none rfl) rfl (by decide) (fr rfl) (.pointer (some ⟨gb, 2, none⟩)) (by unfold execOp; simp only [h29.eval (k := 3) (v := .pointer (some ⟨gb, 0, none⟩)) (by simp)]; exact run_v (faF_23_0_2 (gb) _)) fun a31 h30 => ?_
  refine wpk_val h30 (wanted_none rfl) rfl (by decide) (fr rfl) (.bool false) (by unfold execOp; simp only [h30.eval (k := 17) (v := .pointer (some ⟨gb, 2, none⟩)) (by simp)]; exact run_v (loadBF (cellT HK2.out hT))) fun a33 h32 => ?_
  refine wpk_val h32 (wanted_none rfl) rfl (by decide) (fr rfl) (.bool false) (by unfold execOp; simp only [h32.eval (k := 18) (v := .bool false) (by simp)]; rfl) fun a35 h34 => ?_
  have h36 := h34.subs (l' := [(16, .bool false), (6, .int .i64 ((r.o.toNat + r.d.length : Nat) : Int)), (5, .int .i64 0), (4, .string (fB [])), (0, .string (fB l)), (3, .pointer (some ⟨gb, 0, none⟩))]) rfl
  clear h34
  go_step
  go_step
  go_step
  refine wp_cond (t := false) (h36.eval (k := 16) (v := .bool false) (by simp)) ?_
  simp only [Bool.false_eq_true, if_false]
  have h37 := h36.subs (l' := [(6, .int .i64 ((r.o.toNat + r.d.length : Nat) : Int)), (5, .int .i64 0), (4, .string (fB [])), (0, .string (fB l)), (3, .pointer (some ⟨gb, 0, none⟩))]) rfl
  clear h36
  go_step
  go_step
  refine wpk_val h37 (wanted_none rfl) rfl (by decide) (fr rfl) (.pointer (some ⟨gb, 4, none⟩)) (by unfold execOp; simp only [h37.eval (k := 3) (v := .pointer (some ⟨gb, 0, none⟩)) (by simp)]; exact run_v (faF_23_0_4 (gb) _)) fun a39 h38 => ?_
  refine wpk_val h38 (wanted_none rfl) rfl (by decide) (fr rfl) (.string (fB r.d)) (by unfold execOp; simp only [h38.eval (k := 24) (v := .pointer (some ⟨gb, 4, none⟩)) (by simp)]; exact run_v (loadSF (HK2.out.cell (i := 4) (by show 4 < 5; omega)))) fun a41 h40 => ?_
  refine wpk_val h40 (wanted_none rfl) rfl (by decide) (fr rfl) (.bool false) (by unfold execOp; simp only [h40.eval (k := 25) (v := .string (fB r.d)) (by simp)]; exact run_v (neF _ _ _ _ _ (decide_eq_false (fun h => h (by first | rfl | assumption))))) fun a43 h42 => ?_
  refine wpk_val h42 (wanted_none rfl) rfl (by decide) (fr rfl) (.bool false) (by unfold execOp; simp only [h42.eval (k := 26) (v := .bool false) (by simp)]; rfl) fun a45 h44 => ?_
  have h46 := h44.subs (l' := [(23, .bool false), (6, .int .i64 ((r.o.toNat + r.d.length : Nat) : Int)), (5, .int .i64 0), (4, .string (fB [])), (0, .string (fB l)), (3, .pointer (some ⟨gb, 0, none⟩))]) rfl
  clear h44
  go_step
  go_step
  go_step
  refine wp_cond (t := false) (h46.eval (k := 23) (v := .bool false) (by simp)) ?_
  simp only [Bool.false_eq_true, if_false]
  have h47 := h46.subs (l' := [(6, .int .i64 ((r.o.toNat + r.d.length : Nat) : Int)), (5, .int .i64 0), (4, .string (fB [])), (0, .string (fB l)), (3, .pointer (some ⟨gb, 0, none⟩))]) rfl
  clear h46
  go_step
  go_step
  go_step
  have hz : l = chL l r.t r.o.toNat r.d := ch_n hT hD
  rw [hz] at h47
  go_step
  go_step
  go_step
  refine wpk_val h47 (wanted_none rfl) rfl (by decide) (fr rfl) (.string (fB (chL l r.t r.o.toNat r.d))) (by unfold execOp; simp only [h47.eval (k := 0) (v := .string (fB (chL l r.t r.o.toNat r.d))) (by simp)]; rfl) fun a49 h48 => ?_
  refine wpk_val h48 (wanted_none rfl) rfl (by decide) (fr rfl) (.int .i64 ((chL l r.t r.o.toNat r.d).length : Int)) (run_lenF rfl (h48.eval (k := 44) (v := .string (fB (chL l r.t r.o.toNat r.d))) (by simp)) (by rfl) _) fun a51 h50 => ?_
  refine wpk_val h50 (wanted_none rfl) rfl (by decide) (fr rfl) (.bool false) (by unfold execOp; simp only [h50.eval (k := 45) (v := .int .i64 ((chL l r.t r.o.toNat r.d).length : Int)) (by simp)]; exact run_v (gtIP _ _ _ _ _ (decide_eq_false (by omega)))) fun a53 h52 => ?_
  have h54 := h52.subs (l' := [(46, .bool false), (6, .int .i64 ((r.o.toNat + r.d.length : Nat) : Int)), (5, .int .i64 0), (4, .string (fB [])), (0, .string (fB (chL l r.t r.o.toNat r.d))), (3, .pointer (some ⟨gb, 0, none⟩))]) rfl
  clear h52
  go_step
  go_step
  go_step
  refine wp_cond (t := false) (h54.eval (k := 46) (v := .bool false) (by simp)) ?_
  simp only [Bool.false_eq_true, if_false]
  have h55 := h54.subs (l' := [(6, .int .i64 ((r.o.toNat + r.d.length : Nat) : Int)), (5, .int .i64 0), (4, .string (fB [])), (0, .string (fB (chL l r.t r.o.toNat r.d))), (3, .pointer (some ⟨gb, 0, none⟩))]) rfl
  clear h54
  go_step
  go_step
  go_step
  go_step
  go_step
  refine wpk_val h55 (wanted_none rfl) rfl (by decide) (fr rfl) (.string (fB (chL l r.t r.o.toNat r.d))) (by unfold execOp; simp only [h55.eval (k := 0) (v := .string (fB (chL l r.t r.o.toNat r.d))) (by simp)]; rfl) fun a57 h56 => ?_
  have h58 := h56.subs (l' := [(47, .string (fB (chL l r.t r.o.toNat r.d))), (6, .int .i64 ((r.o.toNat + r.d.length : Nat) : Int)), (5, .int .i64 0), (0, .string (fB (chL l r.t r.o.toNat r.d))), (3, .pointer (some ⟨gb, 0, none⟩))]) rfl
  clear h56
  refine wpk_val h58 (wanted_none rfl) rfl (by decide) (fr rfl) (.string (fB (chL l r.t r.o.toNat r.d))) (by unfold execOp; simp only [h58.eval (k := 47) (v := .string (fB (chL l r.t r.o.toNat r.d))) (by simp)]; rfl) fun a60 h59 => ?_
  have h61 := h59.subs (l' := [(4, .string (fB (chL l r.t r.o.toNat r.d))), (47, .string (fB (chL l r.t r.o.toNat r.d))), (6, .int .i64 ((r.o.toNat + r.d.length : Nat) : Int)), (0, .string (fB (chL l r.t r.o.toNat r.d))), (3, .pointer (some ⟨gb, 0, none⟩))]) rfl
  clear h59
  refine wpk_val h61 (wanted_none rfl) rfl (by decide) (fr rfl) (.int .i64 0) rfl fun a63 h62 => ?_
  have h64 := h62.subs (l' := [(5, .int .i64 0), (4, .string (fB (chL l r.t r.o.toNat r.d))), (6, .int .i64 ((r.o.toNat + r.d.length : Nat) : Int)), (0, .string (fB (chL l r.t r.o.toNat r.d))), (3, .pointer (some ⟨gb, 0, none⟩))]) rfl
  clear h62
  go_step
  go_step
  go_step
  go_step
  exact bodyPost_ret (results_tmp2 rfl (h64.known (4, .string (fB (chL l r.t r.o.toNat r.d))) (by simp)) (h64.known (5, .int .i64 0) (by simp))) h64.defs ⟨hres, HB2.out⟩
set_option maxHeartbeats 4000000 in
theorem rf_no (l : List UInt8) (r : RecT) (w : World) (hl : l.length ≤ 1000) (hd9 : r.d.length ≤ 1000000) (hM : mayR r = false) : Calls Try.prog 7 #[.string (fB l), .agg (recL r).toArray] w (ChP l r w) := by
  have hmay := hM
  have hres := chR_no (l := l) hM
  go_enter Try.func7, Try.ntmps7
  go_step
  go_step
  refine wpl_boxRec rfl rfl r rfl ?_
  rintro gb wb ⟨hgb, kb⟩ bb
  have HK := hid kb; have HB := hid bb; clear kb bb
  refine wpk_enter (N := 44) (l := [(0, .string (fB l)), (3, .pointer (some ⟨gb, 0, none⟩))]) ⟨rfl, (by intro x hx; simp only [List.mem_cons, List.not_mem_nil, or_false] at hx; rcases hx with rfl | rfl <;> rfl), rfl⟩ fun a2 h1 => ?_
  refine wpk_val h1 (wanted_none rfl) rfl (by decide) (fr rfl) (.string (fB [])) rfl fun a4 h3 => ?_
  refine wpk_val h3 (wanted_none rfl) rfl (by decide) (fr rfl) (.int .i64 0) rfl fun a6 h5 => ?_
  go_step
  go_step
  go_step
  go_step
  go_step
  refine wpk_val h5 (wanted_none rfl) rfl (by decide) (fr rfl) (.agg (recL r).toArray) (by unfold execOp; simp only [h5.eval (k := 3) (v := .pointer (some ⟨gb, 0, none⟩)) (by simp)]; exact run_v (run_loadAt_mid _ _ _ _ (recL r) _ (fun i u hu => by rw [Nat.zero_add]; exact blkF_at HK.out hu) Try.underlying23 rfl (by rw [infoRec]; rfl))) fun a8 h7 => ?_
  refine wpk_call h7 (wanted_none rfl) rfl (by decide) (fr rfl) (fun args => callF_9 args _) rfl #[.agg (recL r).toArray] (by simp only [List.map_toArray, List.map_cons, List.map_nil, h7.eval (k := 8) (v := .agg (recL r).toArray) (by simp)]) (R := fun v' w' => v' = .bool (mayR r) ∧ Below wb.heap.size wb w') ((mayR_r r _).mono fun e w' q => ⟨_, q.1, rfl, q.2⟩) fun a10 v2 w2 r2 h9 => ?_
  obtain ⟨rfl, b2⟩ := r2; rw [hmay] at h9; have HK2 := hid (HK.out.mono b2); have HB2 := hid (kept_trans HB.out b2); clear b2
  refine wpk_val h9 (wanted_none rfl) rfl (by decide) (fr rfl) (.bool false) (by unfold execOp; simp only [h9.eval (k := 9) (v := .bool false) (by simp)]; rfl) fun a12 h11 => ?_
  have h13 := h11.subs (l' := [(6, .bool false), (5, .int .i64 0), (4, .string (fB [])), (0, .string (fB l)), (3, .pointer (some ⟨gb, 0, none⟩))]) rfl
  clear h11
  go_step
  go_step
  go_step
  go_step
  go_step
  go_step
  refine wpk_val h13 (wanted_none rfl) rfl (by decide) (fr rfl) (.bool false) (by unfold execOp; simp only [h13.eval (k := 6) (v := .bool false) (by simp)]; rfl) fun a15 h14 => ?_
  refine wpk_val h14 (wanted_none rfl) rfl (by decide) (fr rfl) (.bool true) (run_not rfl (h14.eval (k := 10) (v := .bool false) (by simp))) fun a17 h16 => ?_
  have h18 := h16.subs (l' := [(11, .bool true), (6, .bool false), (5, .int .i64 0), (4, .string (fB [])), (0, .string (fB l)), (3, .pointer (some ⟨gb, 0, none⟩))]) rfl
  clear h16
  go_step
  go_step
  go_step
  refine wp_cond (t := true) (h18.eval (k := 11) (v := .bool true) (by simp)) ?_
  simp only [if_true]
  have h19 := h18.subs (l' := [(6, .bool false), (5, .int .i64 0), (4, .string (fB [])), (0, .string (fB l)), (3, .pointer (some ⟨gb, 0, none⟩))]) rfl
  clear h18
  go_step
  go_step
  have h20 := h19.subs (l' := [(6, .bool false), (5, .int .i64 0), (0, .string (fB l)), (3, .pointer (some ⟨gb, 0, none⟩))]) rfl
  clear h19
  refine wpk_val h20 (wanted_none rfl) rfl (by decide) (fr rfl) (.string (fB [])) rfl fun a22 h21 => ?_
  have h23 := h21.subs (l' := [(4, .string (fB [])), (6, .bool false), (0, .string (fB l)), (3, .pointer (some ⟨gb, 0, none⟩))]) rfl
  clear h21
  refine wpk_val h23 (wanted_none rfl) rfl (by decide) (fr rfl) (.int .i64 1) rfl fun a25 h24 => ?_
  go_step
  go_step
  go_step
  go_step
  simp only [Exit.then, Exit.inBlock]
  exact bodyPost_ret (results_tmp2 rfl (h24.known (4, .string (fB [])) (by simp)) (h24.known (5, .int .i64 1) (by simp))) h24.defs ⟨hres, HB2.out⟩
set_option maxHeartbeats 4000000 in
theorem rf_tb (l : List UInt8) (r : RecT) (w : World) (hl : l.length ≤ 1000) (hd9 : r.d.length ≤ 1000000) (hM : mayR r = true) (hT : r.t = true) (hB : 256 < (chL l r.t r.o.toNat r.d).length) : Calls Try.prog 7 #[.string (fB l), .agg (recL r).toArray] w (ChP l r w) := by
  have hmay := hM
  obtain ⟨hm1, hm2, hm3, hm4⟩ := mayR_b hM
  have hres := chR_big (l := l) hM hB
  go_enter Try.func7, Try.ntmps7
  go_step
  go_step
  refine wpl_boxRec rfl rfl r rfl ?_
  rintro gb wb ⟨hgb, kb⟩ bb
  have HK := hid kb; have HB := hid bb; clear kb bb
  refine wpk_enter (N := 44) (l := [(0, .string (fB l)), (3, .pointer (some ⟨gb, 0, none⟩))]) ⟨rfl, (by intro x hx; simp only [List.mem_cons, List.not_mem_nil, or_false] at hx; rcases hx with rfl | rfl <;> rfl), rfl⟩ fun a2 h1 => ?_
  refine wpk_val h1 (wanted_none rfl) rfl (by decide) (fr rfl) (.string (fB [])) rfl fun a4 h3 => ?_
  refine wpk_val h3 (wanted_none rfl) rfl (by decide) (fr rfl) (.int .i64 0) rfl fun a6 h5 => ?_
  go_step
  go_step
  go_step
  go_step
  go_step
  refine wpk_val h5 (wanted_none rfl) rfl (by decide) (fr rfl) (.agg (recL r).toArray) (by unfold execOp; simp only [h5.eval (k := 3) (v := .pointer (some ⟨gb, 0, none⟩)) (by simp)]; exact run_v (run_loadAt_mid _ _ _ _ (recL r) _ (fun i u hu => by rw [Nat.zero_add]; exact blkF_at HK.out hu) Try.underlying23 rfl (by rw [infoRec]; rfl))) fun a8 h7 => ?_
  refine wpk_call h7 (wanted_none rfl) rfl (by decide) (fr rfl) (fun args => callF_9 args _) rfl #[.agg (recL r).toArray] (by simp only [List.map_toArray, List.map_cons, List.map_nil, h7.eval (k := 8) (v := .agg (recL r).toArray) (by simp)]) (R := fun v' w' => v' = .bool (mayR r) ∧ Below wb.heap.size wb w') ((mayR_r r _).mono fun e w' q => ⟨_, q.1, rfl, q.2⟩) fun a10 v2 w2 r2 h9 => ?_
  obtain ⟨rfl, b2⟩ := r2; rw [hmay] at h9; have HK2 := hid (HK.out.mono b2); have HB2 := hid (kept_trans HB.out b2); clear b2
  refine wpk_val h9 (wanted_none rfl) rfl (by decide) (fr rfl) (.bool true) (by unfold execOp; simp only [h9.eval (k := 9) (v := .bool true) (by simp)]; rfl) fun a12 h11 => ?_
  have h13 := h11.subs (l' := [(6, .bool true), (5, .int .i64 0), (4, .string (fB [])), (0, .string (fB l)), (3, .pointer (some ⟨gb, 0, none⟩))]) rfl
  clear h11
  go_step
  go_step
  go_step
  go_step
  go_step
  go_step
  refine wpk_val h13 (wanted_none rfl) rfl (by decide) (fr rfl) (.bool true) (by unfold execOp; simp only [h13.eval (k := 6) (v := .bool true) (by simp)]; rfl) fun a15 h14 => ?_
  refine wpk_val h14 (wanted_none rfl) rfl (by decide) (fr rfl) (.bool false) (run_not rfl (h14.eval (k := 10) (v := .bool true) (by simp))) fun a17 h16 => ?_
  have h18 := h16.subs (l' := [(11, .bool false), (6, .bool true), (5, .int .i64 0), (4, .string (fB [])), (0, .string (fB l)), (3, .pointer (some ⟨gb, 0, none⟩))]) rfl
  clear h16
  go_step
  go_step
  go_step
  refine wp_cond (t := false) (h18.eval (k := 11) (v := .bool false) (by simp)) ?_
  simp only [Bool.false_eq_true, if_false]
  have h19 := h18.subs (l' := [(6, .bool true), (5, .int .i64 0), (4, .string (fB [])), (0, .string (fB l)), (3, .pointer (some ⟨gb, 0, none⟩))]) rfl
  clear h18
  go_step
  go_step
  go_step
  go_step
  go_step
  refine wpk_val h19 (wanted_none rfl) rfl (by decide) (fr rfl) (.string (fB l)) (by unfold execOp; simp only [h19.eval (k := 0) (v := .string (fB l)) (by simp)]; rfl) fun a21 h20 => ?_
  refine wpk_val h20 (wanted_none rfl) rfl (by decide) (fr rfl) (.string (fB l)) (by unfold execOp; simp only [h20.eval (k := 12) (v := .string (fB l)) (by simp)]; rfl) fun a23 h22 => ?_
  have h24 := h22.subs (l' := [(7, .string (fB l)), (6, .bool true), (5, .int .i64 0), (4, .string (fB [])), (0, .string (fB l)), (3, .pointer (some ⟨gb, 0, none⟩))]) rfl
  clear h22
  go_step
  go_step
  go_step
  go_step
  go_step
  go_step
  refine wpk_val h24 (wanted_none rfl) rfl (by decide) (fr rfl) (.pointer (some ⟨gb, 2, none⟩)) (by unfold execOp; simp only [h24.eval (k := 3) (v := .pointer (some ⟨gb, 0, none⟩)) (by simp)]; exact run_v (faF_23_0_2 (gb) _)) fun a26 h25 => ?_
  refine wpk_val h25 (wanted_none rfl) rfl (by decide) (fr rfl) (.bool true) (by unfold execOp; simp only [h25.eval (k := 13) (v := .pointer (some ⟨gb, 2, none⟩)) (by simp)]; exact run_v (loadBF (cellT HK2.out hT))) fun a28 h27 => ?_
  have h29 := h27.subs (l' := [(14, .bool true), (7, .string (fB l)), (6, .bool true), (5, .int .i64 0), (4, .string (fB [])), (0, .string (fB l)), (3, .pointer (some ⟨gb, 0, none⟩))]) rfl
  clear h27
  go_step
  go_step
  go_step
  refine wp_cond (t := true) (h29.eval (k := 14) (v := .bool true) (by simp)) ?_
  simp only [if_true]
  have h30 := h29.subs (l' := [(7, .string (fB l)), (6, .bool true), (5, .int .i64 0), (4, .string (fB [])), (0, .string (fB l)), (3, .pointer (some ⟨gb, 0, none⟩))]) rfl
  clear h29
  go_step
  refine wpk_val h30 (wanted_none rfl) rfl (by decide) (fr rfl) (.string (fB l)) (by unfold execOp; simp only [h30.eval (k := 0) (v := .string (fB l)) (by simp)]; rfl) fun a32 h31 => ?_
  refine wpk_val h31 (wanted_none rfl) rfl (by decide) (fr rfl) (.pointer (some ⟨gb, 3, none⟩)) (by unfold execOp; simp only [h31.eval (k := 3) (v := .pointer (some ⟨gb, 0, none⟩)) (by simp)]; exact run_v (faF_23_0_3 (gb) _)) fun a34 h33 => ?_
  refine wpk_val h33 (wanted_none rfl) rfl (by decide) (fr rfl) (.int .i64 r.o) (by unfold execOp; simp only [h33.eval (k := 16) (v := .pointer (some ⟨gb, 3, none⟩)) (by simp)]; exact run_v (loadIF (HK2.out.cell (i := 3) (by show 3 < 5; omega)))) fun a36 h35 => ?_
  refine wpk_call h35 (wanted_none rfl) rfl (by decide) (fr rfl) (fun args => callF_12 args _) rfl #[.string (fB l), .int .i64 r.o] (by simp only [List.map_toArray, List.map_cons, List.map_nil, h35.eval (k := 15) (v := .string (fB l)) (by simp), h35.eval (k := 17) (v := .int .i64 r.o) (by simp)]) (R := fun v' w' => v' = .string (fB (rzL l r.o.toNat)) ∧ w2 = w') ((sized_o r l (by omega) (by omega) (by omega) _).mono fun e w' q => ⟨_, q.1, rfl, q.2⟩) fun a38 v3 w3 r3 h37 => ?_
  obtain ⟨rfl, rfl⟩ := r3
  have h39 := h37.subs (l' := [(18, .string (fB (rzL l r.o.toNat))), (17, .int .i64 r.o), (16, .pointer (some ⟨gb, 3, none⟩)), (15, .string (fB l)), (6, .bool true), (5, .int .i64 0), (4, .string (fB [])), (0, .string (fB l)), (3, .pointer (some ⟨gb, 0, none⟩))]) rfl
  clear h37
  refine wpk_val h39 (wanted_none rfl) rfl (by decide) (fr rfl) (.string (fB (rzL l r.o.toNat))) (by unfold execOp; simp only [h39.eval (k := 18) (v := .string (fB (rzL l r.o.toNat))) (by simp)]; rfl) fun a41 h40 => ?_
  have h42 := h40.subs (l' := [(7, .string (fB (rzL l r.o.toNat))), (6, .bool true), (5, .int .i64 0), (4, .string (fB [])), (0, .string (fB l)), (3, .pointer (some ⟨gb, 0, none⟩))]) rfl
  clear h40
  go_step
  go_step
  go_step
  have h43 := h42.subs (l' := [(7, .string (fB (rzL l r.o.toNat)))]) rfl
  clear h42
  have hz : (rzL l r.o.toNat) = chL l r.t r.o.toNat r.d := ch_t hT
  rw [hz] at h43
  go_step
  go_step
  go_step
  refine wpk_val h43 (wanted_none rfl) rfl (by decide) (fr rfl) (.string (fB (chL l r.t r.o.toNat r.d))) (by unfold execOp; simp only [h43.eval (k := 7) (v := .string (fB (chL l r.t r.o.toNat r.d))) (by simp)]; rfl) fun a45 h44 => ?_
  refine wpk_val h44 (wanted_none rfl) rfl (by decide) (fr rfl) (.int .i64 ((chL l r.t r.o.toNat r.d).length : Int)) (run_lenF rfl (h44.eval (k := 40) (v := .string (fB (chL l r.t r.o.toNat r.d))) (by simp)) (by rfl) _) fun a47 h46 => ?_
  refine wpk_val h46 (wanted_none rfl) rfl (by decide) (fr rfl) (.bool true) (by unfold execOp; simp only [h46.eval (k := 41) (v := .int .i64 ((chL l r.t r.o.toNat r.d).length : Int)) (by simp)]; exact run_v (gtIP _ _ _ _ _ (decide_eq_true (by omega)))) fun a49 h48 => ?_
  have h50 := h48.subs (l' := [(42, .bool true), (7, .string (fB (chL l r.t r.o.toNat r.d)))]) rfl
  clear h48
  go_step
  go_step
  go_step
  refine wp_cond (t := true) (h50.eval (k := 42) (v := .bool true) (by simp)) ?_
  simp only [if_true]
  have h51 := h50.subs (l' := [(7, .string (fB (chL l r.t r.o.toNat r.d)))]) rfl
  clear h50
  go_step
  go_step
  refine wpk_val h51 (wanted_none rfl) rfl (by decide) (fr rfl) (.string (fB [])) rfl fun a53 h52 => ?_
  refine wpk_val h52 (wanted_none rfl) rfl (by decide) (fr rfl) (.int .i64 19) rfl fun a55 h54 => ?_
  go_step
  go_step
  go_step
  go_step
  simp only [Exit.then, Exit.inBlock]
  exact bodyPost_ret (results_tmp2 rfl (h54.known (4, .string (fB [])) (by simp)) (h54.known (5, .int .i64 19) (by simp))) h54.defs ⟨hres, HB2.out⟩
set_option maxHeartbeats 4000000 in
theorem rf_ts (l : List UInt8) (r : RecT) (w : World) (hl : l.length ≤ 1000) (hd9 : r.d.length ≤ 1000000) (hM : mayR r = true) (hT : r.t = true) (hB : ¬ 256 < (chL l r.t r.o.toNat r.d).length) : Calls Try.prog 7 #[.string (fB l), .agg (recL r).toArray] w (ChP l r w) := by
  have hmay := hM
  obtain ⟨hm1, hm2, hm3, hm4⟩ := mayR_b hM
  have hres := chR_ok (l := l) hM hB
  go_enter Try.func7, Try.ntmps7
  go_step
  go_step
  refine wpl_boxRec rfl rfl r rfl ?_
  rintro gb wb ⟨hgb, kb⟩ bb
  have HK := hid kb; have HB := hid bb; clear kb bb
  refine wpk_enter (N := 44) (l := [(0, .string (fB l)), (3, .pointer (some ⟨gb, 0, none⟩))]) ⟨rfl, (by intro x hx; simp only [List.mem_cons, List.not_mem_nil, or_false] at hx; rcases hx with rfl | rfl <;> rfl), rfl⟩ fun a2 h1 => ?_
  refine wpk_val h1 (wanted_none rfl) rfl (by decide) (fr rfl) (.string (fB [])) rfl fun a4 h3 => ?_
  refine wpk_val h3 (wanted_none rfl) rfl (by decide) (fr rfl) (.int .i64 0) rfl fun a6 h5 => ?_
  go_step
  go_step
  go_step
  go_step
  go_step
  refine wpk_val h5 (wanted_none rfl) rfl (by decide) (fr rfl) (.agg (recL r).toArray) (by unfold execOp; simp only [h5.eval (k := 3) (v := .pointer (some ⟨gb, 0, none⟩)) (by simp)]; exact run_v (run_loadAt_mid _ _ _ _ (recL r) _ (fun i u hu => by rw [Nat.zero_add]; exact blkF_at HK.out hu) Try.underlying23 rfl (by rw [infoRec]; rfl))) fun a8 h7 => ?_
  refine wpk_call h7 (wanted_none rfl) rfl (by decide) (fr rfl) (fun args => callF_9 args _) rfl #[.agg (recL r).toArray] (by simp only [List.map_toArray, List.map_cons, List.map_nil, h7.eval (k := 8) (v := .agg (recL r).toArray) (by simp)]) (R := fun v' w' => v' = .bool (mayR r) ∧ Below wb.heap.size wb w') ((mayR_r r _).mono fun e w' q => ⟨_, q.1, rfl, q.2⟩) fun a10 v2 w2 r2 h9 => ?_
  obtain ⟨rfl, b2⟩ := r2; rw [hmay] at h9; have HK2 := hid (HK.out.mono b2); have HB2 := hid (kept_trans HB.out b2); clear b2
  refine wpk_val h9 (wanted_none rfl) rfl (by decide) (fr rfl) (.bool true) (by unfold execOp; simp only [h9.eval (k := 9) (v := .bool true) (by simp)]; rfl) fun a12 h11 => ?_
  have h13 := h11.subs (l' := [(6, .bool true), (5, .int .i64 0), (4, .string (fB [])), (0, .string (fB l)), (3, .pointer (some ⟨gb, 0, none⟩))]) rfl
  clear h11
  go_step
  go_step
  go_step
  go_step
  go_step
  go_step
  refine wpk_val h13 (wanted_none rfl) rfl (by decide) (fr rfl) (.bool true) (by unfold execOp; simp only [h13.eval (k := 6) (v := .bool true) (by simp)]; rfl) fun a15 h14 => ?_
  refine wpk_val h14 (wanted_none rfl) rfl (by decide) (fr rfl) (.bool false) (run_not rfl (h14.eval (k := 10) (v := .bool true) (by simp))) fun a17 h16 => ?_
  have h18 := h16.subs (l' := [(11, .bool false), (6, .bool true), (5, .int .i64 0), (4, .string (fB [])), (0, .string (fB l)), (3, .pointer (some ⟨gb, 0, none⟩))]) rfl
  clear h16
  go_step
  go_step
  go_step
  refine wp_cond (t := false) (h18.eval (k := 11) (v := .bool false) (by simp)) ?_
  simp only [Bool.false_eq_true, if_false]
  have h19 := h18.subs (l' := [(6, .bool true), (5, .int .i64 0), (4, .string (fB [])), (0, .string (fB l)), (3, .pointer (some ⟨gb, 0, none⟩))]) rfl
  clear h18
  go_step
  go_step
  go_step
  go_step
  go_step
  refine wpk_val h19 (wanted_none rfl) rfl (by decide) (fr rfl) (.string (fB l)) (by unfold execOp; simp only [h19.eval (k := 0) (v := .string (fB l)) (by simp)]; rfl) fun a21 h20 => ?_
  refine wpk_val h20 (wanted_none rfl) rfl (by decide) (fr rfl) (.string (fB l)) (by unfold execOp; simp only [h20.eval (k := 12) (v := .string (fB l)) (by simp)]; rfl) fun a23 h22 => ?_
  have h24 := h22.subs (l' := [(7, .string (fB l)), (6, .bool true), (5, .int .i64 0), (4, .string (fB [])), (0, .string (fB l)), (3, .pointer (some ⟨gb, 0, none⟩))]) rfl
  clear h22
  go_step
  go_step
  go_step
  go_step
  go_step
  go_step
  refine wpk_val h24 (wanted_none rfl) rfl (by decide) (fr rfl) (.pointer (some ⟨gb, 2, none⟩)) (by unfold execOp; simp only [h24.eval (k := 3) (v := .pointer (some ⟨gb, 0, none⟩)) (by simp)]; exact run_v (faF_23_0_2 (gb) _)) fun a26 h25 => ?_
  refine wpk_val h25 (wanted_none rfl) rfl (by decide) (fr rfl) (.bool true) (by unfold execOp; simp only [h25.eval (k := 13) (v := .pointer (some ⟨gb, 2, none⟩)) (by simp)]; exact run_v (loadBF (cellT HK2.out hT))) fun a28 h27 => ?_
  have h29 := h27.subs (l' := [(14, .bool true), (7, .string (fB l)), (6, .bool true), (5, .int .i64 0), (4, .string (fB [])), (0, .string (fB l)), (3, .pointer (some ⟨gb, 0, none⟩))]) rfl
  clear h27
  go_step
  go_step
  go_step
  refine wp_cond (t := true) (h29.eval (k := 14) (v := .bool true) (by simp)) ?_
  simp only [if_true]
  have h30 := h29.subs (l' := [(7, .string (fB l)), (6, .bool true), (5, .int .i64 0), (4, .string (fB [])), (0, .string (fB l)), (3, .pointer (some ⟨gb, 0, none⟩))]) rfl
  clear h29
  go_step
  refine wpk_val h30 (wanted_none rfl) rfl (by decide) (fr rfl) (.string (fB l)) (by unfold execOp; simp only [h30.eval (k := 0) (v := .string (fB l)) (by simp)]; rfl) fun a32 h31 => ?_
  refine wpk_val h31 (wanted_none rfl) rfl (by decide) (fr rfl) (.pointer (some ⟨gb, 3, none⟩)) (by unfold execOp; simp only [h31.eval (k := 3) (v := .pointer (some ⟨gb, 0, none⟩)) (by simp)]; exact run_v (faF_23_0_3 (gb) _)) fun a34 h33 => ?_
  refine wpk_val h33 (wanted_none rfl) rfl (by decide) (fr rfl) (.int .i64 r.o) (by unfold execOp; simp only [h33.eval (k := 16) (v := .pointer (some ⟨gb, 3, none⟩)) (by simp)]; exact run_v (loadIF (HK2.out.cell (i := 3) (by show 3 < 5; omega)))) fun a36 h35 => ?_
  refine wpk_call h35 (wanted_none rfl) rfl (by decide) (fr rfl) (fun args => callF_12 args _) rfl #[.string (fB l), .int .i64 r.o] (by simp only [List.map_toArray, List.map_cons, List.map_nil, h35.eval (k := 15) (v := .string (fB l)) (by simp), h35.eval (k := 17) (v := .int .i64 r.o) (by simp)]) (R := fun v' w' => v' = .string (fB (rzL l r.o.toNat)) ∧ w2 = w') ((sized_o r l (by omega) (by omega) (by omega) _).mono fun e w' q => ⟨_, q.1, rfl, q.2⟩) fun a38 v3 w3 r3 h37 => ?_
  obtain ⟨rfl, rfl⟩ := r3
  have h39 := h37.subs (l' := [(18, .string (fB (rzL l r.o.toNat))), (17, .int .i64 r.o), (16, .pointer (some ⟨gb, 3, none⟩)), (15, .string (fB l)), (6, .bool true), (5, .int .i64 0), (4, .string (fB [])), (0, .string (fB l)), (3, .pointer (some ⟨gb, 0, none⟩))]) rfl
  clear h37
  refine wpk_val h39 (wanted_none rfl) rfl (by decide) (fr rfl) (.string (fB (rzL l r.o.toNat))) (by unfold execOp; simp only [h39.eval (k := 18) (v := .string (fB (rzL l r.o.toNat))) (by simp)]; rfl) fun a41 h40 => ?_
  have h42 := h40.subs (l' := [(7, .string (fB (rzL l r.o.toNat))), (6, .bool true), (5, .int .i64 0), (4, .string (fB [])), (0, .string (fB l)), (3, .pointer (some ⟨gb, 0, none⟩))]) rfl
  clear h40
  go_step
  go_step
  go_step
  have h43 := h42.subs (l' := [(7, .string (fB (rzL l r.o.toNat)))]) rfl
  clear h42
  have hz : (rzL l r.o.toNat) = chL l r.t r.o.toNat r.d := ch_t hT
  rw [hz] at h43
  go_step
  go_step
  go_step
  refine wpk_val h43 (wanted_none rfl) rfl (by decide) (fr rfl) (.string (fB (chL l r.t r.o.toNat r.d))) (by unfold execOp; simp only [h43.eval (k := 7) (v := .string (fB (chL l r.t r.o.toNat r.d))) (by simp)]; rfl) fun a45 h44 => ?_
  refine wpk_val h44 (wanted_none rfl) rfl (by decide) (fr rfl) (.int .i64 ((chL l r.t r.o.toNat r.d).length : Int)) (run_lenF rfl (h44.eval (k := 40) (v := .string (fB (chL l r.t r.o.toNat r.d))) (by simp)) (by rfl) _) fun a47 h46 => ?_
  refine wpk_val h46 (wanted_none rfl) rfl (by decide) (fr rfl) (.bool false) (by unfold execOp; simp only [h46.eval (k := 41) (v := .int .i64 ((chL l r.t r.o.toNat r.d).length : Int)) (by simp)]; exact run_v (gtIP _ _ _ _ _ (decide_eq_false (by omega)))) fun a49 h48 => ?_
  have h50 := h48.subs (l' := [(42, .bool false), (7, .string (fB (chL l r.t r.o.toNat r.d)))]) rfl
  clear h48
  go_step
  go_step
  go_step
  refine wp_cond (t := false) (h50.eval (k := 42) (v := .bool false) (by simp)) ?_
  simp only [Bool.false_eq_true, if_false]
  have h51 := h50.subs (l' := [(7, .string (fB (chL l r.t r.o.toNat r.d)))]) rfl
  clear h50
  go_step
  go_step
  go_step
  go_step
  go_step
  refine wpk_val h51 (wanted_none rfl) rfl (by decide) (fr rfl) (.string (fB (chL l r.t r.o.toNat r.d))) (by unfold execOp; simp only [h51.eval (k := 7) (v := .string (fB (chL l r.t r.o.toNat r.d))) (by simp)]; rfl) fun a53 h52 => ?_
  refine wpk_val h52 (wanted_none rfl) rfl (by decide) (fr rfl) (.string (fB (chL l r.t r.o.toNat r.d))) (by unfold execOp; simp only [h52.eval (k := 43) (v := .string (fB (chL l r.t r.o.toNat r.d))) (by simp)]; rfl) fun a55 h54 => ?_
  refine wpk_val h54 (wanted_none rfl) rfl (by decide) (fr rfl) (.int .i64 0) rfl fun a57 h56 => ?_
  have h58 := h56.subs (l' := [(5, .int .i64 0), (4, .string (fB (chL l r.t r.o.toNat r.d))), (7, .string (fB (chL l r.t r.o.toNat r.d)))]) rfl
  clear h56
  go_step
  go_step
  go_step
  go_step
  exact bodyPost_ret (results_tmp2 rfl (h58.known (4, .string (fB (chL l r.t r.o.toNat r.d))) (by simp)) (h58.known (5, .int .i64 0) (by simp))) h58.defs ⟨hres, HB2.out⟩
set_option maxHeartbeats 4000000 in
theorem rf_dbl (l : List UInt8) (r : RecT) (w : World) (hl : l.length ≤ 1000) (hd9 : r.d.length ≤ 1000000) (hM : mayR r = true) (hT : r.t = false) (hD : ¬ r.d = []) (hL :  r.o.toNat + r.d.length < l.length) (hB : 256 < (chL l r.t r.o.toNat r.d).length) : Calls Try.prog 7 #[.string (fB l), .agg (recL r).toArray] w (ChP l r w) := by
  have hmay := hM
  obtain ⟨hm1, hm2, hm3, hm4⟩ := mayR_b hM
  have hres := chR_big (l := l) hM hB
  go_enter Try.func7, Try.ntmps7
  go_step
  go_step
  refine wpl_boxRec rfl rfl r rfl ?_
  rintro gb wb ⟨hgb, kb⟩ bb
  have HK := hid kb; have HB := hid bb; clear kb bb
  refine wpk_enter (N := 44) (l := [(0, .string (fB l)), (3, .pointer (some ⟨gb, 0, none⟩))]) ⟨rfl, (by intro x hx; simp only [List.mem_cons, List.not_mem_nil, or_false] at hx; rcases hx with rfl | rfl <;> rfl), rfl⟩ fun a2 h1 => ?_
  refine wpk_val h1 (wanted_none rfl) rfl (by decide) (fr rfl) (.string (fB [])) rfl fun a4 h3 => ?_
  refine wpk_val h3 (wanted_none rfl) rfl (by decide) (fr rfl) (.int .i64 0) rfl fun a6 h5 => ?_
  go_step
  go_step
  go_step
  go_step
  go_step
  refine wpk_val h5 (wanted_none rfl) rfl (by decide) (fr rfl) (.agg (recL r).toArray) (by unfold execOp; simp only [h5.eval (k := 3) (v := .pointer (some ⟨gb, 0, none⟩)) (by simp)]; exact run_v (run_loadAt_mid _ _ _ _ (recL r) _ (fun i u hu => by rw [Nat.zero_add]; exact blkF_at HK.out hu) Try.underlying23 rfl (by rw [infoRec]; rfl))) fun a8 h7 => ?_
  refine wpk_call h7 (wanted_none rfl) rfl (by decide) (fr rfl) (fun args => callF_9 args _) rfl #[.agg (recL r).toArray] (by simp only [List.map_toArray, List.map_cons, List.map_nil, h7.eval (k := 8) (v := .agg (recL r).toArray) (by simp)]) (R := fun v' w' => v' = .bool (mayR r) ∧ Below wb.heap.size wb w') ((mayR_r r _).mono fun e w' q => ⟨_, q.1, rfl, q.2⟩) fun a10 v2 w2 r2 h9 => ?_
  obtain ⟨rfl, b2⟩ := r2; rw [hmay] at h9; have HK2 := hid (HK.out.mono b2); have HB2 := hid (kept_trans HB.out b2); clear b2
  refine wpk_val h9 (wanted_none rfl) rfl (by decide) (fr rfl) (.bool true) (by unfold execOp; simp only [h9.eval (k := 9) (v := .bool true) (by simp)]; rfl) fun a12 h11 => ?_
  have h13 := h11.subs (l' := [(6, .bool true), (5, .int .i64 0), (4, .string (fB [])), (0, .string (fB l)), (3, .pointer (some ⟨gb, 0, none⟩))]) rfl
  clear h11
  go_step
  go_step
  go_step
  go_step
  go_step
  go_step
  refine wpk_val h13 (wanted_none rfl) rfl (by decide) (fr rfl) (.bool true) (by unfold execOp; simp only [h13.eval (k := 6) (v := .bool true) (by simp)]; rfl) fun a15 h14 => ?_
  refine wpk_val h14 (wanted_none rfl) rfl (by decide) (fr rfl) (.bool false) (run_not rfl (h14.eval (k := 10) (v := .bool true) (by simp))) fun a17 h16 => ?_
  have h18 := h16.subs (l' := [(11, .bool false), (6, .bool true), (5, .int .i64 0), (4, .string (fB [])), (0, .string (fB l)), (3, .pointer (some ⟨gb, 0, none⟩))]) rfl
  clear h16
  go_step
  go_step
  go_step
  refine wp_cond (t := false) (h18.eval (k := 11) (v := .bool false) (by simp)) ?_
  simp only [Bool.false_eq_true, if_false]
  have h19 := h18.subs (l' := [(6, .bool true), (5, .int .i64 0), (4, .string (fB [])), (0, .string (fB l)), (3, .pointer (some ⟨gb, 0, none⟩))]) rfl
  clear h18
  go_step
  go_step
  go_step
  go_step
  go_step
  refine wpk_val h19 (wanted_none rfl) rfl (by decide) (fr rfl) (.string (fB l)) (by unfold execOp; simp only [h19.eval (k := 0) (v := .string (fB l)) (by simp)]; rfl) fun a21 h20 => ?_
  refine wpk_val h20 (wanted_none rfl) rfl (by decide) (fr rfl) (.string (fB l)) (by unfold execOp; simp only [h20.eval (k := 12) (v := .string (fB l)) (by simp)]; rfl) fun a23 h22 => ?_
  have h24 := h22.subs (l' := [(7, .string (fB l)), (6, .bool true), (5, .int .i64 0), (4, .string (fB [])), (0, .string (fB l)), (3, .pointer (some ⟨gb, 0, none⟩))]) rfl
  clear h22
  go_step
  go_step
  go_step
  go_step
  go_step
  go_step
  refine wpk_val h24 (wanted_none rfl) rfl (by decide) (fr rfl) (.pointer (some ⟨gb, 2, none⟩)) (by unfold execOp; simp only [h24.eval (k := 3) (v := .pointer (some ⟨gb, 0, none⟩)) (by simp)]; exact run_v (faF_23_0_2 (gb) _)) fun a26 h25 => ?_
  refine wpk_val h25 (wanted_none rfl) rfl (by decide) (fr rfl) (.bool false) (by unfold execOp; simp only [h25.eval (k := 13) (v := .pointer (some ⟨gb, 2, none⟩)) (by simp)]; exact run_v (loadBF (cellT HK2.out hT))) fun a28 h27 => ?_
  have h29 := h27.subs (l' := [(14, .bool false), (7, .string (fB l)), (6, .bool true), (5, .int .i64 0), (4, .string (fB [])), (0, .string (fB l)), (3, .pointer (some ⟨gb, 0, none⟩))]) rfl
  clear h27
  go_step
  go_step
  go_step
  refine wp_cond (t := false) (h29.eval (k := 14) (v := .bool false) (by simp)) ?_
  simp only [Bool.false_eq_true, if_false]
  have h30 := h29.subs (l' := [(7, .string (fB l)), (6, .bool true), (5, .int .i64 0), (4, .string (fB [])), (0, .string (fB l)), (3, .pointer (some ⟨gb, 0, none⟩))]) rfl
  clear h29
  go_step
  go_step
  refine wpk_val h30 (wanted_none rfl) rfl (by decide) (fr rfl) (.pointer (some ⟨gb, 4, none⟩)) (by unfold execOp; simp only [h30.eval (k := 3) (v := .pointer (some ⟨gb, 0, none⟩)) (by simp)]; exact run_v (faF_23_0_4 (gb) _)) fun a32 h31 => ?_
  refine wpk_val h31 (wanted_none rfl) rfl (by decide) (fr rfl) (.string (fB r.d)) (by unfold execOp; simp only [h31.eval (k := 19) (v := .pointer (some ⟨gb, 4, none⟩)) (by simp)]; exact run_v (loadSF (HK2.out.cell (i := 4) (by show 4 < 5; omega)))) fun a34 h33 => ?_
  refine wpk_val h33 (wanted_none rfl) rfl (by decide) (fr rfl) (.bool true) (by unfold execOp; simp only [h33.eval (k := 20) (v := .string (fB r.d)) (by simp)]; exact run_v (neF _ _ _ _ _ (decide_eq_true (by assumption)))) fun a36 h35 => ?_
  have h37 := h35.subs (l' := [(21, .bool true), (7, .string (fB l)), (6, .bool true), (5, .int .i64 0), (4, .string (fB [])), (0, .string (fB l)), (3, .pointer (some ⟨gb, 0, none⟩))]) rfl
  clear h35
  go_step
  go_step
  go_step
  refine wp_cond (t := true) (h37.eval (k := 21) (v := .bool true) (by simp)) ?_
  simp only [if_true]
  have h38 := h37.subs (l' := [(7, .string (fB l)), (6, .bool true), (5, .int .i64 0), (4, .string (fB [])), (0, .string (fB l)), (3, .pointer (some ⟨gb, 0, none⟩))]) rfl
  clear h37
  go_step
  have HK4 := hid (HK2.out.mono (Below.refl _ _).drew); have HB4 := hid (Below.drew (HB2.out))
  refine wp_region_held_drew (S := fun w' => w2.drew = w') (by kernel_rfl) rfl (fun hS1 => ?_)
  refine wpk_take hS1 h38 0 rfl rfl (by decide) (fr rfl) (by kernel_rfl) (by kernel_rfl) (by kernel_rfl) (fun _ _ _ _ h => h) (.string (fB l)) (Or.inl ⟨Eq.refl true, fun w1 hSw => (by show (execOp _ (⟨_, .move (.tmp 0), _, _, _, _⟩ : Oper)).run _ _ = _; exact (by unfold execOp; simp only [h38.eval (k := 0) (v := .string (fB l)) (by simp)]; rfl))⟩) fun a40 h39 => ?_
  refine wpk_take hS1 h39 1 rfl rfl (by decide) (fr rfl) (by kernel_rfl) (by kernel_rfl) (by kernel_rfl) (fun _ _ _ _ h => h) (.pointer (some ⟨gb, 3, none⟩)) (Or.inl ⟨Eq.refl true, fun w1 hSw => (by show (execOp _ (⟨_, .fieldAddr 23 (.tmp 3) 3, _, _, _, _⟩ : Oper)).run _ _ = _; exact (by unfold execOp; simp only [h39.eval (k := 3) (v := .pointer (some ⟨gb, 0, none⟩)) (by simp)]; exact run_v (faF_23_0_3 (gb) _)))⟩) fun a42 h41 => ?_
  refine wpk_take hS1 h41 2 rfl rfl (by decide) (fr rfl) (by kernel_rfl) (by kernel_rfl) (by kernel_rfl) (fun _ _ _ _ h => h) (.int .i64 r.o) (Or.inl ⟨Eq.refl true, fun w1 hSw => (by show (execOp _ (⟨_, .load 3 (.tmp 23), _, _, _, _⟩ : Oper)).run _ _ = _; exact (by unfold execOp; simp only [h41.eval (k := 23) (v := .pointer (some ⟨gb, 3, none⟩)) (by simp)]; exact run_v (loadIF ((hSw ▸ HK4.out).cell (i := 3) (by show 3 < 5; omega)))))⟩) fun a44 h43 => ?_
  refine wpk_take hS1 h43 4 rfl rfl (by decide) (fr rfl) (by kernel_rfl) (by kernel_rfl) (by kernel_rfl) (fun _ _ _ _ h => h) (.pointer (some ⟨gb, 4, none⟩)) (Or.inl ⟨Eq.refl true, fun w1 hSw => (by show (execOp _ (⟨_, .fieldAddr 23 (.tmp 3) 4, _, _, _, _⟩ : Oper)).run _ _ = _; exact (by unfold execOp; simp only [h43.eval (k := 3) (v := .pointer (some ⟨gb, 0, none⟩)) (by simp)]; exact run_v (faF_23_0_4 (gb) _)))⟩) fun a46 h45 => ?_
  refine wpk_take hS1 h45 5 rfl rfl (by decide) (fr rfl) (by kernel_rfl) (by kernel_rfl) (by kernel_rfl) (fun _ _ _ _ h => h) (.string (fB r.d)) (Or.inl ⟨Eq.refl true, fun w1 hSw => (by show (execOp _ (⟨_, .load 9 (.tmp 26), _, _, _, _⟩ : Oper)).run _ _ = _; exact (by unfold execOp; simp only [h45.eval (k := 26) (v := .pointer (some ⟨gb, 4, none⟩)) (by simp)]; exact run_v (loadSF ((hSw ▸ HK4.out).cell (i := 4) (by show 4 < 5; omega)))))⟩) fun a48 h47 => ?_
  refine wpk_onlyW 3 rfl (wanted_none rfl) (by kernel_rfl) fun KK hK => op_call h47 rfl (by decide) (fr rfl) (fun args => callF_12 args _) rfl #[.string (fB l), .int .i64 r.o] (by simp only [List.map_toArray, List.map_cons, List.map_nil, h47.eval (k := 22) (v := .string (fB l)) (by simp), h47.eval (k := 24) (v := .int .i64 r.o) (by simp)]) (R := fun v' w' => v' = .string (fB (rzL l r.o.toNat)) ∧ w2.drew = w') ((sized_o r l (by omega) (by omega) (by omega) _).mono fun e w' q => ⟨_, q.1, rfl, q.2⟩) fun a50 v3 w3 r3 h49 => hK _ _ (r3.2) fun hS2 => ?_
  clear hK KK
  obtain ⟨rfl, rfl⟩ := r3
  refine wpk_take hS2 h49 6 rfl rfl (by decide) (fr rfl) (by kernel_rfl) (by kernel_rfl) (by kernel_rfl) (fun _ _ _ _ h => h) (.string (fB ((rzL l r.o.toNat) ++ r.d))) (Or.inl ⟨Eq.refl true, fun w1 hSw => (by show (execOp _ (⟨_, .binOp .add 9 (.tmp 25) (.tmp 27) 9, _, _, _, _⟩ : Oper)).run _ _ = _; exact (by unfold execOp; simp only [h49.eval (k := 25) (v := .string (fB (rzL l r.o.toNat))) (by simp), h49.eval (k := 27) (v := .string (fB r.d)) (by simp)]; exact run_v (addF _ _ _ _ (by first | omega | (simp only [List.length_append, List.length_take, List.length_drop, rzL_len, List.length_replicate, List.length_cons, List.length_nil]; omega)) _)))⟩) fun a52 h51 => ?_
  have h53 := h51.subs (l' := [(28, .string (fB ((rzL l r.o.toNat) ++ r.d))), (25, .string (fB (rzL l r.o.toNat))), (27, .string (fB r.d)), (26, .pointer (some ⟨gb, 4, none⟩)), (24, .int .i64 r.o), (23, .pointer (some ⟨gb, 3, none⟩)), (22, .string (fB l)), (6, .bool true), (5, .int .i64 0), (4, .string (fB [])), (0, .string (fB l)), (3, .pointer (some ⟨gb, 0, none⟩))]) rfl
  clear h51
  refine wpk_take hS2 h53 7 rfl rfl (by decide) (fr rfl) (by kernel_rfl) (by kernel_rfl) (by kernel_rfl) (fun _ _ _ _ h => h) (.string (fB ((rzL l r.o.toNat) ++ r.d))) (Or.inl ⟨Eq.refl true, fun w1 hSw => (by show (execOp _ (⟨_, .assign (.tmp 28), _, _, _, _⟩ : Oper)).run _ _ = _; exact (by unfold execOp; simp only [h53.eval (k := 28) (v := .string (fB ((rzL l r.o.toNat) ++ r.d))) (by simp)]; rfl))⟩) fun a55 h54 => ?_
  refine wpAnyH_done (by kernel_rfl) ?_ _
  have h56 := h54.subs (l' := [(7, .string (fB ((rzL l r.o.toNat) ++ r.d))), (6, .bool true), (5, .int .i64 0), (4, .string (fB [])), (0, .string (fB l)), (3, .pointer (some ⟨gb, 0, none⟩))]) rfl
  clear h54
  go_step
  go_step
  go_step
  go_step
  refine wpk_val h56 (wanted_none rfl) rfl (by decide) (fr rfl) (.string (fB l)) (by unfold execOp; simp only [h56.eval (k := 0) (v := .string (fB l)) (by simp)]; rfl) fun a58 h57 => ?_
  refine wpk_val h57 (wanted_none rfl) rfl (by decide) (fr rfl) (.int .i64 (l.length : Int)) (run_lenF rfl (h57.eval (k := 29) (v := .string (fB l)) (by simp)) (by rfl) _) fun a60 h59 => ?_
  refine wpk_val h59 (wanted_none rfl) rfl (by decide) (fr rfl) (.string (fB ((rzL l r.o.toNat) ++ r.d))) (by unfold execOp; simp only [h59.eval (k := 7) (v := .string (fB ((rzL l r.o.toNat) ++ r.d))) (by simp)]; rfl) fun a62 h61 => ?_
  refine wpk_val h61 (wanted_none rfl) rfl (by decide) (fr rfl) (.int .i64 ((r.o.toNat + r.d.length : Nat) : Int)) (run_lenF rfl (h61.eval (k := 31) (v := .string (fB ((rzL l r.o.toNat) ++ r.d))) (by simp)) (by rw [List.length_append, rzL_len]) _) fun a64 h63 => ?_
  refine wpk_val h63 (wanted_none rfl) rfl (by decide) (fr rfl) (.bool true) (by unfold execOp; simp only [h63.eval (k := 30) (v := .int .i64 (l.length : Int)) (by simp), h63.eval (k := 32) (v := .int .i64 ((r.o.toNat + r.d.length : Nat) : Int)) (by simp)]; exact run_v (gtIP _ _ _ _ _ (decide_eq_true (by omega)))) fun a66 h65 => ?_
  have h67 := h65.subs (l' := [(33, .bool true), (7, .string (fB ((rzL l r.o.toNat) ++ r.d))), (6, .bool true), (5, .int .i64 0), (4, .string (fB [])), (0, .string (fB l)), (3, .pointer (some ⟨gb, 0, none⟩))]) rfl
  clear h65
  go_step
  go_step
  go_step
  refine wp_cond (t := true) (h67.eval (k := 33) (v := .bool true) (by simp)) ?_
  simp only [if_true]
  have h68 := h67.subs (l' := [(7, .string (fB ((rzL l r.o.toNat) ++ r.d))), (6, .bool true), (5, .int .i64 0), (4, .string (fB [])), (0, .string (fB l)), (3, .pointer (some ⟨gb, 0, none⟩))]) rfl
  clear h67
  go_step
  refine wpk_val h68 (wanted_none rfl) rfl (by decide) (fr rfl) (.string (fB ((rzL l r.o.toNat) ++ r.d))) (by unfold execOp; simp only [h68.eval (k := 7) (v := .string (fB ((rzL l r.o.toNat) ++ r.d))) (by simp)]; rfl) fun a70 h69 => ?_
  refine wpk_val h69 (wanted_none rfl) rfl (by decide) (fr rfl) (.string (fB l)) (by unfold execOp; simp only [h69.eval (k := 0) (v := .string (fB l)) (by simp)]; rfl) fun a72 h71 => ?_
  refine wpk_val h71 (wanted_none rfl) rfl (by decide) (fr rfl) (.string (fB ((rzL l r.o.toNat) ++ r.d))) (by unfold execOp; simp only [h71.eval (k := 7) (v := .string (fB ((rzL l r.o.toNat) ++ r.d))) (by simp)]; rfl) fun a74 h73 => ?_
  refine wpk_val h73 (wanted_none rfl) rfl (by decide) (fr rfl) (.int .i64 ((r.o.toNat + r.d.length : Nat) : Int)) (run_lenF rfl (h73.eval (k := 36) (v := .string (fB ((rzL l r.o.toNat) ++ r.d))) (by simp)) (by rw [List.length_append, rzL_len]) _) fun a76 h75 => ?_
  refine wpk_val h75 (wanted_none rfl) rfl (by decide) (fr rfl) (.string (fB (l.drop (r.o.toNat + r.d.length)))) (by unfold execOp; simp only [Option.map_some, Option.map_none, h75.eval (k := 35) (v := .string (fB l)) (by simp), h75.eval (k := 37) (v := .int .i64 ((r.o.toNat + r.d.length : Nat) : Int)) (by simp)]; exact run_v (slLF _ _ _ (by omega) (by omega) _)) fun a78 h77 => ?_
  refine wpk_val h77 (wanted_none rfl) rfl (by decide) (fr rfl) (.string (fB (((rzL l r.o.toNat) ++ r.d) ++ (l.drop (r.o.toNat + r.d.length))))) (by unfold execOp; simp only [h77.eval (k := 34) (v := .string (fB ((rzL l r.o.toNat) ++ r.d))) (by simp), h77.eval (k := 38) (v := .string (fB (l.drop (r.o.toNat + r.d.length)))) (by simp)]; exact run_v (addF _ _ _ _ (by first | omega | (simp only [List.length_append, List.length_take, List.length_drop, rzL_len, List.length_replicate, List.length_cons, List.length_nil]; omega)) _)) fun a80 h79 => ?_
  have h81 := h79.subs (l' := [(39, .string (fB (((rzL l r.o.toNat) ++ r.d) ++ (l.drop (r.o.toNat + r.d.length))))), (38, .string (fB (l.drop (r.o.toNat + r.d.length)))), (37, .int .i64 ((r.o.toNat + r.d.length : Nat) : Int)), (36, .string (fB ((rzL l r.o.toNat) ++ r.d))), (35, .string (fB l)), (34, .string (fB ((rzL l r.o.toNat) ++ r.d))), (6, .bool true), (5, .int .i64 0), (4, .string (fB [])), (0, .string (fB l)), (3, .pointer (some ⟨gb, 0, none⟩))]) rfl
  clear h79
  refine wpk_val h81 (wanted_none rfl) rfl (by decide) (fr rfl) (.string (fB (((rzL l r.o.toNat) ++ r.d) ++ (l.drop (r.o.toNat + r.d.length))))) (by unfold execOp; simp only [h81.eval (k := 39) (v := .string (fB (((rzL l r.o.toNat) ++ r.d) ++ (l.drop (r.o.toNat + r.d.length))))) (by simp)]; rfl) fun a83 h82 => ?_
  have h84 := h82.subs (l' := [(7, .string (fB (((rzL l r.o.toNat) ++ r.d) ++ (l.drop (r.o.toNat + r.d.length))))), (6, .bool true), (5, .int .i64 0), (4, .string (fB [])), (0, .string (fB l)), (3, .pointer (some ⟨gb, 0, none⟩))]) rfl
  clear h82
  go_step
  go_step
  go_step
  have h85 := h84.subs (l' := [(7, .string (fB (((rzL l r.o.toNat) ++ r.d) ++ (l.drop (r.o.toNat + r.d.length)))))]) rfl
  clear h84
  have hz : (((rzL l r.o.toNat) ++ r.d) ++ (l.drop (r.o.toNat + r.d.length))) = chL l r.t r.o.toNat r.d := ch_l hT hD
  rw [hz] at h85
  go_step
  go_step
  go_step
  refine wpk_val h85 (wanted_none rfl) rfl (by decide) (fr rfl) (.string (fB (chL l r.t r.o.toNat r.d))) (by unfold execOp; simp only [h85.eval (k := 7) (v := .string (fB (chL l r.t r.o.toNat r.d))) (by simp)]; rfl) fun a87 h86 => ?_
  refine wpk_val h86 (wanted_none rfl) rfl (by decide) (fr rfl) (.int .i64 ((chL l r.t r.o.toNat r.d).length : Int)) (run_lenF rfl (h86.eval (k := 40) (v := .string (fB (chL l r.t r.o.toNat r.d))) (by simp)) (by rfl) _) fun a89 h88 => ?_
  refine wpk_val h88 (wanted_none rfl) rfl (by decide) (fr rfl) (.bool true) (by unfold execOp; simp only [h88.eval (k := 41) (v := .int .i64 ((chL l r.t r.o.toNat r.d).length : Int)) (by simp)]; exact run_v (gtIP _ _ _ _ _ (decide_eq_true (by omega)))) fun a91 h90 => ?_
  have h92 := h90.subs (l' := [(42, .bool true), (7, .string (fB (chL l r.t r.o.toNat r.d)))]) rfl
  clear h90
  go_step
  go_step
  go_step
  refine wp_cond (t := true) (h92.eval (k := 42) (v := .bool true) (by simp)) ?_
  simp only [if_true]
  have h93 := h92.subs (l' := [(7, .string (fB (chL l r.t r.o.toNat r.d)))]) rfl
  clear h92
  go_step
  go_step
  refine wpk_val h93 (wanted_none rfl) rfl (by decide) (fr rfl) (.string (fB [])) rfl fun a95 h94 => ?_
  refine wpk_val h94 (wanted_none rfl) rfl (by decide) (fr rfl) (.int .i64 19) rfl fun a97 h96 => ?_
  go_step
  go_step
  go_step
  go_step
  simp only [Exit.then, Exit.inBlock]
  exact bodyPost_ret (results_tmp2 rfl (h96.known (4, .string (fB [])) (by simp)) (h96.known (5, .int .i64 19) (by simp))) h96.defs ⟨hres, HB4.out⟩
set_option maxHeartbeats 4000000 in
theorem rf_dsl (l : List UInt8) (r : RecT) (w : World) (hl : l.length ≤ 1000) (hd9 : r.d.length ≤ 1000000) (hM : mayR r = true) (hT : r.t = false) (hD : ¬ r.d = []) (hL :  r.o.toNat + r.d.length < l.length) (hB : ¬ 256 < (chL l r.t r.o.toNat r.d).length) : Calls Try.prog 7 #[.string (fB l), .agg (recL r).toArray] w (ChP l r w) := by
  have hmay := hM
  obtain ⟨hm1, hm2, hm3, hm4⟩ := mayR_b hM
  have hres := chR_ok (l := l) hM hB
  go_enter Try.func7, Try.ntmps7
  go_step
  go_step
  refine wpl_boxRec rfl rfl r rfl ?_
  rintro gb wb ⟨hgb, kb⟩ bb
  have HK := hid kb; have HB := hid bb; clear kb bb
  refine wpk_enter (N := 44) (l := [(0, .string (fB l)), (3, .pointer (some ⟨gb, 0, none⟩))]) ⟨rfl, (by intro x hx; simp only [List.mem_cons, List.not_mem_nil, or_false] at hx; rcases hx with rfl | rfl <;> rfl), rfl⟩ fun a2 h1 => ?_
  refine wpk_val h1 (wanted_none rfl) rfl (by decide) (fr rfl) (.string (fB [])) rfl fun a4 h3 => ?_
  refine wpk_val h3 (wanted_none rfl) rfl (by decide) (fr rfl) (.int .i64 0) rfl fun a6 h5 => ?_
  go_step
  go_step
  go_step
  go_step
  go_step
  refine wpk_val h5 (wanted_none rfl) rfl (by decide) (fr rfl) (.agg (recL r).toArray) (by unfold execOp; simp only [h5.eval (k := 3) (v := .pointer (some ⟨gb, 0, none⟩)) (by simp)]; exact run_v (run_loadAt_mid _ _ _ _ (recL r) _ (fun i u hu => by rw [Nat.zero_add]; exact blkF_at HK.out hu) Try.underlying23 rfl (by rw [infoRec]; rfl))) fun a8 h7 => ?_
  refine wpk_call h7 (wanted_none rfl) rfl (by decide) (fr rfl) (fun args => callF_9 args _) rfl #[.agg (recL r).toArray] (by simp only [List.map_toArray, List.map_cons, List.map_nil, h7.eval (k := 8) (v := .agg (recL r).toArray) (by simp)]) (R := fun v' w' => v' = .bool (mayR r) ∧ Below wb.heap.size wb w') ((mayR_r r _).mono fun e w' q => ⟨_, q.1, rfl, q.2⟩) fun a10 v2 w2 r2 h9 => ?_
  obtain ⟨rfl, b2⟩ := r2; rw [hmay] at h9; have HK2 := hid (HK.out.mono b2); have HB2 := hid (kept_trans HB.out b2); clear b2
  refine wpk_val h9 (wanted_none rfl) rfl (by decide) (fr rfl) (.bool true) (by unfold execOp; simp only [h9.eval (k := 9) (v := .bool true) (by simp)]; rfl) fun a12 h11 => ?_
  have h13 := h11.subs (l' := [(6, .bool true), (5, .int .i64 0), (4, .string (fB [])), (0, .string (fB l)), (3, .pointer (some ⟨gb, 0, none⟩))]) rfl
  clear h11
  go_step
  go_step
  go_step
  go_step
  go_step
  go_step
  refine wpk_val h13 (wanted_none rfl) rfl (by decide) (fr rfl) (.bool true) (by unfold execOp; simp only [h13.eval (k := 6) (v := .bool true) (by simp)]; rfl) fun a15 h14 => ?_
  refine wpk_val h14 (wanted_none rfl) rfl (by decide) (fr rfl) (.bool false) (run_not rfl (h14.eval (k := 10) (v := .bool true) (by simp))) fun a17 h16 => ?_
  have h18 := h16.subs (l' := [(11, .bool false), (6, .bool true), (5, .int .i64 0), (4, .string (fB [])), (0, .string (fB l)), (3, .pointer (some ⟨gb, 0, none⟩))]) rfl
  clear h16
  go_step
  go_step
  go_step
  refine wp_cond (t := false) (h18.eval (k := 11) (v := .bool false) (by simp)) ?_
  simp only [Bool.false_eq_true, if_false]
  have h19 := h18.subs (l' := [(6, .bool true), (5, .int .i64 0), (4, .string (fB [])), (0, .string (fB l)), (3, .pointer (some ⟨gb, 0, none⟩))]) rfl
  clear h18
  go_step
  go_step
  go_step
  go_step
  go_step
  refine wpk_val h19 (wanted_none rfl) rfl (by decide) (fr rfl) (.string (fB l)) (by unfold execOp; simp only [h19.eval (k := 0) (v := .string (fB l)) (by simp)]; rfl) fun a21 h20 => ?_
  refine wpk_val h20 (wanted_none rfl) rfl (by decide) (fr rfl) (.string (fB l)) (by unfold execOp; simp only [h20.eval (k := 12) (v := .string (fB l)) (by simp)]; rfl) fun a23 h22 => ?_
  have h24 := h22.subs (l' := [(7, .string (fB l)), (6, .bool true), (5, .int .i64 0), (4, .string (fB [])), (0, .string (fB l)), (3, .pointer (some ⟨gb, 0, none⟩))]) rfl
  clear h22
  go_step
  go_step
  go_step
  go_step
  go_step
  go_step
  refine wpk_val h24 (wanted_none rfl) rfl (by decide) (fr rfl) (.pointer (some ⟨gb, 2, none⟩)) (by unfold execOp; simp only [h24.eval (k := 3) (v := .pointer (some ⟨gb, 0, none⟩)) (by simp)]; exact run_v (faF_23_0_2 (gb) _)) fun a26 h25 => ?_
  refine wpk_val h25 (wanted_none rfl) rfl (by decide) (fr rfl) (.bool false) (by unfold execOp; simp only [h25.eval (k := 13) (v := .pointer (some ⟨gb, 2, none⟩)) (by simp)]; exact run_v (loadBF (cellT HK2.out hT))) fun a28 h27 => ?_
  have h29 := h27.subs (l' := [(14, .bool false), (7, .string (fB l)), (6, .bool true), (5, .int .i64 0), (4, .string (fB [])), (0, .string (fB l)), (3, .pointer (some ⟨gb, 0, none⟩))]) rfl
  clear h27
  go_step
  go_step
  go_step
  refine wp_cond (t := false) (h29.eval (k := 14) (v := .bool false) (by simp)) ?_
  simp only [Bool.false_eq_true, if_false]
  have h30 := h29.subs (l' := [(7, .string (fB l)), (6, .bool true), (5, .int .i64 0), (4, .string (fB [])), (0, .string (fB l)), (3, .pointer (some ⟨gb, 0, none⟩))]) rfl
  clear h29
  go_step
  go_step
  refine wpk_val h30 (wanted_none rfl) rfl (by decide) (fr rfl) (.pointer (some ⟨gb, 4, none⟩)) (by unfold execOp; simp only [h30.eval (k := 3) (v := .pointer (some ⟨gb, 0, none⟩)) (by simp)]; exact run_v (faF_23_0_4 (gb) _)) fun a32 h31 => ?_
  refine wpk_val h31 (wanted_none rfl) rfl (by decide) (fr rfl) (.string (fB r.d)) (by unfold execOp; simp only [h31.eval (k := 19) (v := .pointer (some ⟨gb, 4, none⟩)) (by simp)]; exact run_v (loadSF (HK2.out.cell (i := 4) (by show 4 < 5; omega)))) fun a34 h33 => ?_
  refine wpk_val h33 (wanted_none rfl) rfl (by decide) (fr rfl) (.bool true) (by unfold execOp; simp only [h33.eval (k := 20) (v := .string (fB r.d)) (by simp)]; exact run_v (neF _ _ _ _ _ (decide_eq_true (by assumption)))) fun a36 h35 => ?_
  have h37 := h35.subs (l' := [(21, .bool true), (7, .string (fB l)), (6, .bool true), (5, .int .i64 0), (4, .string (fB [])), (0, .string (fB l)), (3, .pointer (some ⟨gb, 0, none⟩))]) rfl
  clear h35
  go_step
  go_step
  go_step
  refine wp_cond (t := true) (h37.eval (k := 21) (v := .bool true) (by simp)) ?_
  simp only [if_true]
  have h38 := h37.subs (l' := [(7, .string (fB l)), (6, .bool true), (5, .int .i64 0), (4, .string (fB [])), (0, .string (fB l)), (3, .pointer (some ⟨gb, 0, none⟩))]) rfl
  clear h37
  go_step
  have HK4 := hid (HK2.out.mono (Below.refl _ _).drew); have HB4 := hid (Below.drew (HB2.out))
  refine wp_region_held_drew (S := fun w' => w2.drew = w') (by kernel_rfl) rfl (fun hS1 => ?_)
  refine wpk_take hS1 h38 0 rfl rfl (by decide) (fr rfl) (by kernel_rfl) (by kernel_rfl) (by kernel_rfl) (fun _ _ _ _ h => h) (.string (fB l)) (Or.inl ⟨Eq.refl true, fun w1 hSw => (by show (execOp _ (⟨_, .move (.tmp 0), _, _, _, _⟩ : Oper)).run _ _ = _; exact (by unfold execOp; simp only [h38.eval (k := 0) (v := .string (fB l)) (by simp)]; rfl))⟩) fun a40 h39 => ?_
  refine wpk_take hS1 h39 1 rfl rfl (by decide) (fr rfl) (by kernel_rfl) (by kernel_rfl) (by kernel_rfl) (fun _ _ _ _ h => h) (.pointer (some ⟨gb, 3, none⟩)) (Or.inl ⟨Eq.refl true, fun w1 hSw => (by show (execOp _ (⟨_, .fieldAddr 23 (.tmp 3) 3, _, _, _, _⟩ : Oper)).run _ _ = _; exact (by unfold execOp; simp only [h39.eval (k := 3) (v := .pointer (some ⟨gb, 0, none⟩)) (by simp)]; exact run_v (faF_23_0_3 (gb) _)))⟩) fun a42 h41 => ?_
  refine wpk_take hS1 h41 2 rfl rfl (by decide) (fr rfl) (by kernel_rfl) (by kernel_rfl) (by kernel_rfl) (fun _ _ _ _ h => h) (.int .i64 r.o) (Or.inl ⟨Eq.refl true, fun w1 hSw => (by show (execOp _ (⟨_, .load 3 (.tmp 23), _, _, _, _⟩ : Oper)).run _ _ = _; exact (by unfold execOp; simp only [h41.eval (k := 23) (v := .pointer (some ⟨gb, 3, none⟩)) (by simp)]; exact run_v (loadIF ((hSw ▸ HK4.out).cell (i := 3) (by show 3 < 5; omega)))))⟩) fun a44 h43 => ?_
  refine wpk_take hS1 h43 4 rfl rfl (by decide) (fr rfl) (by kernel_rfl) (by kernel_rfl) (by kernel_rfl) (fun _ _ _ _ h => h) (.pointer (some ⟨gb, 4, none⟩)) (Or.inl ⟨Eq.refl true, fun w1 hSw => (by show (execOp _ (⟨_, .fieldAddr 23 (.tmp 3) 4, _, _, _, _⟩ : Oper)).run _ _ = _; exact (by unfold execOp; simp only [h43.eval (k := 3) (v := .pointer (some ⟨gb, 0, none⟩)) (by simp)]; exact run_v (faF_23_0_4 (gb) _)))⟩) fun a46 h45 => ?_
  refine wpk_take hS1 h45 5 rfl rfl (by decide) (fr rfl) (by kernel_rfl) (by kernel_rfl) (by kernel_rfl) (fun _ _ _ _ h => h) (.string (fB r.d)) (Or.inl ⟨Eq.refl true, fun w1 hSw => (by show (execOp _ (⟨_, .load 9 (.tmp 26), _, _, _, _⟩ : Oper)).run _ _ = _; exact (by unfold execOp; simp only [h45.eval (k := 26) (v := .pointer (some ⟨gb, 4, none⟩)) (by simp)]; exact run_v (loadSF ((hSw ▸ HK4.out).cell (i := 4) (by show 4 < 5; omega)))))⟩) fun a48 h47 => ?_
  refine wpk_onlyW 3 rfl (wanted_none rfl) (by kernel_rfl) fun KK hK => op_call h47 rfl (by decide) (fr rfl) (fun args => callF_12 args _) rfl #[.string (fB l), .int .i64 r.o] (by simp only [List.map_toArray, List.map_cons, List.map_nil, h47.eval (k := 22) (v := .string (fB l)) (by simp), h47.eval (k := 24) (v := .int .i64 r.o) (by simp)]) (R := fun v' w' => v' = .string (fB (rzL l r.o.toNat)) ∧ w2.drew = w') ((sized_o r l (by omega) (by omega) (by omega) _).mono fun e w' q => ⟨_, q.1, rfl, q.2⟩) fun a50 v3 w3 r3 h49 => hK _ _ (r3.2) fun hS2 => ?_
  clear hK KK
  obtain ⟨rfl, rfl⟩ := r3
  refine wpk_take hS2 h49 6 rfl rfl (by decide) (fr rfl) (by kernel_rfl) (by kernel_rfl) (by kernel_rfl) (fun _ _ _ _ h => h) (.string (fB ((rzL l r.o.toNat) ++ r.d))) (Or.inl ⟨Eq.refl true, fun w1 hSw => (by show (execOp _ (⟨_, .binOp .add 9 (.tmp 25) (.tmp 27) 9, _, _, _, _⟩ : Oper)).run _ _ = _; exact (by unfold execOp; simp only [h49.eval (k := 25) (v := .string (fB (rzL l r.o.toNat))) (by simp), h49.eval (k := 27) (v := .string (fB r.d)) (by simp)]; exact run_v (addF _ _ _ _ (by first | omega | (simp only [List.length_append, List.length_take, List.length_drop, rzL_len, List.length_replicate, List.length_cons, List.length_nil]; omega)) _)))⟩) fun a52 h51 => ?_
  have h53 := h51.subs (l' := [(28, .string (fB ((rzL l r.o.toNat) ++ r.d))), (25, .string (fB (rzL l r.o.toNat))), (27, .string (fB r.d)), (26, .pointer (some ⟨gb, 4, none⟩)), (24, .int .i64 r.o), (23, .pointer (some ⟨gb, 3, none⟩)), (22, .string (fB l)), (6, .bool true), (5, .int .i64 0), (4, .string (fB [])), (0, .string (fB l)), (3, .pointer (some ⟨gb, 0, none⟩))]) rfl
  clear h51
  refine wpk_take hS2 h53 7 rfl rfl (by decide) (fr rfl) (by kernel_rfl) (by kernel_rfl) (by kernel_rfl) (fun _ _ _ _ h => h) (.string (fB ((rzL l r.o.toNat) ++ r.d))) (Or.inl ⟨Eq.refl true, fun w1 hSw => (by show (execOp _ (⟨_, .assign (.tmp 28), _, _, _, _⟩ : Oper)).run _ _ = _; exact (by unfold execOp; simp only [h53.eval (k := 28) (v := .string (fB ((rzL l r.o.toNat) ++ r.d))) (by simp)]; rfl))⟩) fun a55 h54 => ?_
  refine wpAnyH_done (by kernel_rfl) ?_ _
  have h56 := h54.subs (l' := [(7, .string (fB ((rzL l r.o.toNat) ++ r.d))), (6, .bool true), (5, .int .i64 0), (4, .string (fB [])), (0, .string (fB l)), (3, .pointer (some ⟨gb, 0, none⟩))]) rfl
  clear h54
  go_step
  go_step
  go_step
  go_step
  refine wpk_val h56 (wanted_none rfl) rfl (by decide) (fr rfl) (.string (fB l)) (by unfold execOp; simp only [h56.eval (k := 0) (v := .string (fB l)) (by simp)]; rfl) fun a58 h57 => ?_
  refine wpk_val h57 (wanted_none rfl) rfl (by decide) (fr rfl) (.int .i64 (l.length : Int)) (run_lenF rfl (h57.eval (k := 29) (v := .string (fB l)) (by simp)) (by rfl) _) fun a60 h59 => ?_
  refine wpk_val h59 (wanted_none rfl) rfl (by decide) (fr rfl) (.string (fB ((rzL l r.o.toNat) ++ r.d))) (by unfold execOp; simp only [h59.eval (k := 7) (v := .string (fB ((rzL l r.o.toNat) ++ r.d))) (by simp)]; rfl) fun a62 h61 => ?_
  refine wpk_val h61 (wanted_none rfl) rfl (by decide) (fr rfl) (.int .i64 ((r.o.toNat + r.d.length : Nat) : Int)) (run_lenF rfl (h61.eval (k := 31) (v := .string (fB ((rzL l r.o.toNat) ++ r.d))) (by simp)) (by rw [List.length_append, rzL_len]) _) fun a64 h63 => ?_
  refine wpk_val h63 (wanted_none rfl) rfl (by decide) (fr rfl) (.bool true) (by unfold execOp; simp only [h63.eval (k := 30) (v := .int .i64 (l.length : Int)) (by simp), h63.eval (k := 32) (v := .int .i64 ((r.o.toNat + r.d.length : Nat) : Int)) (by simp)]; exact run_v (gtIP _ _ _ _ _ (decide_eq_true (by omega)))) fun a66 h65 => ?_
  have h67 := h65.subs (l' := [(33, .bool true), (7, .string (fB ((rzL l r.o.toNat) ++ r.d))), (6, .bool true), (5, .int .i64 0), (4, .string (fB [])), (0, .string (fB l)), (3, .pointer (some ⟨gb, 0, none⟩))]) rfl
  clear h65
  go_step
  go_step
  go_step
  refine wp_cond (t := true) (h67.eval (k := 33) (v := .bool true) (by simp)) ?_
  simp only [if_true]
  have h68 := h67.subs (l' := [(7, .string (fB ((rzL l r.o.toNat) ++ r.d))), (6, .bool true), (5, .int .i64 0), (4, .string (fB [])), (0, .string (fB l)), (3, .pointer (some ⟨gb, 0, none⟩))]) rfl
  clear h67
  go_step
  refine wpk_val h68 (wanted_none rfl) rfl (by decide) (fr rfl) (.string (fB ((rzL l r.o.toNat) ++ r.d))) (by unfold execOp; simp only [h68.eval (k := 7) (v := .string (fB ((rzL l r.o.toNat) ++ r.d))) (by simp)]; rfl) fun a70 h69 => ?_
  refine wpk_val h69 (wanted_none rfl) rfl (by decide) (fr rfl) (.string (fB l)) (by unfold execOp; simp only [h69.eval (k := 0) (v := .string (fB l)) (by simp)]; rfl) fun a72 h71 => ?_
  refine wpk_val h71 (wanted_none rfl) rfl (by decide) (fr rfl) (.string (fB ((rzL l r.o.toNat) ++ r.d))) (by unfold execOp; simp only [h71.eval (k := 7) (v := .string (fB ((rzL l r.o.toNat) ++ r.d))) (by simp)]; rfl) fun a74 h73 => ?_
  refine wpk_val h73 (wanted_none rfl) rfl (by decide) (fr rfl) (.int .i64 ((r.o.toNat + r.d.length : Nat) : Int)) (run_lenF rfl (h73.eval (k := 36) (v := .string (fB ((rzL l r.o.toNat) ++ r.d))) (by simp)) (by rw [List.length_append, rzL_len]) _) fun a76 h75 => ?_
  refine wpk_val h75 (wanted_none rfl) rfl (by decide) (fr rfl) (.string (fB (l.drop (r.o.toNat + r.d.length)))) (by unfold execOp; simp only [Option.map_some, Option.map_none, h75.eval (k := 35) (v := .string (fB l)) (by simp), h75.eval (k := 37) (v := .int .i64 ((r.o.toNat + r.d.length : Nat) : Int)) (by simp)]; exact run_v (slLF _ _ _ (by omega) (by omega) _)) fun a78 h77 => ?_
  refine wpk_val h77 (wanted_none rfl) rfl (by decide) (fr rfl) (.string (fB (((rzL l r.o.toNat) ++ r.d) ++ (l.drop (r.o.toNat + r.d.length))))) (by unfold execOp; simp only [h77.eval (k := 34) (v := .string (fB ((rzL l r.o.toNat) ++ r.d))) (by simp), h77.eval (k := 38) (v := .string (fB (l.drop (r.o.toNat + r.d.length)))) (by simp)]; exact run_v (addF _ _ _ _ (by first | omega | (simp only [List.length_append, List.length_take, List.length_drop, rzL_len, List.length_replicate, List.length_cons, List.length_nil]; omega)) _)) fun a80 h79 => ?_
  have h81 := h79.subs (l' := [(39, .string (fB (((rzL l r.o.toNat) ++ r.d) ++ (l.drop (r.o.toNat + r.d.length))))), (38, .string (fB (l.drop (r.o.toNat + r.d.length)))), (37, .int .i64 ((r.o.toNat + r.d.length : Nat) : Int)), (36, .string (fB ((rzL l r.o.toNat) ++ r.d))), (35, .string (fB l)), (34, .string (fB ((rzL l r.o.toNat) ++ r.d))), (6, .bool true), (5, .int .i64 0), (4, .string (fB [])), (0, .string (fB l)), (3, .pointer (some ⟨gb, 0, none⟩))]) rfl
  clear h79
  refine wpk_val h81 (wanted_none rfl) rfl (by decide) (fr rfl) (.string (fB (((rzL l r.o.toNat) ++ r.d) ++ (l.drop (r.o.toNat + r.d.length))))) (by unfold execOp; simp only [h81.eval (k := 39) (v := .string (fB (((rzL l r.o.toNat) ++ r.d) ++ (l.drop (r.o.toNat + r.d.length))))) (by simp)]; rfl) fun a83 h82 => ?_
  have h84 := h82.subs (l' := [(7, .string (fB (((rzL l r.o.toNat) ++ r.d) ++ (l.drop (r.o.toNat + r.d.length))))), (6, .bool true), (5, .int .i64 0), (4, .string (fB [])), (0, .string (fB l)), (3, .pointer (some ⟨gb, 0, none⟩))]) rfl
  clear h82
  go_step
  go_step
  go_step
  have h85 := h84.subs (l' := [(7, .string (fB (((rzL l r.o.toNat) ++ r.d) ++ (l.drop (r.o.toNat + r.d.length)))))]) rfl
  clear h84
  have hz : (((rzL l r.o.toNat) ++ r.d) ++ (l.drop (r.o.toNat + r.d.length))) = chL l r.t r.o.toNat r.d := ch_l hT hD
  rw [hz] at h85
  go_step
  go_step
  go_step
  refine wpk_val h85 (wanted_none rfl) rfl (by decide) (fr rfl) (.string (fB (chL l r.t r.o.toNat r.d))) (by unfold execOp; simp only [h85.eval (k := 7) (v := .string (fB (chL l r.t r.o.toNat r.d))) (by simp)]; rfl) fun a87 h86 => ?_
  refine wpk_val h86 (wanted_none rfl) rfl (by decide) (fr rfl) (.int .i64 ((chL l r.t r.o.toNat r.d).length : Int)) (run_lenF rfl (h86.eval (k := 40) (v := .string (fB (chL l r.t r.o.toNat r.d))) (by simp)) (by rfl) _) fun a89 h88 => ?_
  refine wpk_val h88 (wanted_none rfl) rfl (by decide) (fr rfl) (.bool false) (by unfold execOp; simp only [h88.eval (k := 41) (v := .int .i64 ((chL l r.t r.o.toNat r.d).length : Int)) (by simp)]; exact run_v (gtIP _ _ _ _ _ (decide_eq_false (by omega)))) fun a91 h90 => ?_
  have h92 := h90.subs (l' := [(42, .bool false), (7, .string (fB (chL l r.t r.o.toNat r.d)))]) rfl
  clear h90
  go_step
  go_step
  go_step
  refine wp_cond (t := false) (h92.eval (k := 42) (v := .bool false) (by simp)) ?_
  simp only [Bool.false_eq_true, if_false]
  have h93 := h92.subs (l' := [(7, .string (fB (chL l r.t r.o.toNat r.d)))]) rfl
  clear h92
  go_step
  go_step
  go_step
  go_step
  go_step
  refine wpk_val h93 (wanted_none rfl) rfl (by decide) (fr rfl) (.string (fB (chL l r.t r.o.toNat r.d))) (by unfold execOp; simp only [h93.eval (k := 7) (v := .string (fB (chL l r.t r.o.toNat r.d))) (by simp)]; rfl) fun a95 h94 => ?_
  refine wpk_val h94 (wanted_none rfl) rfl (by decide) (fr rfl) (.string (fB (chL l r.t r.o.toNat r.d))) (by unfold execOp; simp only [h94.eval (k := 43) (v := .string (fB (chL l r.t r.o.toNat r.d))) (by simp)]; rfl) fun a97 h96 => ?_
  refine wpk_val h96 (wanted_none rfl) rfl (by decide) (fr rfl) (.int .i64 0) rfl fun a99 h98 => ?_
  have h100 := h98.subs (l' := [(5, .int .i64 0), (4, .string (fB (chL l r.t r.o.toNat r.d))), (7, .string (fB (chL l r.t r.o.toNat r.d)))]) rfl
  clear h98
  go_step
  go_step
  go_step
  go_step
  exact bodyPost_ret (results_tmp2 rfl (h100.known (4, .string (fB (chL l r.t r.o.toNat r.d))) (by simp)) (h100.known (5, .int .i64 0) (by simp))) h100.defs ⟨hres, HB4.out⟩
set_option maxHeartbeats 4000000 in
theorem rf_db (l : List UInt8) (r : RecT) (w : World) (hl : l.length ≤ 1000) (hd9 : r.d.length ≤ 1000000) (hM : mayR r = true) (hT : r.t = false) (hD : ¬ r.d = []) (hL : ¬ r.o.toNat + r.d.length < l.length) (hB : 256 < (chL l r.t r.o.toNat r.d).length) : Calls Try.prog 7 #[.string (fB l), .agg (recL r).toArray] w (ChP l r w) := by
  have hmay := hM
  obtain ⟨hm1, hm2, hm3, hm4⟩ := mayR_b hM
  have hres := chR_big (l := l) hM hB
  go_enter Try.func7, Try.ntmps7
  go_step
  go_step
  refine wpl_boxRec rfl rfl r rfl ?_
  rintro gb wb ⟨hgb, kb⟩ bb
  have HK := hid kb; have HB := hid bb; clear kb bb
  refine wpk_enter (N := 44) (l := [(0, .string (fB l)), (3, .pointer (some ⟨gb, 0, none⟩))]) ⟨rfl, (by intro x hx; simp only [List.mem_cons, List.not_mem_nil, or_false] at hx; rcases hx with rfl | rfl <;> rfl), rfl⟩ fun a2 h1 => ?_
  refine wpk_val h1 (wanted_none rfl) rfl (by decide) (fr rfl) (.string (fB [])) rfl fun a4 h3 => ?_
  refine wpk_val h3 (wanted_none rfl) rfl (by decide) (fr rfl) (.int .i64 0) rfl fun a6 h5 => ?_
  go_step
  go_step
  go_step
  go_step
  go_step
  refine wpk_val h5 (wanted_none rfl) rfl (by decide) (fr rfl) (.agg (recL r).toArray) (by unfold execOp; simp only [h5.eval (k := 3) (v := .pointer (some ⟨gb, 0, none⟩)) (by simp)]; exact run_v (run_loadAt_mid _ _ _ _ (recL r) _ (fun i u hu => by rw [Nat.zero_add]; exact blkF_at HK.out hu) Try.underlying23 rfl (by rw [infoRec]; rfl))) fun a8 h7 => ?_
  refine wpk_call h7 (wanted_none rfl) rfl (by decide) (fr rfl) (fun args => callF_9 args _) rfl #[.agg (recL r).toArray] (by simp only [List.map_toArray, List.map_cons, List.map_nil, h7.eval (k := 8) (v := .agg (recL r).toArray) (by simp)]) (R := fun v' w' => v' = .bool (mayR r) ∧ Below wb.heap.size wb w') ((mayR_r r _).mono fun e w' q => ⟨_, q.1, rfl, q.2⟩) fun a10 v2 w2 r2 h9 => ?_
  obtain ⟨rfl, b2⟩ := r2; rw [hmay] at h9; have HK2 := hid (HK.out.mono b2); have HB2 := hid (kept_trans HB.out b2); clear b2
  refine wpk_val h9 (wanted_none rfl) rfl (by decide) (fr rfl) (.bool true) (by unfold execOp; simp only [h9.eval (k := 9) (v := .bool true) (by simp)]; rfl) fun a12 h11 => ?_
  have h13 := h11.subs (l' := [(6, .bool true), (5, .int .i64 0), (4, .string (fB [])), (0, .string (fB l)), (3, .pointer (some ⟨gb, 0, none⟩))]) rfl
  clear h11
  go_step
  go_step
  go_step
  go_step
  go_step
  go_step
  refine wpk_val h13 (wanted_none rfl) rfl (by decide) (fr rfl) (.bool true) (by unfold execOp; simp only [h13.eval (k := 6) (v := .bool true) (by simp)]; rfl) fun a15 h14 => ?_
  refine wpk_val h14 (wanted_none rfl) rfl (by decide) (fr rfl) (.bool false) (run_not rfl (h14.eval (k := 10) (v := .bool true) (by simp))) fun a17 h16 => ?_
  have h18 := h16.subs (l' := [(11, .bool false), (6, .bool true), (5, .int .i64 0), (4, .string (fB [])), (0, .string (fB l)), (3, .pointer (some ⟨gb, 0, none⟩))]) rfl
  clear h16
  go_step
  go_step
  go_step
  refine wp_cond (t := false) (h18.eval (k := 11) (v := .bool false) (by simp)) ?_
  simp only [Bool.false_eq_true, if_false]
  have h19 := h18.subs (l' := [(6, .bool true), (5, .int .i64 0), (4, .string (fB [])), (0, .string (fB l)), (3, .pointer (some ⟨gb, 0, none⟩))]) rfl
  clear h18
  go_step
  go_step
  go_step
  go_step
  go_step
  refine wpk_val h19 (wanted_none rfl) rfl (by decide) (fr rfl) (.string (fB l)) (by unfold execOp; simp only [h19.eval (k := 0) (v := .string (fB l)) (by simp)]; rfl) fun a21 h20 => ?_
  refine wpk_val h20 (wanted_none rfl) rfl (by decide) (fr rfl) (.string (fB l)) (by unfold execOp; simp only [h20.eval (k := 12) (v := .string (fB l)) (by simp)]; rfl) fun a23 h22 => ?_
  have h24 := h22.subs (l' := [(7, .string (fB l)), (6, .bool true), (5, .int .i64 0), (4, .string (fB [])), (0, .string (fB l)), (3, .pointer (some ⟨gb, 0, none⟩))]) rfl
  clear h22
  go_step
  go_step
  go_step
  go_step
  go_step
  go_step
  refine wpk_val h24 (wanted_none rfl) rfl (by decide) (fr rfl) (.pointer (some ⟨gb, 2, none⟩)) (by unfold execOp; simp only [h24.eval (k := 3) (v := .pointer (some ⟨gb, 0, none⟩)) (by simp)]; exact run_v (faF_23_0_2 (gb) _)) fun a26 h25 => ?_
  refine wpk_val h25 (wanted_none rfl) rfl (by decide) (fr rfl) (.bool false) (by unfold execOp; simp only [h25.eval (k := 13) (v := .pointer (some ⟨gb, 2, none⟩)) (by simp)]; exact run_v (loadBF (cellT HK2.out hT))) fun a28 h27 => ?_
  have h29 := h27.subs (l' := [(14, .bool false), (7, .string (fB l)), (6, .bool true), (5, .int .i64 0), (4, .string (fB [])), (0, .string (fB l)), (3, .pointer (some ⟨gb, 0, none⟩))]) rfl
  clear h27
  go_step
  go_step
  go_step
  refine wp_cond (t := false) (h29.eval (k := 14) (v := .bool false) (by simp)) ?_
  simp only [Bool.false_eq_true, if_false]
  have h30 := h29.subs (l' := [(7, .string (fB l)), (6, .bool true), (5, .int .i64 0), (4, .string (fB [])), (0, .string (fB l)), (3, .pointer (some ⟨gb, 0, none⟩))]) rfl
  clear h29
  go_step
  go_step
  refine wpk_val h30 (wanted_none rfl) rfl (by decide) (fr rfl) (.pointer (some ⟨gb, 4, none⟩)) (by unfold execOp; simp only [h30.eval (k := 3) (v := .pointer (some ⟨gb, 0, none⟩)) (by simp)]; exact run_v (faF_23_0_4 (gb) _)) fun a32 h31 => ?_
  refine wpk_val h31 (wanted_none rfl) rfl (by decide) (fr rfl) (.string (fB r.d)) (by unfold execOp; simp only [h31.eval (k := 19) (v := .pointer (some ⟨gb, 4, none⟩)) (by simp)]; exact run_v (loadSF (HK2.out.cell (i := 4) (by show 4 < 5; omega)))) fun a34 h33 => ?_
  refine wpk_val h33 (wanted_none rfl) rfl (by decide) (fr rfl) (.bool true) (by unfold execOp; simp only [h33.eval (k := 20) (v := .string (fB r.d)) (by simp)]; exact run_v (neF _ _ _ _ _ (decide_eq_true (by assumption)))) fun a36 h35 => ?_
  have h37 := h35.subs (l' := [(21, .bool true), (7, .string (fB l)), (6, .bool true), (5, .int .i64 0), (4, .string (fB [])), (0, .string (fB l)), (3, .pointer (some ⟨gb, 0, none⟩))]) rfl
  clear h35
  go_step
  go_step
  go_step
  refine wp_cond (t := true) (h37.eval (k := 21) (v := .bool true) (by simp)) ?_
  simp only [if_true]
  have h38 := h37.subs (l' := [(7, .string (fB l)), (6, .bool true), (5, .int .i64 0), (4, .string (fB [])), (0, .string (fB l)), (3, .pointer (some ⟨gb, 0, none⟩))]) rfl
  clear h37
  go_step
  have HK4 := hid (HK2.out.mono (Below.refl _ _).drew); have HB4 := hid (Below.drew (HB2.out))
  refine wp_region_held_drew (S := fun w' => w2.drew = w') (by kernel_rfl) rfl (fun hS1 => ?_)
  refine wpk_take hS1 h38 0 rfl rfl (by decide) (fr rfl) (by kernel_rfl) (by kernel_rfl) (by kernel_rfl) (fun _ _ _ _ h => h) (.string (fB l)) (Or.inl ⟨Eq.refl true, fun w1 hSw => (by show (execOp _ (⟨_, .move (.tmp 0), _, _, _, _⟩ : Oper)).run _ _ = _; exact (by unfold execOp; simp only [h38.eval (k := 0) (v := .string (fB l)) (by simp)]; rfl))⟩) fun a40 h39 => ?_
  refine wpk_take hS1 h39 1 rfl rfl (by decide) (fr rfl) (by kernel_rfl) (by kernel_rfl) (by kernel_rfl) (fun _ _ _ _ h => h) (.pointer (some ⟨gb, 3, none⟩)) (Or.inl ⟨Eq.refl true, fun w1 hSw => (by show (execOp _ (⟨_, .fieldAddr 23 (.tmp 3) 3, _, _, _, _⟩ : Oper)).run _ _ = _; exact (by unfold execOp; simp only [h39.eval (k := 3) (v := .pointer (some ⟨gb, 0, none⟩)) (by simp)]; exact run_v (faF_23_0_3 (gb) _)))⟩) fun a42 h41 => ?_
  refine wpk_take hS1 h41 2 rfl rfl (by decide) (fr rfl) (by kernel_rfl) (by kernel_rfl) (by kernel_rfl) (fun _ _ _ _ h => h) (.int .i64 r.o) (Or.inl ⟨Eq.refl true, fun w1 hSw => (by show (execOp _ (⟨_, .load 3 (.tmp 23), _, _, _, _⟩ : Oper)).run _ _ = _; exact (by unfold execOp; simp only [h41.eval (k := 23) (v := .pointer (some ⟨gb, 3, none⟩)) (by simp)]; exact run_v (loadIF ((hSw ▸ HK4.out).cell (i := 3) (by show 3 < 5; omega)))))⟩) fun a44 h43 => ?_
  refine wpk_take hS1 h43 4 rfl rfl (by decide) (fr rfl) (by kernel_rfl) (by kernel_rfl) (by kernel_rfl) (fun _ _ _ _ h => h) (.pointer (some ⟨gb, 4, none⟩)) (Or.inl ⟨Eq.refl true, fun w1 hSw => (by show (execOp _ (⟨_, .fieldAddr 23 (.tmp 3) 4, _, _, _, _⟩ : Oper)).run _ _ = _; exact (by unfold execOp; simp only [h43.eval (k := 3) (v := .pointer (some ⟨gb, 0, none⟩)) (by simp)]; exact run_v (faF_23_0_4 (gb) _)))⟩) fun a46 h45 => ?_
  refine wpk_take hS1 h45 5 rfl rfl (by decide) (fr rfl) (by kernel_rfl) (by kernel_rfl) (by kernel_rfl) (fun _ _ _ _ h => h) (.string (fB r.d)) (Or.inl ⟨Eq.refl true, fun w1 hSw => (by show (execOp _ (⟨_, .load 9 (.tmp 26), _, _, _, _⟩ : Oper)).run _ _ = _; exact (by unfold execOp; simp only [h45.eval (k := 26) (v := .pointer (some ⟨gb, 4, none⟩)) (by simp)]; exact run_v (loadSF ((hSw ▸ HK4.out).cell (i := 4) (by show 4 < 5; omega)))))⟩) fun a48 h47 => ?_
  refine wpk_onlyW 3 rfl (wanted_none rfl) (by kernel_rfl) fun KK hK => op_call h47 rfl (by decide) (fr rfl) (fun args => callF_12 args _) rfl #[.string (fB l), .int .i64 r.o] (by simp only [List.map_toArray, List.map_cons, List.map_nil, h47.eval (k := 22) (v := .string (fB l)) (by simp), h47.eval (k := 24) (v := .int .i64 r.o) (by simp)]) (R := fun v' w' => v' = .string (fB (rzL l r.o.toNat)) ∧ w2.drew = w') ((sized_o r l (by omega) (by omega) (by omega) _).mono fun e w' q => ⟨_, q.1, rfl, q.2⟩) fun a50 v3 w3 r3 h49 => hK _ _ (r3.2) fun hS2 => ?_
  clear hK KK
  obtain ⟨rfl, rfl⟩ := r3
  refine wpk_take hS2 h49 6 rfl rfl (by decide) (fr rfl) (by kernel_rfl) (by kernel_rfl) (by kernel_rfl) (fun _ _ _ _ h => h) (.string (fB ((rzL l r.o.toNat) ++ r.d))) (Or.inl ⟨Eq.refl true, fun w1 hSw => (by show (execOp _ (⟨_, .binOp .add 9 (.tmp 25) (.tmp 27) 9, _, _, _, _⟩ : Oper)).run _ _ = _; exact (by unfold execOp; simp only [h49.eval (k := 25) (v := .string (fB (rzL l r.o.toNat))) (by simp), h49.eval (k := 27) (v := .string (fB r.d)) (by simp)]; exact run_v (addF _ _ _ _ (by first | omega | (simp only [List.length_append, List.length_take, List.length_drop, rzL_len, List.length_replicate, List.length_cons, List.length_nil]; omega)) _)))⟩) fun a52 h51 => ?_
  have h53 := h51.subs (l' := [(28, .string (fB ((rzL l r.o.toNat) ++ r.d))), (25, .string (fB (rzL l r.o.toNat))), (27, .string (fB r.d)), (26, .pointer (some ⟨gb, 4, none⟩)), (24, .int .i64 r.o), (23, .pointer (some ⟨gb, 3, none⟩)), (22, .string (fB l)), (6, .bool true), (5, .int .i64 0), (4, .string (fB [])), (0, .string (fB l)), (3, .pointer (some ⟨gb, 0, none⟩))]) rfl
  clear h51
  refine wpk_take hS2 h53 7 rfl rfl (by decide) (fr rfl) (by kernel_rfl) (by kernel_rfl) (by kernel_rfl) (fun _ _ _ _ h => h) (.string (fB ((rzL l r.o.toNat) ++ r.d))) (Or.inl ⟨Eq.refl true, fun w1 hSw => (by show (execOp _ (⟨_, .assign (.tmp 28), _, _, _, _⟩ : Oper)).run _ _ = _; exact (by unfold execOp; simp only [h53.eval (k := 28) (v := .string (fB ((rzL l r.o.toNat) ++ r.d))) (by simp)]; rfl))⟩) fun a55 h54 => ?_
  refine wpAnyH_done (by kernel_rfl) ?_ _
  have h56 := h54.subs (l' := [(7, .string (fB ((rzL l r.o.toNat) ++ r.d))), (6, .bool true), (5, .int .i64 0), (4, .string (fB [])), (0, .string (fB l)), (3, .pointer (some ⟨gb, 0, none⟩))]) rfl
  clear h54
  go_step
  go_step
  go_step
  go_step
  refine wpk_val h56 (wanted_none rfl) rfl (by decide) (fr rfl) (.string (fB l)) (by unfold execOp; simp only [h56.eval (k := 0) (v := .string (fB l)) (by simp)]; rfl) fun a58 h57 => ?_
  refine wpk_val h57 (wanted_none rfl) rfl (by decide) (fr rfl) (.int .i64 (l.length : Int)) (run_lenF rfl (h57.eval (k := 29) (v := .string (fB l)) (by simp)) (by rfl) _) fun a60 h59 => ?_
  refine wpk_val h59 (wanted_none rfl) rfl (by decide) (fr rfl) (.string (fB ((rzL l r.o.toNat) ++ r.d))) (by unfold execOp; simp only [h59.eval (k := 7) (v := .string (fB ((rzL l r.o.toNat) ++ r.d))) (by simp)]; rfl) fun a62 h61 => ?_
  refine wpk_val h61 (wanted_none rfl) rfl (by decide) (fr rfl) (.int .i64 ((r.o.toNat + r.d.length : Nat) : Int)) (run_lenF rfl (h61.eval (k := 31) (v := .string (fB ((rzL l r.o.toNat) ++ r.d))) (by simp)) (by rw [List.length_append, rzL_len]) _) fun a64 h63 => ?_
  refine wpk_val h63 (wanted_none rfl) rfl (by decide) (fr rfl) (.bool false) (by unfold execOp; simp only [h63.eval (k := 30) (v := .int .i64 (l.length : Int)) (by simp), h63.eval (k := 32) (v := .int .i64 ((r.o.toNat + r.d.length : Nat) : Int)) (by simp)]; exact run_v (gtIP _ _ _ _ _ (decide_eq_false (by omega)))) fun a66 h65 => ?_
  have h67 := h65.subs (l' := [(33, .bool false), (7, .string (fB ((rzL l r.o.toNat) ++ r.d))), (6, .bool true), (5, .int .i64 0), (4, .string (fB [])), (0, .string (fB l)), (3, .pointer (some ⟨gb, 0, none⟩))]) rfl
  clear h65
  go_step
  go_step
  go_step
  refine wp_cond (t := false) (h67.eval (k := 33) (v := .bool false) (by simp)) ?_
  simp only [Bool.false_eq_true, if_false]
  have h68 := h67.subs (l' := [(7, .string (fB ((rzL l r.o.toNat) ++ r.d))), (6, .bool true), (5, .int .i64 0), (4, .string (fB [])), (0, .string (fB l)), (3, .pointer (some ⟨gb, 0, none⟩))]) rfl
  clear h67
  go_step
  go_step
  go_step
  have h69 := h68.subs (l' := [(7, .string (fB ((rzL l r.o.toNat) ++ r.d)))]) rfl
  clear h68
  have hz : ((rzL l r.o.toNat) ++ r.d) = chL l r.t r.o.toNat r.d := ch_s hT hD (by omega)
  rw [hz] at h69
  go_step
  go_step
  go_step
  refine wpk_val h69 (wanted_none rfl) rfl (by decide) (fr rfl) (.string (fB (chL l r.t r.o.toNat r.d))) (by unfold execOp; simp only [h69.eval (k := 7) (v := .string (fB (chL l r.t r.o.toNat r.d))) (by simp)]; rfl) fun a71 h70 => ?_
  refine wpk_val h70 (wanted_none rfl) rfl (by decide) (fr rfl) (.int .i64 ((chL l r.t r.o.toNat r.d).length : Int)) (run_lenF rfl (h70.eval (k := 40) (v := .string (fB (chL l r.t r.o.toNat r.d))) (by simp)) (by rfl) _) fun a73 h72 => ?_
  refine wpk_val h72 (wanted_none rfl) rfl (by decide) (fr rfl) (.bool true) (by unfold execOp; simp only [h72.eval (k := 41) (v := .int .i64 ((chL l r.t r.o.toNat r.d).length : Int)) (by simp)]; exact run_v (gtIP _ _ _ _ _ (decide_eq_true (by omega)))) fun a75 h74 => ?_
  have h76 := h74.subs (l' := [(42, .bool true), (7, .string (fB (chL l r.t r.o.toNat r.d)))]) rfl
  clear h74
  go_step
  go_step
  go_step
  refine wp_cond (t := true) (h76.eval (k := 42) (v := .bool true) (by simp)) ?_
  simp only [if_true]
  have h77 := h76.subs (l' := [(7, .string (fB (chL l r.t r.o.toNat r.d)))]) rfl
  clear h76
  go_step
  go_step
  refine wpk_val h77 (wanted_none rfl) rfl (by decide) (fr rfl) (.string (fB [])) rfl fun a79 h78 => ?_
  refine wpk_val h78 (wanted_none rfl) rfl (by decide) (fr rfl) (.int .i64 19) rfl fun a81 h80 => ?_
  go_step
  go_step
  go_step
  go_step
  simp only [Exit.then, Exit.inBlock]
  exact bodyPost_ret (results_tmp2 rfl (h80.known (4, .string (fB [])) (by simp)) (h80.known (5, .int .i64 19) (by simp))) h80.defs ⟨hres, HB4.out⟩
set_option maxHeartbeats 4000000 in
theorem rf_ds (l : List UInt8) (r : RecT) (w : World) (hl : l.length ≤ 1000) (hd9 : r.d.length ≤ 1000000) (hM : mayR r = true) (hT : r.t = false) (hD : ¬ r.d = []) (hL : ¬ r.o.toNat + r.d.length < l.length) (hB : ¬ 256 < (chL l r.t r.o.toNat r.d).length) : Calls Try.prog 7 #[.string (fB l), .agg (recL r).toArray] w (ChP l r w) := by
  have hmay := hM
  obtain ⟨hm1, hm2, hm3, hm4⟩ := mayR_b hM
  have hres := chR_ok (l := l) hM hB
  go_enter Try.func7, Try.ntmps7
  go_step
  go_step
  refine wpl_boxRec rfl rfl r rfl ?_
  rintro gb wb ⟨hgb, kb⟩ bb
  have HK := hid kb; have HB := hid bb; clear kb bb
  refine wpk_enter (N := 44) (l := [(0, .string (fB l)), (3, .pointer (some ⟨gb, 0, none⟩))]) ⟨rfl, (by intro x hx; simp only [List.mem_cons, List.not_mem_nil, or_false] at hx; rcases hx with rfl | rfl <;> rfl), rfl⟩ fun a2 h1 => ?_
  refine wpk_val h1 (wanted_none rfl) rfl (by decide) (fr rfl) (.string (fB [])) rfl fun a4 h3 => ?_
  refine wpk_val h3 (wanted_none rfl) rfl (by decide) (fr rfl) (.int .i64 0) rfl fun a6 h5 => ?_
  go_step
  go_step
  go_step
  go_step
  go_step
  refine wpk_val h5 (wanted_none rfl) rfl (by decide) (fr rfl) (.agg (recL r).toArray) (by unfold execOp; simp only [h5.eval (k := 3) (v := .pointer (some ⟨gb, 0, none⟩)) (by simp)]; exact run_v (run_loadAt_mid _ _ _ _ (recL r) _ (fun i u hu => by rw [Nat.zero_add]; exact blkF_at HK.out hu) Try.underlying23 rfl (by rw [infoRec]; rfl))) fun a8 h7 => ?_
  refine wpk_call h7 (wanted_none rfl) rfl (by decide) (fr rfl) (fun args => callF_9 args _) rfl #[.agg (recL r).toArray] (by simp only [List.map_toArray, List.map_cons, List.map_nil, h7.eval (k := 8) (v := .agg (recL r).toArray) (by simp)]) (R := fun v' w' => v' = .bool (mayR r) ∧ Below wb.heap.size wb w') ((mayR_r r _).mono fun e w' q => ⟨_, q.1, rfl, q.2⟩) fun a10 v2 w2 r2 h9 => ?_
  obtain ⟨rfl, b2⟩ := r2; rw [hmay] at h9; have HK2 := hid (HK.out.mono b2); have HB2 := hid (kept_trans HB.out b2); clear b2
  refine wpk_val h9 (wanted_none rfl) rfl (by decide) (fr rfl) (.bool true) (by unfold execOp; simp only [h9.eval (k := 9) (v := .bool true) (by simp)]; rfl) fun a12 h11 => ?_
  have h13 := h11.subs (l' := [(6, .bool true), (5, .int .i64 0), (4, .string (fB [])), (0, .string (fB l)), (3, .pointer (some ⟨gb, 0, none⟩))]) rfl
  clear h11
  go_step
  go_step
  go_step
  go_step
  go_step
  go_step
  refine wpk_val h13 (wanted_none rfl) rfl (by decide) (fr rfl) (.bool true) (by unfold execOp; simp only [h13.eval (k := 6) (v := .bool true) (by simp)]; rfl) fun a15 h14 => ?_
  refine wpk_val h14 (wanted_none rfl) rfl (by decide) (fr rfl) (.bool false) (run_not rfl (h14.eval (k := 10) (v := .bool true) (by simp))) fun a17 h16 => ?_
  have h18 := h16.subs (l' := [(11, .bool false), (6, .bool true), (5, .int .i64 0), (4, .string (fB [])), (0, .string (fB l)), (3, .pointer (some ⟨gb, 0, none⟩))]) rfl
  clear h16
  go_step
  go_step
  go_step
  refine wp_cond (t := false) (h18.eval (k := 11) (v := .bool false) (by simp)) ?_
  simp only [Bool.false_eq_true, if_false]
  have h19 := h18.subs (l' := [(6, .bool true), (5, .int .i64 0), (4, .string (fB [])), (0, .string (fB l)), (3, .pointer (some ⟨gb, 0, none⟩))]) rfl
  clear h18
  go_step
  go_step
  go_step
  go_step
  go_step
  refine wpk_val h19 (wanted_none rfl) rfl (by decide) (fr rfl) (.string (fB l)) (by unfold execOp; simp only [h19.eval (k := 0) (v := .string (fB l)) (by simp)]; rfl) fun a21 h20 => ?_
  refine wpk_val h20 (wanted_none rfl) rfl (by decide) (fr rfl) (.string (fB l)) (by unfold execOp; simp only [h20.eval (k := 12) (v := .string (fB l)) (by simp)]; rfl) fun a23 h22 => ?_
  have h24 := h22.subs (l' := [(7, .string (fB l)), (6, .bool true), (5, .int .i64 0), (4, .string (fB [])), (0, .string (fB l)), (3, .pointer (some ⟨gb, 0, none⟩))]) rfl
  clear h22
  go_step
  go_step
  go_step
  go_step
  go_step
  go_step
  refine wpk_val h24 (wanted_none rfl) rfl (by decide) (fr rfl) (.pointer (some ⟨gb, 2, none⟩)) (by unfold execOp; simp only [h24.eval (k := 3) (v := .pointer (some ⟨gb, 0, none⟩)) (by simp)]; exact run_v (faF_23_0_2 (gb) _)) fun a26 h25 => ?_
  refine wpk_val h25 (wanted_none rfl) rfl (by decide) (fr rfl) (.bool false) (by unfold execOp; simp only [h25.eval (k := 13) (v := .pointer (some ⟨gb, 2, none⟩)) (by simp)]; exact run_v (loadBF (cellT HK2.out hT))) fun a28 h27 => ?_
  have h29 := h27.subs (l' := [(14, .bool false), (7, .string (fB l)), (6, .bool true), (5, .int .i64 0), (4, .string (fB [])), (0, .string (fB l)), (3, .pointer (some ⟨gb, 0, none⟩))]) rfl
  clear h27
  go_step
  go_step
  go_step
  refine wp_cond (t := false) (h29.eval (k := 14) (v := .bool false) (by simp)) ?_
  simp only [Bool.false_eq_true, if_false]
  have h30 := h29.subs (l' := [(7, .string (fB l)), (6, .bool true), (5, .int .i64 0), (4, .string (fB [])), (0, .string (fB l)), (3, .pointer (some ⟨gb, 0, none⟩))]) rfl
  clear h29
  go_step
  go_step
  refine wpk_val h30 (wanted_none rfl) rfl (by decide) (fr rfl) (.pointer (some ⟨gb, 4, none⟩)) (by unfold execOp; simp only [h30.eval (k := 3) (v := .pointer (some ⟨gb, 0, none⟩)) (by simp)]; exact run_v (faF_23_0_4 (gb) _)) fun a32 h31 => ?_
  refine wpk_val h31 (wanted_none rfl) rfl (by decide) (fr rfl) (.string (fB r.d)) (by unfold execOp; simp only [h31.eval (k := 19) (v := .pointer (some ⟨gb, 4, none⟩)) (by simp)]; exact run_v (loadSF (HK2.out.cell (i := 4) (by show 4 < 5; omega)))) fun a34 h33 => ?_
  refine wpk_val h33 (wanted_none rfl) rfl (by decide) (fr rfl) (.bool true) (by unfold execOp; simp only [h33.eval (k := 20) (v := .string (fB r.d)) (by simp)]; exact run_v (neF _ _ _ _ _ (decide_eq_true (by assumption)))) fun a36 h35 => ?_
  have h37 := h35.subs (l' := [(21, .bool true), (7, .string (fB l)), (6, .bool true), (5, .int .i64 0), (4, .string (fB [])), (0, .string (fB l)), (3, .pointer (some ⟨gb, 0, none⟩))]) rfl
  clear h35
  go_step
  go_step
  go_step
  refine wp_cond (t := true) (h37.eval (k := 21) (v := .bool true) (by simp)) ?_
  simp only [if_true]
  have h38 := h37.subs (l' := [(7, .string (fB l)), (6, .bool true), (5, .int .i64 0), (4, .string (fB [])), (0, .string (fB l)), (3, .pointer (some ⟨gb, 0, none⟩))]) rfl
  clear h37
  go_step
  have HK4 := hid (HK2.out.mono (Below.refl _ _).drew); have HB4 := hid (Below.drew (HB2.out))
  refine wp_region_held_drew (S := fun w' => w2.drew = w') (by kernel_rfl) rfl (fun hS1 => ?_)
  refine wpk_take hS1 h38 0 rfl rfl (by decide) (fr rfl) (by kernel_rfl) (by kernel_rfl) (by kernel_rfl) (fun _ _ _ _ h => h) (.string (fB l)) (Or.inl ⟨Eq.refl true, fun w1 hSw => (by show (execOp _ (⟨_, .move (.tmp 0), _, _, _, _⟩ : Oper)).run _ _ = _; exact (by unfold execOp; simp only [h38.eval (k := 0) (v := .string (fB l)) (by simp)]; rfl))⟩) fun a40 h39 => ?_
  refine wpk_take hS1 h39 1 rfl rfl (by decide) (fr rfl) (by kernel_rfl) (by kernel_rfl) (by kernel_rfl) (fun _ _ _ _ h => h) (.pointer (some ⟨gb, 3, none⟩)) (Or.inl ⟨Eq.refl true, fun w1 hSw => (by show (execOp _ (⟨_, .fieldAddr 23 (.tmp 3) 3, _, _, _, _⟩ : Oper)).run _ _ = _; exact (by unfold execOp; simp only [h39.eval (k := 3) (v := .pointer (some ⟨gb, 0, none⟩)) (by simp)]; exact run_v (faF_23_0_3 (gb) _)))⟩) fun a42 h41 => ?_
  refine wpk_take hS1 h41 2 rfl rfl (by decide) (fr rfl) (by kernel_rfl) (by kernel_rfl) (by kernel_rfl) (fun _ _ _ _ h => h) (.int .i64 r.o) (Or.inl ⟨Eq.refl true, fun w1 hSw => (by show (execOp _ (⟨_, .load 3 (.tmp 23), _, _, _, _⟩ : Oper)).run _ _ = _; exact (by unfold execOp; simp only [h41.eval (k := 23) (v := .pointer (some ⟨gb, 3, none⟩)) (by simp)]; exact run_v (loadIF ((hSw ▸ HK4.out).cell (i := 3) (by show 3 < 5; omega)))))⟩) fun a44 h43 => ?_
  refine wpk_take hS1 h43 4 rfl rfl (by decide) (fr rfl) (by kernel_rfl) (by kernel_rfl) (by kernel_rfl) (fun _ _ _ _ h => h) (.pointer (some ⟨gb, 4, none⟩)) (Or.inl ⟨Eq.refl true, fun w1 hSw => (by show (execOp _ (⟨_, .fieldAddr 23 (.tmp 3) 4, _, _, _, _⟩ : Oper)).run _ _ = _; exact (by unfold execOp; simp only [h43.eval (k := 3) (v := .pointer (some ⟨gb, 0, none⟩)) (by simp)]; exact run_v (faF_23_0_4 (gb) _)))⟩) fun a46 h45 => ?_
  refine wpk_take hS1 h45 5 rfl rfl (by decide) (fr rfl) (by kernel_rfl) (by kernel_rfl) (by kernel_rfl) (fun _ _ _ _ h => h) (.string (fB r.d)) (Or.inl ⟨Eq.refl true, fun w1 hSw => (by show (execOp _ (⟨_, .load 9 (.tmp 26), _, _, _, _⟩ : Oper)).run _ _ = _; exact (by unfold execOp; simp only [h45.eval (k := 26) (v := .pointer (some ⟨gb, 4, none⟩)) (by simp)]; exact run_v (loadSF ((hSw ▸ HK4.out).cell (i := 4) (by show 4 < 5; omega)))))⟩) fun a48 h47 => ?_
  refine wpk_onlyW 3 rfl (wanted_none rfl) (by kernel_rfl) fun KK hK => op_call h47 rfl (by decide) (fr rfl) (fun args => callF_12 args _) rfl #[.string (fB l), .int .i64 r.o] (by simp only [List.map_toArray, List.map_cons, List.map_nil, h47.eval (k := 22) (v := .string (fB l)) (by simp), h47.eval (k := 24) (v := .int .i64 r.o) (by simp)]) (R := fun v' w' => v' = .string (fB (rzL l r.o.toNat)) ∧ w2.drew = w') ((sized_o r l (by omega) (by omega) (by omega) _).mono fun e w' q => ⟨_, q.1, rfl, q.2⟩) fun a50 v3 w3 r3 h49 => hK _ _ (r3.2) fun hS2 => ?_
  clear hK KK
  obtain ⟨rfl, rfl⟩ := r3
  refine wpk_take hS2 h49 6 rfl rfl (by decide) (fr rfl) (by kernel_rfl) (by kernel_rfl) (by kernel_rfl) (fun _ _ _ _ h => h) (.string (fB ((rzL l r.o.toNat) ++ r.d))) (Or.inl ⟨Eq.refl true, fun w1 hSw => (by show (execOp _ (⟨_, .binOp .add 9 (.tmp 25) (.tmp 27) 9, _, _, _, _⟩ : Oper)).run _ _ = _; exact (by unfold execOp; simp only [h49.eval (k := 25) (v := .string (fB (rzL l r.o.toNat))) (by simp), h49.eval (k := 27) (v := .string (fB r.d)) (by simp)]; exact run_v (addF _ _ _ _ (by first | omega | (simp only [List.length_append, List.length_take, List.length_drop, rzL_len, List.length_replicate, List.length_cons, List.length_nil]; omega)) _)))⟩) fun a52 h51 => ?_
  have h53 := h51.subs (l' := [(28, .string (fB ((rzL l r.o.toNat) ++ r.d))), (25, .string (fB (rzL l r.o.toNat))), (27, .string (fB r.d)), (26, .pointer (some ⟨gb, 4, none⟩)), (24, .int .i64 r.o), (23, .pointer (some ⟨gb, 3, none⟩)), (22, .string (fB l)), (6, .bool true), (5, .int .i64 0), (4, .string (fB [])), (0, .string (fB l)), (3, .pointer (some ⟨gb, 0, none⟩))]) rfl
  clear h51
  refine wpk_take hS2 h53 7 rfl rfl (by decide) (fr rfl) (by kernel_rfl) (by kernel_rfl) (by kernel_rfl) (fun _ _ _ _ h => h) (.string (fB ((rzL l r.o.toNat) ++ r.d))) (Or.inl ⟨Eq.refl true, fun w1 hSw => (by show (execOp _ (⟨_, .assign (.tmp 28), _, _, _, _⟩ : Oper)).run _ _ = _; exact (by unfold execOp; simp only [h53.eval (k := 28) (v := .string (fB ((rzL l r.o.toNat) ++ r.d))) (by simp)]; rfl))⟩) fun a55 h54 => ?_
  refine wpAnyH_done (by kernel_rfl) ?_ _
  have h56 := h54.subs (l' := [(7, .string (fB ((rzL l r.o.toNat) ++ r.d))), (6, .bool true), (5, .int .i64 0), (4, .string (fB [])), (0, .string (fB l)), (3, .pointer (some ⟨gb, 0, none⟩))]) rfl
  clear h54
  go_step
  go_step
  go_step
  go_step
  refine wpk_val h56 (wanted_none rfl) rfl (by decide) (fr rfl) (.string (fB l)) (by unfold execOp; simp only [h56.eval (k := 0) (v := .string (fB l)) (by simp)]; rfl) fun a58 h57 => ?_
  refine wpk_val h57 (wanted_none rfl) rfl (by decide) (fr rfl) (.int .i64 (l.length : Int)) (run_lenF rfl (h57.eval (k := 29) (v := .string (fB l)) (by simp)) (by rfl) _) fun a60 h59 => ?_
  refine wpk_val h59 (wanted_none rfl) rfl (by decide) (fr rfl) (.string (fB ((rzL l r.o.toNat) ++ r.d))) (by unfold execOp; simp only [h59.eval (k := 7) (v := .string (fB ((rzL l r.o.toNat) ++ r.d))) (by simp)]; rfl) fun a62 h61 => ?_
  refine wpk_val h61 (wanted_none rfl) rfl (by decide) (fr rfl) (.int .i64 ((r.o.toNat + r.d.length : Nat) : Int)) (run_lenF rfl (h61.eval (k := 31) (v := .string (fB ((rzL l r.o.toNat) ++ r.d))) (by simp)) (by rw [List.length_append, rzL_len]) _) fun a64 h63 => ?_
  refine wpk_val h63 (wanted_none rfl) rfl (by decide) (fr rfl) (.bool false) (by unfold execOp; simp only [h63.eval (k := 30) (v := .int .i64 (l.length : Int)) (by simp), h63.eval (k := 32) (v := .int .i64 ((r.o.toNat + r.d.length : Nat) : Int)) (by simp)]; exact run_v (gtIP _ _ _ _ _ (decide_eq_false (by omega)))) fun a66 h65 => ?_
  have h67 := h65.subs (l' := [(33, .bool false), (7, .string (fB ((rzL l r.o.toNat) ++ r.d))), (6, .bool true), (5, .int .i64 0), (4, .string (fB [])), (0, .string (fB l)), (3, .pointer (some ⟨gb, 0, none⟩))]) rfl
  clear h65
  go_step
  go_step
  go_step
  refine wp_cond (t := false) (h67.eval (k := 33) (v := .bool false) (by simp)) ?_
  simp only [Bool.false_eq_true, if_false]
  have h68 := h67.subs (l' := [(7, .string (fB ((rzL l r.o.toNat) ++ r.d))), (6, .bool true), (5, .int .i64 0), (4, .string (fB [])), (0, .string (fB l)), (3, .pointer (some ⟨gb, 0, none⟩))]) rfl
  clear h67
  go_step
  go_step
  go_step
  have h69 := h68.subs (l' := [(7, .string (fB ((rzL l r.o.toNat) ++ r.d)))]) rfl
  clear h68
  have hz : ((rzL l r.o.toNat) ++ r.d) = chL l r.t r.o.toNat r.d := ch_s hT hD (by omega)
  rw [hz] at h69
  go_step
  go_step
  go_step
  refine wpk_val h69 (wanted_none rfl) rfl (by decide) (fr rfl) (.string (fB (chL l r.t r.o.toNat r.d))) (by unfold execOp; simp only [h69.eval (k := 7) (v := .string (fB (chL l r.t r.o.toNat r.d))) (by simp)]; rfl) fun a71 h70 => ?_
  refine wpk_val h70 (wanted_none rfl) rfl (by decide) (fr rfl) (.int .i64 ((chL l r.t r.o.toNat r.d).length : Int)) (run_lenF rfl (h70.eval (k := 40) (v := .string (fB (chL l r.t r.o.toNat r.d))) (by simp)) (by rfl) _) fun a73 h72 => ?_
  refine wpk_val h72 (wanted_none rfl) rfl (by decide) (fr rfl) (.bool false) (by unfold execOp; simp only [h72.eval (k := 41) (v := .int .i64 ((chL l r.t r.o.toNat r.d).length : Int)) (by simp)]; exact run_v (gtIP _ _ _ _ _ (decide_eq_false (by omega)))) fun a75 h74 => ?_
  have h76 := h74.subs (l' := [(42, .bool false), (7, .string (fB (chL l r.t r.o.toNat r.d)))]) rfl
  clear h74
  go_step
  go_step
  go_step
  refine wp_cond (t := false) (h76.eval (k := 42) (v := .bool false) (by simp)) ?_
  simp only [Bool.false_eq_true, if_false]
  have h77 := h76.subs (l' := [(7, .string (fB (chL l r.t r.o.toNat r.d)))]) rfl
  clear h76
  go_step
  go_step
  go_step
  go_step
  go_step
  refine wpk_val h77 (wanted_none rfl) rfl (by decide) (fr rfl) (.string (fB (chL l r.t r.o.toNat r.d))) (by unfold execOp; simp only [h77.eval (k := 7) (v := .string (fB (chL l r.t r.o.toNat r.d))) (by simp)]; rfl) fun a79 h78 => ?_
  refine wpk_val h78 (wanted_none rfl) rfl (by decide) (fr rfl) (.string (fB (chL l r.t r.o.toNat r.d))) (by unfold execOp; simp only [h78.eval (k := 43) (v := .string (fB (chL l r.t r.o.toNat r.d))) (by simp)]; rfl) fun a81 h80 => ?_
  refine wpk_val h80 (wanted_none rfl) rfl (by decide) (fr rfl) (.int .i64 0) rfl fun a83 h82 => ?_
  have h84 := h82.subs (l' := [(5, .int .i64 0), (4, .string (fB (chL l r.t r.o.toNat r.d))), (7, .string (fB (chL l r.t r.o.toNat r.d)))]) rfl
  clear h82
  go_step
  go_step
  go_step
  go_step
  exact bodyPost_ret (results_tmp2 rfl (h84.known (4, .string (fB (chL l r.t r.o.toNat r.d))) (by simp)) (h84.known (5, .int .i64 0) (by simp))) h84.defs ⟨hres, HB4.out⟩
set_option maxHeartbeats 4000000 in
theorem rf_nb (l : List UInt8) (r : RecT) (w : World) (hl : l.length ≤ 1000) (hd9 : r.d.length ≤ 1000000) (hM : mayR r = true) (hT : r.t = false) (hD :  r.d = []) (hB : 256 < (chL l r.t r.o.toNat r.d).length) : Calls Try.prog 7 #[.string (fB l), .agg (recL r).toArray] w (ChP l r w) := by
  have hmay := hM
  obtain ⟨hm1, hm2, hm3, hm4⟩ := mayR_b hM
  have hres := chR_big (l := l) hM hB
  go_enter Try.func7, Try.ntmps7
  go_step
  go_step
  refine wpl_boxRec rfl rfl r rfl ?_
  rintro gb wb ⟨hgb, kb⟩ bb
  have HK := hid kb; have HB := hid bb; clear kb bb
  refine wpk_enter (N := 44) (l := [(0, .string (fB l)), (3, .pointer (some ⟨gb, 0, none⟩))]) ⟨rfl, (by intro x hx; simp only [List.mem_cons, List.not_mem_nil, or_false] at hx; rcases hx with rfl | rfl <;> rfl), rfl⟩ fun a2 h1 => ?_
  refine wpk_val h1 (wanted_none rfl) rfl (by decide) (fr rfl) (.string (fB [])) rfl fun a4 h3 => ?_
  refine wpk_val h3 (wanted_none rfl) rfl (by decide) (fr rfl) (.int .i64 0) rfl fun a6 h5 => ?_
  go_step
  go_step
  go_step
  go_step
  go_step
  refine wpk_val h5 (wanted_none rfl) rfl (by decide) (fr rfl) (.agg (recL r).toArray) (by unfold execOp; simp only [h5.eval (k := 3) (v := .pointer (some ⟨gb, 0, none⟩)) (by simp)]; exact run_v (run_loadAt_mid _ _ _ _ (recL r) _ (fun i u hu => by rw [Nat.zero_add]; exact blkF_at HK.out hu) Try.underlying23 rfl (by rw [infoRec]; rfl))) fun a8 h7 => ?_
  refine wpk_call h7 (wanted_none rfl) rfl (by decide) (fr rfl) (fun args => callF_9 args _) rfl #[.agg (recL r).toArray] (by simp only [List.map_toArray, List.map_cons, List.map_nil, h7.eval (k := 8) (v := .agg (recL r).toArray) (by simp)]) (R := fun v' w' => v' = .bool (mayR r) ∧ Below wb.heap.size wb w') ((mayR_r r _).mono fun e w' q => ⟨_, q.1, rfl, q.2⟩) fun a10 v2 w2 r2 h9 => ?_
  obtain ⟨rfl, b2⟩ := r2; rw [hmay] at h9; have HK2 := hid (HK.out.mono b2); have HB2 := hid (kept_trans HB.out b2); clear b2
  refine wpk_val h9 (wanted_none rfl) rfl (by decide) (fr rfl) (.bool true) (by unfold execOp; simp only [h9.eval (k := 9) (v := .bool true) (by simp)]; rfl) fun a12 h11 => ?_
  have h13 := h11.subs (l' := [(6, .bool true), (5, .int .i64 0), (4, .string (fB [])), (0, .string (fB l)), (3, .pointer (some ⟨gb, 0, none⟩))]) rfl
  clear h11
  go_step
  go_step
  go_step
  go_step
  go_step
  go_step
  refine wpk_val h13 (wanted_none rfl) rfl (by decide) (fr rfl) (.bool true) (by unfold execOp; simp only [h13.eval (k := 6) (v := .bool true) (by simp)]; rfl) fun a15 h14 => ?_
  refine wpk_val h14 (wanted_none rfl) rfl (by decide) (fr rfl) (.bool false) (run_not rfl (h14.eval (k := 10) (v := .bool true) (by simp))) fun a17 h16 => ?_
  have h18 := h16.subs (l' := [(11, .bool false), (6, .bool true), (5, .int .i64 0), (4, .string (fB [])), (0, .string (fB l)), (3, .pointer (some ⟨gb, 0, none⟩))]) rfl
  clear h16
  go_step
  go_step
  go_step
  refine wp_cond (t := false) (h18.eval (k := 11) (v := .bool false) (by simp)) ?_
  simp only [Bool.false_eq_true, if_false]
  have h19 := h18.subs (l' := [(6, .bool true), (5, .int .i64 0), (4, .string (fB [])), (0, .string (fB l)), (3, .pointer (some ⟨gb, 0, none⟩))]) rfl
  clear h18
  go_step
  go_step
  go_step
  go_step
  go_step
  refine wpk_val h19 (wanted_none rfl) rfl (by decide) (fr rfl) (.string (fB l)) (by unfold execOp; simp only [h19.eval (k := 0) (v := .string (fB l)) (by simp)]; rfl) fun a21 h20 => ?_
  refine wpk_val h20 (wanted_none rfl) rfl (by decide) (fr rfl) (.string (fB l)) (by unfold execOp; simp only [h20.eval (k := 12) (v := .string (fB l)) (by simp)]; rfl) fun a23 h22 => ?_
  have h24 := h22.subs (l' := [(7, .string (fB l)), (6, .bool true), (5, .int .i64 0), (4, .string (fB [])), (0, .string (fB l)), (3, .pointer (some ⟨gb, 0, none⟩))]) rfl
  clear h22
  go_step
  go_step
  go_step
  go_step
  go_step
  go_step
  refine wpk_val h24 (wanted_none rfl) rfl (by decide) (fr rfl) (.pointer (some ⟨gb, 2, none⟩)) (by unfold execOp; simp only [h24.eval (k := 3) (v := .pointer (some ⟨gb, 0, none⟩)) (by simp)]; exact run_v (faF_23_0_2 (gb) _)) fun a26 h25 => ?_
  refine wpk_val h25 (wanted_none rfl) rfl (by decide) (fr rfl) (.bool false) (by unfold execOp; simp only [h25.eval (k := 13) (v := .pointer (some ⟨gb, 2, none⟩)) (by simp)]; exact run_v (loadBF (cellT HK2.out hT))) fun a28 h27 => ?_
  have h29 := h27.subs (l' := [(14, .bool false), (7, .string (fB l)), (6, .bool true), (5, .int .i64 0), (4, .string (fB [])), (0, .string (fB l)), (3, .pointer (some ⟨gb, 0, none⟩))]) rfl
  clear h27
  go_step
  go_step
  go_step
  refine wp_cond (t := false) (h29.eval (k := 14) (v := .bool false) (by simp)) ?_
  simp only [Bool.false_eq_true, if_false]
  have h30 := h29.subs (l' := [(7, .string (fB l)), (6, .bool true), (5, .int .i64 0), (4, .string (fB [])), (0, .string (fB l)), (3, .pointer (some ⟨gb, 0, none⟩))]) rfl
  clear h29
  go_step
  go_step
  refine wpk_val h30 (wanted_none rfl) rfl (by decide) (fr rfl) (.pointer (some ⟨gb, 4, none⟩)) (by unfold execOp; simp only [h30.eval (k := 3) (v := .pointer (some ⟨gb, 0, none⟩)) (by simp)]; exact run_v (faF_23_0_4 (gb) _)) fun a32 h31 => ?_
  refine wpk_val h31 (wanted_none rfl) rfl (by decide) (fr rfl) (.string (fB r.d)) (by unfold execOp; simp only [h31.eval (k := 19) (v := .pointer (some ⟨gb, 4, none⟩)) (by simp)]; exact run_v (loadSF (HK2.out.cell (i := 4) (by show 4 < 5; omega)))) fun a34 h33 => ?_
  refine wpk_val h33 (wanted_none rfl) rfl (by decide) (fr rfl) (.bool false) (by unfold execOp; simp only [h33.eval (k := 20) (v := .string (fB r.d)) (by simp)]; exact run_v (neF _ _ _ _ _ (decide_eq_false (fun h => h (by first | rfl | assumption))))) fun a36 h35 => ?_
  have h37 := h35.subs (l' := [(21, .bool false), (7, .string (fB l)), (6, .bool true), (5, .int .i64 0), (4, .string (fB [])), (0, .string (fB l)), (3, .pointer (some ⟨gb, 0, none⟩))]) rfl
  clear h35
  go_step
  go_step
  go_step
  refine wp_cond (t := false) (h37.eval (k := 21) (v := .bool false) (by simp)) ?_
  simp only [Bool.false_eq_true, if_false]
  have h38 := h37.subs (l' := [(7, .string (fB l)), (6, .bool true), (5, .int .i64 0), (4, .string (fB [])), (0, .string (fB l)), (3, .pointer (some ⟨gb, 0, none⟩))]) rfl
  clear h37
  go_step
  go_step
  go_step
  have h39 := h38.subs (l' := [(7, .string (fB l))]) rfl
  clear h38
  have hz : l = chL l r.t r.o.toNat r.d := ch_n hT hD
  rw [hz] at h39
  go_step
  go_step
  go_step
  refine wpk_val h39 (wanted_none rfl) rfl (by decide) (fr rfl) (.string (fB (chL l r.t r.o.toNat r.d))) (by unfold execOp; simp only [h39.eval (k := 7) (v := .string (fB (chL l r.t r.o.toNat r.d))) (by simp)]; rfl) fun a41 h40 => ?_
  refine wpk_val h40 (wanted_none rfl) rfl (by decide) (fr rfl) (.int .i64 ((chL l r.t r.o.toNat r.d).length : Int)) (run_lenF rfl (h40.eval (k := 40) (v := .string (fB (chL l r.t r.o.toNat r.d))) (by simp)) (by rfl) _) fun a43 h42 => ?_
  refine wpk_val h42 (wanted_none rfl) rfl (by decide) (fr rfl) (.bool true) (by unfold execOp; simp only [h42.eval (k := 41) (v := .int .i64 ((chL l r.t r.o.toNat r.d).length : Int)) (by simp)]; exact run_v (gtIP _ _ _ _ _ (decide_eq_true (by omega)))) fun a45 h44 => ?_
  have h46 := h44.subs (l' := [(42, .bool true), (7, .string (fB (chL l r.t r.o.toNat r.d)))]) rfl
  clear h44
  go_step
  go_step
  go_step
  refine wp_cond (t := true) (h46.eval (k := 42) (v := .bool true) (by simp)) ?_
  simp only [if_true]
  have h47 := h46.subs (l' := [(7, .string (fB (chL l r.t r.o.toNat r.d)))]) rfl
  clear h46
  go_step
  go_step
  refine wpk_val h47 (wanted_none rfl) rfl (by decide) (fr rfl) (.string (fB [])) rfl fun a49 h48 => ?_
  refine wpk_val h48 (wanted_none rfl) rfl (by decide) (fr rfl) (.int .i64 19) rfl fun a51 h50 => ?_
  go_step
  go_step
  go_step
  go_step
  simp only [Exit.then, Exit.inBlock]
  exact bodyPost_ret (results_tmp2 rfl (h50.known (4, .string (fB [])) (by simp)) (h50.known (5, .int .i64 19) (by simp))) h50.defs ⟨hres, HB2.out⟩
set_option maxHeartbeats 4000000 in
theorem rf_ns (l : List UInt8) (r : RecT) (w : World) (hl : l.length ≤ 1000) (hd9 : r.d.length ≤ 1000000) (hM : mayR r = true) (hT : r.t = false) (hD :  r.d = []) (hB : ¬ 256 < (chL l r.t r.o.toNat r.d).length) : Calls Try.prog 7 #[.string (fB l), .agg (recL r).toArray] w (ChP l r w) := by
  have hmay := hM
  obtain ⟨hm1, hm2, hm3, hm4⟩ := mayR_b hM
  have hres := chR_ok (l := l) hM hB
  go_enter Try.func7, Try.ntmps7
  go_step
  go_step
  refine wpl_boxRec rfl rfl r rfl ?_
  rintro gb wb ⟨hgb, kb⟩ bb
  have HK := hid kb; have HB := hid bb; clear kb bb
  refine wpk_enter (N := 44) (l := [(0, .string (fB l)), (3, .pointer (some ⟨gb, 0, none⟩))]) ⟨rfl, (by intro x hx; simp only [List.mem_cons, List.not_mem_nil, or_false] at hx; rcases hx with rfl | rfl <;> rfl), rfl⟩ fun a2 h1 => ?_
  refine wpk_val h1 (wanted_none rfl) rfl (by decide) (fr rfl) (.string (fB [])) rfl fun a4 h3 => ?_
  refine wpk_val h3 (wanted_none rfl) rfl (by decide) (fr rfl) (.int .i64 0) rfl fun a6 h5 => ?_
  go_step
  go_step
  go_step
  go_step
  go_step
  refine wpk_val h5 (wanted_none rfl) rfl (by decide) (fr rfl) (.agg (recL r).toArray) (by unfold execOp; simp only [h5.eval (k := 3) (v := .pointer (some ⟨gb, 0, none⟩)) (by simp)]; exact run_v (run_loadAt_mid _ _ _ _ (recL r) _ (fun i u hu => by rw [Nat.zero_add]; exact blkF_at HK.out hu) Try.underlying23 rfl (by rw [infoRec]; rfl))) fun a8 h7 => ?_
  refine wpk_call h7 (wanted_none rfl) rfl (by decide) (fr rfl) (fun args => callF_9 args _) rfl #[.agg (recL r).toArray] (by simp only [List.map_toArray, List.map_cons, List.map_nil, h7.eval (k := 8) (v := .agg (recL r).toArray) (by simp)]) (R := fun v' w' => v' = .bool (mayR r) ∧ Below wb.heap.size wb w') ((mayR_r r _).mono fun e w' q => ⟨_, q.1, rfl, q.2⟩) fun a10 v2 w2 r2 h9 => ?_
  obtain ⟨rfl, b2⟩ := r2; rw [hmay] at h9; have HK2 := hid (HK.out.mono b2); have HB2 := hid (kept_trans HB.out b2); clear b2
  refine wpk_val h9 (wanted_none rfl) rfl (by decide) (fr rfl) (.bool true) (by unfold execOp; simp only [h9.eval (k := 9) (v := .bool true) (by simp)]; rfl) fun a12 h11 => ?_
  have h13 := h11.subs (l' := [(6, .bool true), (5, .int .i64 0), (4, .string (fB [])), (0, .string (fB l)), (3, .pointer (some ⟨gb, 0, none⟩))]) rfl
  clear h11
  go_step
  go_step
  go_step
  go_step
  go_step
  go_step
  refine wpk_val h13 (wanted_none rfl) rfl (by decide) (fr rfl) (.bool true) (by unfold execOp; simp only [h13.eval (k := 6) (v := .bool true) (by simp)]; rfl) fun a15 h14 => ?_
  refine wpk_val h14 (wanted_none rfl) rfl (by decide) (fr rfl) (.bool false) (run_not rfl (h14.eval (k := 10) (v := .bool true) (by simp))) fun a17 h16 => ?_
  have h18 := h16.subs (l' := [(11, .bool false), (6, .bool true), (5, .int .i64 0), (4, .string (fB [])), (0, .string (fB l)), (3, .pointer (some ⟨gb, 0, none⟩))]) rfl
  clear h16
  go_step
  go_step
  go_step
  refine wp_cond (t := false) (h18.eval (k := 11) (v := .bool false) (by simp)) ?_
  simp only [Bool.false_eq_true, if_false]
  have h19 := h18.subs (l' := [(6, .bool true), (5, .int .i64 0), (4, .string (fB [])), (0, .string (fB l)), (3, .pointer (some ⟨gb, 0, none⟩))]) rfl
  clear h18
  go_step
  go_step
  go_step
  go_step
  go_step
  refine wpk_val h19 (wanted_none rfl) rfl (by decide) (fr rfl) (.string (fB l)) (by unfold execOp; simp only [h19.eval (k := 0) (v := .string (fB l)) (by simp)]; rfl) fun a21 h20 => ?_
  refine wpk_val h20 (wanted_none rfl) rfl (by decide) (fr rfl) (.string (fB l)) (by unfold execOp; simp only [h20.eval (k := 12) (v := .string (fB l)) (by simp)]; rfl) fun a23 h22 => ?_
  have h24 := h22.subs (l' := [(7, .string (fB l)), (6, .bool true), (5, .int .i64 0), (4, .string (fB [])), (0, .string (fB l)), (3, .pointer (some ⟨gb, 0, none⟩))]) rfl
  clear h22
  go_step
  go_step
  go_step
  go_step
  go_step
  go_step
  refine wpk_val h24 (wanted_none rfl) rfl (by decide) (fr rfl) (.pointer (some ⟨gb, 2, none⟩)) (by unfold execOp; simp only [h24.eval (k := 3) (v := .pointer (some ⟨gb, 0, none⟩)) (by simp)]; exact run_v (faF_23_0_2 (gb) _)) fun a26 h25 => ?_
  refine wpk_val h25 (wanted_none rfl) rfl (by decide) (fr rfl) (.bool false) (by unfold execOp; simp only [h25.eval (k := 13) (v := .pointer (some ⟨gb, 2, none⟩)) (by simp)]; exact run_v (loadBF (cellT HK2.out hT))) fun a28 h27 => ?_
  have h29 := h27.subs (l' := [(14, .bool false), (7, .string (fB l)), (6, .bool true), (5, .int .i64 0), (4, .string (fB [])), (0, .string (fB l)), (3, .pointer (some ⟨gb, 0, none⟩))]) rfl
  clear h27
  go_step
  go_step
  go_step
  refine wp_cond (t := false) (h29.eval (k := 14) (v := .bool false) (by simp)) ?_
  simp only [Bool.false_eq_true, if_false]
  have h30 := h29.subs (l' := [(7, .string (fB l)), (6, .bool true), (5, .int .i64 0), (4, .string (fB [])), (0, .string (fB l)), (3, .pointer (some ⟨gb, 0, none⟩))]) rfl
  clear h29
  go_step
  go_step
  refine wpk_val h30 (wanted_none rfl) rfl (by decide) (fr rfl) (.pointer (some ⟨gb, 4, none⟩)) (by unfold execOp; simp only [h30.eval (k := 3) (v := .pointer (some ⟨gb, 0, none⟩)) (by simp)]; exact run_v (faF_23_0_4 (gb) _)) fun a32 h31 => ?_
  refine wpk_val h31 (wanted_none rfl) rfl (by decide) (fr rfl) (.string (fB r.d)) (by unfold execOp; simp only [h31.eval (k := 19) (v := .pointer (some ⟨gb, 4, none⟩)) (by simp)]; exact run_v (loadSF (HK2.out.cell (i := 4) (by show 4 < 5; omega)))) fun a34 h33 => ?_
  refine wpk_val h33 (wanted_none rfl) rfl (by decide) (fr rfl) (.bool false) (by unfold execOp; simp only [h33.eval (k := 20) (v := .string (fB r.d)) (by simp)]; exact run_v (neF _ _ _ _ _ (decide_eq_false (fun h => h (by first | rfl | assumption))))) fun a36 h35 => ?_
  have h37 := h35.subs (l' := [(21, .bool false), (7, .string (fB l)), (6, .bool true), (5, .int .i64 0), (4, .string (fB [])), (0, .string (fB l)), (3, .pointer (some ⟨gb, 0, none⟩))]) rfl
  clear h35
  go_step
  go_step
  go_step
  refine wp_cond (t := false) (h37.eval (k := 21) (v := .bool false) (by simp)) ?_
  simp only [Bool.false_eq_true, if_false]
  have h38 := h37.subs (l' := [(7, .string (fB l)), (6, .bool true), (5, .int .i64 0), (4, .string (fB [])), (0, .string (fB l)), (3, .pointer (some ⟨gb, 0, none⟩))]) rfl
  clear h37
  go_step
  go_step
  go_step
  have h39 := h38.subs (l' := [(7, .string (fB l))]) rfl
  clear h38
  have hz : l = chL l r.t r.o.toNat r.d := ch_n hT hD
  rw [hz] at h39
  go_step
  go_step
  go_step
  refine wpk_val h39 (wanted_none rfl) rfl (by decide) (fr rfl) (.string (fB (chL l r.t r.o.toNat r.d))) (by unfold execOp; simp only [h39.eval (k := 7) (v := .string (fB (chL l r.t r.o.toNat r.d))) (by simp)]; rfl) fun a41 h40 => ?_
  refine wpk_val h40 (wanted_none rfl) rfl (by decide) (fr rfl) (.int .i64 ((chL l r.t r.o.toNat r.d).length : Int)) (run_lenF rfl (h40.eval (k := 40) (v := .string (fB (chL l r.t r.o.toNat r.d))) (by simp)) (by rfl) _) fun a43 h42 => ?_
  refine wpk_val h42 (wanted_none rfl) rfl (by decide) (fr rfl) (.bool false) (by unfold execOp; simp only [h42.eval (k := 41) (v := .int .i64 ((chL l r.t r.o.toNat r.d).length : Int)) (by simp)]; exact run_v (gtIP _ _ _ _ _ (decide_eq_false (by omega)))) fun a45 h44 => ?_
  have h46 := h44.subs (l' := [(42, .bool false), (7, .string (fB (chL l r.t r.o.toNat r.d)))]) rfl
  clear h44
  go_step
  go_step
  go_step
  refine wp_cond (t := false) (h46.eval (k := 42) (v := .bool false) (by simp)) ?_
  simp only [Bool.false_eq_true, if_false]
  have h47 := h46.subs (l' := [(7, .string (fB (chL l r.t r.o.toNat r.d)))]) rfl
  clear h46
  go_step
  go_step
  go_step
  go_step
  go_step
  refine wpk_val h47 (wanted_none rfl) rfl (by decide) (fr rfl) (.string (fB (chL l r.t r.o.toNat r.d))) (by unfold execOp; simp only [h47.eval (k := 7) (v := .string (fB (chL l r.t r.o.toNat r.d))) (by simp)]; rfl) fun a49 h48 => ?_
  refine wpk_val h48 (wanted_none rfl) rfl (by decide) (fr rfl) (.string (fB (chL l r.t r.o.toNat r.d))) (by unfold execOp; simp only [h48.eval (k := 43) (v := .string (fB (chL l r.t r.o.toNat r.d))) (by simp)]; rfl) fun a51 h50 => ?_
  refine wpk_val h50 (wanted_none rfl) rfl (by decide) (fr rfl) (.int .i64 0) rfl fun a53 h52 => ?_
  have h54 := h52.subs (l' := [(5, .int .i64 0), (4, .string (fB (chL l r.t r.o.toNat r.d))), (7, .string (fB (chL l r.t r.o.toNat r.d)))]) rfl
  clear h52
  go_step
  go_step
  go_step
  go_step
  exact bodyPost_ret (results_tmp2 rfl (h54.known (4, .string (fB (chL l r.t r.o.toNat r.d))) (by simp)) (h54.known (5, .int .i64 0) (by simp))) h54.defs ⟨hres, HB2.out⟩
theorem change_any (l : List UInt8) (r : RecT) (w : World) (hl : l.length ≤ 1000) (hd9 : r.d.length ≤ 1000000) : Calls Try.prog 6 #[.string (fB l), .agg (recL r).toArray] w (ChP l r w) := by
  by_cases hM : mayR r = true
  case neg => exact ch_no l r w hl hd9 (by simpa using hM)
  by_cases hB : 256 < (chL l r.t r.o.toNat r.d).length <;> cases hT : r.t <;> by_cases hD : r.d = []
  · exact cch_nb l r w hl hd9 hM hT hD hB
  · exact cch_db l r w hl hd9 hM hT hD hB
  · exact cch_tb l r w hl hd9 hM hT hB
  · exact cch_tb l r w hl hd9 hM hT hB
  · exact cch_ns l r w hl hd9 hM hT hD hB
  · exact cch_ds l r w hl hd9 hM hT hD hB
  · exact cch_ts l r w hl hd9 hM hT hB
  · exact cch_ts l r w hl hd9 hM hT hB
theorem changeRef_any (l : List UInt8) (r : RecT) (w : World) (hl : l.length ≤ 1000) (hd9 : r.d.length ≤ 1000000) : Calls Try.prog 7 #[.string (fB l), .agg (recL r).toArray] w (ChP l r w) := by
  by_cases hM : mayR r = true
  case neg => exact rf_no l r w hl hd9 (by simpa using hM)
  by_cases hL : r.o.toNat + r.d.length < l.length <;> by_cases hB : 256 < (chL l r.t r.o.toNat r.d).length <;> cases hT : r.t <;> by_cases hD : r.d = []
  all_goals first
    | exact rf_nb l r w hl hd9 hM hT hD hB
    | exact rf_ns l r w hl hd9 hM hT hD hB
    | exact rf_tb l r w hl hd9 hM hT hB
    | exact rf_ts l r w hl hd9 hM hT hB
    | exact rf_dbl l r w hl hd9 hM hT hD hL hB
    | exact rf_dsl l r w hl hd9 hM hT hD hL hB
    | exact rf_db l r w hl hd9 hM hT hD hL hB
    | exact rf_ds l r w hl hd9 hM hT hD hL hB
end Go.Proofs.Ytngbpoofkeebgaa
