/- Merged: WirNm WirY. -/
import Derived.Test.YtanediaaidfcaaaWirEq
/- Lists of names compared. -/
namespace Go.Proofs.Ytanediaaidfcaaa
open Go.RowKit
set_option linter.unusedSimpArgs false
set_option linter.unusedVariables false

def bsW (s : List UInt8) : ByteArray := ⟨s.toArray⟩
theorem strV_eq (s : List UInt8) : strV s = .string (bsW s) := rfl
theorem bsW_inj {s t : List UInt8} : bsW s = bsW t ↔ s = t := by
  constructor
  · intro h
    have : (bsW s).data.toList = (bsW t).data.toList := by rw [h]
    exact this
  · rintro rfl; rfl
theorem rowN_len {w : World} {a : Option Addr} {c : Nat} {N : List (List UInt8)} (h : Row w 1 a N.length c (N.map strV)) : N.length ≤ 9223372036854775807 := by
  have h1 := h.2.1; have h2 := h.2.2.1; unfold maxLen at h2; omega
theorem rowN_cells {w : World} {a : Option Addr} {c : Nat} {N : List (List UInt8)} (h : Row w 1 a N.length c (N.map strV)) (hn : 0 < N.length) :
    ∃ b off, a = some ⟨b, off, none⟩ ∧ b < w.heap.size ∧ ∀ i (hi : i < N.length), w.cell? ⟨b, off + i, none⟩ = some (.string (bsW N[i])) := by
  obtain ⟨b, off, e, hlt, hc⟩ := h.at hn
  exact ⟨b, off, e, hlt, fun i hi => hc i _ (by simp [hi, strV_eq])⟩
theorem ne_of_at {N M : List (List UInt8)} {k : Nat} (h1 : k < N.length) (h2 : k < M.length) (h : bsW N[k] ≠ bsW M[k]) : N ≠ M := by
  rintro rfl; exact h rfl
theorem eq_of_all {N M : List (List UInt8)} (hl : N.length = M.length) (h : ∀ j (h1 : j < N.length) (h2 : j < M.length), bsW N[j] = bsW M[j]) : N = M :=
  List.ext_getElem hl (fun i h1 h2 => bsW_inj.1 (h i h1 h2))

set_option maxHeartbeats 2000000 in
theorem sameN_any (N M : List (List UInt8)) (a b : Option Addr) (c d : Nat) (w : World) (ha : Row w 1 a N.length c (N.map strV)) (hb : Row w 1 b M.length d (M.map strV)) :
    Calls Try.prog 28 #[.slice a N.length c, .slice b M.length d] w fun e w' => e = .returned (.bool (decide (N = M))) ∧ Below w.heap.size w w' := by
  have hl := rowN_len ha
  have hm := rowN_len hb
  by_cases hne : N.length = M.length
  · have HA := hid ha; have HB := hid hb; have HN := hid hne
    rw [hne]
    clear ha hb hne hl
    go_enter Try.func28, Try.ntmps28
    go_wp2_with fail
    go_loopw [5] (fun i wr => ∃ k : Nat, k ≤ M.length ∧ i = .int .i64 k ∧ (∀ j (h : j < k) (h1 : j < N.length) (h2 : j < M.length), bsW N[j] = bsW M[j]) ∧ Below w.heap.size w wr) (fun i _ => M.length - (intOf i).toNat)
    case atStart => exact ⟨0, by omega, rfl, (fun j h => absurd h (by omega)), Below.refl _ _⟩
    case round =>
      obtain ⟨k, hk, rfl, heq, hbl⟩ := hrel
      have HEQ := hid heq
      clear heq
      by_cases hk16 : k < M.length
      · have hkn : k < N.length := by rw [HN.out]; exact hk16
        obtain ⟨ba, oa, rfl, hba, hca⟩ := rowN_cells (HA.out.mono hbl) (by omega)
        obtain ⟨bb, ob, rfl, hbb, hcb⟩ := rowN_cells (HB.out.mono hbl) (by omega)
        have a0 := hca k hkn
        have b0 := hcb k hk16
        have dk : decide ((k : Int) < (M.length : Int)) = true := decide_eq_true (by omega)
        have hno := fun (h : bsW N[k] ≠ bsW M[k]) => ne_of_at hkn hk16 h
        have hst := eqW_str (bsW N[k]) (bsW M[k])
        have hxe : bsW N[k] = bsW M[k] → ∀ j (h : j < k + 1) (h1 : j < N.length) (h2 : j < M.length), bsW N[j] = bsW M[j] := fun he j h h1 h2 => by
          rcases (by omega : j < k ∨ j = k) with g | rfl
          · exact HEQ.out j g h1 h2
          · exact he
        have HNE := hid hno; have HXE := hid hxe
        clear hca hcb hno hxe
        generalize bsW N[k] = x at *
        generalize bsW M[k] = y at *
        have HBL := hid hbl
        clear hbl
        by_cases hxy : x = y
        · rw [decide_eq_true hxy] at hst
          have HX := hid (HXE.out hxy)
          clear hxy
          go_wp2
          go_quiet (fail)
          go_wp2
          go_roundw
          case rel => exact ⟨k + 1, by omega, by go_num, HX.out, bel_drewN HBL.out _⟩
          case measure => simp [intOf]; omega
        · rw [decide_eq_false hxy] at hst
          have HNo := hid (HNE.out hxy)
          clear hxy
          go_wp2
          go_quiet (fail)
          go_wp2
          go_ret
          exact ⟨ret_bool (decide_eq_false HNo.out).symm, bel_drewN HBL.out _⟩
      · obtain rfl : k = M.length := by omega
        have dk : decide ((M.length : Int) < (M.length : Int)) = false := decide_eq_false (by omega)
        have HT := hid (eq_of_all HN.out (fun j h1 h2 => HEQ.out j h2 h1 h2))
        go_wp2_with fail
        go_ret
        exact ⟨ret_bool (decide_eq_true HT.out).symm, hbl⟩
  · have hb' : ((N.length : Int) != (M.length : Int)) = true := by simp; omega
    have HNE := hid hne
    clear hne ha hb
    go_enter Try.func28, Try.ntmps28
    go_wp2_with fail
    go_ret
    exact ⟨ret_bool (decide_eq_false (fun e => HNE.out (by rw [e]))).symm, Below.refl _ _⟩

set_option maxHeartbeats 2000000 in
theorem equalN_any (N M : List (List UInt8)) (a b : Option Addr) (c d : Nat) (w : World) (ha : Row w 1 a N.length c (N.map strV)) (hb : Row w 1 b M.length d (M.map strV)) :
    Calls Try.prog 52 #[.slice a N.length c, .slice b M.length d] w fun e w' => e = .returned (.bool (decide (N = M))) ∧ Below w.heap.size w w' := by
  have hl := rowN_len ha
  have hm := rowN_len hb
  by_cases hne : N.length = M.length
  · have HA := hid ha; have HB := hid hb; have HN := hid hne
    rw [hne]
    clear ha hb hne hl
    go_enter Try.func52, Try.ntmps52
    go_wp2_with fail
    go_loopw [13] (fun i wr => ∃ k : Nat, k ≤ M.length ∧ i = .int .i64 k ∧ (∀ j (h : j < k) (h1 : j < N.length) (h2 : j < M.length), bsW N[j] = bsW M[j]) ∧ Below w.heap.size w wr) (fun i _ => M.length - (intOf i).toNat)
    case atStart => exact ⟨0, by omega, rfl, (fun j h => absurd h (by omega)), Below.refl _ _⟩
    case round =>
      obtain ⟨k, hk, rfl, heq, hbl⟩ := hrel
      have HEQ := hid heq
      clear heq
      by_cases hk16 : k < M.length
      · have hkn : k < N.length := by rw [HN.out]; exact hk16
        obtain ⟨ba, oa, rfl, hba, hca⟩ := rowN_cells (HA.out.mono hbl) (by omega)
        obtain ⟨bb, ob, rfl, hbb, hcb⟩ := rowN_cells (HB.out.mono hbl) (by omega)
        have a0 := hca k hkn
        have b0 := hcb k hk16
        have dk : decide ((k : Int) < (M.length : Int)) = true := decide_eq_true (by omega)
        have hno := fun (h : bsW N[k] ≠ bsW M[k]) => ne_of_at hkn hk16 h
        have hst := eqW_str (bsW N[k]) (bsW M[k])
        have hxe : bsW N[k] = bsW M[k] → ∀ j (h : j < k + 1) (h1 : j < N.length) (h2 : j < M.length), bsW N[j] = bsW M[j] := fun he j h h1 h2 => by
          rcases (by omega : j < k ∨ j = k) with g | rfl
          · exact HEQ.out j g h1 h2
          · exact he
        have HNE := hid hno; have HXE := hid hxe
        clear hca hcb hno hxe
        generalize bsW N[k] = x at *
        generalize bsW M[k] = y at *
        have HBL := hid hbl
        clear hbl
        by_cases hxy : x = y
        · rw [decide_eq_true hxy] at hst
          have HX := hid (HXE.out hxy)
          clear hxy
          go_wp2
          go_quiet (fail)
          go_wp2
          go_roundw
          case rel => exact ⟨k + 1, by omega, by go_num, HX.out, bel_drewN HBL.out _⟩
          case measure => simp [intOf]; omega
        · rw [decide_eq_false hxy] at hst
          have HNo := hid (HNE.out hxy)
          clear hxy
          go_wp2
          go_quiet (fail)
          go_wp2
          go_ret
          exact ⟨ret_bool (decide_eq_false HNo.out).symm, bel_drewN HBL.out _⟩
      · obtain rfl : k = M.length := by omega
        have dk : decide ((M.length : Int) < (M.length : Int)) = false := decide_eq_false (by omega)
        have HT := hid (eq_of_all HN.out (fun j h1 h2 => HEQ.out j h2 h1 h2))
        go_wp2_with fail
        go_ret
        exact ⟨ret_bool (decide_eq_true HT.out).symm, hbl⟩
  · have hb' : ((N.length : Int) != (M.length : Int)) = true := by simp; omega
    have HNE := hid hne
    clear hne ha hb
    go_enter Try.func52, Try.ntmps52
    go_wp2_with fail
    go_ret
    exact ⟨ret_bool (decide_eq_false (fun e => HNE.out (by rw [e]))).symm, Below.refl _ _⟩
end Go.Proofs.Ytanediaaidfcaaa
/- Packets compared: equalReplies, equal. (genWirY.py) -/
namespace Go.Proofs.Ytanediaaidfcaaa
open Go.RowKit
set_option linter.unusedSimpArgs false
set_option linter.unusedVariables false

theorem run_boxT {T : TypeId} {o : Oper} {x : Operand} (ho : o.op = .box T x) (ρ : Operand → Value) (w : World) (L : List Value) (hx : ρ x = .agg L.toArray) : (execOp ρ o).run Try.prog w = .ok (.value (.pointer (some ⟨w.heap.size, 0, none⟩))) (w.alloc (.cells L.toArray T)) := by
  unfold execOp; rw [ho]; simp only; rw [hx]; rfl
/-- a struct that is boxed -/
theorem wpl_boxT {w : World} {ops : Array Oper} {rest : List Oper} {o : Oper} {act : Act} {Q : Exit → Act → World → Prop} (hgd : o.guard = none) (T : TypeId) (x : Operand) (ho : o.op = .box T x) (L : List Value) (hx : act.eval x = .agg L.toArray)
    (h : ∀ w', Blk w' w.heap.size T L → Below w.heap.size w w' → w'.heap.size = w.heap.size + 1 → wpList Try.prog ops Q rest (act.put o.dst (.pointer (some ⟨w.heap.size, 0, none⟩))) w') : wpList Try.prog ops Q (o :: rest) act w := by
  refine wpl_runTo hgd _ _ (run_boxT ho _ w _ hx) ?_
  exact h _ (blk_newO rfl _ _) (albO _ _) (by simp)
theorem Blk.part {w : World} {g : Nat} {e : TypeId} {L : List Value} (h : Blk w g e L) (o n : Nat) (cs : List Value) (hc : (L.drop o).take n = cs) : w.rangeAt g o cs := fun j v hv => by
  subst hc
  rw [List.getElem?_take] at hv
  split at hv
  · rw [List.getElem?_drop] at hv
    obtain ⟨h1, h2⟩ := List.getElem?_eq_some_iff.1 hv
    rw [h.cell h1, h2]
  · cases hv
/-- a struct loaded from within a block, where a guard allows -/
theorem wpl_loadGM {P : Program} {w : World} {ops : Array Oper} {rest : List Oper} {o : Oper} {act : Act} {Q : Exit → Act → World → Prop} (hw : Region.wanted o (yielded ops act.tmps) = true) (T : TypeId) (x : Operand)
    (ho : o.op = .load T x) (g off : Nat) (hx : act.eval x = .pointer (some ⟨g, off, none⟩)) (cs : List Value) {k : TypeDesc} (hc : w.rangeAt g off cs) (hu : P.underlying T = some k) (hk : k.isRow = true) (hn : (P.info? T).map (·.size) = some cs.length)
    (h : wpList P ops Q rest (act.put o.dst (.agg cs.toArray)) w) : wpList P ops Q (o :: rest) act w :=
  wpList_step fun K hK => by
    rw [if_pos hw]
    exact wp_load_mid T x ho g off hx cs k hc hu hk hn (hK _ _ h)
theorem infoInf : (Try.prog.info? 27).map (·.size) = some 3 := by kernel_rfl
theorem infoCal : (Try.prog.info? 23).map (·.size) = some 8 := by kernel_rfl
theorem infoNod : (Try.prog.info? 33).map (·.size) = some 15 := by kernel_rfl
theorem infoRep : (Try.prog.info? 29).map (·.size) = some 7 := by kernel_rfl
def eqS (s t : List UInt8) : Bool := (bsW s).toList == (bsW t).toList
theorem eqS_iff {s t : List UInt8} : eqS s t = true ↔ s = t := by unfold eqS; rw [eqW_str, decide_eq_true_iff, bsW_inj]
def callC (P : PkM) : List Value := [.int .i64 (P.I 10), .string (bsW (P.S 11)), .string (bsW (P.S 12)), .int .i64 (P.I 13), .int .i64 (P.I 14), .int .i64 (P.I 15), .int .i64 (P.I 16), .string (bsW (P.S 17))]
def nodeC (P : PkM) : List Value := [.int .i64 (P.I 28), .int .i64 (P.I 29), .int .i64 (P.I 30), .int .i64 (P.I 31), .int .i64 (P.I 32), .int .i64 (P.I 33), .int .i64 (P.I 34), .int .i64 (P.I 35), .int .i64 (P.I 36), .int .i64 (P.I 37), .int .i64 (P.I 38), .int .i64 (P.I 39), .int .i64 (P.I 40), .int .i64 (P.I 41), .int .i64 (P.I 42)]
def infoC (P : PkM) : List Value := [.int .i64 (P.I 24), .int .i64 (P.I 25), .int .i64 (P.I 26)]
def repC (P : PkM) (a : Option Addr) (n c : Nat) : List Value := [.int .i64 (P.I 20), .int .i64 (P.I 21), .string (bsW (P.S 22)), .slice a n c, .int .i64 (P.I 24), .int .i64 (P.I 25), .int .i64 (P.I 26)]
def eqCall (P Q : PkM) : Bool := decide (P.I 10 = Q.I 10 ∧ bsW (P.S 11) = bsW (Q.S 11) ∧ bsW (P.S 12) = bsW (Q.S 12) ∧ P.I 13 = Q.I 13 ∧ P.I 14 = Q.I 14 ∧ P.I 15 = Q.I 15 ∧ P.I 16 = Q.I 16 ∧ bsW (P.S 17) = bsW (Q.S 17))
def nodeL (P : PkM) : List Int := [P.I 28, P.I 29, P.I 30, P.I 31, P.I 32, P.I 33, P.I 34, P.I 35, P.I 36, P.I 37, P.I 38, P.I 39, P.I 40, P.I 41, P.I 42]
def eqNode (P Q : PkM) : Bool := decide (nodeL P = nodeL Q)
def eqInfo (P Q : PkM) : Bool := decide (P.I 24 = Q.I 24 ∧ P.I 25 = Q.I 25 ∧ P.I 26 = Q.I 26)
def eqN (P Q : PkM) : Bool := decide (P.N = Q.N)
theorem run_eqCall (P Q : PkM) (w : World) : (Op.equalIn 10000 23 (.agg (callC P).toArray) (.agg (callC Q).toArray)).run Try.prog w = .ok (eqCall P Q) w := eqCallW _ _ _ _ _ _ _ _ _ _ _ _ _ _ _ _ w
theorem run_eqNode (P Q : PkM) (w : World) : (Op.equalIn 10000 33 (.agg (nodeC P).toArray) (.agg (nodeC Q).toArray)).run Try.prog w = .ok (eqNode P Q) w := eqIno _ _ _ _ _ _ _ _ _ _ _ _ _ _ _ _ _ _ _ _ _ _ _ _ _ _ _ _ _ _ w
theorem run_eqInfo (P Q : PkM) (w : World) : (Op.equalIn 10000 27 (.agg (infoC P).toArray) (.agg (infoC Q).toArray)).run Try.prog w = .ok (eqInfo P Q) w := eqInfoW _ _ _ _ _ _ w
def eqRep (P Q : PkM) : Bool := (P.I 20 == Q.I 20) && ((P.I 21 == Q.I 21) && (eqS (P.S 22) (Q.S 22) && (eqInfo P Q && eqN P Q)))
def eqPk (P Q : PkM) : Bool := (P.I 0 == Q.I 0) && ((P.I 1 == Q.I 1) && ((P.I 2 == Q.I 2) && ((P.I 3 == Q.I 3) && ((P.I 4 == Q.I 4) && ((P.I 5 == Q.I 5) && ((P.I 6 == Q.I 6) && (eqS (P.S 7) (Q.S 7) && ((P.I 8 == Q.I 8) && ((P.I 9 == Q.I 9) && (eqCall P Q && ((P.I 18 == Q.I 18) && ((P.I 19 == Q.I 19) && ((P.I 27 == Q.I 27) && (eqNode P Q && eqRep P Q))))))))))))))

set_option maxRecDepth 100000 in
set_option maxHeartbeats 4000000 in
theorem equalRep_any (P Q : PkM) (a b : Option Addr) (c d : Nat) (w : World) (ha : Row w 1 a P.N.length c (P.N.map strV)) (hb : Row w 1 b Q.N.length d (Q.N.map strV)) :
    Calls Try.prog 34 #[.agg (repC P a P.N.length c).toArray, .agg (repC Q b Q.N.length d).toArray] w fun e w' => e = .returned (.bool (eqRep P Q)) ∧ Below w.heap.size w w' := by
  unfold eqRep eqS
  have t1 : True := trivial
  have t2 : True := trivial
  have E := run_eqInfo P Q
  have HN := hid (fun (W : World) (hW : Below w.heap.size w W) => equalN_any P.N Q.N a b c d W (ha.mono hW) (hb.mono hW))
  have HEN : Hid (eqN P Q = decide (P.N = Q.N)) := hid rfl
  clear ha hb
  obtain ⟨c0, hc0⟩ : ∃ c, (P.I 20 == Q.I 20) = c := ⟨_, rfl⟩
  obtain ⟨c1, hc1⟩ : ∃ c, (P.I 21 == Q.I 21) = c := ⟨_, rfl⟩
  obtain ⟨c2, hc2⟩ : ∃ c, ((bsW (P.S 22)).toList == (bsW (Q.S 22)).toList) = c := ⟨_, rfl⟩
  obtain ⟨c3, hc3⟩ : ∃ c, eqInfo P Q = c := ⟨_, rfl⟩
  rw [hc0, hc1, hc2, hc3]
  rw [hc3] at E
  clear hc3
  cases c0; rotate_left 1; cases c1; rotate_left 1; cases c2; rotate_left 1; cases c3
  all_goals
    go_enter Try.func34, Try.ntmps34
    go_wp2_with (first
      | (have _t := t1; (with_reducible refine wpl_boxT rfl 29 _ rfl (repC P a P.N.length c) rfl ?_); clear t1; intro w1 k1 b1 s1; have K1 := hid k1; have B1 := hid b1; clear k1 b1)
      | (have _t := t2; (with_reducible refine wpl_boxT rfl 29 _ rfl (repC Q b Q.N.length d) rfl ?_); clear t2; intro w2 k2 b2 s2; rw [s1] at k2; have B2 := hid (kept_trans B1.out b2); have KP := hid (K1.out.mono b2); have KQ := hid k2; clear K1 b2 k2 s2; have p0 : w2.cell? ⟨w.heap.size, 0, none⟩ = some (.int .i64 (P.I 20)) := KP.out.cell (i := 0) (by show 0 < 7; omega); have q0 : w2.cell? ⟨w.heap.size + 1, 0, none⟩ = some (.int .i64 (Q.I 20)) := KQ.out.cell (i := 0) (by show 0 < 7; omega); have p1 : w2.cell? ⟨w.heap.size, 1, none⟩ = some (.int .i64 (P.I 21)) := KP.out.cell (i := 1) (by show 1 < 7; omega); have q1 : w2.cell? ⟨w.heap.size + 1, 1, none⟩ = some (.int .i64 (Q.I 21)) := KQ.out.cell (i := 1) (by show 1 < 7; omega); have p2 : w2.cell? ⟨w.heap.size, 2, none⟩ = some (.string (bsW (P.S 22))) := KP.out.cell (i := 2) (by show 2 < 7; omega); have q2 : w2.cell? ⟨w.heap.size + 1, 2, none⟩ = some (.string (bsW (Q.S 22))) := KQ.out.cell (i := 2) (by show 2 < 7; omega); have p3 : w2.cell? ⟨w.heap.size, 3, none⟩ = some (.slice a P.N.length c) := KP.out.cell (i := 3) (by show 3 < 7; omega); have q3 : w2.cell? ⟨w.heap.size + 1, 3, none⟩ = some (.slice b Q.N.length d) := KQ.out.cell (i := 3) (by show 3 < 7; omega))
      | ((refine wpl_loadGM ?hw 27 _ rfl w.heap.size 4 rfl (infoC P) (KP.out.part 4 3 (infoC P) rfl) Try.underlying27 rfl infoInf ?_); (case hw => exact (Eq.refl true)))
      | ((refine wpl_loadGM ?hw 27 _ rfl (w.heap.size + 1) 4 rfl (infoC Q) (KQ.out.part 4 3 (infoC Q) rfl) Try.underlying27 rfl infoInf ?_); (case hw => exact (Eq.refl true)))
      | (go_at_call 52; refine (HN.out _ B2.out).mono ?_; rintro e w3 ⟨rfl, b3⟩; have B3 := hid (kept_trans B2.out b3); clear b3))
    go_ret
    first
      | exact ⟨rfl, B2.out⟩
      | exact ⟨by rw [HEN.out]; rfl, B3.out⟩
end Go.Proofs.Ytanediaaidfcaaa
