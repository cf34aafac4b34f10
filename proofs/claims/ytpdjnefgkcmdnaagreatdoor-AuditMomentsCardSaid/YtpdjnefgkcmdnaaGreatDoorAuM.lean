/- Merged: AuA AuB AuC AuD AuE. -/
import Derived.Test.YtpdjnefgkcmdnaaGreatDoorPyO
/- stage 25: equal, ascending (sx/au.py) -/
namespace Go.Proofs.YtpdjnefgkcmdnaaGreatDoor
open Go.RowKit
set_option linter.unusedSimpArgs false
set_option linter.unusedVariables false
set_option maxRecDepth 100000

/-- are replies the same, as audit compares them? -/
def eqA (r s : RepM) : Bool := ((((decide (r.e = s.e) && decide (r.fd = s.fd)) && decide (r.data = s.data)) && (decide (r.kind = s.kind) && (decide (r.links = s.links) && decide (r.size = s.size)))) && decide (r.names = s.names))
def cmpI (x y : Int) : Int := if x < y then -1 else if x > y then 1 else 0
theorem asc_step {x y z : Int} {i : Nat} (h : decide ([x, y, z].getD i 0 < [x, y, z].getD (i - 1) 0) = false) (hi : 0 < i) : [x, y, z].getD (i - 1) 0 ≤ [x, y, z].getD i 0 := Int.not_lt.1 (of_decide_eq_false h)
theorem asc_not {x y z : Int} {i : Nat} (hi : 0 < i ∧ i ≤ 2) (h : [x, y, z].getD i 0 < [x, y, z].getD (i - 1) 0) : ¬ (x ≤ y ∧ y ≤ z) := by
  rintro ⟨h1, h2⟩
  rcases (show i = 1 ∨ i = 2 by omega) with rfl | rfl
  · exact absurd (show y < x from h) (by omega)
  · exact absurd (show z < y from h) (by omega)

theorem fa_api_Reply_z2_0 (g off : Nat) (w : World) : (Instr.fieldAt 28 (.pointer (some ⟨g, off, none⟩)) 0).run Tryz.prog w = .ok (.pointer (some ⟨g, off + 0, none⟩)) w := rfl
theorem fa_api_Reply_z2_1 (g off : Nat) (w : World) : (Instr.fieldAt 28 (.pointer (some ⟨g, off, none⟩)) 1).run Tryz.prog w = .ok (.pointer (some ⟨g, off + 1, none⟩)) w := rfl
theorem fa_api_Reply_z2_2 (g off : Nat) (w : World) : (Instr.fieldAt 28 (.pointer (some ⟨g, off, none⟩)) 2).run Tryz.prog w = .ok (.pointer (some ⟨g, off + 2, none⟩)) w := rfl
theorem fa_api_Reply_z2_4 (g off : Nat) (w : World) : (Instr.fieldAt 28 (.pointer (some ⟨g, off, none⟩)) 4).run Tryz.prog w = .ok (.pointer (some ⟨g, off + 4, none⟩)) w := rfl
set_option maxHeartbeats 4000000 in
theorem eqS_api_Info_z2_in (x0 : Int) (x1 : Int) (x2 : Int) (y0 : Int) (y1 : Int) (y2 : Int) (w : World) : (Op.equalIn 10000 26 (.agg #[.int .i64 x0, .int .i64 x1, .int .i64 x2]) (.agg #[.int .i64 y0, .int .i64 y1, .int .i64 y2])).run Tryz.prog w = .ok (decide (x0 = y0) && (decide (x1 = y1) && decide (x2 = y2))) w := by
  have u3 := Tryz.underlying3
  have a3 := Tryz.isAgg3
  have z3 := Tryz.sizeOf3
  have hS : Tryz.prog.underlying 26 = some (.struct (Tryz.prog.fieldsOf 26)) := by kernel_rfl
  have hp : Tryz.prog.stoodInHeld 26 = false := by kernel_rfl
  rw [show (10000 : Nat) = 9999 + 1 from rfl, run_equalIn_agg w 9999 26 _ _ hS hp]
  simp only [Program.fieldsOf, Tryz.underlying26]
  go_simp
  by_cases h0 : x0 = y0
  case neg => simp [h0]
  by_cases h1 : x1 = y1
  case neg => simp [h0, h1]
  by_cases h2 : x2 = y2
  case neg => simp [h0, h1, h2]
  simp [h0, h1, h2]
theorem eqS_api_Info_z2_eql (o p : Operand) (x0 : Int) (x1 : Int) (x2 : Int) (y0 : Int) (y1 : Int) (y2 : Int) (w : World) : (do eqGuard .eql 26 o p (.agg #[.int .i64 x0, .int .i64 x1, .int .i64 x2]) (.agg #[.int .i64 y0, .int .i64 y1, .int .i64 y2]); binOp .eql 26 (.agg #[.int .i64 x0, .int .i64 x1, .int .i64 x2]) (.agg #[.int .i64 y0, .int .i64 y1, .int .i64 y2]) : Sem Value).run Tryz.prog w = .ok (.bool ((decide (x0 = y0) && (decide (x1 = y1) && decide (x2 = y2))))) w := by
  have e : (Op.equal 26 (.agg #[.int .i64 x0, .int .i64 x1, .int .i64 x2]) (.agg #[.int .i64 y0, .int .i64 y1, .int .i64 y2])).run Tryz.prog w = .ok (decide (x0 = y0) && (decide (x1 = y1) && decide (x2 = y2))) w := eqS_api_Info_z2_in x0 x1 x2 y0 y1 y2 w
  rw [Sem.run_bind, run_eqGuard_agg (P := Tryz.prog) w .eql 26 o p _ _ (by kernel_rfl)]
  show (binOp .eql 26 _ _).run Tryz.prog w = _
  simp only [binOp, Sem.run_bind, e]
  rfl
theorem fa_api_Reply_z2_3 (g off : Nat) (w : World) : (Instr.fieldAt 28 (.pointer (some ⟨g, off, none⟩)) 3).run Tryz.prog w = .ok (.pointer (some ⟨g, off + 3, none⟩)) w := rfl
theorem cp_slices_Equal_string_string_z2 (args : Array Value) (w : World) : (callFunc 50 args).run Tryz.prog w = .ok (.enter 50 args) w := by
  have h := Tryz.func50
  go_simp
theorem cp_cmp_isNaN_int_z4 (args : Array Value) (w : World) : (callFunc 49 args).run Tryz.prog w = .ok (.enter 49 args) w := by
  have h := Tryz.func49
  go_simp
theorem cp_cmp_isNaN_int_z5 (args : Array Value) (w : World) : (callFunc 49 args).run Tryz.prog w = .ok (.enter 49 args) w := by
  have h := Tryz.func49
  go_simp
theorem cp_cmp_Less_int_z6 (args : Array Value) (w : World) : (callFunc 68 args).run Tryz.prog w = .ok (.enter 68 args) w := by
  have h := Tryz.func68
  go_simp
theorem cp_slices_IsSorted_int_int_z7 (args : Array Value) (w : World) : (callFunc 52 args).run Tryz.prog w = .ok (.enter 52 args) w := by
  have h := Tryz.func52
  go_simp

set_option maxHeartbeats 4000000 in
theorem equalS_s {w : World} {R : List Ch} {a b : Option Addr} {c c2 : Nat} {L M : List ByteArray} (hS0 : Sep w ([ownC 0 9 1 a L.length c (L.flatMap sE), ownC 0 9 1 b M.length c2 (M.flatMap sE)] ++ R)) (hL : L.length ≤ 100000) (hM : M.length ≤ 100000) :
    CallsR Tryz.prog 50 #[.slice a L.length c, .slice b M.length c2] w (fun v w' => v = .bool (decide (L = M)) ∧ Sep w' ([ownC 0 9 1 a L.length c (L.flatMap sE), ownC 0 9 1 b M.length c2 (M.flatMap sE)] ++ R)) := by
  have hS : Sep w [ownC 0 9 1 a L.length c (L.flatMap sE), ownC 0 9 1 b M.length c2 (M.flatMap sE), Ch.many R] := Sep.tail_many (xs := [_, _]) hS0; clear hS0
  refine enterR Tryz.func50 rfl (N := 26) Tryz.ntmps50 (by show 2 ≤ 26; decide) [(0, .slice a L.length c), (1, .slice b M.length c2)] rfl fun a2 h1 => ?_
  refine wp_seq_k fun K3 hK3 => ?_
  refine wp_region_lit ?_
  refine sv h1 (wanted_none rfl) rfl rfl rfl (v := .bool false) (rassign h1 rfl rfl) fun a5 h4 => ?_
  refine wpList_nil ?_
  refine hK3 _ _ ?_
  refine wp_seq_k fun K6 hK6 => ?_
  refine wp_seq_k fun K7 hK7 => ?_
  refine wp_region_lit ?_
  refine sv h4 (wanted_none rfl) rfl rfl rfl (v := .slice a L.length c) (rmove h4 rfl rfl) fun a9 h8 => ?_
  refine sv h8 (wanted_none rfl) rfl rfl rfl (v := .int .i64 (L.length : Int)) (rlenS h8 rfl rfl Tryz.underlying24) fun a11 h10 => ?_
  refine sv h10 (wanted_none rfl) rfl rfl rfl (v := .slice b M.length c2) (rmove h10 rfl rfl) fun a13 h12 => ?_
  refine sv h12 (wanted_none rfl) rfl rfl rfl (v := .int .i64 (M.length : Int)) (rlenS h12 rfl rfl Tryz.underlying24) fun a15 h14 => ?_
  refine sv h14 (wanted_none rfl) rfl rfl rfl (v := .bool (decide ((L.length : Int) ≠ (M.length : Int)))) (rbin h14 rfl rfl rfl (cNe _ _ _ _ rfl)) fun a17 h16 => ?_
  have h18 := h16.subs (l' := [(10, _), (4, _), (0, _), (1, _)]) rfl
  clear h16 h1 h4 h8 h10 h12 h14 a2 a5 a9 a11 a13 a15
  refine wpList_nil ?_
  refine hK7 _ _ ?_
  rcases Bool.eq_false_or_eq_true (decide ((L.length : Int) ≠ (M.length : Int))) with hc19 | hc19
  · skip
    have hp20 : (L.length : Int) ≠ (M.length : Int) := (of_decide_eq_true hc19)
    refine wp_condS h18 rfl hc19 ?_
    simp only [if_true]
    have h21 := h18.subs (l' := [(4, _), (0, _), (1, _)]) rfl
    clear h18
    refine wp_seq_k fun K22 hK22 => ?_
    refine wp_region_lit ?_
    have h23 := h21.subs (l' := [(0, _), (1, _)]) rfl
    clear h21
    refine sv h23 (wanted_none rfl) rfl rfl rfl (v := .bool false) (rassign h23 rfl rfl) fun a25 h24 => ?_
    refine wpList_nil ?_
    refine hK22 _ _ ?_
    refine wp_ret ?_
    try simp only [Exit.then, Exit.inBlock]
    refine retR (v := .bool false) (res1 h24 rfl rfl) h24.defs ?_
    exact ⟨congrArg Value.bool (decide_eq_false (fun q => absurd (congrArg List.length q) (by omega))).symm, Sep.tail_un (xs := [_, _]) (hS : Sep _ [ownC 0 9 1 a L.length c (L.flatMap sE), ownC 0 9 1 b M.length c2 (M.flatMap sE), Ch.many R])⟩
  · skip
    have hp26 : ¬ ((L.length : Int) ≠ (M.length : Int)) := (of_decide_eq_false hc19)
    refine wp_condS h18 rfl hc19 ?_
    simp only [Bool.false_eq_true, if_false]
    have h27 := h18.subs (l' := [(4, _), (0, _), (1, _)]) rfl
    clear h18
    refine wp_skip ?_
    refine hK6 _ _ ?_
    refine wp_seq_k fun K28 hK28 => ?_
    refine wp_seq_k fun K29 hK29 => ?_
    refine wp_region_lit ?_
    refine sv h27 (wanted_none rfl) rfl rfl rfl (v := .slice a L.length c) (rmove h27 rfl rfl) fun a31 h30 => ?_
    refine sv h30 (wanted_none rfl) rfl rfl rfl (v := .int .i64 (L.length : Int)) (rlenS h30 rfl rfl Tryz.underlying24) fun a33 h32 => ?_
    refine sv h32 (wanted_none rfl) rfl rfl rfl (v := .int .i64 0) (rmove h32 rfl rfl) fun a35 h34 => ?_
    have h36 := h34.subs (l' := [(13, _), (12, _), (4, _), (0, _), (1, _)]) rfl
    clear h34 h27 h30 h32 a17 a31 a33
    refine wpList_nil ?_
    refine hK29 _ _ ?_
    refine wp_block ?_
    refine wp_loop1 (fun (i : Nat) a' w' => Kn 26 [(13, .int .i64 (i : Int)), (12, .int .i64 (L.length : Int)), (4, .bool false), (0, .slice a L.length c), (1, .slice b M.length c2)] a' ∧ Sep w' [ownC 0 9 1 a L.length c (L.flatMap sE), ownC 0 9 1 b M.length c2 (M.flatMap sE), Ch.many R] ∧ (L.take i = M.take i)) (fun (i : Nat) => L.length - i) 0 ⟨h36.subs rfl, hS, rfl⟩ ?_
    clear h36
    rintro i43 a37 w38 ⟨h39, s40, ht42⟩ K41 hK41
    refine wp_seq_k fun K44 hK44 => ?_
    refine wp_region_lit ?_
    refine sv h39 (wanted_none rfl) rfl rfl rfl (v := .bool (decide ((i43 : Int) < (L.length : Int)))) (rbin h39 rfl rfl rfl (cLt _ _ _ _ rfl)) fun a46 h45 => ?_
    refine wpList_nil ?_
    refine hK44 _ _ ?_
    refine wp_seq_k fun K47 hK47 => ?_
    rcases Bool.eq_false_or_eq_true (decide ((i43 : Int) < (L.length : Int))) with hc48 | hc48
    · skip
      have hp49 : (i43 : Int) < (L.length : Int) := (of_decide_eq_true hc48)
      refine wp_condS h45 rfl hc48 ?_
      simp only [if_true]
      have h50 := h45.subs (l' := [(13, _), (12, _), (4, _), (0, _), (1, _)]) rfl
      clear h45 h39 a37
      refine wp_skip ?_
      refine hK47 _ _ ?_
      refine wp_seq_k fun K51 hK51 => ?_
      refine wp_block ?_
      refine wp_seq_k fun K52 hK52 => ?_
      refine wp_region_lit ?_
      refine sv h50 (wanted_none rfl) rfl rfl rfl (v := .int .i64 (i43 : Int)) (rmove h50 rfl rfl) fun a54 h53 => ?_
      refine sv h53 (wanted_none rfl) rfl rfl rfl (v := .int .i64 (i43 : Int)) (rassign h53 rfl rfl) fun a56 h55 => ?_
      have h57 := h55.subs (l' := [(5, _), (13, _), (12, _), (4, _), (0, _), (1, _)]) rfl
      clear h55 h50 h53 a46 a54
      refine wpList_nil ?_
      refine hK52 _ _ ?_
      refine wp_seq_k fun K58 hK58 => ?_
      have s60 := s40.drew
      refine wp_region_held_drew (S := fun w' => Sep w' [ownC 0 9 1 a L.length c (L.flatMap sE), ownC 0 9 1 b M.length c2 (M.flatMap sE), Ch.many R]) (by kernel_rfl) s60 (fun hq59 => ?_)
      refine tv hq59 h57 0 rfl rfl rfl rfl (by kernel_rfl) (by kernel_rfl) (by kernel_rfl) (fun _ _ _ _ h => h) (wanted_none rfl) (v := .slice a L.length c) (fun w1 _ => (rmove h57 rfl rfl) w1) fun a62 h61 => ?_
      refine tv hq59 h61 1 rfl rfl rfl rfl (by kernel_rfl) (by kernel_rfl) (by kernel_rfl) (fun _ _ _ _ h => h) (wanted_none rfl) (v := .int .i64 (i43 : Int)) (fun w1 _ => (rmove h61 rfl rfl) w1) fun a64 h63 => ?_
      obtain ⟨q65, hq66⟩ := own_addr (s60.get 0 rfl : Own _ _ _ _ _ _ _ _)
      refine tv hq59 h63 2 rfl rfl rfl rfl (by kernel_rfl) (by kernel_rfl) (by kernel_rfl) (fun _ _ _ _ h => h) (wanted_none rfl) (v := .pointer (some ⟨q65, i43, none⟩)) (fun w1 _ => (rindexA h63 rfl rfl rfl (fun w => ixO Tryz.underlying24 (by kernel_rfl) (sz := 1) (hq66 (by omega)) (j := i43) rfl (by omega) (by omega) w)) w1) fun a68 h67 => ?_
      refine tv hq59 h67 3 rfl rfl rfl rfl (by kernel_rfl) (by kernel_rfl) (by kernel_rfl) (fun _ _ _ _ h => h) (wanted_none rfl) (v := .string (L.getD i43 noNm)) (fun w1 hSw => (rld h67 rfl rfl (ldOSc sE_len Tryz.underlying9 rfl (hSw.get 0 rfl : Own _ _ _ _ _ _ _ _) (hq66 (by omega)) noNm (j := i43) (f := 0) (by omega) (by decide) (by omega) rfl))) fun a70 h69 => ?_
      refine tv hq59 h69 4 rfl rfl rfl rfl (by kernel_rfl) (by kernel_rfl) (by kernel_rfl) (fun _ _ _ _ h => h) (wanted_none rfl) (v := .slice b M.length c2) (fun w1 _ => (rmove h69 rfl rfl) w1) fun a72 h71 => ?_
      refine tv hq59 h71 5 rfl rfl rfl rfl (by kernel_rfl) (by kernel_rfl) (by kernel_rfl) (fun _ _ _ _ h => h) (wanted_none rfl) (v := .int .i64 (i43 : Int)) (fun w1 _ => (rmove h71 rfl rfl) w1) fun a74 h73 => ?_
      obtain ⟨q75, hq76⟩ := own_addr (s60.get 1 rfl : Own _ _ _ _ _ _ _ _)
      refine tv hq59 h73 6 rfl rfl rfl rfl (by kernel_rfl) (by kernel_rfl) (by kernel_rfl) (fun _ _ _ _ h => h) (wanted_none rfl) (v := .pointer (some ⟨q75, i43, none⟩)) (fun w1 _ => (rindexA h73 rfl rfl rfl (fun w => ixO Tryz.underlying24 (by kernel_rfl) (sz := 1) (hq76 (by omega)) (j := i43) rfl (by omega) (by omega) w)) w1) fun a78 h77 => ?_
      refine tv hq59 h77 7 rfl rfl rfl rfl (by kernel_rfl) (by kernel_rfl) (by kernel_rfl) (fun _ _ _ _ h => h) (wanted_none rfl) (v := .string (M.getD i43 noNm)) (fun w1 hSw => (rld h77 rfl rfl (ldOSc sE_len Tryz.underlying9 rfl (hSw.get 1 rfl : Own _ _ _ _ _ _ _ _) (hq76 (by omega)) noNm (j := i43) (f := 0) (by omega) (by decide) (by omega) rfl))) fun a80 h79 => ?_
      refine tv hq59 h79 8 rfl rfl rfl rfl (by kernel_rfl) (by kernel_rfl) (by kernel_rfl) (fun _ _ _ _ h => h) (wanted_none rfl) (v := .bool (decide ((L.getD i43 noNm) ≠ (M.getD i43 noNm)))) (fun w1 _ => (rbin h79 rfl rfl rfl (bStrNeB _ _ _ (L.getD i43 noNm) (M.getD i43 noNm) rfl)) w1) fun a82 h81 => ?_
      have h83 := h81.subs (l' := [(24, _), (5, _), (13, _), (12, _), (4, _), (0, _), (1, _)]) rfl
      clear h81 h57 h61 h63 h67 h69 h71 h73 h77 h79 a56 a62 a64 a68 a70 a72 a74 a78 a80
      refine wpAnyH_done (by kernel_rfl) ?_ _
      refine hK58 _ _ ?_
      rcases Bool.eq_false_or_eq_true (decide ((L.getD i43 noNm) ≠ (M.getD i43 noNm))) with hc84 | hc84
      · skip
        have hp85 : (L.getD i43 noNm) ≠ (M.getD i43 noNm) := (of_decide_eq_true hc84)
        refine wp_condS h83 rfl hc84 ?_
        simp only [if_true]
        have h86 := h83.subs (l' := [(5, _), (13, _), (12, _), (4, _), (0, _), (1, _)]) rfl
        clear h83
        refine wp_seq_k fun K87 hK87 => ?_
        refine wp_region_lit ?_
        have h88 := h86.subs (l' := [(5, _), (13, _), (12, _), (0, _), (1, _)]) rfl
        clear h86
        refine sv h88 (wanted_none rfl) rfl rfl rfl (v := .bool false) (rassign h88 rfl rfl) fun a90 h89 => ?_
        refine wpList_nil ?_
        refine hK87 _ _ ?_
        refine wp_ret ?_
        try simp only [Exit.then, Exit.inBlock]
        refine retR (v := .bool false) (res1 h89 rfl rfl) h89.defs ?_
        exact ⟨congrArg Value.bool (decide_eq_false (fun q => of_decide_eq_true hc84 (by rw [q]))).symm, Sep.tail_un (xs := [_, _]) (s60 : Sep _ [ownC 0 9 1 a L.length c (L.flatMap sE), ownC 0 9 1 b M.length c2 (M.flatMap sE), Ch.many R])⟩
      · skip
        have hp91 : ¬ ((L.getD i43 noNm) ≠ (M.getD i43 noNm)) := (of_decide_eq_false hc84)
        refine wp_condS h83 rfl hc84 ?_
        simp only [Bool.false_eq_true, if_false]
        have h92 := h83.subs (l' := [(5, _), (13, _), (12, _), (4, _), (0, _), (1, _)]) rfl
        clear h83
        refine wp_skip ?_
        refine hK51 _ _ ?_
        refine wp_region_lit ?_
        refine sv h92 (wanted_none rfl) rfl rfl rfl (v := .int .i64 ((i43 + 1 : Nat) : Int)) (rbin h92 rfl rfl rfl (bAdd _ _ _ (by omega) (by omega) (by omega))) fun a94 h93 => ?_
        have h95 := h93.subs (l' := [(25, _), (5, _), (12, _), (4, _), (0, _), (1, _)]) rfl
        clear h93 h92 a82
        refine sv h95 (wanted_none rfl) rfl rfl rfl (v := .int .i64 ((i43 + 1 : Nat) : Int)) (rmove h95 rfl rfl) fun a97 h96 => ?_
        have h98 := h96.subs (l' := [(13, _), (5, _), (12, _), (4, _), (0, _), (1, _)]) rfl
        clear h96 h95 a94
        refine wpList_nil ?_
        exact hK41 (i43 + 1) _ _ ⟨h98.subs rfl, s60, (take_both (by omega) (by omega) ht42 (Classical.not_not.1 (of_decide_eq_false hc84)))⟩ (by omega)
    · skip
      have hp99 : ¬ ((i43 : Int) < (L.length : Int)) := (of_decide_eq_false hc48)
      refine wp_condS h45 rfl hc48 ?_
      simp only [Bool.false_eq_true, if_false]
      have h100 := h45.subs (l' := [(13, _), (12, _), (4, _), (0, _), (1, _)]) rfl
      clear h45 h39 a37
      refine wp_exit ?_
      refine hK28 _ _ ?_
      refine wp_seq_k fun K101 hK101 => ?_
      refine wp_region_lit ?_
      have h102 := h100.subs (l' := [(13, _), (12, _), (0, _), (1, _)]) rfl
      clear h100
      refine sv h102 (wanted_none rfl) rfl rfl rfl (v := .bool true) (rassign h102 rfl rfl) fun a104 h103 => ?_
      refine wpList_nil ?_
      refine hK101 _ _ ?_
      refine wp_ret ?_
      try simp only [Exit.then, Exit.inBlock]
      refine retR (v := .bool true) (res1 h103 rfl rfl) h103.defs ?_
      exact ⟨congrArg Value.bool (decide_eq_true (take_end ht42 (by omega) (by omega))).symm, Sep.tail_un (xs := [_, _]) (s40 : Sep _ [ownC 0 9 1 a L.length c (L.flatMap sE), ownC 0 9 1 b M.length c2 (M.flatMap sE), Ch.many R])⟩

set_option maxHeartbeats 4000000 in
theorem equal_s {w : World} {R : List Ch} {a b : Option Addr} {c c2 : Nat} {r s : RepM} (hS0 : Sep w ([ownC 0 9 1 a r.names.length c (r.names.flatMap sE), ownC 0 9 1 b s.names.length c2 (s.names.flatMap sE)] ++ R)) (hr : r.names.length ≤ 100000) (hs2 : s.names.length ≤ 100000) :
    CallsR Tryz.prog 43 #[.agg #[.int .i64 r.e, .int .i64 r.fd, .string (strB r.data), .slice a r.names.length c, .int .i64 r.kind, .int .i64 r.links, .int .i64 r.size], .agg #[.int .i64 s.e, .int .i64 s.fd, .string (strB s.data), .slice b s.names.length c2, .int .i64 s.kind, .int .i64 s.links, .int .i64 s.size]] w (fun v w' => v = .bool (eqA r s) ∧ Sep w' ([ownC 0 9 1 a r.names.length c (r.names.flatMap sE), ownC 0 9 1 b s.names.length c2 (s.names.flatMap sE)] ++ R)) := by
  have hS : Sep w [ownC 0 9 1 a r.names.length c (r.names.flatMap sE), ownC 0 9 1 b s.names.length c2 (s.names.flatMap sE), Ch.many R] := Sep.tail_many (xs := [_, _]) hS0; clear hS0
  refine enterR Tryz.func43 rfl (N := 38) Tryz.ntmps43 (by show 2 ≤ 38; decide) [(0, .agg #[.int .i64 r.e, .int .i64 r.fd, .string (strB r.data), .slice a r.names.length c, .int .i64 r.kind, .int .i64 r.links, .int .i64 r.size]), (1, .agg #[.int .i64 s.e, .int .i64 s.fd, .string (strB s.data), .slice b s.names.length c2, .int .i64 s.kind, .int .i64 s.links, .int .i64 s.size])] rfl fun a2 h1 => ?_
  refine wp_seq_k fun K3 hK3 => ?_
  refine wp_region_lit ?_
  refine so (wanted_none rfl) fun K11 hK11 => xbox h1 rfl rfl rfl rfl rfl (z := [.int .i64 r.e, .int .i64 r.fd, .string (strB r.data), .slice a r.names.length c, .int .i64 r.kind, .int .i64 r.links, .int .i64 r.size]) rfl hS fun a6 g4 w7 h5 s8 b9 e10 => hK11 _ _ ?_
  clear hK11 K11
  clear b9 e10
  refine so (wanted_none rfl) fun K19 hK19 => xbox h5 rfl rfl rfl rfl rfl (z := [.int .i64 s.e, .int .i64 s.fd, .string (strB s.data), .slice b s.names.length c2, .int .i64 s.kind, .int .i64 s.links, .int .i64 s.size]) rfl s8 fun a14 g12 w15 h13 s16 b17 e18 => hK19 _ _ ?_
  clear hK19 K19
  clear b17 e18
  refine sv h13 (wanted_none rfl) rfl rfl rfl (v := .bool false) (rassign h13 rfl rfl) fun a21 h20 => ?_
  refine wpList_nil ?_
  refine hK3 _ _ ?_
  refine wp_seq_k fun K22 hK22 => ?_
  refine wp_region_lit ?_
  refine sv h20 (wanted_none rfl) rfl rfl rfl (v := .pointer (some ⟨g4, 0, none⟩)) (rfa h20 rfl rfl (fun w => fa_api_Reply_z2_0 g4 0 w)) fun a24 h23 => ?_
  refine sw h23 (wanted_none rfl) rfl rfl rfl (v := .int .i64 r.e) (rld h23 rfl rfl (ldB Tryz.underlying23 rfl (s16.get 1 rfl : Blk _ _ _ _) rfl)) fun a26 h25 => ?_
  refine sv h25 (wanted_none rfl) rfl rfl rfl (v := .pointer (some ⟨g12, 0, none⟩)) (rfa h25 rfl rfl (fun w => fa_api_Reply_z2_0 g12 0 w)) fun a28 h27 => ?_
  refine sw h27 (wanted_none rfl) rfl rfl rfl (v := .int .i64 s.e) (rld h27 rfl rfl (ldB Tryz.underlying23 rfl (s16.get 0 rfl : Blk _ _ _ _) rfl)) fun a30 h29 => ?_
  refine sv h29 (wanted_none rfl) rfl rfl rfl (v := .bool (decide (r.e = s.e))) (rbin h29 rfl rfl rfl (cEq _ _ _ _ rfl)) fun a32 h31 => ?_
  refine sv h31 (wanted_none rfl) rfl rfl rfl (v := .bool (decide (r.e = s.e))) (rmove h31 rfl rfl) fun a34 h33 => ?_
  refine sg h33 (wT h33 rfl rfl rfl) rfl rfl rfl (v := .pointer (some ⟨g4, 1, none⟩)) (fun hC35 => by have hq := (of_decide_eq_true hC35); exact rfa h33 rfl rfl (fun w => fa_api_Reply_z2_1 g4 0 w) _) fun a37 h36 => ?_
  refine sg h36 (wT h36 rfl rfl rfl) rfl rfl rfl (v := .int .i64 r.fd) (fun hC38 => by have hq := (of_decide_eq_true hC38); exact (rld h36 rfl (opg rfl hC38) (ldB Tryz.underlying3 rfl (s16.get 1 rfl : Blk _ _ _ _) rfl))) fun a40 h39 => ?_
  refine sg h39 (wT h39 rfl rfl rfl) rfl rfl rfl (v := .pointer (some ⟨g12, 1, none⟩)) (fun hC41 => by have hq := (of_decide_eq_true hC41); exact rfa h39 rfl rfl (fun w => fa_api_Reply_z2_1 g12 0 w) _) fun a43 h42 => ?_
  refine sg h42 (wT h42 rfl rfl rfl) rfl rfl rfl (v := .int .i64 s.fd) (fun hC44 => by have hq := (of_decide_eq_true hC44); exact (rld h42 rfl (opg rfl hC44) (ldB Tryz.underlying3 rfl (s16.get 0 rfl : Blk _ _ _ _) rfl))) fun a46 h45 => ?_
  refine sg h45 (wT h45 rfl rfl rfl) rfl rfl rfl (v := .bool (decide (r.fd = s.fd))) (fun hC47 => by have hq := (of_decide_eq_true hC47); exact rbin h45 rfl (opg rfl hC47) (opg rfl hC47) (cEq _ _ _ _ rfl) _) fun a49 h48 => ?_
  refine sv h48 (wanted_none rfl) rfl rfl rfl (v := .bool ((decide (r.e = s.e)) && (decide (r.fd = s.fd)))) (rpickA h48 rfl (E := (decide (r.e = s.e))) (F := (decide (r.fd = s.fd))) rfl rfl rfl (fun e => if_pos (by rw [e]; try rfl))) fun a51 h50 => ?_
  refine sv h50 (wanted_none rfl) rfl rfl rfl (v := .bool ((decide (r.e = s.e)) && (decide (r.fd = s.fd)))) (rmove h50 rfl rfl) fun a53 h52 => ?_
  refine sg h52 (wT h52 rfl rfl rfl) rfl rfl rfl (v := .pointer (some ⟨g4, 2, none⟩)) (fun hC54 => by have hq := (And.intro (of_decide_eq_true (andT hC54).1) (of_decide_eq_true (andT hC54).2)); exact rfa h52 rfl rfl (fun w => fa_api_Reply_z2_2 g4 0 w) _) fun a56 h55 => ?_
  refine sg h55 (wT h55 rfl rfl rfl) rfl rfl rfl (v := .string (strB r.data)) (fun hC57 => by have hq := (And.intro (of_decide_eq_true (andT hC57).1) (of_decide_eq_true (andT hC57).2)); exact (rld h55 rfl (opg rfl hC57) (ldB Tryz.underlying9 rfl (s16.get 1 rfl : Blk _ _ _ _) rfl))) fun a59 h58 => ?_
  refine sg h58 (wT h58 rfl rfl rfl) rfl rfl rfl (v := .pointer (some ⟨g12, 2, none⟩)) (fun hC60 => by have hq := (And.intro (of_decide_eq_true (andT hC60).1) (of_decide_eq_true (andT hC60).2)); exact rfa h58 rfl rfl (fun w => fa_api_Reply_z2_2 g12 0 w) _) fun a62 h61 => ?_
  refine sg h61 (wT h61 rfl rfl rfl) rfl rfl rfl (v := .string (strB s.data)) (fun hC63 => by have hq := (And.intro (of_decide_eq_true (andT hC63).1) (of_decide_eq_true (andT hC63).2)); exact (rld h61 rfl (opg rfl hC63) (ldB Tryz.underlying9 rfl (s16.get 0 rfl : Blk _ _ _ _) rfl))) fun a65 h64 => ?_
  refine sg h64 (wT h64 rfl rfl rfl) rfl rfl rfl (v := .bool (decide (r.data = s.data))) (fun hC66 => by have hq := (And.intro (of_decide_eq_true (andT hC66).1) (of_decide_eq_true (andT hC66).2)); exact rbin h64 rfl (opg rfl hC66) (opg rfl hC66) (bStrEqL _ _ _ r.data s.data rfl) _) fun a68 h67 => ?_
  refine sv h67 (wanted_none rfl) rfl rfl rfl (v := .bool (((decide (r.e = s.e)) && (decide (r.fd = s.fd))) && (decide (r.data = s.data)))) (rpickA h67 rfl (E := ((decide (r.e = s.e)) && (decide (r.fd = s.fd)))) (F := (decide (r.data = s.data))) rfl rfl rfl (fun e => if_pos (by rw [e]; try rfl))) fun a70 h69 => ?_
  refine sv h69 (wanted_none rfl) rfl rfl rfl (v := .bool (((decide (r.e = s.e)) && (decide (r.fd = s.fd))) && (decide (r.data = s.data)))) (rmove h69 rfl rfl) fun a72 h71 => ?_
  refine sg h71 (wT h71 rfl rfl rfl) rfl rfl rfl (v := .pointer (some ⟨g4, 4, none⟩)) (fun hC73 => by have hq := (And.intro (And.intro (of_decide_eq_true (andT (andT hC73).1).1) (of_decide_eq_true (andT (andT hC73).1).2)) (of_decide_eq_true (andT hC73).2)); exact rfa h71 rfl rfl (fun w => fa_api_Reply_z2_4 g4 0 w) _) fun a75 h74 => ?_
  refine sg h74 (wT h74 rfl rfl rfl) rfl rfl rfl (v := .agg #[.int .i64 r.kind, .int .i64 r.links, .int .i64 r.size]) (fun hC76 => by have hq := (And.intro (And.intro (of_decide_eq_true (andT (andT hC76).1).1) (of_decide_eq_true (andT (andT hC76).1).2)) (of_decide_eq_true (andT hC76).2)); exact (rld h74 rfl (opg rfl hC76) (ldA Tryz.underlying26 rfl (n := 3) (by kernel_rfl) (s16.get 1 rfl : Blk _ _ _ _) rfl rfl))) fun a78 h77 => ?_
  refine sg h77 (wT h77 rfl rfl rfl) rfl rfl rfl (v := .pointer (some ⟨g12, 4, none⟩)) (fun hC79 => by have hq := (And.intro (And.intro (of_decide_eq_true (andT (andT hC79).1).1) (of_decide_eq_true (andT (andT hC79).1).2)) (of_decide_eq_true (andT hC79).2)); exact rfa h77 rfl rfl (fun w => fa_api_Reply_z2_4 g12 0 w) _) fun a81 h80 => ?_
  refine sg h80 (wT h80 rfl rfl rfl) rfl rfl rfl (v := .agg #[.int .i64 s.kind, .int .i64 s.links, .int .i64 s.size]) (fun hC82 => by have hq := (And.intro (And.intro (of_decide_eq_true (andT (andT hC82).1).1) (of_decide_eq_true (andT (andT hC82).1).2)) (of_decide_eq_true (andT hC82).2)); exact (rld h80 rfl (opg rfl hC82) (ldA Tryz.underlying26 rfl (n := 3) (by kernel_rfl) (s16.get 0 rfl : Blk _ _ _ _) rfl rfl))) fun a84 h83 => ?_
  refine sg h83 (wT h83 rfl rfl rfl) rfl rfl rfl (v := .bool ((decide (r.kind = s.kind)) && ((decide (r.links = s.links)) && (decide (r.size = s.size))))) (fun hC85 => by have hq := (And.intro (And.intro (of_decide_eq_true (andT (andT hC85).1).1) (of_decide_eq_true (andT (andT hC85).1).2)) (of_decide_eq_true (andT hC85).2)); exact rbin h83 rfl (opg rfl hC85) (opg rfl hC85) (eqS_api_Info_z2_eql _ _ r.kind r.links r.size s.kind s.links s.size) _) fun a87 h86 => ?_
  refine sv h86 (wanted_none rfl) rfl rfl rfl (v := .bool ((((decide (r.e = s.e)) && (decide (r.fd = s.fd))) && (decide (r.data = s.data))) && ((decide (r.kind = s.kind)) && ((decide (r.links = s.links)) && (decide (r.size = s.size)))))) (rpickA h86 rfl (E := (((decide (r.e = s.e)) && (decide (r.fd = s.fd))) && (decide (r.data = s.data)))) (F := ((decide (r.kind = s.kind)) && ((decide (r.links = s.links)) && (decide (r.size = s.size))))) rfl rfl rfl (fun e => if_pos (by rw [e]; try rfl))) fun a89 h88 => ?_
  refine sv h88 (wanted_none rfl) rfl rfl rfl (v := .bool ((((decide (r.e = s.e)) && (decide (r.fd = s.fd))) && (decide (r.data = s.data))) && ((decide (r.kind = s.kind)) && ((decide (r.links = s.links)) && (decide (r.size = s.size)))))) (rmove h88 rfl rfl) fun a91 h90 => ?_
  refine sg h90 (wT h90 rfl rfl rfl) rfl rfl rfl (v := .pointer (some ⟨g4, 3, none⟩)) (fun hC92 => by have hq := (And.intro (And.intro (And.intro (of_decide_eq_true (andT (andT (andT hC92).1).1).1) (of_decide_eq_true (andT (andT (andT hC92).1).1).2)) (of_decide_eq_true (andT (andT hC92).1).2)) (And.intro (of_decide_eq_true (andT (andT hC92).2).1) (And.intro (of_decide_eq_true (andT (andT (andT hC92).2).2).1) (of_decide_eq_true (andT (andT (andT hC92).2).2).2)))); exact rfa h90 rfl rfl (fun w => fa_api_Reply_z2_3 g4 0 w) _) fun a94 h93 => ?_
  refine sg h93 (wT h93 rfl rfl rfl) rfl rfl rfl (v := .slice a r.names.length c) (fun hC95 => by have hq := (And.intro (And.intro (And.intro (of_decide_eq_true (andT (andT (andT hC95).1).1).1) (of_decide_eq_true (andT (andT (andT hC95).1).1).2)) (of_decide_eq_true (andT (andT hC95).1).2)) (And.intro (of_decide_eq_true (andT (andT hC95).2).1) (And.intro (of_decide_eq_true (andT (andT (andT hC95).2).2).1) (of_decide_eq_true (andT (andT (andT hC95).2).2).2)))); exact (rld h93 rfl (opg rfl hC95) (ldB Tryz.underlying24 rfl (s16.get 1 rfl : Blk _ _ _ _) rfl))) fun a97 h96 => ?_
  refine sg h96 (wT h96 rfl rfl rfl) rfl rfl rfl (v := .pointer (some ⟨g12, 3, none⟩)) (fun hC98 => by have hq := (And.intro (And.intro (And.intro (of_decide_eq_true (andT (andT (andT hC98).1).1).1) (of_decide_eq_true (andT (andT (andT hC98).1).1).2)) (of_decide_eq_true (andT (andT hC98).1).2)) (And.intro (of_decide_eq_true (andT (andT hC98).2).1) (And.intro (of_decide_eq_true (andT (andT (andT hC98).2).2).1) (of_decide_eq_true (andT (andT (andT hC98).2).2).2)))); exact rfa h96 rfl rfl (fun w => fa_api_Reply_z2_3 g12 0 w) _) fun a100 h99 => ?_
  refine sg h99 (wT h99 rfl rfl rfl) rfl rfl rfl (v := .slice b s.names.length c2) (fun hC101 => by have hq := (And.intro (And.intro (And.intro (of_decide_eq_true (andT (andT (andT hC101).1).1).1) (of_decide_eq_true (andT (andT (andT hC101).1).1).2)) (of_decide_eq_true (andT (andT hC101).1).2)) (And.intro (of_decide_eq_true (andT (andT hC101).2).1) (And.intro (of_decide_eq_true (andT (andT (andT hC101).2).2).1) (of_decide_eq_true (andT (andT (andT hC101).2).2).2)))); exact (rld h99 rfl (opg rfl hC101) (ldB Tryz.underlying24 rfl (s16.get 0 rfl : Blk _ _ _ _) rfl))) fun a103 h102 => ?_
  rcases Bool.eq_false_or_eq_true ((((decide (r.e = s.e)) && (decide (r.fd = s.fd))) && (decide (r.data = s.data))) && ((decide (r.kind = s.kind)) && ((decide (r.links = s.links)) && (decide (r.size = s.size))))) with hc104 | hc104
  · skip
    have hp105 : (((r.e = s.e) ∧ (r.fd = s.fd)) ∧ (r.data = s.data)) ∧ ((r.kind = s.kind) ∧ ((r.links = s.links) ∧ (r.size = s.size))) := (And.intro (And.intro (And.intro (of_decide_eq_true (andT (andT (andT hc104).1).1).1) (of_decide_eq_true (andT (andT (andT hc104).1).1).2)) (of_decide_eq_true (andT (andT hc104).1).2)) (And.intro (of_decide_eq_true (andT (andT hc104).2).1) (And.intro (of_decide_eq_true (andT (andT (andT hc104).2).2).1) (of_decide_eq_true (andT (andT (andT hc104).2).2).2))))
    refine so ((wT h102 rfl rfl rfl).trans hc104) fun K112 hK112 => xcall h102 rfl rfl rfl (xs := [.tmp 33, .tmp 35]) rfl cp_slices_Equal_string_string_z2 rfl (vs := [.slice a r.names.length c, .slice b s.names.length c2]) (mapcS (opg rfl hc104) (mapcS (opg rfl hc104) rfl)) (args := #[.slice a r.names.length c, .slice b s.names.length c2]) rfl (equalS_s (R := [blkC g12 28 [.int .i64 s.e, .int .i64 s.fd, .string (strB s.data), .slice b s.names.length c2, .int .i64 s.kind, .int .i64 s.links, .int .i64 s.size], blkC g4 28 [.int .i64 r.e, .int .i64 r.fd, .string (strB r.data), .slice a r.names.length c, .int .i64 r.kind, .int .i64 r.links, .int .i64 r.size], Ch.many R]) (L := r.names) (M := s.names) ((s16.pick [2, 3, 0, 1, 4] (by decide) rfl) : Sep _ [ownC 0 9 1 a r.names.length c (r.names.flatMap sE), ownC 0 9 1 b s.names.length c2 (s.names.flatMap sE), blkC g12 28 [.int .i64 s.e, .int .i64 s.fd, .string (strB s.data), .slice b s.names.length c2, .int .i64 s.kind, .int .i64 s.links, .int .i64 s.size], blkC g4 28 [.int .i64 r.e, .int .i64 r.fd, .string (strB r.data), .slice a r.names.length c, .int .i64 r.kind, .int .i64 r.links, .int .i64 r.size], Ch.many R]) hr hs2) fun a107 v108 w109 r110 h106 => hK112 _ _ ?_
    clear hK112 K112
    obtain ⟨rfl, s111⟩ := r110
    refine sv h106 (wanted_none rfl) rfl rfl rfl (v := .bool (decide (r.names = s.names))) (rpickE h106 rfl (E := ((((decide (r.e = s.e)) && (decide (r.fd = s.fd))) && (decide (r.data = s.data))) && ((decide (r.kind = s.kind)) && ((decide (r.links = s.links)) && (decide (r.size = s.size)))))) (b := true) rfl hc104 rfl) fun a114 h113 => ?_
    have h115 := h113.subs (l' := [(37, _), (36, _), (35, _), (34, _), (33, _), (32, _), (31, _), (30, _), (29, _), (28, _), (27, _), (26, _), (25, _), (24, _), (23, _), (22, _), (21, _), (20, _), (19, _), (18, _), (17, _), (16, _), (15, _), (14, _), (13, _), (12, _), (11, _), (10, _), (9, _), (8, _), (7, _), (6, _), (5, _), (3, _), (2, _), (0, _), (1, _)]) rfl
    clear h113 h1 h5 h13 h20 h23 h25 h27 h29 h31 h33 h36 h39 h42 h45 h48 h50 h52 h55 h58 h61 h64 h67 h69 h71 h74 h77 h80 h83 h86 h88 h90 h93 h96 h99 h102 h106 a2 a6 a14 a21 a24 a26 a28 a30 a32 a34 a37 a40 a43 a46 a49 a51 a53 a56 a59 a62 a65 a68 a70 a72 a75 a78 a81 a84 a87 a89 a91 a94 a97 a100 a103 a107
    refine sv h115 (wanted_none rfl) rfl rfl rfl (v := .bool (decide (r.names = s.names))) (rassign h115 rfl rfl) fun a117 h116 => ?_
    have h118 := h116.subs (l' := [(4, _), (3, _), (2, _), (0, _), (1, _)]) rfl
    clear h116 h115 a114
    refine wpList_nil ?_
    refine hK22 _ _ ?_
    refine wp_ret ?_
    try simp only [Exit.then, Exit.inBlock]
    refine retR (v := .bool (decide (r.names = s.names))) (res1 h118 rfl rfl) h118.defs ?_
    exact ⟨congrArg Value.bool (by unfold eqA; rw [hc104]; rfl), Sep.tail_un (xs := [_, _]) ((s111.pick [0, 1, 4] (by decide) rfl) : Sep _ [ownC 0 9 1 a r.names.length c (r.names.flatMap sE), ownC 0 9 1 b s.names.length c2 (s.names.flatMap sE), Ch.many R])⟩
  · skip
    have hp119 : (((¬ (r.e = s.e)) ∨ (¬ (r.fd = s.fd))) ∨ (¬ (r.data = s.data))) ∨ ((¬ (r.kind = s.kind)) ∨ ((¬ (r.links = s.links)) ∨ (¬ (r.size = s.size)))) := ((andF hc104).imp (fun q => ((andF q).imp (fun q => ((andF q).imp (fun q => (of_decide_eq_false q)) (fun q => (of_decide_eq_false q)))) (fun q => (of_decide_eq_false q)))) (fun q => ((andF q).imp (fun q => (of_decide_eq_false q)) (fun q => ((andF q).imp (fun q => (of_decide_eq_false q)) (fun q => (of_decide_eq_false q)))))))
    refine su h102 ((wT h102 rfl rfl rfl).trans hc104) rfl rfl rfl fun a121 h120 => ?_
    refine sv h120 (wanted_none rfl) rfl rfl rfl (v := .bool false) (rpickE h120 rfl (E := ((((decide (r.e = s.e)) && (decide (r.fd = s.fd))) && (decide (r.data = s.data))) && ((decide (r.kind = s.kind)) && ((decide (r.links = s.links)) && (decide (r.size = s.size)))))) (b := false) rfl hc104 rfl) fun a123 h122 => ?_
    have h124 := h122.subs (l' := [(37, _), (36, _), (35, _), (34, _), (33, _), (32, _), (31, _), (30, _), (29, _), (28, _), (27, _), (26, _), (25, _), (24, _), (23, _), (22, _), (21, _), (20, _), (19, _), (18, _), (17, _), (16, _), (15, _), (14, _), (13, _), (12, _), (11, _), (10, _), (9, _), (8, _), (7, _), (6, _), (5, _), (3, _), (2, _), (0, _), (1, _)]) rfl
    clear h122 h1 h5 h13 h20 h23 h25 h27 h29 h31 h33 h36 h39 h42 h45 h48 h50 h52 h55 h58 h61 h64 h67 h69 h71 h74 h77 h80 h83 h86 h88 h90 h93 h96 h99 h102 h120 a2 a6 a14 a21 a24 a26 a28 a30 a32 a34 a37 a40 a43 a46 a49 a51 a53 a56 a59 a62 a65 a68 a70 a72 a75 a78 a81 a84 a87 a89 a91 a94 a97 a100 a103 a121
    refine sv h124 (wanted_none rfl) rfl rfl rfl (v := .bool false) (rassign h124 rfl rfl) fun a126 h125 => ?_
    have h127 := h125.subs (l' := [(4, _), (3, _), (2, _), (0, _), (1, _)]) rfl
    clear h125 h124 a123
    refine wpList_nil ?_
    refine hK22 _ _ ?_
    refine wp_ret ?_
    try simp only [Exit.then, Exit.inBlock]
    refine retR (v := .bool false) (res1 h127 rfl rfl) h127.defs ?_
    exact ⟨congrArg Value.bool (by unfold eqA; rw [hc104]; rfl), Sep.tail_un (xs := [_, _]) ((s16.pick [2, 3, 4] (by decide) rfl) : Sep _ [ownC 0 9 1 a r.names.length c (r.names.flatMap sE), ownC 0 9 1 b s.names.length c2 (s.names.flatMap sE), Ch.many R])⟩

set_option maxHeartbeats 4000000 in
theorem isNaN_s {w : World} {R : List Ch} {x : Int} (hS0 : Sep w R) :
    CallsR Tryz.prog 49 #[.int .i64 x] w (fun v w' => v = .bool false ∧ Sep w' R) := by
  have hS : Sep w [Ch.many R] := Sep.tail_many (xs := []) hS0; clear hS0
  refine enterR Tryz.func49 rfl (N := 6) Tryz.ntmps49 (by show 1 ≤ 6; decide) [(0, .int .i64 x)] rfl fun a2 h1 => ?_
  refine wp_seq_k fun K3 hK3 => ?_
  refine wp_region_lit ?_
  refine sv h1 (wanted_none rfl) rfl rfl rfl (v := .bool false) (rassign h1 rfl rfl) fun a5 h4 => ?_
  refine wpList_nil ?_
  refine hK3 _ _ ?_
  refine wp_seq_k fun K6 hK6 => ?_
  refine wp_region_lit ?_
  refine sv h4 (wanted_none rfl) rfl rfl rfl (v := .int .i64 x) (rmove h4 rfl rfl) fun a8 h7 => ?_
  refine sv h7 (wanted_none rfl) rfl rfl rfl (v := .int .i64 x) (rmove h7 rfl rfl) fun a10 h9 => ?_
  refine sv h9 (wanted_none rfl) rfl rfl rfl (v := .bool false) (rbin h9 rfl rfl rfl (cNe _ _ _ _ (decide_eq_false (fun h => h rfl)))) fun a12 h11 => ?_
  have h13 := h11.subs (l' := [(5, _), (4, _), (3, _), (0, _)]) rfl
  clear h11 h1 h4 h7 h9 a2 a5 a8 a10
  refine sv h13 (wanted_none rfl) rfl rfl rfl (v := .bool false) (rassign h13 rfl rfl) fun a15 h14 => ?_
  have h16 := h14.subs (l' := [(2, _), (0, _)]) rfl
  clear h14 h13 a12
  refine wpList_nil ?_
  refine hK6 _ _ ?_
  refine wp_ret ?_
  try simp only [Exit.then, Exit.inBlock]
  refine retR (v := .bool false) (res1 h16 rfl rfl) h16.defs ?_
  exact ⟨rfl, Sep.tail_un (xs := []) (hS : Sep _ [Ch.many R])⟩

set_option maxHeartbeats 4000000 in
theorem less_s {w : World} {R : List Ch} {x y : Int} (hS0 : Sep w R) :
    CallsR Tryz.prog 68 #[.int .i64 x, .int .i64 y] w (fun v w' => v = .bool (decide (x < y)) ∧ Sep w' R) := by
  have hS : Sep w [Ch.many R] := Sep.tail_many (xs := []) hS0; clear hS0
  refine enterR Tryz.func68 rfl (N := 17) Tryz.ntmps68 (by show 2 ≤ 17; decide) [(0, .int .i64 x), (1, .int .i64 y)] rfl fun a2 h1 => ?_
  refine wp_seq_k fun K3 hK3 => ?_
  refine wp_region_lit ?_
  refine sv h1 (wanted_none rfl) rfl rfl rfl (v := .bool false) (rassign h1 rfl rfl) fun a5 h4 => ?_
  refine wpList_nil ?_
  refine hK3 _ _ ?_
  refine wp_seq_k fun K6 hK6 => ?_
  refine wp_region_lit ?_
  refine sv h4 (wanted_none rfl) rfl rfl rfl (v := .int .i64 x) (rmove h4 rfl rfl) fun a8 h7 => ?_
  refine so (wanted_none rfl) fun K15 hK15 => xcall h7 rfl rfl rfl (xs := [.tmp 5]) rfl cp_cmp_isNaN_int_z4 rfl (vs := [.int .i64 x]) rfl (args := #[.int .i64 x]) rfl (isNaN_s (R := [Ch.many R]) (x := x) (hS : Sep _ [Ch.many R])) fun a10 v11 w12 r13 h9 => hK15 _ _ ?_
  clear hK15 K15
  obtain ⟨rfl, s14⟩ := r13
  refine sv h9 (wanted_none rfl) rfl rfl rfl (v := .bool false) (rmove h9 rfl rfl) fun a17 h16 => ?_
  refine su h16 (wT h16 (E := false) rfl rfl rfl) rfl rfl rfl fun a19 h18 => ?_
  refine su h18 (wT h18 (E := false) rfl rfl rfl) rfl rfl rfl fun a21 h20 => ?_
  refine su h20 (wT h20 (E := false) rfl rfl rfl) rfl rfl rfl fun a23 h22 => ?_
  refine sv h22 (wanted_none rfl) rfl rfl rfl (v := .bool false) (rpick h22 rfl rfl rfl) fun a25 h24 => ?_
  refine sv h24 (wanted_none rfl) rfl rfl rfl (v := .bool false) (rmove h24 rfl rfl) fun a27 h26 => ?_
  refine sv h26 (wF h26 (E := false) rfl rfl rfl) rfl rfl rfl (v := .int .i64 x) (rmove h26 rfl rfl) fun a29 h28 => ?_
  refine sv h28 (wF h28 (E := false) rfl rfl rfl) rfl rfl rfl (v := .int .i64 y) (rmove h28 rfl rfl) fun a31 h30 => ?_
  refine sv h30 (wF h30 (E := false) rfl rfl rfl) rfl rfl rfl (v := .bool (decide (x < y))) (rbin h30 rfl rfl rfl (cLt _ _ _ _ rfl)) fun a33 h32 => ?_
  refine sv h32 (wanted_none rfl) rfl rfl rfl (v := .bool (decide (x < y))) (rpick h32 rfl rfl rfl) fun a35 h34 => ?_
  have h36 := h34.subs (l' := [(16, _), (15, _), (14, _), (13, _), (12, _), (11, _), (10, _), (9, _), (8, _), (7, _), (6, _), (5, _), (0, _), (1, _)]) rfl
  clear h34 h1 h4 h7 h9 h16 h18 h20 h22 h24 h26 h28 h30 h32 a2 a5 a8 a10 a17 a19 a21 a23 a25 a27 a29 a31 a33
  refine sv h36 (wanted_none rfl) rfl rfl rfl (v := .bool (decide (x < y))) (rassign h36 rfl rfl) fun a38 h37 => ?_
  have h39 := h37.subs (l' := [(4, _), (0, _), (1, _)]) rfl
  clear h37 h36 a35
  refine wpList_nil ?_
  refine hK6 _ _ ?_
  refine wp_ret ?_
  try simp only [Exit.then, Exit.inBlock]
  refine retR (v := .bool (decide (x < y))) (res1 h39 rfl rfl) h39.defs ?_
  exact ⟨rfl, Sep.tail_un (xs := []) (s14 : Sep _ [Ch.many R])⟩

set_option maxHeartbeats 4000000 in
theorem compare_s {w : World} {R : List Ch} {x y : Int} (hS0 : Sep w R) :
    CallsR Tryz.prog 42 #[.int .i64 x, .int .i64 y] w (fun v w' => v = .int .i64 (cmpI x y) ∧ Sep w' R) := by
  have hS : Sep w [Ch.many R] := Sep.tail_many (xs := []) hS0; clear hS0
  refine enterR Tryz.func42 rfl (N := 20) Tryz.ntmps42 (by show 2 ≤ 20; decide) [(0, .int .i64 x), (1, .int .i64 y)] rfl fun a2 h1 => ?_
  refine wp_seq_k fun K3 hK3 => ?_
  refine wp_region_lit ?_
  refine sv h1 (wanted_none rfl) rfl rfl rfl (v := .int .i64 0) (rassign h1 rfl rfl) fun a5 h4 => ?_
  refine wpList_nil ?_
  refine hK3 _ _ ?_
  refine wp_seq_k fun K6 hK6 => ?_
  refine wp_region_lit ?_
  refine sv h4 (wanted_none rfl) rfl rfl rfl (v := .int .i64 x) (rmove h4 rfl rfl) fun a8 h7 => ?_
  refine so (wanted_none rfl) fun K15 hK15 => xcall h7 rfl rfl rfl (xs := [.tmp 7]) rfl cp_cmp_isNaN_int_z5 rfl (vs := [.int .i64 x]) rfl (args := #[.int .i64 x]) rfl (isNaN_s (R := [Ch.many R]) (x := x) (hS : Sep _ [Ch.many R])) fun a10 v11 w12 r13 h9 => hK15 _ _ ?_
  clear hK15 K15
  obtain ⟨rfl, s14⟩ := r13
  refine sv h9 (wanted_none rfl) rfl rfl rfl (v := .bool false) (rassign h9 rfl rfl) fun a17 h16 => ?_
  have h18 := h16.subs (l' := [(5, _), (4, _), (0, _), (1, _)]) rfl
  clear h16 h1 h4 h7 h9 a2 a5 a8 a10
  refine wpList_nil ?_
  refine hK6 _ _ ?_
  refine wp_seq_k fun K19 hK19 => ?_
  refine wp_region_lit ?_
  refine sv h18 (wanted_none rfl) rfl rfl rfl (v := .int .i64 y) (rmove h18 rfl rfl) fun a21 h20 => ?_
  refine so (wanted_none rfl) fun K28 hK28 => xcall h20 rfl rfl rfl (xs := [.tmp 9]) rfl cp_cmp_isNaN_int_z5 rfl (vs := [.int .i64 y]) rfl (args := #[.int .i64 y]) rfl (isNaN_s (R := [Ch.many R]) (x := y) (s14 : Sep _ [Ch.many R])) fun a23 v24 w25 r26 h22 => hK28 _ _ ?_
  clear hK28 K28
  obtain ⟨rfl, s27⟩ := r26
  refine sv h22 (wanted_none rfl) rfl rfl rfl (v := .bool false) (rassign h22 rfl rfl) fun a30 h29 => ?_
  have h31 := h29.subs (l' := [(6, _), (5, _), (4, _), (0, _), (1, _)]) rfl
  clear h29 h18 h20 h22 a17 a21 a23
  refine wpList_nil ?_
  refine hK19 _ _ ?_
  refine wp_seq_k fun K32 hK32 => ?_
  refine wp_seq_k fun K33 hK33 => ?_
  refine wp_region_lit ?_
  refine sv h31 (wanted_none rfl) rfl rfl rfl (v := .bool false) (rmove h31 rfl rfl) fun a35 h34 => ?_
  refine wpList_nil ?_
  refine hK33 _ _ ?_
  refine wp_condS h34 rfl rfl ?_
  simp only [Bool.false_eq_true, if_false]
  have h36 := h34.subs (l' := [(6, _), (5, _), (4, _), (0, _), (1, _)]) rfl
  clear h34 h31 a30
  refine wp_skip ?_
  refine hK32 _ _ ?_
  refine wp_seq_k fun K37 hK37 => ?_
  refine wp_seq_k fun K38 hK38 => ?_
  refine wp_region_lit ?_
  refine sv h36 (wanted_none rfl) rfl rfl rfl (v := .bool false) (rmove h36 rfl rfl) fun a40 h39 => ?_
  refine wpList_nil ?_
  refine hK38 _ _ ?_
  refine wp_condS h39 rfl rfl ?_
  simp only [Bool.false_eq_true, if_false]
  have h41 := h39.subs (l' := [(6, _), (5, _), (4, _), (0, _), (1, _)]) rfl
  clear h39 h36 a35
  refine wp_skip ?_
  refine hK37 _ _ ?_
  refine wp_seq_k fun K42 hK42 => ?_
  refine wp_seq_k fun K43 hK43 => ?_
  refine wp_region_lit ?_
  refine sv h41 (wanted_none rfl) rfl rfl rfl (v := .int .i64 x) (rmove h41 rfl rfl) fun a45 h44 => ?_
  refine sv h44 (wanted_none rfl) rfl rfl rfl (v := .int .i64 y) (rmove h44 rfl rfl) fun a47 h46 => ?_
  refine sv h46 (wanted_none rfl) rfl rfl rfl (v := .bool (decide (x < y))) (rbin h46 rfl rfl rfl (cLt _ _ _ _ rfl)) fun a49 h48 => ?_
  have h50 := h48.subs (l' := [(16, _), (6, _), (5, _), (4, _), (0, _), (1, _)]) rfl
  clear h48 h41 h44 h46 a40 a45 a47
  refine wpList_nil ?_
  refine hK43 _ _ ?_
  rcases Bool.eq_false_or_eq_true (decide (x < y)) with hc51 | hc51
  · skip
    have hp52 : x < y := (of_decide_eq_true hc51)
    refine wp_condS h50 rfl hc51 ?_
    simp only [if_true]
    have h53 := h50.subs (l' := [(6, _), (5, _), (4, _), (0, _), (1, _)]) rfl
    clear h50
    refine wp_seq_k fun K54 hK54 => ?_
    refine wp_region_lit ?_
    have h55 := h53.subs (l' := [(6, _), (5, _), (0, _), (1, _)]) rfl
    clear h53
    refine sv h55 (wanted_none rfl) rfl rfl rfl (v := .int .i64 (-1)) (rassign h55 rfl rfl) fun a57 h56 => ?_
    refine wpList_nil ?_
    refine hK54 _ _ ?_
    refine wp_ret ?_
    try simp only [Exit.then, Exit.inBlock]
    refine retR (v := .int .i64 (-1)) (res1 h56 rfl rfl) h56.defs ?_
    exact ⟨congrArg (Value.int .i64) (by unfold cmpI; (repeat' split) <;> omega), Sep.tail_un (xs := []) (s27 : Sep _ [Ch.many R])⟩
  · skip
    have hp58 : ¬ (x < y) := (of_decide_eq_false hc51)
    refine wp_condS h50 rfl hc51 ?_
    simp only [Bool.false_eq_true, if_false]
    have h59 := h50.subs (l' := [(6, _), (5, _), (4, _), (0, _), (1, _)]) rfl
    clear h50
    refine wp_skip ?_
    refine hK42 _ _ ?_
    refine wp_seq_k fun K60 hK60 => ?_
    refine wp_seq_k fun K61 hK61 => ?_
    refine wp_region_lit ?_
    refine sv h59 (wanted_none rfl) rfl rfl rfl (v := .int .i64 x) (rmove h59 rfl rfl) fun a63 h62 => ?_
    refine sv h62 (wanted_none rfl) rfl rfl rfl (v := .int .i64 y) (rmove h62 rfl rfl) fun a65 h64 => ?_
    refine sv h64 (wanted_none rfl) rfl rfl rfl (v := .bool (decide (x > y))) (rbin h64 rfl rfl rfl (cGt _ _ _ _ rfl)) fun a67 h66 => ?_
    have h68 := h66.subs (l' := [(19, _), (6, _), (5, _), (4, _), (0, _), (1, _)]) rfl
    clear h66 h59 h62 h64 a49 a63 a65
    refine wpList_nil ?_
    refine hK61 _ _ ?_
    rcases Bool.eq_false_or_eq_true (decide (x > y)) with hc69 | hc69
    · skip
      have hp70 : x > y := (of_decide_eq_true hc69)
      refine wp_condS h68 rfl hc69 ?_
      simp only [if_true]
      have h71 := h68.subs (l' := [(6, _), (5, _), (4, _), (0, _), (1, _)]) rfl
      clear h68
      refine wp_seq_k fun K72 hK72 => ?_
      refine wp_region_lit ?_
      have h73 := h71.subs (l' := [(6, _), (5, _), (0, _), (1, _)]) rfl
      clear h71
      refine sv h73 (wanted_none rfl) rfl rfl rfl (v := .int .i64 1) (rassign h73 rfl rfl) fun a75 h74 => ?_
      refine wpList_nil ?_
      refine hK72 _ _ ?_
      refine wp_ret ?_
      try simp only [Exit.then, Exit.inBlock]
      refine retR (v := .int .i64 1) (res1 h74 rfl rfl) h74.defs ?_
      exact ⟨congrArg (Value.int .i64) (by unfold cmpI; (repeat' split) <;> omega), Sep.tail_un (xs := []) (s27 : Sep _ [Ch.many R])⟩
    · skip
      have hp76 : ¬ (x > y) := (of_decide_eq_false hc69)
      refine wp_condS h68 rfl hc69 ?_
      simp only [Bool.false_eq_true, if_false]
      have h77 := h68.subs (l' := [(6, _), (5, _), (4, _), (0, _), (1, _)]) rfl
      clear h68
      refine wp_skip ?_
      refine hK60 _ _ ?_
      refine wp_seq_k fun K78 hK78 => ?_
      refine wp_region_lit ?_
      have h79 := h77.subs (l' := [(6, _), (5, _), (0, _), (1, _)]) rfl
      clear h77
      refine sv h79 (wanted_none rfl) rfl rfl rfl (v := .int .i64 0) (rassign h79 rfl rfl) fun a81 h80 => ?_
      refine wpList_nil ?_
      refine hK78 _ _ ?_
      refine wp_ret ?_
      try simp only [Exit.then, Exit.inBlock]
      refine retR (v := .int .i64 0) (res1 h80 rfl rfl) h80.defs ?_
      exact ⟨congrArg (Value.int .i64) (by unfold cmpI; (repeat' split) <;> omega), Sep.tail_un (xs := []) (s27 : Sep _ [Ch.many R])⟩

set_option maxHeartbeats 4000000 in
theorem sortedI_s {w : World} {R : List Ch} {g : Nat} {x y z : Int} (hS0 : Sep w ([blkC g 3 [.int .i64 x, .int .i64 y, .int .i64 z]] ++ R)) :
    CallsR Tryz.prog 52 #[.slice (some ⟨g, 0, none⟩) 3 3] w (fun v w' => v = .bool (decide (x ≤ y ∧ y ≤ z)) ∧ Sep w' R) := by
  have hS : Sep w [blkC g 3 ([x, y, z].map iV), Ch.many R] := Sep.tail_many (xs := [_]) hS0; clear hS0
  have hl3 : [x, y, z].length = 3 := rfl
  refine enterR Tryz.func52 rfl (N := 21) Tryz.ntmps52 (by show 1 ≤ 21; decide) [(0, .slice (some ⟨g, 0, none⟩) 3 3)] rfl fun a2 h1 => ?_
  refine wp_seq_k fun K3 hK3 => ?_
  refine wp_region_lit ?_
  refine sv h1 (wanted_none rfl) rfl rfl rfl (v := .bool false) (rassign h1 rfl rfl) fun a5 h4 => ?_
  refine wpList_nil ?_
  refine hK3 _ _ ?_
  refine wp_seq_k fun K6 hK6 => ?_
  refine wp_seq_k fun K7 hK7 => ?_
  refine wp_region_lit ?_
  refine sv h4 (wanted_none rfl) rfl rfl rfl (v := .slice (some ⟨g, 0, none⟩) 3 3) (rmove h4 rfl rfl) fun a9 h8 => ?_
  refine sv h8 (wanted_none rfl) rfl rfl rfl (v := .int .i64 3) (rlenS h8 rfl rfl Tryz.underlying90) fun a11 h10 => ?_
  refine sv h10 (wanted_none rfl) rfl rfl rfl (v := .int .i64 2) (rbin h10 rfl rfl rfl (bSub _ _ _ (by decide) (by decide) (by decide))) fun a13 h12 => ?_
  refine sv h12 (wanted_none rfl) rfl rfl rfl (v := .int .i64 2) (rassign h12 rfl rfl) fun a15 h14 => ?_
  have h16 := h14.subs (l' := [(3, _), (2, _), (0, _)]) rfl
  clear h14 h1 h4 h8 h10 h12 a2 a5 a9 a11 a13
  refine wpList_nil ?_
  refine hK7 _ _ ?_
  refine wp_block ?_
  refine wp_loop1 (fun (i : Nat) a' w' => Kn 21 [(3, .int .i64 (i : Int)), (2, .bool false), (0, .slice (some ⟨g, 0, none⟩) 3 3)] a' ∧ Sep w' [blkC g 3 ([x, y, z].map iV), Ch.many R] ∧ (i ≤ 2) ∧ (∀ j, i ≤ j → j < 2 → [x, y, z].getD j 0 ≤ [x, y, z].getD (j + 1) 0)) (fun (i : Nat) => i) 2 ⟨h16.subs rfl, hS, Nat.le_refl _, fun j h1 h2 => absurd h2 (by omega)⟩ ?_
  clear h16
  rintro i24 a17 w18 ⟨h19, s20, hi22, ha23⟩ K21 hK21
  refine wp_seq_k fun K25 hK25 => ?_
  refine wp_seq_k fun K26 hK26 => ?_
  refine wp_region_lit ?_
  refine sv h19 (wanted_none rfl) rfl rfl rfl (v := .int .i64 (i24 : Int)) (rmove h19 rfl rfl) fun a28 h27 => ?_
  refine sv h27 (wanted_none rfl) rfl rfl rfl (v := .bool (decide ((i24 : Int) > 0))) (rbin h27 rfl rfl rfl (cGt _ _ _ _ rfl)) fun a30 h29 => ?_
  have h31 := h29.subs (l' := [(8, _), (3, _), (2, _), (0, _)]) rfl
  clear h29 h19 h27 a17 a28
  refine wpList_nil ?_
  refine hK26 _ _ ?_
  rcases Bool.eq_false_or_eq_true (decide ((i24 : Int) > 0)) with hc32 | hc32
  · skip
    have hp33 : (i24 : Int) > 0 := (of_decide_eq_true hc32)
    refine wp_condS h31 rfl hc32 ?_
    simp only [if_true]
    have h34 := h31.subs (l' := [(3, _), (2, _), (0, _)]) rfl
    clear h31
    refine wp_skip ?_
    refine hK25 _ _ ?_
    refine wp_seq_k fun K35 hK35 => ?_
    refine wp_block ?_
    refine wp_seq_k fun K36 hK36 => ?_
    have s38 := s20.drew
    refine wp_region_held_drew (S := fun w' => Sep w' [blkC g 3 ([x, y, z].map iV), Ch.many R]) (by kernel_rfl) s38 (fun hq37 => ?_)
    refine tv hq37 h34 0 rfl rfl rfl rfl (by kernel_rfl) (by kernel_rfl) (by kernel_rfl) (fun _ _ _ _ h => h) (wanted_none rfl) (v := .slice (some ⟨g, 0, none⟩) 3 3) (fun w1 _ => (rmove h34 rfl rfl) w1) fun a40 h39 => ?_
    refine tv hq37 h39 1 rfl rfl rfl rfl (by kernel_rfl) (by kernel_rfl) (by kernel_rfl) (fun _ _ _ _ h => h) (wanted_none rfl) (v := .int .i64 (i24 : Int)) (fun w1 _ => (rmove h39 rfl rfl) w1) fun a42 h41 => ?_
    refine tv hq37 h41 2 rfl rfl rfl rfl (by kernel_rfl) (by kernel_rfl) (by kernel_rfl) (fun _ _ _ _ h => h) (wanted_none rfl) (v := .pointer (some ⟨g, i24, none⟩)) (fun w1 _ => (rindexA h41 rfl rfl rfl (fun w => ixS Tryz.underlying90 (by kernel_rfl) (sz := 1) (j := i24) rfl (by omega) (Nat.mul_one _) w)) w1) fun a44 h43 => ?_
    refine tv hq37 h43 3 rfl rfl rfl rfl (by kernel_rfl) (by kernel_rfl) (by kernel_rfl) (fun _ _ _ _ h => h) (wanted_none rfl) (v := .int .i64 ([x, y, z].getD i24 0)) (fun w1 hSw => (rld h43 rfl rfl (ldB Tryz.underlying3 rfl (hSw.get 0 rfl : Blk _ _ _ _) (li_get (by omega))))) fun a46 h45 => ?_
    refine tv hq37 h45 4 rfl rfl rfl rfl (by kernel_rfl) (by kernel_rfl) (by kernel_rfl) (fun _ _ _ _ h => h) (wanted_none rfl) (v := .slice (some ⟨g, 0, none⟩) 3 3) (fun w1 _ => (rmove h45 rfl rfl) w1) fun a48 h47 => ?_
    refine tv hq37 h47 5 rfl rfl rfl rfl (by kernel_rfl) (by kernel_rfl) (by kernel_rfl) (fun _ _ _ _ h => h) (wanted_none rfl) (v := .int .i64 (i24 : Int)) (fun w1 _ => (rmove h47 rfl rfl) w1) fun a50 h49 => ?_
    refine tv hq37 h49 6 rfl rfl rfl rfl (by kernel_rfl) (by kernel_rfl) (by kernel_rfl) (fun _ _ _ _ h => h) (wanted_none rfl) (v := .int .i64 ((i24 - 1 : Nat) : Int)) (fun w1 _ => (rbin h49 rfl rfl rfl (bSub _ _ _ (by omega) (by omega) (by omega))) w1) fun a52 h51 => ?_
    refine tv hq37 h51 7 rfl rfl rfl rfl (by kernel_rfl) (by kernel_rfl) (by kernel_rfl) (fun _ _ _ _ h => h) (wanted_none rfl) (v := .pointer (some ⟨g, i24 - 1, none⟩)) (fun w1 _ => (rindexA h51 rfl rfl rfl (fun w => ixS Tryz.underlying90 (by kernel_rfl) (sz := 1) (j := i24 - 1) rfl (by omega) (Nat.mul_one _) w)) w1) fun a54 h53 => ?_
    refine tv hq37 h53 8 rfl rfl rfl rfl (by kernel_rfl) (by kernel_rfl) (by kernel_rfl) (fun _ _ _ _ h => h) (wanted_none rfl) (v := .int .i64 ([x, y, z].getD (i24 - 1) 0)) (fun w1 hSw => (rld h53 rfl rfl (ldB Tryz.underlying3 rfl (hSw.get 0 rfl : Blk _ _ _ _) (li_get (by omega))))) fun a56 h55 => ?_
    refine to_ 9 rfl (wanted_none rfl) (by kernel_rfl) fun K64 hK64 => xcall h55 rfl rfl rfl (xs := [.tmp 14, .tmp 19]) rfl cp_cmp_Less_int_z6 rfl (vs := [.int .i64 ([x, y, z].getD i24 0), .int .i64 ([x, y, z].getD (i24 - 1) 0)]) rfl (args := #[.int .i64 ([x, y, z].getD i24 0), .int .i64 ([x, y, z].getD (i24 - 1) 0)]) rfl (less_s (R := [blkC g 3 ([x, y, z].map iV), Ch.many R]) (x := [x, y, z].getD i24 0) (y := [x, y, z].getD (i24 - 1) 0) (s38 : Sep _ [blkC g 3 ([x, y, z].map iV), Ch.many R])) fun a59 v60 w61 r62 h58 => ?_
    obtain ⟨rfl, s63⟩ := r62
    refine hK64 _ _ s63 fun hq57 => ?_
    clear hK64 K64
    have h65 := h58.subs (l' := [(20, _), (3, _), (2, _), (0, _)]) rfl
    clear h58 h34 h39 h41 h43 h45 h47 h49 h51 h53 h55 a30 a40 a42 a44 a46 a48 a50 a52 a54 a56
    refine wpAnyH_done (by kernel_rfl) ?_ _
    refine hK36 _ _ ?_
    rcases Bool.eq_false_or_eq_true (decide ([x, y, z].getD i24 0 < [x, y, z].getD (i24 - 1) 0)) with hc66 | hc66
    · skip
      have hp67 : [x, y, z].getD i24 0 < [x, y, z].getD (i24 - 1) 0 := (of_decide_eq_true hc66)
      refine wp_condS h65 rfl hc66 ?_
      simp only [if_true]
      have h68 := h65.subs (l' := [(3, _), (2, _), (0, _)]) rfl
      clear h65
      refine wp_seq_k fun K69 hK69 => ?_
      refine wp_region_lit ?_
      have h70 := h68.subs (l' := [(3, _), (0, _)]) rfl
      clear h68
      refine sv h70 (wanted_none rfl) rfl rfl rfl (v := .bool false) (rassign h70 rfl rfl) fun a72 h71 => ?_
      refine wpList_nil ?_
      refine hK69 _ _ ?_
      refine wp_ret ?_
      try simp only [Exit.then, Exit.inBlock]
      refine retR (v := .bool false) (res1 h71 rfl rfl) h71.defs ?_
      exact ⟨congrArg Value.bool (decide_eq_false (asc_not (by omega) (of_decide_eq_true hc66))).symm, Sep.tail_un (xs := []) ((s63.pick [1] (by decide) rfl) : Sep _ [Ch.many R])⟩
    · skip
      have hp73 : ¬ ([x, y, z].getD i24 0 < [x, y, z].getD (i24 - 1) 0) := (of_decide_eq_false hc66)
      refine wp_condS h65 rfl hc66 ?_
      simp only [Bool.false_eq_true, if_false]
      have h74 := h65.subs (l' := [(3, _), (2, _), (0, _)]) rfl
      clear h65
      refine wp_skip ?_
      refine hK35 _ _ ?_
      refine wp_region_lit ?_
      refine sv h74 (wanted_none rfl) rfl rfl rfl (v := .int .i64 (i24 : Int)) (rmove h74 rfl rfl) fun a76 h75 => ?_
      refine sv h75 (wanted_none rfl) rfl rfl rfl (v := .int .i64 ((i24 - 1 : Nat) : Int)) (rbin h75 rfl rfl rfl (bSub _ _ _ (by omega) (by omega) (by omega))) fun a78 h77 => ?_
      have h79 := h77.subs (l' := [(10, _), (9, _), (2, _), (0, _)]) rfl
      clear h77 h74 h75 a59 a76
      refine sv h79 (wanted_none rfl) rfl rfl rfl (v := .int .i64 ((i24 - 1 : Nat) : Int)) (rassign h79 rfl rfl) fun a81 h80 => ?_
      have h82 := h80.subs (l' := [(3, _), (2, _), (0, _)]) rfl
      clear h80 h79 a78
      refine wpList_nil ?_
      exact hK21 (i24 - 1) _ _ ⟨h82.subs rfl, s63, by omega, (fun j h1 h2 => if hj : j + 1 = i24 then (by subst hj; exact asc_step hc66 (by omega)) else ha23 j (by omega) h2)⟩ (by omega)
  · skip
    have hp83 : ¬ ((i24 : Int) > 0) := (of_decide_eq_false hc32)
    refine wp_condS h31 rfl hc32 ?_
    simp only [Bool.false_eq_true, if_false]
    have h84 := h31.subs (l' := [(3, _), (2, _), (0, _)]) rfl
    clear h31
    refine wp_exit ?_
    refine hK6 _ _ ?_
    refine wp_seq_k fun K85 hK85 => ?_
    refine wp_region_lit ?_
    have h86 := h84.subs (l' := [(3, _), (0, _)]) rfl
    clear h84
    refine sv h86 (wanted_none rfl) rfl rfl rfl (v := .bool true) (rassign h86 rfl rfl) fun a88 h87 => ?_
    refine wpList_nil ?_
    refine hK85 _ _ ?_
    refine wp_ret ?_
    try simp only [Exit.then, Exit.inBlock]
    refine retR (v := .bool true) (res1 h87 rfl rfl) h87.defs ?_
    exact ⟨congrArg Value.bool (decide_eq_true ⟨ha23 0 (by omega) (by decide), ha23 1 (by omega) (by decide)⟩).symm, Sep.tail_un (xs := []) ((s20.pick [1] (by decide) rfl) : Sep _ [Ch.many R])⟩

set_option maxHeartbeats 4000000 in
theorem ascending_s {w : World} {R : List Ch} {g : Nat} {x y z : Int} (hS0 : Sep w ([blkC g 3 [.int .i64 x, .int .i64 y, .int .i64 z]] ++ R)) :
    CallsR Tryz.prog 45 #[.slice (some ⟨g, 0, none⟩) 3 3] w (fun v w' => v = .bool (decide (x ≤ y ∧ y ≤ z)) ∧ Sep w' R) := by
  have hS : Sep w [blkC g 3 [.int .i64 x, .int .i64 y, .int .i64 z], Ch.many R] := Sep.tail_many (xs := [_]) hS0; clear hS0
  refine enterR Tryz.func45 rfl (N := 5) Tryz.ntmps45 (by show 1 ≤ 5; decide) [(0, .slice (some ⟨g, 0, none⟩) 3 3)] rfl fun a2 h1 => ?_
  refine wp_seq_k fun K3 hK3 => ?_
  refine wp_region_lit ?_
  refine sv h1 (wanted_none rfl) rfl rfl rfl (v := .bool false) (rassign h1 rfl rfl) fun a5 h4 => ?_
  refine wpList_nil ?_
  refine hK3 _ _ ?_
  refine wp_seq_k fun K6 hK6 => ?_
  refine wp_region_lit ?_
  refine sv h4 (wanted_none rfl) rfl rfl rfl (v := .slice (some ⟨g, 0, none⟩) 3 3) (rmove h4 rfl rfl) fun a8 h7 => ?_
  refine so (wanted_none rfl) fun K15 hK15 => xcall h7 rfl rfl rfl (xs := [.tmp 3]) rfl cp_slices_IsSorted_int_int_z7 rfl (vs := [.slice (some ⟨g, 0, none⟩) 3 3]) rfl (args := #[.slice (some ⟨g, 0, none⟩) 3 3]) rfl (sortedI_s (R := [Ch.many R]) (hS : Sep _ [blkC g 3 [.int .i64 x, .int .i64 y, .int .i64 z], Ch.many R])) fun a10 v11 w12 r13 h9 => hK15 _ _ ?_
  clear hK15 K15
  obtain ⟨rfl, s14⟩ := r13
  have h16 := h9.subs (l' := [(4, _), (3, _), (0, _)]) rfl
  clear h9 h1 h4 h7 a2 a5 a8
  refine sv h16 (wanted_none rfl) rfl rfl rfl (v := .bool (decide (x ≤ y ∧ y ≤ z))) (rassign h16 rfl rfl) fun a18 h17 => ?_
  have h19 := h17.subs (l' := [(2, _), (0, _)]) rfl
  clear h17 h16 a10
  refine wpList_nil ?_
  refine hK6 _ _ ?_
  refine wp_ret ?_
  try simp only [Exit.then, Exit.inBlock]
  refine retR (v := .bool (decide (x ≤ y ∧ y ≤ z))) (res1 h19 rfl rfl) h19.defs ?_
  exact ⟨rfl, Sep.tail_un (xs := []) (s14 : Sep _ [Ch.many R])⟩

end Go.Proofs.YtpdjnefgkcmdnaaGreatDoor
/- stage 25: fits (sx/au.py) -/
namespace Go.Proofs.YtpdjnefgkcmdnaaGreatDoor
open Go.RowKit
set_option linter.unusedSimpArgs false
set_option linter.unusedVariables false
set_option maxRecDepth 100000

/-- an event; where its reply's names lie -/
structure EvM where
  cl : Int
  num : Int
  x : CallM
  asked : Int
  done : Int
  told : Int
  r : RepM
  na : Option Addr
  nc : Nat
def nilEv : EvM := ⟨0, 0, ⟨0, [], [], 0, 0, 0, 0, []⟩, 0, 0, 0, ⟨0, 0, [], [], 0, 0, 0⟩, none, 0⟩
def evC (x : EvM) : List Value := [.int .i64 x.cl, .int .i64 x.num, .int .i64 x.x.kind, .string (strB x.x.p1), .string (strB x.x.p2), .int .i64 x.x.fl, .int .i64 x.x.fd, .int .i64 x.x.off, .int .i64 x.x.n, .string (strB x.x.data), .int .i64 x.asked, .int .i64 x.done, .int .i64 x.told, .int .i64 x.r.e, .int .i64 x.r.fd, .string (strB x.r.data), .slice x.na x.r.names.length x.nc, .int .i64 x.r.kind, .int .i64 x.r.links, .int .i64 x.r.size]
theorem evC_len (x : EvM) : (evC x).length = 20 := rfl
/-- does an event fit, where r is the answer? -/
def fitB (ev : EvM) (r : RepM) : Bool := !decide (ev.told > 0) || (eqA r ev.r && decide (ev.asked ≤ ev.done ∧ ev.done ≤ ev.told))
theorem fitB_no {ev : EvM} {r : RepM} (h : ¬ ev.told > 0) : fitB ev r = true := by unfold fitB; rw [decide_eq_false h]; rfl
theorem fitB_bad {ev : EvM} {r : RepM} (h : ev.told > 0) (he : eqA r ev.r = false) : fitB ev r = false := by unfold fitB; rw [decide_eq_true h, he]; rfl
theorem fitB_is {ev : EvM} {r : RepM} (h : ev.told > 0) (he : eqA r ev.r = true) : fitB ev r = decide (ev.asked ≤ ev.done ∧ ev.done ≤ ev.told) := by unfold fitB; rw [decide_eq_true h, he]; rfl

theorem fa_api_Event_z8_5 (g off : Nat) (w : World) : (Instr.fieldAt 35 (.pointer (some ⟨g, off, none⟩)) 5).run Tryz.prog w = .ok (.pointer (some ⟨g, off + 12, none⟩)) w := rfl
theorem fa_api_Event_z8_6 (g off : Nat) (w : World) : (Instr.fieldAt 35 (.pointer (some ⟨g, off, none⟩)) 6).run Tryz.prog w = .ok (.pointer (some ⟨g, off + 13, none⟩)) w := rfl
theorem fa_api_Reply_z8_0 (g off : Nat) (w : World) : (Instr.fieldAt 28 (.pointer (some ⟨g, off, none⟩)) 0).run Tryz.prog w = .ok (.pointer (some ⟨g, off + 0, none⟩)) w := rfl
theorem fa_api_Event_z8_0 (g off : Nat) (w : World) : (Instr.fieldAt 35 (.pointer (some ⟨g, off, none⟩)) 0).run Tryz.prog w = .ok (.pointer (some ⟨g, off + 0, none⟩)) w := rfl
theorem fa_api_Event_z8_2 (g off : Nat) (w : World) : (Instr.fieldAt 35 (.pointer (some ⟨g, off, none⟩)) 2).run Tryz.prog w = .ok (.pointer (some ⟨g, off + 2, none⟩)) w := rfl
theorem cp_posix_Fs_Do_z8 (args : Array Value) (w : World) : (callFunc 44 args).run Tryz.prog w = .ok (.enter 44 args) w := by
  have h := Tryz.func44
  go_simp
theorem cp_audit_equal_z8 (args : Array Value) (w : World) : (callFunc 43 args).run Tryz.prog w = .ok (.enter 43 args) w := by
  have h := Tryz.func43
  go_simp
theorem fa_api_Event_z8_3 (g off : Nat) (w : World) : (Instr.fieldAt 35 (.pointer (some ⟨g, off, none⟩)) 3).run Tryz.prog w = .ok (.pointer (some ⟨g, off + 10, none⟩)) w := rfl
theorem fa_api_Event_z8_4 (g off : Nat) (w : World) : (Instr.fieldAt 35 (.pointer (some ⟨g, off, none⟩)) 4).run Tryz.prog w = .ok (.pointer (some ⟨g, off + 11, none⟩)) w := rfl
theorem cp_audit_ascending_z8 (args : Array Value) (w : World) : (callFunc 45 args).run Tryz.prog w = .ok (.enter 45 args) w := by
  have h := Tryz.func45
  go_simp

set_option maxHeartbeats 4000000 in
theorem fits_s {w : World} {cf ob n : Nat} {F G : FsM} {A : AdM} {R : List Ch} {r : RepM} {ev : EvM} (hS0 : Sep w ([blkC cf 89 [.pointer (some ⟨(A.ad 0), 0, none⟩), .map (some ob)], nodX F A, mapC KO ob A.C (opG F A), ownC 0 9 1 ev.na ev.r.names.length ev.nc (ev.r.names.flatMap sE)] ++ R)) (h : FsA F A n) (hn : n ≤ 800) (h1 : ev.x.p1.length ≤ 1000) (h2 : ev.x.p2.length ≤ 1000) (h3 : ev.x.data.length ≤ 1000) (hxf : (Lit.int .i64 ev.x.fd).wf = true) (hd : doF F ev.cl ev.x = (G, r)) (hc1 : ¬ (ev.told > 0 ∧ ev.r.e = 18)) (hc2 : ev.told > 0 ∨ ev.r.e = 0) (hrn : r.names.length ≤ 100000) (hsn : ev.r.names.length ≤ 100000) :
    CallsR Tryz.prog 27 #[.pointer (some ⟨cf, 0, none⟩), .agg #[.int .i64 ev.cl, .int .i64 ev.num, .int .i64 ev.x.kind, .string (strB ev.x.p1), .string (strB ev.x.p2), .int .i64 ev.x.fl, .int .i64 ev.x.fd, .int .i64 ev.x.off, .int .i64 ev.x.n, .string (strB ev.x.data), .int .i64 ev.asked, .int .i64 ev.done, .int .i64 ev.told, .int .i64 ev.r.e, .int .i64 ev.r.fd, .string (strB ev.r.data), .slice ev.na ev.r.names.length ev.nc, .int .i64 ev.r.kind, .int .i64 ev.r.links, .int .i64 ev.r.size]] w (fun v w' => ∃ A', v = .bool (fitB ev r) ∧ Sep w' ([blkC cf 89 [.pointer (some ⟨(A'.ad 0), 0, none⟩), .map (some ob)], nodX G A', mapC KO ob A'.C (opG G A'), ownC 0 9 1 ev.na ev.r.names.length ev.nc (ev.r.names.flatMap sE)] ++ R) ∧ FsA G A' (n + 1)) := by
  have hS : Sep w [blkC cf 89 [.pointer (some ⟨(A.ad 0), 0, none⟩), .map (some ob)], nodX F A, mapC KO ob A.C (opG F A), ownC 0 9 1 ev.na ev.r.names.length ev.nc (ev.r.names.flatMap sE), Ch.many R] := Sep.tail_many (xs := [_, _, _, _]) hS0; clear hS0
  refine enterR Tryz.func27 rfl (N := 51) Tryz.ntmps27 (by show 2 ≤ 51; decide) [(0, .pointer (some ⟨cf, 0, none⟩)), (1, .agg #[.int .i64 ev.cl, .int .i64 ev.num, .int .i64 ev.x.kind, .string (strB ev.x.p1), .string (strB ev.x.p2), .int .i64 ev.x.fl, .int .i64 ev.x.fd, .int .i64 ev.x.off, .int .i64 ev.x.n, .string (strB ev.x.data), .int .i64 ev.asked, .int .i64 ev.done, .int .i64 ev.told, .int .i64 ev.r.e, .int .i64 ev.r.fd, .string (strB ev.r.data), .slice ev.na ev.r.names.length ev.nc, .int .i64 ev.r.kind, .int .i64 ev.r.links, .int .i64 ev.r.size])] rfl fun a2 h1 => ?_
  refine wp_seq_k fun K3 hK3 => ?_
  refine wp_region_lit ?_
  refine so (wanted_none rfl) fun K11 hK11 => xbox h1 rfl rfl rfl rfl rfl (z := [.int .i64 ev.cl, .int .i64 ev.num, .int .i64 ev.x.kind, .string (strB ev.x.p1), .string (strB ev.x.p2), .int .i64 ev.x.fl, .int .i64 ev.x.fd, .int .i64 ev.x.off, .int .i64 ev.x.n, .string (strB ev.x.data), .int .i64 ev.asked, .int .i64 ev.done, .int .i64 ev.told, .int .i64 ev.r.e, .int .i64 ev.r.fd, .string (strB ev.r.data), .slice ev.na ev.r.names.length ev.nc, .int .i64 ev.r.kind, .int .i64 ev.r.links, .int .i64 ev.r.size]) rfl hS fun a6 g4 w7 h5 s8 b9 e10 => hK11 _ _ ?_
  clear hK11 K11
  clear b9 e10
  refine sv h5 (wanted_none rfl) rfl rfl rfl (v := .bool false) (rassign h5 rfl rfl) fun a13 h12 => ?_
  refine wpList_nil ?_
  refine hK3 _ _ ?_
  refine wp_seq_k fun K14 hK14 => ?_
  refine wp_region_lit ?_
  refine sv h12 (wanted_none rfl) rfl rfl rfl (v := .pointer (some ⟨g4, 12, none⟩)) (rfa h12 rfl rfl (fun w => fa_api_Event_z8_5 g4 0 w)) fun a16 h15 => ?_
  refine sw h15 (wanted_none rfl) rfl rfl rfl (v := .int .i64 ev.told) (rld h15 rfl rfl (ldB Tryz.underlying3 rfl (s8.get 0 rfl : Blk _ _ _ _) rfl)) fun a18 h17 => ?_
  refine sv h17 (wanted_none rfl) rfl rfl rfl (v := .bool (decide (ev.told > 0))) (rbin h17 rfl rfl rfl (cGt _ _ _ _ rfl)) fun a20 h19 => ?_
  refine sv h19 (wanted_none rfl) rfl rfl rfl (v := .bool (decide (ev.told > 0))) (rassign h19 rfl rfl) fun a22 h21 => ?_
  have h23 := h21.subs (l' := [(5, _), (4, _), (3, _), (0, _), (1, _)]) rfl
  clear h21 h1 h5 h12 h15 h17 h19 a2 a6 a13 a16 a18 a20
  refine wpList_nil ?_
  refine hK14 _ _ ?_
  refine wp_seq_k fun K24 hK24 => ?_
  refine wp_region_lit ?_
  refine sv h23 (wanted_none rfl) rfl rfl rfl (v := .bool true) (rassign h23 rfl rfl) fun a26 h25 => ?_
  refine wpList_nil ?_
  refine hK24 _ _ ?_
  refine wp_seq_k fun K27 hK27 => ?_
  refine wp_block ?_
  refine wp_seq_k fun K28 hK28 => ?_
  refine wp_region_lit ?_
  refine sv h25 (wanted_none rfl) rfl rfl rfl (v := .bool (decide (ev.told > 0))) (rmove h25 rfl rfl) fun a30 h29 => ?_
  refine sv h29 (wanted_none rfl) rfl rfl rfl (v := .bool (decide (ev.told > 0))) (rmove h29 rfl rfl) fun a32 h31 => ?_
  rcases Bool.eq_false_or_eq_true (decide (ev.told > 0)) with hc33 | hc33
  · skip
    have hp34 : ev.told > 0 := (of_decide_eq_true hc33)
    refine sv h31 ((wT h31 rfl rfl rfl).trans hc33) rfl rfl rfl (v := .pointer (some ⟨g4, 13, none⟩)) (rfa h31 rfl rfl (fun w => fa_api_Event_z8_6 g4 0 w)) fun a36 h35 => ?_
    refine sv h35 ((wT h35 rfl rfl rfl).trans hc33) rfl rfl rfl (v := .pointer (some ⟨g4, 13, none⟩)) (rfa h35 rfl rfl (fun w => fa_api_Reply_z8_0 g4 13 w)) fun a38 h37 => ?_
    refine sw h37 ((wT h37 rfl rfl rfl).trans hc33) rfl rfl rfl (v := .int .i64 ev.r.e) (rld h37 rfl rfl (ldB Tryz.underlying23 rfl (s8.get 0 rfl : Blk _ _ _ _) rfl)) fun a40 h39 => ?_
    refine sv h39 ((wT h39 rfl rfl rfl).trans hc33) rfl rfl rfl (v := .bool (decide (ev.r.e = 18))) (rbin h39 rfl rfl rfl (cEq _ _ _ _ rfl)) fun a42 h41 => ?_
    refine sv h41 (wanted_none rfl) rfl rfl rfl (v := .bool (decide (ev.r.e = 18))) (rpickE h41 rfl (E := (decide (ev.told > 0))) (b := true) rfl hc33 rfl) fun a44 h43 => ?_
    refine sv h43 (wanted_none rfl) rfl rfl rfl (v := .bool (decide (ev.r.e = 18))) (rassign h43 rfl rfl) fun a46 h45 => ?_
    have h47 := h45.subs (l' := [(19, _), (6, _), (5, _), (4, _), (3, _), (0, _), (1, _)]) rfl
    clear h45 h23 h25 h29 h31 h35 h37 h39 h41 h43 a22 a26 a30 a32 a36 a38 a40 a42 a44
    refine wpList_nil ?_
    refine hK28 _ _ ?_
    rcases Bool.eq_false_or_eq_true (decide (ev.r.e = 18)) with hc48 | hc48
    · skip
      have hp49 : ev.r.e = 18 := (of_decide_eq_true hc48)
      exfalso; omega
    · skip
      have hp50 : ¬ (ev.r.e = 18) := (of_decide_eq_false hc48)
      refine wp_condS h47 rfl hc48 ?_
      simp only [Bool.false_eq_true, if_false]
      have h51 := h47.subs (l' := [(6, _), (5, _), (4, _), (3, _), (0, _), (1, _)]) rfl
      clear h47
      refine wp_seq_k fun K52 hK52 => ?_
      refine wp_region_lit ?_
      refine sv h51 (wanted_none rfl) rfl rfl rfl (v := .bool (decide (ev.told > 0))) (rmove h51 rfl rfl) fun a54 h53 => ?_
      refine sv h53 (wanted_none rfl) rfl rfl rfl (v := .bool (!(decide (ev.told > 0)))) (rnot h53 rfl (b := decide (ev.told > 0)) rfl) fun a56 h55 => ?_
      refine sv h55 (wanted_none rfl) rfl rfl rfl (v := .bool (!(decide (ev.told > 0)))) (rmove h55 rfl rfl) fun a58 h57 => ?_
      refine su h57 ((wT h57 rfl rfl rfl).trans (bNotT hc33)) rfl rfl rfl fun a60 h59 => ?_
      refine su h59 ((wT h59 rfl rfl rfl).trans (bNotT hc33)) rfl rfl rfl fun a62 h61 => ?_
      refine su h61 ((wT h61 rfl rfl rfl).trans (bNotT hc33)) rfl rfl rfl fun a64 h63 => ?_
      refine su h63 ((wT h63 rfl rfl rfl).trans (bNotT hc33)) rfl rfl rfl fun a66 h65 => ?_
      refine sv h65 (wanted_none rfl) rfl rfl rfl (v := .bool false) (rpickE h65 rfl (E := (!(decide (ev.told > 0)))) (b := false) rfl (bNotT hc33) rfl) fun a68 h67 => ?_
      refine sv h67 (wanted_none rfl) rfl rfl rfl (v := .bool false) (rassign h67 rfl rfl) fun a70 h69 => ?_
      have h71 := h69.subs (l' := [(27, _), (6, _), (5, _), (4, _), (3, _), (0, _), (1, _)]) rfl
      clear h69 h51 h53 h55 h57 h59 h61 h63 h65 h67 a46 a54 a56 a58 a60 a62 a64 a66 a68
      refine wpList_nil ?_
      refine hK52 _ _ ?_
      refine wp_condS h71 rfl rfl ?_
      simp only [Bool.false_eq_true, if_false]
      have h72 := h71.subs (l' := [(6, _), (5, _), (4, _), (3, _), (0, _), (1, _)]) rfl
      clear h71
      have s74 := s8.drew
      refine wp_region_held_drew (S := fun w' => Sep w' [blkC g4 35 [.int .i64 ev.cl, .int .i64 ev.num, .int .i64 ev.x.kind, .string (strB ev.x.p1), .string (strB ev.x.p2), .int .i64 ev.x.fl, .int .i64 ev.x.fd, .int .i64 ev.x.off, .int .i64 ev.x.n, .string (strB ev.x.data), .int .i64 ev.asked, .int .i64 ev.done, .int .i64 ev.told, .int .i64 ev.r.e, .int .i64 ev.r.fd, .string (strB ev.r.data), .slice ev.na ev.r.names.length ev.nc, .int .i64 ev.r.kind, .int .i64 ev.r.links, .int .i64 ev.r.size], ownC 0 9 1 ev.na ev.r.names.length ev.nc (ev.r.names.flatMap sE), Ch.many R]) (by kernel_rfl) (s74.pick [0, 4, 5] (by decide) rfl) (fun hq73 => ?_)
      refine tv hq73 h72 0 rfl rfl rfl rfl (by kernel_rfl) (by kernel_rfl) (by kernel_rfl) (fun _ _ _ _ h => h) (wanted_none rfl) (v := .pointer (some ⟨cf, 0, none⟩)) (fun w1 _ => (rmove h72 rfl rfl) w1) fun a76 h75 => ?_
      refine tv hq73 h75 1 rfl rfl rfl rfl (by kernel_rfl) (by kernel_rfl) (by kernel_rfl) (fun _ _ _ _ h => h) (wanted_none rfl) (v := .pointer (some ⟨g4, 0, none⟩)) (fun w1 _ => (rfa h75 rfl rfl (fun w => fa_api_Event_z8_0 g4 0 w)) w1) fun a78 h77 => ?_
      refine tv hq73 h77 2 rfl rfl rfl rfl (by kernel_rfl) (by kernel_rfl) (by kernel_rfl) (fun _ _ _ _ h => h) (wanted_none rfl) (v := .int .i64 ev.cl) (fun w1 hSw => (rld h77 rfl rfl (ldB Tryz.underlying3 rfl (hSw.get 0 rfl : Blk _ _ _ _) rfl))) fun a80 h79 => ?_
      refine tv hq73 h79 3 rfl rfl rfl rfl (by kernel_rfl) (by kernel_rfl) (by kernel_rfl) (fun _ _ _ _ h => h) (wanted_none rfl) (v := .pointer (some ⟨g4, 2, none⟩)) (fun w1 _ => (rfa h79 rfl rfl (fun w => fa_api_Event_z8_2 g4 0 w)) w1) fun a82 h81 => ?_
      refine tv hq73 h81 4 rfl rfl rfl rfl (by kernel_rfl) (by kernel_rfl) (by kernel_rfl) (fun _ _ _ _ h => h) (wanted_none rfl) (v := .agg #[.int .i64 ev.x.kind, .string (strB ev.x.p1), .string (strB ev.x.p2), .int .i64 ev.x.fl, .int .i64 ev.x.fd, .int .i64 ev.x.off, .int .i64 ev.x.n, .string (strB ev.x.data)]) (fun w1 hSw => (rld h81 rfl rfl (ldA Tryz.underlying33 rfl (n := 8) (by kernel_rfl) (hSw.get 0 rfl : Blk _ _ _ _) rfl rfl))) fun a84 h83 => ?_
      refine tv hq73 h83 6 rfl rfl rfl rfl (by kernel_rfl) (by kernel_rfl) (by kernel_rfl) (fun _ _ _ _ h => h) (wanted_none rfl) (v := .pointer (some ⟨g4, 13, none⟩)) (fun w1 _ => (rfa h83 rfl rfl (fun w => fa_api_Event_z8_6 g4 0 w)) w1) fun a86 h85 => ?_
      refine tv hq73 h85 7 rfl rfl rfl rfl (by kernel_rfl) (by kernel_rfl) (by kernel_rfl) (fun _ _ _ _ h => h) (wanted_none rfl) (v := .agg #[.int .i64 ev.r.e, .int .i64 ev.r.fd, .string (strB ev.r.data), .slice ev.na ev.r.names.length ev.nc, .int .i64 ev.r.kind, .int .i64 ev.r.links, .int .i64 ev.r.size]) (fun w1 hSw => (rld h85 rfl rfl (ldA Tryz.underlying28 rfl (n := 7) (by kernel_rfl) (hSw.get 0 rfl : Blk _ _ _ _) rfl rfl))) fun a88 h87 => ?_
      refine to_ 5 rfl (wanted_none rfl) (by kernel_rfl) fun K99 hK99 => xcall h87 rfl rfl rfl (xs := [.tmp 10, .tmp 12, .tmp 14]) rfl cp_posix_Fs_Do_z8 rfl (vs := [.pointer (some ⟨cf, 0, none⟩), .int .i64 ev.cl, .agg #[.int .i64 ev.x.kind, .string (strB ev.x.p1), .string (strB ev.x.p2), .int .i64 ev.x.fl, .int .i64 ev.x.fd, .int .i64 ev.x.off, .int .i64 ev.x.n, .string (strB ev.x.data)]]) rfl (args := #[.pointer (some ⟨cf, 0, none⟩), .int .i64 ev.cl, .agg #[.int .i64 ev.x.kind, .string (strB ev.x.p1), .string (strB ev.x.p2), .int .i64 ev.x.fl, .int .i64 ev.x.fd, .int .i64 ev.x.off, .int .i64 ev.x.n, .string (strB ev.x.data)]]) rfl (doQ_c (cf := cf) (A := A) (F := F) (n := n) (R := [blkC g4 35 [.int .i64 ev.cl, .int .i64 ev.num, .int .i64 ev.x.kind, .string (strB ev.x.p1), .string (strB ev.x.p2), .int .i64 ev.x.fl, .int .i64 ev.x.fd, .int .i64 ev.x.off, .int .i64 ev.x.n, .string (strB ev.x.data), .int .i64 ev.asked, .int .i64 ev.done, .int .i64 ev.told, .int .i64 ev.r.e, .int .i64 ev.r.fd, .string (strB ev.r.data), .slice ev.na ev.r.names.length ev.nc, .int .i64 ev.r.kind, .int .i64 ev.r.links, .int .i64 ev.r.size], ownC 0 9 1 ev.na ev.r.names.length ev.nc (ev.r.names.flatMap sE), Ch.many R]) (x := ev.x) (G := G) (r := r) ((s74.pick [1, 2, 3, 0, 4, 5] (by decide) rfl) : Sep _ [blkC cf 89 [.pointer (some ⟨(A.ad 0), 0, none⟩), .map (some ob)], nodX F A, mapC KO ob A.C (opG F A), blkC g4 35 [.int .i64 ev.cl, .int .i64 ev.num, .int .i64 ev.x.kind, .string (strB ev.x.p1), .string (strB ev.x.p2), .int .i64 ev.x.fl, .int .i64 ev.x.fd, .int .i64 ev.x.off, .int .i64 ev.x.n, .string (strB ev.x.data), .int .i64 ev.asked, .int .i64 ev.done, .int .i64 ev.told, .int .i64 ev.r.e, .int .i64 ev.r.fd, .string (strB ev.r.data), .slice ev.na ev.r.names.length ev.nc, .int .i64 ev.r.kind, .int .i64 ev.r.links, .int .i64 ev.r.size], ownC 0 9 1 ev.na ev.r.names.length ev.nc (ev.r.names.flatMap sE), Ch.many R]) h hn h1 h2 h3 hxf hd) fun a94 v95 w96 r97 h93 => ?_
      obtain ⟨Ax90, sax91, scx92, rfl, s98, hA97⟩ := r97
      refine hK99 _ _ (s98.pick [4, 5, 6] (by decide) rfl) fun hq89 => ?_
      clear hK99 K99
      refine to_ 8 rfl (wanted_none rfl) (by kernel_rfl) fun K107 hK107 => xcall h93 rfl rfl rfl (xs := [.tmp 15, .tmp 17]) rfl cp_audit_equal_z8 rfl (vs := [.agg #[.int .i64 r.e, .int .i64 r.fd, .string (strB r.data), .slice sax91 r.names.length scx92, .int .i64 r.kind, .int .i64 r.links, .int .i64 r.size], .agg #[.int .i64 ev.r.e, .int .i64 ev.r.fd, .string (strB ev.r.data), .slice ev.na ev.r.names.length ev.nc, .int .i64 ev.r.kind, .int .i64 ev.r.links, .int .i64 ev.r.size]]) rfl (args := #[.agg #[.int .i64 r.e, .int .i64 r.fd, .string (strB r.data), .slice sax91 r.names.length scx92, .int .i64 r.kind, .int .i64 r.links, .int .i64 r.size], .agg #[.int .i64 ev.r.e, .int .i64 ev.r.fd, .string (strB ev.r.data), .slice ev.na ev.r.names.length ev.nc, .int .i64 ev.r.kind, .int .i64 ev.r.links, .int .i64 ev.r.size]]) rfl (equal_s (r := r) (s := ev.r) (R := [blkC cf 89 [.pointer (some ⟨(Ax90.ad 0), 0, none⟩), .map (some ob)], nodX G Ax90, mapC KO ob Ax90.C (opG G Ax90), blkC g4 35 [.int .i64 ev.cl, .int .i64 ev.num, .int .i64 ev.x.kind, .string (strB ev.x.p1), .string (strB ev.x.p2), .int .i64 ev.x.fl, .int .i64 ev.x.fd, .int .i64 ev.x.off, .int .i64 ev.x.n, .string (strB ev.x.data), .int .i64 ev.asked, .int .i64 ev.done, .int .i64 ev.told, .int .i64 ev.r.e, .int .i64 ev.r.fd, .string (strB ev.r.data), .slice ev.na ev.r.names.length ev.nc, .int .i64 ev.r.kind, .int .i64 ev.r.links, .int .i64 ev.r.size], Ch.many R]) ((s98.pick [0, 5, 1, 2, 3, 4, 6] (by decide) rfl) : Sep _ [ownC 0 9 1 sax91 r.names.length scx92 (r.names.flatMap sE), ownC 0 9 1 ev.na ev.r.names.length ev.nc (ev.r.names.flatMap sE), blkC cf 89 [.pointer (some ⟨(Ax90.ad 0), 0, none⟩), .map (some ob)], nodX G Ax90, mapC KO ob Ax90.C (opG G Ax90), blkC g4 35 [.int .i64 ev.cl, .int .i64 ev.num, .int .i64 ev.x.kind, .string (strB ev.x.p1), .string (strB ev.x.p2), .int .i64 ev.x.fl, .int .i64 ev.x.fd, .int .i64 ev.x.off, .int .i64 ev.x.n, .string (strB ev.x.data), .int .i64 ev.asked, .int .i64 ev.done, .int .i64 ev.told, .int .i64 ev.r.e, .int .i64 ev.r.fd, .string (strB ev.r.data), .slice ev.na ev.r.names.length ev.nc, .int .i64 ev.r.kind, .int .i64 ev.r.links, .int .i64 ev.r.size], Ch.many R]) hrn hsn) fun a102 v103 w104 r105 h101 => ?_
      obtain ⟨rfl, s106⟩ := r105
      refine hK107 _ _ (s106.pick [5, 1, 6] (by decide) rfl) fun hq100 => ?_
      clear hK107 K107
      have h108 := h101.subs (l' := [(18, _), (15, _), (17, _), (16, _), (14, _), (13, _), (12, _), (11, _), (10, _), (5, _), (4, _), (3, _), (0, _), (1, _)]) rfl
      clear h101 h72 h75 h77 h79 h81 h83 h85 h87 h93 a70 a76 a78 a80 a82 a84 a86 a88 a94
      refine tv hq100 h108 9 rfl rfl rfl rfl (by kernel_rfl) (by kernel_rfl) (by kernel_rfl) (fun _ _ _ _ h => h) (wanted_none rfl) (v := .bool (eqA r ev.r)) (fun w1 _ => (rassign h108 rfl rfl) w1) fun a110 h109 => ?_
      have h111 := h109.subs (l' := [(6, _), (5, _), (4, _), (3, _), (0, _), (1, _)]) rfl
      clear h109 h108 a102
      refine wpAnyH_done (by kernel_rfl) ?_ _
      refine hK27 _ _ ?_
      refine wp_seq_k fun K112 hK112 => ?_
      refine wp_region_lit ?_
      refine sv h111 (wanted_none rfl) rfl rfl rfl (v := .bool (decide (ev.told > 0))) (rmove h111 rfl rfl) fun a114 h113 => ?_
      refine sv h113 (wanted_none rfl) rfl rfl rfl (v := .bool (!(decide (ev.told > 0)))) (rnot h113 rfl (b := decide (ev.told > 0)) rfl) fun a116 h115 => ?_
      refine sv h115 (wanted_none rfl) rfl rfl rfl (v := .bool (!(decide (ev.told > 0)))) (rmove h115 rfl rfl) fun a118 h117 => ?_
      refine sv h117 ((wF h117 rfl rfl rfl).trans (bNotF (bNotT hc33))) rfl rfl rfl (v := .bool (eqA r ev.r)) (rmove h117 rfl rfl) fun a120 h119 => ?_
      refine sv h119 ((wF h119 rfl rfl rfl).trans (bNotF (bNotT hc33))) rfl rfl rfl (v := .bool (eqA r ev.r)) (rmove h119 rfl rfl) fun a122 h121 => ?_
      rcases Bool.eq_false_or_eq_true (eqA r ev.r) with hc123 | hc123
      · skip
        refine sv h121 ((wT h121 rfl rfl rfl).trans hc123) rfl rfl rfl (v := .pointer (some ⟨g4, 10, none⟩)) (rfa h121 rfl rfl (fun w => fa_api_Event_z8_3 g4 0 w)) fun a126 h125 => ?_
        refine sw h125 ((wT h125 rfl rfl rfl).trans hc123) rfl rfl rfl (v := .int .i64 ev.asked) (rld h125 rfl rfl (ldB Tryz.underlying3 rfl (s106.get 5 rfl : Blk _ _ _ _) rfl)) fun a128 h127 => ?_
        refine sv h127 ((wT h127 rfl rfl rfl).trans hc123) rfl rfl rfl (v := .pointer (some ⟨g4, 11, none⟩)) (rfa h127 rfl rfl (fun w => fa_api_Event_z8_4 g4 0 w)) fun a130 h129 => ?_
        refine sw h129 ((wT h129 rfl rfl rfl).trans hc123) rfl rfl rfl (v := .int .i64 ev.done) (rld h129 rfl rfl (ldB Tryz.underlying3 rfl (s106.get 5 rfl : Blk _ _ _ _) rfl)) fun a132 h131 => ?_
        refine sv h131 ((wT h131 rfl rfl rfl).trans hc123) rfl rfl rfl (v := .pointer (some ⟨g4, 12, none⟩)) (rfa h131 rfl rfl (fun w => fa_api_Event_z8_5 g4 0 w)) fun a134 h133 => ?_
        refine sw h133 ((wT h133 rfl rfl rfl).trans hc123) rfl rfl rfl (v := .int .i64 ev.told) (rld h133 rfl rfl (ldB Tryz.underlying3 rfl (s106.get 5 rfl : Blk _ _ _ _) rfl)) fun a136 h135 => ?_
        refine so ((wT h135 rfl rfl rfl).trans hc123) fun K144 hK144 => xbuildS h135 rfl rfl rfl (E := 3) (xs := [(0, .tmp 42), (1, .tmp 44), (2, .tmp 46)]) rfl (vs := [(0, .int .i64 ev.asked), (1, .int .i64 ev.done), (2, .int .i64 ev.told)]) rfl (z := [.int .i64 ev.asked, .int .i64 ev.done, .int .i64 ev.told]) (fun _ => by kernel_rfl) s106 fun a139 g137 w140 h138 s141 b142 e143 => hK144 _ _ ?_
        clear hK144 K144
        clear b142 e143
        refine so ((wT h138 rfl rfl rfl).trans hc123) fun K151 hK151 => xcall h138 rfl rfl rfl (xs := [.tmp 47]) rfl cp_audit_ascending_z8 rfl (vs := [.slice (some ⟨g137, 0, none⟩) 3 3]) rfl (args := #[.slice (some ⟨g137, 0, none⟩) 3 3]) rfl (ascending_s (R := [ownC 0 9 1 sax91 r.names.length scx92 (r.names.flatMap sE), ownC 0 9 1 ev.na ev.r.names.length ev.nc (ev.r.names.flatMap sE), blkC cf 89 [.pointer (some ⟨(Ax90.ad 0), 0, none⟩), .map (some ob)], nodX G Ax90, mapC KO ob Ax90.C (opG G Ax90), blkC g4 35 [.int .i64 ev.cl, .int .i64 ev.num, .int .i64 ev.x.kind, .string (strB ev.x.p1), .string (strB ev.x.p2), .int .i64 ev.x.fl, .int .i64 ev.x.fd, .int .i64 ev.x.off, .int .i64 ev.x.n, .string (strB ev.x.data), .int .i64 ev.asked, .int .i64 ev.done, .int .i64 ev.told, .int .i64 ev.r.e, .int .i64 ev.r.fd, .string (strB ev.r.data), .slice ev.na ev.r.names.length ev.nc, .int .i64 ev.r.kind, .int .i64 ev.r.links, .int .i64 ev.r.size], Ch.many R]) (s141 : Sep _ [blkC g137 3 [.int .i64 ev.asked, .int .i64 ev.done, .int .i64 ev.told], ownC 0 9 1 sax91 r.names.length scx92 (r.names.flatMap sE), ownC 0 9 1 ev.na ev.r.names.length ev.nc (ev.r.names.flatMap sE), blkC cf 89 [.pointer (some ⟨(Ax90.ad 0), 0, none⟩), .map (some ob)], nodX G Ax90, mapC KO ob Ax90.C (opG G Ax90), blkC g4 35 [.int .i64 ev.cl, .int .i64 ev.num, .int .i64 ev.x.kind, .string (strB ev.x.p1), .string (strB ev.x.p2), .int .i64 ev.x.fl, .int .i64 ev.x.fd, .int .i64 ev.x.off, .int .i64 ev.x.n, .string (strB ev.x.data), .int .i64 ev.asked, .int .i64 ev.done, .int .i64 ev.told, .int .i64 ev.r.e, .int .i64 ev.r.fd, .string (strB ev.r.data), .slice ev.na ev.r.names.length ev.nc, .int .i64 ev.r.kind, .int .i64 ev.r.links, .int .i64 ev.r.size], Ch.many R])) fun a146 v147 w148 r149 h145 => hK151 _ _ ?_
        clear hK151 K151
        obtain ⟨rfl, s150⟩ := r149
        refine sv h145 ((wF h145 rfl rfl rfl).trans (bNotF (bNotT hc33))) rfl rfl rfl (v := .bool (decide (ev.asked ≤ ev.done ∧ ev.done ≤ ev.told))) (rpickE h145 rfl (E := (eqA r ev.r)) (b := true) rfl hc123 rfl) fun a153 h152 => ?_
        refine sv h152 (wanted_none rfl) rfl rfl rfl (v := .bool (decide (ev.asked ≤ ev.done ∧ ev.done ≤ ev.told))) (rpickE h152 rfl (E := (!(decide (ev.told > 0)))) (b := false) rfl (bNotT hc33) rfl) fun a155 h154 => ?_
        have h156 := h154.subs (l' := [(50, _), (49, _), (48, _), (47, _), (46, _), (45, _), (44, _), (43, _), (42, _), (41, _), (40, _), (39, _), (38, _), (37, _), (36, _), (6, _), (5, _), (3, _), (0, _), (1, _)]) rfl
        clear h154 h111 h113 h115 h117 h119 h121 h125 h127 h129 h131 h133 h135 h138 h145 h152 a110 a114 a116 a118 a120 a122 a126 a128 a130 a132 a134 a136 a139 a146 a153
        refine sv h156 (wanted_none rfl) rfl rfl rfl (v := .bool (decide (ev.asked ≤ ev.done ∧ ev.done ≤ ev.told))) (rassign h156 rfl rfl) fun a158 h157 => ?_
        have h159 := h157.subs (l' := [(4, _), (6, _), (5, _), (3, _), (0, _), (1, _)]) rfl
        clear h157 h156 a155
        refine wpList_nil ?_
        refine hK112 _ _ ?_
        refine wp_ret ?_
        try simp only [Exit.then, Exit.inBlock]
        refine retR (v := .bool (decide (ev.asked ≤ ev.done ∧ ev.done ≤ ev.told))) (res1 h159 rfl rfl) h159.defs ?_
        exact ⟨Ax90, congrArg Value.bool (fitB_is (by omega) hc123).symm, Sep.tail_un (xs := [_, _, _, _]) ((s150.pick [2, 3, 4, 1, 6] (by decide) rfl) : Sep _ [blkC cf 89 [.pointer (some ⟨(Ax90.ad 0), 0, none⟩), .map (some ob)], nodX G Ax90, mapC KO ob Ax90.C (opG G Ax90), ownC 0 9 1 ev.na ev.r.names.length ev.nc (ev.r.names.flatMap sE), Ch.many R]), hA97⟩
      · skip
        refine su h121 ((wT h121 rfl rfl rfl).trans hc123) rfl rfl rfl fun a162 h161 => ?_
        refine su h161 ((wT h161 rfl rfl rfl).trans hc123) rfl rfl rfl fun a164 h163 => ?_
        refine su h163 ((wT h163 rfl rfl rfl).trans hc123) rfl rfl rfl fun a166 h165 => ?_
        refine su h165 ((wT h165 rfl rfl rfl).trans hc123) rfl rfl rfl fun a168 h167 => ?_
        refine su h167 ((wT h167 rfl rfl rfl).trans hc123) rfl rfl rfl fun a170 h169 => ?_
        refine su h169 ((wT h169 rfl rfl rfl).trans hc123) rfl rfl rfl fun a172 h171 => ?_
        refine su h171 ((wT h171 rfl rfl rfl).trans hc123) rfl rfl rfl fun a174 h173 => ?_
        refine su h173 ((wT h173 rfl rfl rfl).trans hc123) rfl rfl rfl fun a176 h175 => ?_
        refine sv h175 ((wF h175 rfl rfl rfl).trans (bNotF (bNotT hc33))) rfl rfl rfl (v := .bool false) (rpickE h175 rfl (E := (eqA r ev.r)) (b := false) rfl hc123 rfl) fun a178 h177 => ?_
        refine sv h177 (wanted_none rfl) rfl rfl rfl (v := .bool false) (rpickE h177 rfl (E := (!(decide (ev.told > 0)))) (b := false) rfl (bNotT hc33) rfl) fun a180 h179 => ?_
        have h181 := h179.subs (l' := [(50, _), (49, _), (48, _), (47, _), (46, _), (45, _), (44, _), (43, _), (42, _), (41, _), (40, _), (39, _), (38, _), (37, _), (36, _), (6, _), (5, _), (3, _), (0, _), (1, _)]) rfl
        clear h179 h111 h113 h115 h117 h119 h121 h161 h163 h165 h167 h169 h171 h173 h175 h177 a110 a114 a116 a118 a120 a122 a162 a164 a166 a168 a170 a172 a174 a176 a178
        refine sv h181 (wanted_none rfl) rfl rfl rfl (v := .bool false) (rassign h181 rfl rfl) fun a183 h182 => ?_
        have h184 := h182.subs (l' := [(4, _), (6, _), (5, _), (3, _), (0, _), (1, _)]) rfl
        clear h182 h181 a180
        refine wpList_nil ?_
        refine hK112 _ _ ?_
        refine wp_ret ?_
        try simp only [Exit.then, Exit.inBlock]
        refine retR (v := .bool false) (res1 h184 rfl rfl) h184.defs ?_
        exact ⟨Ax90, congrArg Value.bool (fitB_bad (by omega) hc123).symm, Sep.tail_un (xs := [_, _, _, _]) ((s106.pick [2, 3, 4, 1, 6] (by decide) rfl) : Sep _ [blkC cf 89 [.pointer (some ⟨(Ax90.ad 0), 0, none⟩), .map (some ob)], nodX G Ax90, mapC KO ob Ax90.C (opG G Ax90), ownC 0 9 1 ev.na ev.r.names.length ev.nc (ev.r.names.flatMap sE), Ch.many R]), hA97⟩
  · skip
    have hp185 : ¬ (ev.told > 0) := (of_decide_eq_false hc33)
    refine su h31 ((wT h31 rfl rfl rfl).trans hc33) rfl rfl rfl fun a187 h186 => ?_
    refine su h186 ((wT h186 rfl rfl rfl).trans hc33) rfl rfl rfl fun a189 h188 => ?_
    refine su h188 ((wT h188 rfl rfl rfl).trans hc33) rfl rfl rfl fun a191 h190 => ?_
    refine su h190 ((wT h190 rfl rfl rfl).trans hc33) rfl rfl rfl fun a193 h192 => ?_
    refine sv h192 (wanted_none rfl) rfl rfl rfl (v := .bool false) (rpickE h192 rfl (E := (decide (ev.told > 0))) (b := false) rfl hc33 rfl) fun a195 h194 => ?_
    refine sv h194 (wanted_none rfl) rfl rfl rfl (v := .bool false) (rassign h194 rfl rfl) fun a197 h196 => ?_
    have h198 := h196.subs (l' := [(19, _), (6, _), (5, _), (4, _), (3, _), (0, _), (1, _)]) rfl
    clear h196 h23 h25 h29 h31 h186 h188 h190 h192 h194 a22 a26 a30 a32 a187 a189 a191 a193 a195
    refine wpList_nil ?_
    refine hK28 _ _ ?_
    refine wp_condS h198 rfl rfl ?_
    simp only [Bool.false_eq_true, if_false]
    have h199 := h198.subs (l' := [(6, _), (5, _), (4, _), (3, _), (0, _), (1, _)]) rfl
    clear h198
    refine wp_seq_k fun K200 hK200 => ?_
    refine wp_region_lit ?_
    refine sv h199 (wanted_none rfl) rfl rfl rfl (v := .bool (decide (ev.told > 0))) (rmove h199 rfl rfl) fun a202 h201 => ?_
    refine sv h201 (wanted_none rfl) rfl rfl rfl (v := .bool (!(decide (ev.told > 0)))) (rnot h201 rfl (b := decide (ev.told > 0)) rfl) fun a204 h203 => ?_
    refine sv h203 (wanted_none rfl) rfl rfl rfl (v := .bool (!(decide (ev.told > 0)))) (rmove h203 rfl rfl) fun a206 h205 => ?_
    refine sv h205 ((wT h205 rfl rfl rfl).trans (bNotF hc33)) rfl rfl rfl (v := .pointer (some ⟨g4, 13, none⟩)) (rfa h205 rfl rfl (fun w => fa_api_Event_z8_6 g4 0 w)) fun a208 h207 => ?_
    refine sv h207 ((wT h207 rfl rfl rfl).trans (bNotF hc33)) rfl rfl rfl (v := .pointer (some ⟨g4, 13, none⟩)) (rfa h207 rfl rfl (fun w => fa_api_Reply_z8_0 g4 13 w)) fun a210 h209 => ?_
    refine sw h209 ((wT h209 rfl rfl rfl).trans (bNotF hc33)) rfl rfl rfl (v := .int .i64 ev.r.e) (rld h209 rfl rfl (ldB Tryz.underlying23 rfl (s8.get 0 rfl : Blk _ _ _ _) rfl)) fun a212 h211 => ?_
    refine sv h211 ((wT h211 rfl rfl rfl).trans (bNotF hc33)) rfl rfl rfl (v := .bool (decide (ev.r.e ≠ 0))) (rbin h211 rfl rfl rfl (cNe _ _ _ _ rfl)) fun a214 h213 => ?_
    refine sv h213 (wanted_none rfl) rfl rfl rfl (v := .bool (decide (ev.r.e ≠ 0))) (rpickE h213 rfl (E := (!(decide (ev.told > 0)))) (b := true) rfl (bNotF hc33) rfl) fun a216 h215 => ?_
    refine sv h215 (wanted_none rfl) rfl rfl rfl (v := .bool (decide (ev.r.e ≠ 0))) (rassign h215 rfl rfl) fun a218 h217 => ?_
    have h219 := h217.subs (l' := [(27, _), (6, _), (5, _), (4, _), (3, _), (0, _), (1, _)]) rfl
    clear h217 h199 h201 h203 h205 h207 h209 h211 h213 h215 a197 a202 a204 a206 a208 a210 a212 a214 a216
    refine wpList_nil ?_
    refine hK200 _ _ ?_
    rcases Bool.eq_false_or_eq_true (decide (ev.r.e ≠ 0)) with hc220 | hc220
    · skip
      have hp221 : ev.r.e ≠ 0 := (of_decide_eq_true hc220)
      exfalso; omega
    · skip
      have hp222 : ¬ (ev.r.e ≠ 0) := (of_decide_eq_false hc220)
      refine wp_condS h219 rfl hc220 ?_
      simp only [Bool.false_eq_true, if_false]
      have h223 := h219.subs (l' := [(6, _), (5, _), (4, _), (3, _), (0, _), (1, _)]) rfl
      clear h219
      have s225 := s8.drew
      refine wp_region_held_drew (S := fun w' => Sep w' [blkC g4 35 [.int .i64 ev.cl, .int .i64 ev.num, .int .i64 ev.x.kind, .string (strB ev.x.p1), .string (strB ev.x.p2), .int .i64 ev.x.fl, .int .i64 ev.x.fd, .int .i64 ev.x.off, .int .i64 ev.x.n, .string (strB ev.x.data), .int .i64 ev.asked, .int .i64 ev.done, .int .i64 ev.told, .int .i64 ev.r.e, .int .i64 ev.r.fd, .string (strB ev.r.data), .slice ev.na ev.r.names.length ev.nc, .int .i64 ev.r.kind, .int .i64 ev.r.links, .int .i64 ev.r.size], ownC 0 9 1 ev.na ev.r.names.length ev.nc (ev.r.names.flatMap sE), Ch.many R]) (by kernel_rfl) (s225.pick [0, 4, 5] (by decide) rfl) (fun hq224 => ?_)
      refine tv hq224 h223 0 rfl rfl rfl rfl (by kernel_rfl) (by kernel_rfl) (by kernel_rfl) (fun _ _ _ _ h => h) (wanted_none rfl) (v := .pointer (some ⟨cf, 0, none⟩)) (fun w1 _ => (rmove h223 rfl rfl) w1) fun a227 h226 => ?_
      refine tv hq224 h226 1 rfl rfl rfl rfl (by kernel_rfl) (by kernel_rfl) (by kernel_rfl) (fun _ _ _ _ h => h) (wanted_none rfl) (v := .pointer (some ⟨g4, 0, none⟩)) (fun w1 _ => (rfa h226 rfl rfl (fun w => fa_api_Event_z8_0 g4 0 w)) w1) fun a229 h228 => ?_
      refine tv hq224 h228 2 rfl rfl rfl rfl (by kernel_rfl) (by kernel_rfl) (by kernel_rfl) (fun _ _ _ _ h => h) (wanted_none rfl) (v := .int .i64 ev.cl) (fun w1 hSw => (rld h228 rfl rfl (ldB Tryz.underlying3 rfl (hSw.get 0 rfl : Blk _ _ _ _) rfl))) fun a231 h230 => ?_
      refine tv hq224 h230 3 rfl rfl rfl rfl (by kernel_rfl) (by kernel_rfl) (by kernel_rfl) (fun _ _ _ _ h => h) (wanted_none rfl) (v := .pointer (some ⟨g4, 2, none⟩)) (fun w1 _ => (rfa h230 rfl rfl (fun w => fa_api_Event_z8_2 g4 0 w)) w1) fun a233 h232 => ?_
      refine tv hq224 h232 4 rfl rfl rfl rfl (by kernel_rfl) (by kernel_rfl) (by kernel_rfl) (fun _ _ _ _ h => h) (wanted_none rfl) (v := .agg #[.int .i64 ev.x.kind, .string (strB ev.x.p1), .string (strB ev.x.p2), .int .i64 ev.x.fl, .int .i64 ev.x.fd, .int .i64 ev.x.off, .int .i64 ev.x.n, .string (strB ev.x.data)]) (fun w1 hSw => (rld h232 rfl rfl (ldA Tryz.underlying33 rfl (n := 8) (by kernel_rfl) (hSw.get 0 rfl : Blk _ _ _ _) rfl rfl))) fun a235 h234 => ?_
      refine tv hq224 h234 6 rfl rfl rfl rfl (by kernel_rfl) (by kernel_rfl) (by kernel_rfl) (fun _ _ _ _ h => h) (wanted_none rfl) (v := .pointer (some ⟨g4, 13, none⟩)) (fun w1 _ => (rfa h234 rfl rfl (fun w => fa_api_Event_z8_6 g4 0 w)) w1) fun a237 h236 => ?_
      refine tv hq224 h236 7 rfl rfl rfl rfl (by kernel_rfl) (by kernel_rfl) (by kernel_rfl) (fun _ _ _ _ h => h) (wanted_none rfl) (v := .agg #[.int .i64 ev.r.e, .int .i64 ev.r.fd, .string (strB ev.r.data), .slice ev.na ev.r.names.length ev.nc, .int .i64 ev.r.kind, .int .i64 ev.r.links, .int .i64 ev.r.size]) (fun w1 hSw => (rld h236 rfl rfl (ldA Tryz.underlying28 rfl (n := 7) (by kernel_rfl) (hSw.get 0 rfl : Blk _ _ _ _) rfl rfl))) fun a239 h238 => ?_
      refine to_ 5 rfl (wanted_none rfl) (by kernel_rfl) fun K250 hK250 => xcall h238 rfl rfl rfl (xs := [.tmp 10, .tmp 12, .tmp 14]) rfl cp_posix_Fs_Do_z8 rfl (vs := [.pointer (some ⟨cf, 0, none⟩), .int .i64 ev.cl, .agg #[.int .i64 ev.x.kind, .string (strB ev.x.p1), .string (strB ev.x.p2), .int .i64 ev.x.fl, .int .i64 ev.x.fd, .int .i64 ev.x.off, .int .i64 ev.x.n, .string (strB ev.x.data)]]) rfl (args := #[.pointer (some ⟨cf, 0, none⟩), .int .i64 ev.cl, .agg #[.int .i64 ev.x.kind, .string (strB ev.x.p1), .string (strB ev.x.p2), .int .i64 ev.x.fl, .int .i64 ev.x.fd, .int .i64 ev.x.off, .int .i64 ev.x.n, .string (strB ev.x.data)]]) rfl (doQ_c (cf := cf) (A := A) (F := F) (n := n) (R := [blkC g4 35 [.int .i64 ev.cl, .int .i64 ev.num, .int .i64 ev.x.kind, .string (strB ev.x.p1), .string (strB ev.x.p2), .int .i64 ev.x.fl, .int .i64 ev.x.fd, .int .i64 ev.x.off, .int .i64 ev.x.n, .string (strB ev.x.data), .int .i64 ev.asked, .int .i64 ev.done, .int .i64 ev.told, .int .i64 ev.r.e, .int .i64 ev.r.fd, .string (strB ev.r.data), .slice ev.na ev.r.names.length ev.nc, .int .i64 ev.r.kind, .int .i64 ev.r.links, .int .i64 ev.r.size], ownC 0 9 1 ev.na ev.r.names.length ev.nc (ev.r.names.flatMap sE), Ch.many R]) (x := ev.x) (G := G) (r := r) ((s225.pick [1, 2, 3, 0, 4, 5] (by decide) rfl) : Sep _ [blkC cf 89 [.pointer (some ⟨(A.ad 0), 0, none⟩), .map (some ob)], nodX F A, mapC KO ob A.C (opG F A), blkC g4 35 [.int .i64 ev.cl, .int .i64 ev.num, .int .i64 ev.x.kind, .string (strB ev.x.p1), .string (strB ev.x.p2), .int .i64 ev.x.fl, .int .i64 ev.x.fd, .int .i64 ev.x.off, .int .i64 ev.x.n, .string (strB ev.x.data), .int .i64 ev.asked, .int .i64 ev.done, .int .i64 ev.told, .int .i64 ev.r.e, .int .i64 ev.r.fd, .string (strB ev.r.data), .slice ev.na ev.r.names.length ev.nc, .int .i64 ev.r.kind, .int .i64 ev.r.links, .int .i64 ev.r.size], ownC 0 9 1 ev.na ev.r.names.length ev.nc (ev.r.names.flatMap sE), Ch.many R]) h hn h1 h2 h3 hxf hd) fun a245 v246 w247 r248 h244 => ?_
      obtain ⟨Ax241, sax242, scx243, rfl, s249, hA248⟩ := r248
      refine hK250 _ _ (s249.pick [4, 5, 6] (by decide) rfl) fun hq240 => ?_
      clear hK250 K250
      refine to_ 8 rfl (wanted_none rfl) (by kernel_rfl) fun K258 hK258 => xcall h244 rfl rfl rfl (xs := [.tmp 15, .tmp 17]) rfl cp_audit_equal_z8 rfl (vs := [.agg #[.int .i64 r.e, .int .i64 r.fd, .string (strB r.data), .slice sax242 r.names.length scx243, .int .i64 r.kind, .int .i64 r.links, .int .i64 r.size], .agg #[.int .i64 ev.r.e, .int .i64 ev.r.fd, .string (strB ev.r.data), .slice ev.na ev.r.names.length ev.nc, .int .i64 ev.r.kind, .int .i64 ev.r.links, .int .i64 ev.r.size]]) rfl (args := #[.agg #[.int .i64 r.e, .int .i64 r.fd, .string (strB r.data), .slice sax242 r.names.length scx243, .int .i64 r.kind, .int .i64 r.links, .int .i64 r.size], .agg #[.int .i64 ev.r.e, .int .i64 ev.r.fd, .string (strB ev.r.data), .slice ev.na ev.r.names.length ev.nc, .int .i64 ev.r.kind, .int .i64 ev.r.links, .int .i64 ev.r.size]]) rfl (equal_s (r := r) (s := ev.r) (R := [blkC cf 89 [.pointer (some ⟨(Ax241.ad 0), 0, none⟩), .map (some ob)], nodX G Ax241, mapC KO ob Ax241.C (opG G Ax241), blkC g4 35 [.int .i64 ev.cl, .int .i64 ev.num, .int .i64 ev.x.kind, .string (strB ev.x.p1), .string (strB ev.x.p2), .int .i64 ev.x.fl, .int .i64 ev.x.fd, .int .i64 ev.x.off, .int .i64 ev.x.n, .string (strB ev.x.data), .int .i64 ev.asked, .int .i64 ev.done, .int .i64 ev.told, .int .i64 ev.r.e, .int .i64 ev.r.fd, .string (strB ev.r.data), .slice ev.na ev.r.names.length ev.nc, .int .i64 ev.r.kind, .int .i64 ev.r.links, .int .i64 ev.r.size], Ch.many R]) ((s249.pick [0, 5, 1, 2, 3, 4, 6] (by decide) rfl) : Sep _ [ownC 0 9 1 sax242 r.names.length scx243 (r.names.flatMap sE), ownC 0 9 1 ev.na ev.r.names.length ev.nc (ev.r.names.flatMap sE), blkC cf 89 [.pointer (some ⟨(Ax241.ad 0), 0, none⟩), .map (some ob)], nodX G Ax241, mapC KO ob Ax241.C (opG G Ax241), blkC g4 35 [.int .i64 ev.cl, .int .i64 ev.num, .int .i64 ev.x.kind, .string (strB ev.x.p1), .string (strB ev.x.p2), .int .i64 ev.x.fl, .int .i64 ev.x.fd, .int .i64 ev.x.off, .int .i64 ev.x.n, .string (strB ev.x.data), .int .i64 ev.asked, .int .i64 ev.done, .int .i64 ev.told, .int .i64 ev.r.e, .int .i64 ev.r.fd, .string (strB ev.r.data), .slice ev.na ev.r.names.length ev.nc, .int .i64 ev.r.kind, .int .i64 ev.r.links, .int .i64 ev.r.size], Ch.many R]) hrn hsn) fun a253 v254 w255 r256 h252 => ?_
      obtain ⟨rfl, s257⟩ := r256
      refine hK258 _ _ (s257.pick [5, 1, 6] (by decide) rfl) fun hq251 => ?_
      clear hK258 K258
      have h259 := h252.subs (l' := [(18, _), (15, _), (17, _), (16, _), (14, _), (13, _), (12, _), (11, _), (10, _), (5, _), (4, _), (3, _), (0, _), (1, _)]) rfl
      clear h252 h223 h226 h228 h230 h232 h234 h236 h238 h244 a218 a227 a229 a231 a233 a235 a237 a239 a245
      refine tv hq251 h259 9 rfl rfl rfl rfl (by kernel_rfl) (by kernel_rfl) (by kernel_rfl) (fun _ _ _ _ h => h) (wanted_none rfl) (v := .bool (eqA r ev.r)) (fun w1 _ => (rassign h259 rfl rfl) w1) fun a261 h260 => ?_
      have h262 := h260.subs (l' := [(6, _), (5, _), (4, _), (3, _), (0, _), (1, _)]) rfl
      clear h260 h259 a253
      refine wpAnyH_done (by kernel_rfl) ?_ _
      refine hK27 _ _ ?_
      refine wp_seq_k fun K263 hK263 => ?_
      refine wp_region_lit ?_
      refine sv h262 (wanted_none rfl) rfl rfl rfl (v := .bool (decide (ev.told > 0))) (rmove h262 rfl rfl) fun a265 h264 => ?_
      refine sv h264 (wanted_none rfl) rfl rfl rfl (v := .bool (!(decide (ev.told > 0)))) (rnot h264 rfl (b := decide (ev.told > 0)) rfl) fun a267 h266 => ?_
      refine sv h266 (wanted_none rfl) rfl rfl rfl (v := .bool (!(decide (ev.told > 0)))) (rmove h266 rfl rfl) fun a269 h268 => ?_
      refine su h268 ((wF h268 rfl rfl rfl).trans (bNotT (bNotF hc33))) rfl rfl rfl fun a271 h270 => ?_
      refine su h270 ((wF h270 rfl rfl rfl).trans (bNotT (bNotF hc33))) rfl rfl rfl fun a273 h272 => ?_
      refine su h272 (wgu h272 rfl rfl rfl) rfl rfl rfl fun a275 h274 => ?_
      refine su h274 (wgu h274 rfl rfl rfl) rfl rfl rfl fun a277 h276 => ?_
      refine su h276 (wgu h276 rfl rfl rfl) rfl rfl rfl fun a279 h278 => ?_
      refine su h278 (wgu h278 rfl rfl rfl) rfl rfl rfl fun a281 h280 => ?_
      refine su h280 (wgu h280 rfl rfl rfl) rfl rfl rfl fun a283 h282 => ?_
      refine su h282 (wgu h282 rfl rfl rfl) rfl rfl rfl fun a285 h284 => ?_
      refine su h284 (wgu h284 rfl rfl rfl) rfl rfl rfl fun a287 h286 => ?_
      refine su h286 (wgu h286 rfl rfl rfl) rfl rfl rfl fun a289 h288 => ?_
      refine su h288 ((wF h288 rfl rfl rfl).trans (bNotT (bNotF hc33))) rfl rfl rfl fun a291 h290 => ?_
      refine sv h290 (wanted_none rfl) rfl rfl rfl (v := .bool true) (rpickE h290 rfl (E := (!(decide (ev.told > 0)))) (b := true) rfl (bNotF hc33) rfl) fun a293 h292 => ?_
      have h294 := h292.subs (l' := [(50, _), (49, _), (48, _), (47, _), (46, _), (45, _), (44, _), (43, _), (42, _), (41, _), (40, _), (39, _), (38, _), (37, _), (36, _), (6, _), (5, _), (3, _), (0, _), (1, _)]) rfl
      clear h292 h262 h264 h266 h268 h270 h272 h274 h276 h278 h280 h282 h284 h286 h288 h290 a261 a265 a267 a269 a271 a273 a275 a277 a279 a281 a283 a285 a287 a289 a291
      refine sv h294 (wanted_none rfl) rfl rfl rfl (v := .bool true) (rassign h294 rfl rfl) fun a296 h295 => ?_
      have h297 := h295.subs (l' := [(4, _), (6, _), (5, _), (3, _), (0, _), (1, _)]) rfl
      clear h295 h294 a293
      refine wpList_nil ?_
      refine hK263 _ _ ?_
      refine wp_ret ?_
      try simp only [Exit.then, Exit.inBlock]
      refine retR (v := .bool true) (res1 h297 rfl rfl) h297.defs ?_
      exact ⟨Ax241, congrArg Value.bool (fitB_no (by omega)).symm, Sep.tail_un (xs := [_, _, _, _]) ((s257.pick [2, 3, 4, 1, 6] (by decide) rfl) : Sep _ [blkC cf 89 [.pointer (some ⟨(Ax241.ad 0), 0, none⟩), .map (some ob)], nodX G Ax241, mapC KO ob Ax241.C (opG G Ax241), ownC 0 9 1 ev.na ev.r.names.length ev.nc (ev.r.names.flatMap sE), Ch.many R]), hA248⟩

end Go.Proofs.YtpdjnefgkcmdnaaGreatDoor
/- stage 25: the order (sx/au.py) -/
namespace Go.Proofs.YtpdjnefgkcmdnaaGreatDoor
open Go.RowKit
set_option linter.unusedSimpArgs false
set_option linter.unusedVariables false
set_option maxRecDepth 100000

theorem range_getD {n j : Nat} (hj : j < n) : (List.range n).getD j 0 = j := by
  rw [List.getD_eq_getElem?_getD, List.getElem?_range hj]; rfl
def itC (b : Nat) (L : List EvM) (k : Nat) : List Value := [.int .i64 (L.getD k nilEv).done, .int .i64 0, .pointer (some ⟨b, k * 20, none⟩)]
theorem itC_len (b : Nat) (L : List EvM) (k : Nat) : (itC b L k).length = 3 := rfl
theorem EIt : ElemT Tryz.prog 64 68 3 24 := elemT Tryz.underlying64 (z := .agg #[.int .i64 0, .int .i64 0, .pointer none]) (by kernel_rfl) rfl (by omega)
theorem cmpI_up {x y : Int} (h : y ≤ x) : ¬ cmpI x y < 0 := by unfold cmpI; (repeat' split) <;> omega

theorem i_clear : ∃ i, Tryz.prog.info? 68 = some i ∧ i.zero = some (.agg #[.int .i64 0, .int .i64 0, .pointer none]) ∧ i.size = 3 := by
  have hi : (Tryz.prog.info? 68).map (fun i => (i.zero, i.size)) = some (some (.agg #[.int .i64 0, .int .i64 0, .pointer none]), 3) := by kernel_rfl
  cases h : Tryz.prog.info? 68 with
  | none => rw [h] at hi; cases hi
  | some i =>
    rw [h] at hi
    have := Option.some.inj hi
    exact ⟨i, rfl, (Prod.mk.inj this).1, (Prod.mk.inj this).2⟩
/-- a list of one item is cleared -/
theorem xclear1 {o : Oper} {a : Act} {N : Nat} {l : List (Nat × Value)} {w : World} {cs : List Ch} {K : Act → World → Prop} {Q : Exit → Act → World → Prop} (h : Kn N l a) (hd : o.dst = none) {x : Operand} (ho : o.op = .call { callee := .builtin .clear, args := #[x], argTypes := #[64] }) (hS : Sep w cs) (i : Nat) {ad : Option Addr} {q c : Nat} {L : List Value}
    (hi : cs[i]? = some (ownC 0 68 3 ad 1 c L)) (ha : ad = some ⟨q, 0, none⟩) (hx : opv l x = some (.slice ad 1 c)) (k : ∀ a' w', Kn N l a' → Sep w' (cs.set i (ownC 0 68 3 ad 1 c (splice L 0 [.int .i64 0, .int .i64 0, .pointer none]))) → K a' w') : Oper.wp Tryz.prog o a w K Q := by
  subst ha
  have hO : Own w 0 68 3 (some ⟨q, 0, none⟩) 1 c L := hS.get i hi
  obtain ⟨L', hb, hle, hB, hk⟩ := own_splice hO
  obtain ⟨h2, h3⟩ := Blk.setCells [.int .i64 0, .int .i64 0, .pointer none] 0 w L' hb (by simpa using hle)
  have hown := hk _ 0 [.int .i64 0, .int .i64 0, .pointer none] (by decide) h2
  have hth := hb.there 0 3 (by omega)
  have hst := run_storeCells_cells (P := Tryz.prog) q 0 [.int .i64 0, .int .i64 0, .pointer none] 0 w (fun j hj => by have := (hth j hj).1; simpa using this) (fun j hj => by have := (hth j hj).2; simpa using this) (by decide)
  obtain ⟨ti, i1, i2, i3⟩ := i_clear
  have hu := Tryz.underlying64
  refine xval0 (w' := w.setCells q 0 [.int .i64 0, .int .i64 0, .pointer none]) h hd (v := .tuple #[]) ?_ fun a' h' => k a' _ h' (hS.upd i hi (Turns.of_grown (X := fun k => k = q) h3 rfl) (fun k _ hk => by subst hk; rfl) (c' := ownC 0 68 3 (some ⟨q, 0, none⟩) 1 c (splice L 0 [.int .i64 0, .int .i64 0, .pointer none])) hown (fun k hk => .inl hk))
  refine rbuiltin h (xs := [x]) (vs := [.slice (some ⟨q, 0, none⟩) 1 c]) ho (by simp [hx]) fun cs => ?_
  have hz : (Builtin.zeroCells #[.int .i64 0, .int .i64 0, .pointer none] 1).toList = [.int .i64 0, .int .i64 0, .pointer none] := by kernel_rfl
  have hc : (Builtin.clear_ #[64] o.type #[.slice (some ⟨q, 0, none⟩) 1 c]).run Tryz.prog w = .ok (.tuple #[]) (w.setCells q 0 [.int .i64 0, .int .i64 0, .pointer none]) := by
    simp only [Builtin.clear_, run_underlying hu, Sem.run_bind, Result.andThen_ok, zeroValue, typeInfo, Value.cells]
    simp [i1, i2, hst, hz, Value.cells]
  show (builtin .clear #[64] o.type cs #[.slice (some ⟨q, 0, none⟩) 1 c]).run Tryz.prog w = _
  simp only [builtin, Sem.run_bind, hc]
  rfl

theorem slice0_s {ad : Option Addr} {q c : Nat} (ha : ad = some ⟨q, 0, none⟩) (hc : 1 ≤ c) (w : World) : (Instr.sliceAt 64 (.slice ad 1 c) (some (.int .i64 0)) none none).run Tryz.prog w = .ok (.slice ad 1 c) w := by
  subst ha
  obtain ⟨ti, i1, i2, i3⟩ := i_clear
  have i4 : ¬ c = 0 := by omega
  have i5 : ¬ c < 1 := by omega
  simp [Instr.sliceAt, Instr.slice, Instr.sliceBounds, Instr.sliceBound, asIntOf, underlying, Tryz.underlying64, Sem.run_bind, sizeOf, typeInfo, i1, i3, Addr.add, i4, i5, hc]

theorem fa_audit_item_w1_0 (g off : Nat) (w : World) : (Instr.fieldAt 68 (.pointer (some ⟨g, off, none⟩)) 0).run Tryz.prog w = .ok (.pointer (some ⟨g, off + 0, none⟩)) w := rfl
theorem fa_audit_item_w2_0 (g off : Nat) (w : World) : (Instr.fieldAt 68 (.pointer (some ⟨g, off, none⟩)) 0).run Tryz.prog w = .ok (.pointer (some ⟨g, off + 0, none⟩)) w := rfl
theorem cp_cmp_Compare_int_w2 (args : Array Value) (w : World) : (callFunc 42 args).run Tryz.prog w = .ok (.enter 42 args) w := by
  have h := Tryz.func42
  go_simp
theorem cp_audit_order_1_w3g (args : Array Value) (w : World) : (callFunc 39 args).run Tryz.prog w = .ok (.enter 39 args) w := by
  have h := Tryz.func39
  go_simp
theorem cp_audit_order_1_w3b (args : Array Value) (w : World) : (callFunc 39 args).run Tryz.prog w = .ok (.enter 39 args) w := by
  have h := Tryz.func39
  go_simp
theorem cp_slices_IndexFunc_audit_item_audit_item_w4 (args : Array Value) (w : World) : (callFunc 47 args).run Tryz.prog w = .ok (.enter 47 args) w := by
  have h := Tryz.func47
  go_simp
theorem cp_audit_order_2_w5 (args : Array Value) (w : World) : (callFunc 41 args).run Tryz.prog w = .ok (.enter 41 args) w := by
  have h := Tryz.func41
  go_simp
theorem cp_slices_insertionSortCmpFunc_audit_item_w6 (args : Array Value) (w : World) : (callFunc 53 args).run Tryz.prog w = .ok (.enter 53 args) w := by
  have h := Tryz.func53
  go_simp
theorem cp_slices_stableCmpFunc_audit_item_w7 (args : Array Value) (w : World) : (callFunc 48 args).run Tryz.prog w = .ok (.enter 48 args) w := by
  have h := Tryz.func48
  go_simp
theorem cp_slices_IndexFunc_audit_item_audit_item_w8 (args : Array Value) (w : World) : (callFunc 47 args).run Tryz.prog w = .ok (.enter 47 args) w := by
  have h := Tryz.func47
  go_simp

set_option maxHeartbeats 4000000 in
theorem below1_s {w : World} {R : List Ch} {mo cl : Int} {p : Option Addr} (hS0 : Sep w R) :
    CallsR Tryz.prog 39 #[.agg #[.int .i64 mo, .int .i64 cl, .pointer p]] w (fun v w' => v = .bool (decide (mo < 1)) ∧ Sep w' R) := by
  have hS : Sep w [Ch.many R] := Sep.tail_many (xs := []) hS0; clear hS0
  refine enterR Tryz.func39 rfl (N := 6) Tryz.ntmps39 (by show 1 ≤ 6; decide) [(0, .agg #[.int .i64 mo, .int .i64 cl, .pointer p])] rfl fun a2 h1 => ?_
  refine wp_seq_k fun K3 hK3 => ?_
  refine wp_region_lit ?_
  refine so (wanted_none rfl) fun K11 hK11 => xbox h1 rfl rfl rfl rfl rfl (z := [.int .i64 mo, .int .i64 cl, .pointer p]) rfl hS fun a6 g4 w7 h5 s8 b9 e10 => hK11 _ _ ?_
  clear hK11 K11
  clear b9 e10
  refine sv h5 (wanted_none rfl) rfl rfl rfl (v := .bool false) (rassign h5 rfl rfl) fun a13 h12 => ?_
  refine wpList_nil ?_
  refine hK3 _ _ ?_
  refine wp_seq_k fun K14 hK14 => ?_
  refine wp_region_lit ?_
  refine sv h12 (wanted_none rfl) rfl rfl rfl (v := .pointer (some ⟨g4, 0, none⟩)) (rfa h12 rfl rfl (fun w => fa_audit_item_w1_0 g4 0 w)) fun a16 h15 => ?_
  refine sw h15 (wanted_none rfl) rfl rfl rfl (v := .int .i64 mo) (rld h15 rfl rfl (ldB Tryz.underlying3 rfl (s8.get 0 rfl : Blk _ _ _ _) rfl)) fun a18 h17 => ?_
  refine sv h17 (wanted_none rfl) rfl rfl rfl (v := .bool (decide (mo < 1))) (rbin h17 rfl rfl rfl (cLt _ _ _ _ rfl)) fun a20 h19 => ?_
  have h21 := h19.subs (l' := [(5, _), (4, _), (3, _), (1, _), (0, _)]) rfl
  clear h19 h1 h5 h12 h15 h17 a2 a6 a13 a16 a18
  refine sv h21 (wanted_none rfl) rfl rfl rfl (v := .bool (decide (mo < 1))) (rassign h21 rfl rfl) fun a23 h22 => ?_
  have h24 := h22.subs (l' := [(2, _), (1, _), (0, _)]) rfl
  clear h22 h21 a20
  refine wpList_nil ?_
  refine hK14 _ _ ?_
  refine wp_ret ?_
  try simp only [Exit.then, Exit.inBlock]
  refine retR (v := .bool (decide (mo < 1))) (res1 h24 rfl rfl) h24.defs ?_
  exact ⟨rfl, Sep.tail_un (xs := []) ((s8.pick [1] (by decide) rfl) : Sep _ [Ch.many R])⟩

set_option maxHeartbeats 4000000 in
theorem cmp_s {w : World} {R : List Ch} {mo cl mo2 cl2 : Int} {p p2 : Option Addr} (hS0 : Sep w R) :
    CallsR Tryz.prog 41 #[.agg #[.int .i64 mo, .int .i64 cl, .pointer p], .agg #[.int .i64 mo2, .int .i64 cl2, .pointer p2]] w (fun v w' => v = .int .i64 (cmpI mo mo2) ∧ Sep w' R) := by
  have hS : Sep w [Ch.many R] := Sep.tail_many (xs := []) hS0; clear hS0
  refine enterR Tryz.func41 rfl (N := 10) Tryz.ntmps41 (by show 2 ≤ 10; decide) [(0, .agg #[.int .i64 mo, .int .i64 cl, .pointer p]), (1, .agg #[.int .i64 mo2, .int .i64 cl2, .pointer p2])] rfl fun a2 h1 => ?_
  refine wp_seq_k fun K3 hK3 => ?_
  refine wp_region_lit ?_
  refine so (wanted_none rfl) fun K11 hK11 => xbox h1 rfl rfl rfl rfl rfl (z := [.int .i64 mo, .int .i64 cl, .pointer p]) rfl hS fun a6 g4 w7 h5 s8 b9 e10 => hK11 _ _ ?_
  clear hK11 K11
  clear b9 e10
  refine so (wanted_none rfl) fun K19 hK19 => xbox h5 rfl rfl rfl rfl rfl (z := [.int .i64 mo2, .int .i64 cl2, .pointer p2]) rfl s8 fun a14 g12 w15 h13 s16 b17 e18 => hK19 _ _ ?_
  clear hK19 K19
  clear b17 e18
  refine sv h13 (wanted_none rfl) rfl rfl rfl (v := .int .i64 0) (rassign h13 rfl rfl) fun a21 h20 => ?_
  refine wpList_nil ?_
  refine hK3 _ _ ?_
  refine wp_seq_k fun K22 hK22 => ?_
  refine wp_region_lit ?_
  refine sv h20 (wanted_none rfl) rfl rfl rfl (v := .pointer (some ⟨g4, 0, none⟩)) (rfa h20 rfl rfl (fun w => fa_audit_item_w2_0 g4 0 w)) fun a24 h23 => ?_
  refine sw h23 (wanted_none rfl) rfl rfl rfl (v := .int .i64 mo) (rld h23 rfl rfl (ldB Tryz.underlying3 rfl (s16.get 1 rfl : Blk _ _ _ _) rfl)) fun a26 h25 => ?_
  refine sv h25 (wanted_none rfl) rfl rfl rfl (v := .pointer (some ⟨g12, 0, none⟩)) (rfa h25 rfl rfl (fun w => fa_audit_item_w2_0 g12 0 w)) fun a28 h27 => ?_
  refine sw h27 (wanted_none rfl) rfl rfl rfl (v := .int .i64 mo2) (rld h27 rfl rfl (ldB Tryz.underlying3 rfl (s16.get 0 rfl : Blk _ _ _ _) rfl)) fun a30 h29 => ?_
  refine so (wanted_none rfl) fun K37 hK37 => xcall h29 rfl rfl rfl (xs := [.tmp 6, .tmp 8]) rfl cp_cmp_Compare_int_w2 rfl (vs := [.int .i64 mo, .int .i64 mo2]) rfl (args := #[.int .i64 mo, .int .i64 mo2]) rfl (compare_s (R := [blkC g12 68 [.int .i64 mo2, .int .i64 cl2, .pointer p2], blkC g4 68 [.int .i64 mo, .int .i64 cl, .pointer p], Ch.many R]) (x := mo) (y := mo2) (s16 : Sep _ [blkC g12 68 [.int .i64 mo2, .int .i64 cl2, .pointer p2], blkC g4 68 [.int .i64 mo, .int .i64 cl, .pointer p], Ch.many R])) fun a32 v33 w34 r35 h31 => hK37 _ _ ?_
  clear hK37 K37
  obtain ⟨rfl, s36⟩ := r35
  have h38 := h31.subs (l' := [(9, _), (8, _), (7, _), (6, _), (5, _), (3, _), (2, _), (0, _), (1, _)]) rfl
  clear h31 h1 h5 h13 h20 h23 h25 h27 h29 a2 a6 a14 a21 a24 a26 a28 a30
  refine sv h38 (wanted_none rfl) rfl rfl rfl (v := .int .i64 (cmpI mo mo2)) (rassign h38 rfl rfl) fun a40 h39 => ?_
  have h41 := h39.subs (l' := [(4, _), (3, _), (2, _), (0, _), (1, _)]) rfl
  clear h39 h38 a32
  refine wpList_nil ?_
  refine hK22 _ _ ?_
  refine wp_ret ?_
  try simp only [Exit.then, Exit.inBlock]
  refine retR (v := .int .i64 (cmpI mo mo2)) (res1 h41 rfl rfl) h41.defs ?_
  exact ⟨rfl, Sep.tail_un (xs := []) ((s36.pick [2] (by decide) rfl) : Sep _ [Ch.many R])⟩

set_option maxHeartbeats 4000000 in
theorem indexN_s {w : World} {R : List Ch} {b n c : Nat} {a : Option Addr} {L : List EvM} (hS0 : Sep w ([ownC 0 68 3 a (List.range n).length c ((List.range n).flatMap (itC b L))] ++ R)) (hn : n ≤ 1000) (hd : ∀ i, i < n → 1 ≤ (L.getD i nilEv).done)  :
    CallsR Tryz.prog 47 #[.slice a n c, .func (.func 39) #[] #[]] w (fun v w' => v = .int .i64 (-1) ∧ Sep w' ([ownC 0 68 3 a (List.range n).length c ((List.range n).flatMap (itC b L))] ++ R)) := by
  have hS : Sep w [ownC 0 68 3 a (List.range n).length c ((List.range n).flatMap (itC b L)), Ch.many R] := Sep.tail_many (xs := [_]) hS0; clear hS0
  have hr : (List.range n).length = n := List.length_range
  refine enterR Tryz.func47 rfl (N := 19) Tryz.ntmps47 (by show 2 ≤ 19; decide) [(0, .slice a n c), (1, .func (.func 39) #[] #[])] rfl fun a2 h1 => ?_
  refine wp_seq_k fun K3 hK3 => ?_
  refine wp_region_lit ?_
  refine sv h1 (wanted_none rfl) rfl rfl rfl (v := .int .i64 0) (rassign h1 rfl rfl) fun a5 h4 => ?_
  refine wpList_nil ?_
  refine hK3 _ _ ?_
  refine wp_seq_k fun K6 hK6 => ?_
  refine wp_seq_k fun K7 hK7 => ?_
  refine wp_region_lit ?_
  refine sv h4 (wanted_none rfl) rfl rfl rfl (v := .slice a n c) (rmove h4 rfl rfl) fun a9 h8 => ?_
  refine sv h8 (wanted_none rfl) rfl rfl rfl (v := .int .i64 (n : Int)) (rlenS h8 rfl rfl Tryz.underlying64) fun a11 h10 => ?_
  refine sv h10 (wanted_none rfl) rfl rfl rfl (v := .int .i64 0) (rmove h10 rfl rfl) fun a13 h12 => ?_
  have h14 := h12.subs (l' := [(8, _), (7, _), (4, _), (0, _), (1, _)]) rfl
  clear h12 h1 h4 h8 h10 a2 a5 a9 a11
  refine wpList_nil ?_
  refine hK7 _ _ ?_
  refine wp_block ?_
  refine wp_loop1 (fun (i : Nat) a' w' => Kn 19 [(8, .int .i64 (i : Int)), (7, .int .i64 (n : Int)), (4, .int .i64 0), (0, .slice a n c), (1, .func (.func 39) #[] #[])] a' ∧ Sep w' [ownC 0 68 3 a (List.range n).length c ((List.range n).flatMap (itC b L)), Ch.many R] ∧ (i ≤ n)) (fun (i : Nat) => n - i) 0 ⟨h14.subs rfl, hS, by omega⟩ ?_
  clear h14
  rintro i21 a15 w16 ⟨h17, s18, hi20⟩ K19 hK19
  refine wp_seq_k fun K22 hK22 => ?_
  refine wp_region_lit ?_
  refine sv h17 (wanted_none rfl) rfl rfl rfl (v := .bool (decide ((i21 : Int) < (n : Int)))) (rbin h17 rfl rfl rfl (cLt _ _ _ _ rfl)) fun a24 h23 => ?_
  refine wpList_nil ?_
  refine hK22 _ _ ?_
  refine wp_seq_k fun K25 hK25 => ?_
  rcases Bool.eq_false_or_eq_true (decide ((i21 : Int) < (n : Int))) with hc26 | hc26
  · skip
    have hp27 : (i21 : Int) < (n : Int) := (of_decide_eq_true hc26)
    refine wp_condS h23 rfl hc26 ?_
    simp only [if_true]
    have h28 := h23.subs (l' := [(8, _), (7, _), (4, _), (0, _), (1, _)]) rfl
    clear h23 h17 a15
    refine wp_skip ?_
    refine hK25 _ _ ?_
    refine wp_seq_k fun K29 hK29 => ?_
    refine wp_block ?_
    refine wp_seq_k fun K30 hK30 => ?_
    refine wp_region_lit ?_
    refine sv h28 (wanted_none rfl) rfl rfl rfl (v := .int .i64 (i21 : Int)) (rmove h28 rfl rfl) fun a32 h31 => ?_
    refine sv h31 (wanted_none rfl) rfl rfl rfl (v := .int .i64 (i21 : Int)) (rassign h31 rfl rfl) fun a34 h33 => ?_
    have h35 := h33.subs (l' := [(5, _), (8, _), (7, _), (4, _), (0, _), (1, _)]) rfl
    clear h33 h28 h31 a24 a32
    refine wpList_nil ?_
    refine hK30 _ _ ?_
    refine wp_seq_k fun K36 hK36 => ?_
    refine wp_region_lit ?_
    refine sv h35 (wanted_none rfl) rfl rfl rfl (v := .func (.func 39) #[] #[]) (rmove h35 rfl rfl) fun a38 h37 => ?_
    refine sv h37 (wanted_none rfl) rfl rfl rfl (v := .slice a n c) (rmove h37 rfl rfl) fun a40 h39 => ?_
    refine sv h39 (wanted_none rfl) rfl rfl rfl (v := .int .i64 (i21 : Int)) (rmove h39 rfl rfl) fun a42 h41 => ?_
    obtain ⟨q43, hq44⟩ := own_addr (s18.get 0 rfl : Own _ _ _ _ _ _ _ _)
    refine sv h41 (wanted_none rfl) rfl rfl rfl (v := .pointer (some ⟨q43, i21 * 3, none⟩)) (rindexA h41 rfl rfl rfl (fun w => ixO Tryz.underlying64 (by kernel_rfl) (sz := 3) (hq44 (by omega)) (j := i21) rfl (by omega) (by omega) w)) fun a46 h45 => ?_
    refine sw h45 (wanted_none rfl) rfl rfl rfl (v := .agg #[.int .i64 ((L.getD i21 nilEv).done), .int .i64 0, .pointer (some ⟨b, i21 * 20, none⟩)]) (rld h45 rfl rfl (by have z := ldOS (P := Tryz.prog) (itC_len b L) Tryz.underlying68 rfl (by kernel_rfl) (s18.get 0 rfl : Own _ _ _ _ _ _ _ _) (hq44 (by rw [List.length_range]; omega)) 0 (j := i21) (o := i21 * 3) (by rw [List.length_range]; omega) rfl; rw [range_getD (by omega)] at z; exact z)) fun a48 h47 => ?_
    refine so (wanted_none rfl) fun K55 hK55 => xcall h47 rfl rfl rfl (xs := [.tmp 15]) rfl cp_audit_order_1_w3g rfl (vs := [.agg #[.int .i64 ((L.getD i21 nilEv).done), .int .i64 0, .pointer (some ⟨b, i21 * 20, none⟩)]]) rfl (args := #[.agg #[.int .i64 ((L.getD i21 nilEv).done), .int .i64 0, .pointer (some ⟨b, i21 * 20, none⟩)]]) rfl (below1_s (R := [ownC 0 68 3 a (List.range n).length c ((List.range n).flatMap (itC b L)), Ch.many R]) (mo := (L.getD i21 nilEv).done) (cl := 0) (p := (some ⟨b, i21 * 20, none⟩)) (s18 : Sep _ [ownC 0 68 3 a (List.range n).length c ((List.range n).flatMap (itC b L)), Ch.many R])) fun a50 v51 w52 r53 h49 => hK55 _ _ ?_
    clear hK55 K55
    obtain ⟨rfl, s54⟩ := r53
    have h56 := h49.subs (l' := [(16, _), (5, _), (8, _), (7, _), (4, _), (0, _), (1, _)]) rfl
    clear h49 h35 h37 h39 h41 h45 h47 a34 a38 a40 a42 a46 a48
    refine wpList_nil ?_
    refine hK36 _ _ ?_
    rcases Bool.eq_false_or_eq_true (decide ((L.getD i21 nilEv).done < 1)) with hc57 | hc57
    · skip
      have hp58 : (L.getD i21 nilEv).done < 1 := (of_decide_eq_true hc57)
      have hd2 := hd i21 (by omega)
      exfalso; omega
    · skip
      have hp59 : ¬ ((L.getD i21 nilEv).done < 1) := (of_decide_eq_false hc57)
      refine wp_condS h56 rfl hc57 ?_
      simp only [Bool.false_eq_true, if_false]
      have h60 := h56.subs (l' := [(5, _), (8, _), (7, _), (4, _), (0, _), (1, _)]) rfl
      clear h56
      refine wp_skip ?_
      refine hK29 _ _ ?_
      refine wp_region_lit ?_
      refine sv h60 (wanted_none rfl) rfl rfl rfl (v := .int .i64 ((i21 + 1 : Nat) : Int)) (rbin h60 rfl rfl rfl (bAdd _ _ _ (by omega) (by omega) (by omega))) fun a62 h61 => ?_
      have h63 := h61.subs (l' := [(18, _), (5, _), (7, _), (4, _), (0, _), (1, _)]) rfl
      clear h61 h60 a50
      refine sv h63 (wanted_none rfl) rfl rfl rfl (v := .int .i64 ((i21 + 1 : Nat) : Int)) (rmove h63 rfl rfl) fun a65 h64 => ?_
      have h66 := h64.subs (l' := [(8, _), (5, _), (7, _), (4, _), (0, _), (1, _)]) rfl
      clear h64 h63 a62
      refine wpList_nil ?_
      exact hK19 (i21 + 1) _ _ ⟨h66.subs rfl, s54, by omega⟩ (by omega)
  · skip
    have hp67 : ¬ ((i21 : Int) < (n : Int)) := (of_decide_eq_false hc26)
    refine wp_condS h23 rfl hc26 ?_
    simp only [Bool.false_eq_true, if_false]
    have h68 := h23.subs (l' := [(8, _), (7, _), (4, _), (0, _), (1, _)]) rfl
    clear h23 h17 a15
    refine wp_exit ?_
    refine hK6 _ _ ?_
    refine wp_seq_k fun K69 hK69 => ?_
    refine wp_region_lit ?_
    have h70 := h68.subs (l' := [(8, _), (7, _), (0, _), (1, _)]) rfl
    clear h68
    refine sv h70 (wanted_none rfl) rfl rfl rfl (v := .int .i64 (-1)) (rassign h70 rfl rfl) fun a72 h71 => ?_
    refine wpList_nil ?_
    refine hK69 _ _ ?_
    refine wp_ret ?_
    try simp only [Exit.then, Exit.inBlock]
    refine retR (v := .int .i64 (-1)) (res1 h71 rfl rfl) h71.defs ?_
    exact ⟨rfl, Sep.tail_un (xs := [_]) (s18 : Sep _ [ownC 0 68 3 a (List.range n).length c ((List.range n).flatMap (itC b L)), Ch.many R])⟩

set_option maxHeartbeats 4000000 in
theorem indexY_s {w : World} {R : List Ch} {b n c : Nat} {a : Option Addr} {L : List EvM} (hS0 : Sep w ([ownC 0 68 3 a (List.range n).length c ((List.range n).flatMap (itC b L))] ++ R)) (hn : n ≤ 1000) (hn0 : 0 < n) (hd : (L.getD 0 nilEv).done < 1)  :
    CallsR Tryz.prog 47 #[.slice a n c, .func (.func 39) #[] #[]] w (fun v w' => v = .int .i64 0 ∧ Sep w' ([ownC 0 68 3 a (List.range n).length c ((List.range n).flatMap (itC b L))] ++ R)) := by
  have hS : Sep w [ownC 0 68 3 a (List.range n).length c ((List.range n).flatMap (itC b L)), Ch.many R] := Sep.tail_many (xs := [_]) hS0; clear hS0
  have hr : (List.range n).length = n := List.length_range
  refine enterR Tryz.func47 rfl (N := 19) Tryz.ntmps47 (by show 2 ≤ 19; decide) [(0, .slice a n c), (1, .func (.func 39) #[] #[])] rfl fun a2 h1 => ?_
  refine wp_seq_k fun K3 hK3 => ?_
  refine wp_region_lit ?_
  refine sv h1 (wanted_none rfl) rfl rfl rfl (v := .int .i64 0) (rassign h1 rfl rfl) fun a5 h4 => ?_
  refine wpList_nil ?_
  refine hK3 _ _ ?_
  refine wp_seq_k fun K6 hK6 => ?_
  refine wp_seq_k fun K7 hK7 => ?_
  refine wp_region_lit ?_
  refine sv h4 (wanted_none rfl) rfl rfl rfl (v := .slice a n c) (rmove h4 rfl rfl) fun a9 h8 => ?_
  refine sv h8 (wanted_none rfl) rfl rfl rfl (v := .int .i64 (n : Int)) (rlenS h8 rfl rfl Tryz.underlying64) fun a11 h10 => ?_
  refine sv h10 (wanted_none rfl) rfl rfl rfl (v := .int .i64 0) (rmove h10 rfl rfl) fun a13 h12 => ?_
  have h14 := h12.subs (l' := [(8, _), (7, _), (4, _), (0, _), (1, _)]) rfl
  clear h12 h1 h4 h8 h10 a2 a5 a9 a11
  refine wpList_nil ?_
  refine hK7 _ _ ?_
  refine wp_block ?_
  refine wp_loop1 (fun (i : Nat) a' w' => Kn 19 [(8, .int .i64 (i : Int)), (7, .int .i64 (n : Int)), (4, .int .i64 0), (0, .slice a n c), (1, .func (.func 39) #[] #[])] a' ∧ Sep w' [ownC 0 68 3 a (List.range n).length c ((List.range n).flatMap (itC b L)), Ch.many R] ∧ (i = 0)) (fun (i : Nat) => n - i) 0 ⟨h14.subs rfl, hS, rfl⟩ ?_
  clear h14
  rintro i21 a15 w16 ⟨h17, s18, hi20⟩ K19 hK19
  refine wp_seq_k fun K22 hK22 => ?_
  refine wp_region_lit ?_
  refine sv h17 (wanted_none rfl) rfl rfl rfl (v := .bool (decide ((i21 : Int) < (n : Int)))) (rbin h17 rfl rfl rfl (cLt _ _ _ _ rfl)) fun a24 h23 => ?_
  refine wpList_nil ?_
  refine hK22 _ _ ?_
  refine wp_seq_k fun K25 hK25 => ?_
  rcases Bool.eq_false_or_eq_true (decide ((i21 : Int) < (n : Int))) with hc26 | hc26
  · skip
    have hp27 : (i21 : Int) < (n : Int) := (of_decide_eq_true hc26)
    refine wp_condS h23 rfl hc26 ?_
    simp only [if_true]
    have h28 := h23.subs (l' := [(8, _), (7, _), (4, _), (0, _), (1, _)]) rfl
    clear h23 h17 a15
    refine wp_skip ?_
    refine hK25 _ _ ?_
    refine wp_seq_k fun K29 hK29 => ?_
    refine wp_block ?_
    refine wp_seq_k fun K30 hK30 => ?_
    refine wp_region_lit ?_
    refine sv h28 (wanted_none rfl) rfl rfl rfl (v := .int .i64 (i21 : Int)) (rmove h28 rfl rfl) fun a32 h31 => ?_
    refine sv h31 (wanted_none rfl) rfl rfl rfl (v := .int .i64 (i21 : Int)) (rassign h31 rfl rfl) fun a34 h33 => ?_
    have h35 := h33.subs (l' := [(5, _), (8, _), (7, _), (4, _), (0, _), (1, _)]) rfl
    clear h33 h28 h31 a24 a32
    refine wpList_nil ?_
    refine hK30 _ _ ?_
    refine wp_seq_k fun K36 hK36 => ?_
    refine wp_region_lit ?_
    refine sv h35 (wanted_none rfl) rfl rfl rfl (v := .func (.func 39) #[] #[]) (rmove h35 rfl rfl) fun a38 h37 => ?_
    refine sv h37 (wanted_none rfl) rfl rfl rfl (v := .slice a n c) (rmove h37 rfl rfl) fun a40 h39 => ?_
    refine sv h39 (wanted_none rfl) rfl rfl rfl (v := .int .i64 (i21 : Int)) (rmove h39 rfl rfl) fun a42 h41 => ?_
    obtain ⟨q43, hq44⟩ := own_addr (s18.get 0 rfl : Own _ _ _ _ _ _ _ _)
    refine sv h41 (wanted_none rfl) rfl rfl rfl (v := .pointer (some ⟨q43, i21 * 3, none⟩)) (rindexA h41 rfl rfl rfl (fun w => ixO Tryz.underlying64 (by kernel_rfl) (sz := 3) (hq44 (by omega)) (j := i21) rfl (by omega) (by omega) w)) fun a46 h45 => ?_
    refine sw h45 (wanted_none rfl) rfl rfl rfl (v := .agg #[.int .i64 ((L.getD i21 nilEv).done), .int .i64 0, .pointer (some ⟨b, i21 * 20, none⟩)]) (rld h45 rfl rfl (by have z := ldOS (P := Tryz.prog) (itC_len b L) Tryz.underlying68 rfl (by kernel_rfl) (s18.get 0 rfl : Own _ _ _ _ _ _ _ _) (hq44 (by rw [List.length_range]; omega)) 0 (j := i21) (o := i21 * 3) (by rw [List.length_range]; omega) rfl; rw [range_getD (by omega)] at z; exact z)) fun a48 h47 => ?_
    refine so (wanted_none rfl) fun K55 hK55 => xcall h47 rfl rfl rfl (xs := [.tmp 15]) rfl cp_audit_order_1_w3b rfl (vs := [.agg #[.int .i64 ((L.getD i21 nilEv).done), .int .i64 0, .pointer (some ⟨b, i21 * 20, none⟩)]]) rfl (args := #[.agg #[.int .i64 ((L.getD i21 nilEv).done), .int .i64 0, .pointer (some ⟨b, i21 * 20, none⟩)]]) rfl (below1_s (R := [ownC 0 68 3 a (List.range n).length c ((List.range n).flatMap (itC b L)), Ch.many R]) (mo := (L.getD i21 nilEv).done) (cl := 0) (p := (some ⟨b, i21 * 20, none⟩)) (s18 : Sep _ [ownC 0 68 3 a (List.range n).length c ((List.range n).flatMap (itC b L)), Ch.many R])) fun a50 v51 w52 r53 h49 => hK55 _ _ ?_
    clear hK55 K55
    obtain ⟨rfl, s54⟩ := r53
    have h56 := h49.subs (l' := [(16, _), (5, _), (8, _), (7, _), (4, _), (0, _), (1, _)]) rfl
    clear h49 h35 h37 h39 h41 h45 h47 a34 a38 a40 a42 a46 a48
    refine wpList_nil ?_
    refine hK36 _ _ ?_
    rcases Bool.eq_false_or_eq_true (decide ((L.getD i21 nilEv).done < 1)) with hc57 | hc57
    · skip
      have hp58 : (L.getD i21 nilEv).done < 1 := (of_decide_eq_true hc57)
      refine wp_condS h56 rfl hc57 ?_
      simp only [if_true]
      have h59 := h56.subs (l' := [(5, _), (8, _), (7, _), (4, _), (0, _), (1, _)]) rfl
      clear h56
      refine wp_seq_k fun K60 hK60 => ?_
      refine wp_region_lit ?_
      refine sv h59 (wanted_none rfl) rfl rfl rfl (v := .int .i64 (i21 : Int)) (rmove h59 rfl rfl) fun a62 h61 => ?_
      have h63 := h61.subs (l' := [(17, _), (5, _), (8, _), (7, _), (0, _), (1, _)]) rfl
      clear h61 h59 a50
      refine sv h63 (wanted_none rfl) rfl rfl rfl (v := .int .i64 (i21 : Int)) (rassign h63 rfl rfl) fun a65 h64 => ?_
      have h66 := h64.subs (l' := [(4, _), (5, _), (8, _), (7, _), (0, _), (1, _)]) rfl
      clear h64 h63 a62
      refine wpList_nil ?_
      refine hK60 _ _ ?_
      refine wp_ret ?_
      try simp only [Exit.then, Exit.inBlock]
      refine retR (v := .int .i64 (i21 : Int)) (res1 h66 rfl rfl) h66.defs ?_
      exact ⟨by rw [show ((i21 : Int) : Int) = 0 by omega], Sep.tail_un (xs := [_]) (s54 : Sep _ [ownC 0 68 3 a (List.range n).length c ((List.range n).flatMap (itC b L)), Ch.many R])⟩
    · skip
      have hp67 : ¬ ((L.getD i21 nilEv).done < 1) := (of_decide_eq_false hc57)
      obtain rfl : i21 = 0 := by omega
      exfalso; omega
  · skip
    have hp68 : ¬ ((i21 : Int) < (n : Int)) := (of_decide_eq_false hc26)
    refine wp_condS h23 rfl hc26 ?_
    simp only [Bool.false_eq_true, if_false]
    have h69 := h23.subs (l' := [(8, _), (7, _), (4, _), (0, _), (1, _)]) rfl
    clear h23 h17 a15
    refine wp_exit ?_
    refine hK6 _ _ ?_
    refine wp_seq_k fun K70 hK70 => ?_
    refine wp_region_lit ?_
    have h71 := h69.subs (l' := [(8, _), (7, _), (0, _), (1, _)]) rfl
    clear h69
    refine sv h71 (wanted_none rfl) rfl rfl rfl (v := .int .i64 (-1)) (rassign h71 rfl rfl) fun a73 h72 => ?_
    refine wpList_nil ?_
    refine hK70 _ _ ?_
    refine wp_ret ?_
    try simp only [Exit.then, Exit.inBlock]
    refine retR (v := .int .i64 (-1)) (res1 h72 rfl rfl) h72.defs ?_
    exfalso; omega

set_option maxHeartbeats 4000000 in
theorem deleteN_s {w : World} {R : List Ch} {b n c : Nat} {a : Option Addr} {L : List EvM} (hS0 : Sep w ([ownC 0 68 3 a (List.range n).length c ((List.range n).flatMap (itC b L))] ++ R)) (hn : n ≤ 1000) (hd : ∀ i, i < n → 1 ≤ (L.getD i nilEv).done) :
    CallsR Tryz.prog 38 #[.slice a n c, .func (.func 39) #[] #[]] w (fun v w' => v = .slice a n c ∧ Sep w' ([ownC 0 68 3 a (List.range n).length c ((List.range n).flatMap (itC b L))] ++ R)) := by
  have hS : Sep w [ownC 0 68 3 a (List.range n).length c ((List.range n).flatMap (itC b L)), Ch.many R] := Sep.tail_many (xs := [_]) hS0; clear hS0
  have hr : (List.range n).length = n := List.length_range
  refine enterR Tryz.func38 rfl (N := 42) Tryz.ntmps38 (by show 2 ≤ 42; decide) [(0, .slice a n c), (1, .func (.func 39) #[] #[])] rfl fun a2 h1 => ?_
  refine wp_seq_k fun K3 hK3 => ?_
  refine wp_region_lit ?_
  refine sv h1 (wanted_none rfl) rfl rfl rfl (v := .slice none 0 0) (rassign h1 rfl rfl) fun a5 h4 => ?_
  refine wpList_nil ?_
  refine hK3 _ _ ?_
  refine wp_seq_k fun K6 hK6 => ?_
  refine wp_region_lit ?_
  refine sv h4 (wanted_none rfl) rfl rfl rfl (v := .slice a n c) (rmove h4 rfl rfl) fun a8 h7 => ?_
  refine sv h7 (wanted_none rfl) rfl rfl rfl (v := .func (.func 39) #[] #[]) (rmove h7 rfl rfl) fun a10 h9 => ?_
  refine so (wanted_none rfl) fun K17 hK17 => xcall h9 rfl rfl rfl (xs := [.tmp 8, .tmp 9]) rfl cp_slices_IndexFunc_audit_item_audit_item_w4 rfl (vs := [.slice a n c, .func (.func 39) #[] #[]]) rfl (args := #[.slice a n c, .func (.func 39) #[] #[]]) rfl (indexN_s (R := [Ch.many R]) (hS : Sep _ [ownC 0 68 3 a (List.range n).length c ((List.range n).flatMap (itC b L)), Ch.many R]) hn hd) fun a12 v13 w14 r15 h11 => hK17 _ _ ?_
  clear hK17 K17
  obtain ⟨rfl, s16⟩ := r15
  refine sv h11 (wanted_none rfl) rfl rfl rfl (v := .int .i64 (-1)) (rassign h11 rfl rfl) fun a19 h18 => ?_
  have h20 := h18.subs (l' := [(5, _), (4, _), (0, _), (1, _)]) rfl
  clear h18 h1 h4 h7 h9 h11 a2 a5 a8 a10 a12
  refine wpList_nil ?_
  refine hK6 _ _ ?_
  refine wp_seq_k fun K21 hK21 => ?_
  refine wp_seq_k fun K22 hK22 => ?_
  refine wp_region_lit ?_
  refine sv h20 (wanted_none rfl) rfl rfl rfl (v := .int .i64 (-1)) (rmove h20 rfl rfl) fun a24 h23 => ?_
  refine sv h23 (wanted_none rfl) rfl rfl rfl (v := .bool true) (rbin h23 rfl rfl rfl (cEq _ _ _ _ rfl)) fun a26 h25 => ?_
  have h27 := h25.subs (l' := [(12, _), (5, _), (4, _), (0, _), (1, _)]) rfl
  clear h25 h20 h23 a19 a24
  refine wpList_nil ?_
  refine hK22 _ _ ?_
  refine wp_condS h27 rfl rfl ?_
  simp only [if_true]
  have h28 := h27.subs (l' := [(5, _), (4, _), (0, _), (1, _)]) rfl
  clear h27
  refine wp_seq_k fun K29 hK29 => ?_
  refine wp_region_lit ?_
  refine sv h28 (wanted_none rfl) rfl rfl rfl (v := .slice a n c) (rmove h28 rfl rfl) fun a31 h30 => ?_
  have h32 := h30.subs (l' := [(13, _), (5, _), (0, _), (1, _)]) rfl
  clear h30 h28 a26
  refine sv h32 (wanted_none rfl) rfl rfl rfl (v := .slice a n c) (rassign h32 rfl rfl) fun a34 h33 => ?_
  have h35 := h33.subs (l' := [(4, _), (5, _), (0, _), (1, _)]) rfl
  clear h33 h32 a31
  refine wpList_nil ?_
  refine hK29 _ _ ?_
  refine wp_ret ?_
  try simp only [Exit.then, Exit.inBlock]
  refine retR (v := .slice a n c) (res1 h35 rfl rfl) h35.defs ?_
  exact ⟨rfl, Sep.tail_un (xs := [_]) (s16 : Sep _ [ownC 0 68 3 a (List.range n).length c ((List.range n).flatMap (itC b L)), Ch.many R])⟩

set_option maxHeartbeats 4000000 in
theorem insertion_s {w : World} {R : List Ch} {b n c : Nat} {a : Option Addr} {L : List EvM} {lo : Nat} (hS0 : Sep w ([ownC 0 68 3 a (List.range n).length c ((List.range n).flatMap (itC b L))] ++ R)) (hn : n ≤ 1000) (hlo : lo ≤ 1000) (up : ∀ j, lo < j → j < n → (L.getD (j - 1) nilEv).done ≤ (L.getD j nilEv).done) :
    CallsR Tryz.prog 53 #[.slice a n c, .int .i64 (lo : Int), .int .i64 (n : Int), .func (.func 41) #[] #[]] w (fun v w' => v = .tuple #[] ∧ Sep w' ([ownC 0 68 3 a (List.range n).length c ((List.range n).flatMap (itC b L))] ++ R)) := by
  have hS : Sep w [ownC 0 68 3 a (List.range n).length c ((List.range n).flatMap (itC b L)), Ch.many R] := Sep.tail_many (xs := [_]) hS0; clear hS0
  have hr : (List.range n).length = n := List.length_range
  refine enterR Tryz.func53 rfl (N := 53) Tryz.ntmps53 (by show 4 ≤ 53; decide) [(0, .slice a n c), (1, .int .i64 (lo : Int)), (2, .int .i64 (n : Int)), (3, .func (.func 41) #[] #[])] rfl fun a2 h1 => ?_
  refine wp_seq_k fun K3 hK3 => ?_
  refine wp_region_lit ?_
  refine sv h1 (wanted_none rfl) rfl rfl rfl (v := .int .i64 (lo : Int)) (rmove h1 rfl rfl) fun a5 h4 => ?_
  refine sv h4 (wanted_none rfl) rfl rfl rfl (v := .int .i64 ((lo + 1 : Nat) : Int)) (rbin h4 rfl rfl rfl (bAdd _ _ _ (by omega) (by omega) (by omega))) fun a7 h6 => ?_
  refine sv h6 (wanted_none rfl) rfl rfl rfl (v := .int .i64 ((lo + 1 : Nat) : Int)) (rassign h6 rfl rfl) fun a9 h8 => ?_
  have h10 := h8.subs (l' := [(8, _), (0, _), (1, _), (2, _), (3, _)]) rfl
  clear h8 h1 h4 h6 a2 a5 a7
  refine wpList_nil ?_
  refine hK3 _ _ ?_
  refine wp_block ?_
  refine wp_loop1 (fun (i : Nat) a' w' => Kn 53 [(8, .int .i64 (i : Int)), (0, .slice a n c), (1, .int .i64 (lo : Int)), (2, .int .i64 (n : Int)), (3, .func (.func 41) #[] #[])] a' ∧ Sep w' [ownC 0 68 3 a (List.range n).length c ((List.range n).flatMap (itC b L)), Ch.many R] ∧ (lo + 1 ≤ i)) (fun (i : Nat) => n - i) (lo + 1) ⟨h10.subs rfl, hS, Nat.le_refl _⟩ ?_
  clear h10
  rintro i17 a11 w12 ⟨h13, s14, hi16⟩ K15 hK15
  refine wp_seq_k fun K18 hK18 => ?_
  refine wp_seq_k fun K19 hK19 => ?_
  refine wp_region_lit ?_
  refine sv h13 (wanted_none rfl) rfl rfl rfl (v := .int .i64 (i17 : Int)) (rmove h13 rfl rfl) fun a21 h20 => ?_
  refine sv h20 (wanted_none rfl) rfl rfl rfl (v := .int .i64 (n : Int)) (rmove h20 rfl rfl) fun a23 h22 => ?_
  refine sv h22 (wanted_none rfl) rfl rfl rfl (v := .bool (decide ((i17 : Int) < (n : Int)))) (rbin h22 rfl rfl rfl (cLt _ _ _ _ rfl)) fun a25 h24 => ?_
  have h26 := h24.subs (l' := [(14, _), (8, _), (0, _), (1, _), (2, _), (3, _)]) rfl
  clear h24 h13 h20 h22 a11 a21 a23
  refine wpList_nil ?_
  refine hK19 _ _ ?_
  rcases Bool.eq_false_or_eq_true (decide ((i17 : Int) < (n : Int))) with hc27 | hc27
  · skip
    have hp28 : (i17 : Int) < (n : Int) := (of_decide_eq_true hc27)
    refine wp_condS h26 rfl hc27 ?_
    simp only [if_true]
    have h29 := h26.subs (l' := [(8, _), (0, _), (1, _), (2, _), (3, _)]) rfl
    clear h26
    refine wp_skip ?_
    refine hK18 _ _ ?_
    refine wp_seq_k fun K30 hK30 => ?_
    refine wp_block ?_
    refine wp_seq_k fun K31 hK31 => ?_
    refine wp_region_lit ?_
    refine sv h29 (wanted_none rfl) rfl rfl rfl (v := .int .i64 (i17 : Int)) (rmove h29 rfl rfl) fun a33 h32 => ?_
    refine sv h32 (wanted_none rfl) rfl rfl rfl (v := .int .i64 (i17 : Int)) (rassign h32 rfl rfl) fun a35 h34 => ?_
    have h36 := h34.subs (l' := [(9, _), (8, _), (0, _), (1, _), (2, _), (3, _)]) rfl
    clear h34 h29 h32 a25 a33
    refine wpList_nil ?_
    refine hK31 _ _ ?_
    refine wp_block ?_
    refine wp_loop1 (fun (j : Nat) a' w' => Kn 53 [(9, .int .i64 (j : Int)), (8, .int .i64 (i17 : Int)), (0, .slice a n c), (1, .int .i64 (lo : Int)), (2, .int .i64 (n : Int)), (3, .func (.func 41) #[] #[])] a' ∧ Sep w' [ownC 0 68 3 a (List.range n).length c ((List.range n).flatMap (itC b L)), Ch.many R] ∧ (j = i17) ∧ (1 ≤ j)) (fun (j : Nat) => j) i17 ⟨h36.subs rfl, s14, rfl, by omega⟩ ?_
    clear h36 s14
    rintro j44 a37 w38 ⟨h39, s40, hj42, hj143⟩ K41 hK41
    refine wp_seq_k fun K45 hK45 => ?_
    refine wp_seq_k fun K46 hK46 => ?_
    have s48 := s40.drew
    refine wp_region_held_drew (S := fun w' => Sep w' [ownC 0 68 3 a (List.range n).length c ((List.range n).flatMap (itC b L)), Ch.many R]) (by kernel_rfl) s48 (fun hq47 => ?_)
    refine tv hq47 h39 0 rfl rfl rfl rfl (by kernel_rfl) (by kernel_rfl) (by kernel_rfl) (fun _ _ _ _ h => h) (wanted_none rfl) (v := .int .i64 (j44 : Int)) (fun w1 _ => (rmove h39 rfl rfl) w1) fun a50 h49 => ?_
    refine tv hq47 h49 1 rfl rfl rfl rfl (by kernel_rfl) (by kernel_rfl) (by kernel_rfl) (fun _ _ _ _ h => h) (wanted_none rfl) (v := .int .i64 (lo : Int)) (fun w1 _ => (rmove h49 rfl rfl) w1) fun a52 h51 => ?_
    refine tv hq47 h51 2 rfl rfl rfl rfl (by kernel_rfl) (by kernel_rfl) (by kernel_rfl) (fun _ _ _ _ h => h) (wanted_none rfl) (v := .bool true) (fun w1 _ => (rbin h51 rfl rfl rfl (cGt _ _ _ _ (decide_eq_true (by omega)))) w1) fun a54 h53 => ?_
    refine tv hq47 h53 3 rfl rfl rfl rfl (by kernel_rfl) (by kernel_rfl) (by kernel_rfl) (fun _ _ _ _ h => h) (wanted_none rfl) (v := .bool true) (fun w1 _ => (rmove h53 rfl rfl) w1) fun a56 h55 => ?_
    refine tv hq47 h55 4 rfl rfl rfl rfl (by kernel_rfl) (by kernel_rfl) (by kernel_rfl) (fun _ _ _ _ h => h) (wT h55 (E := true) rfl rfl rfl) (v := .func (.func 41) #[] #[]) (fun w1 _ => (rmove h55 rfl rfl) w1) fun a58 h57 => ?_
    refine tv hq47 h57 5 rfl rfl rfl rfl (by kernel_rfl) (by kernel_rfl) (by kernel_rfl) (fun _ _ _ _ h => h) (wT h57 (E := true) rfl rfl rfl) (v := .slice a n c) (fun w1 _ => (rmove h57 rfl rfl) w1) fun a60 h59 => ?_
    refine tv hq47 h59 6 rfl rfl rfl rfl (by kernel_rfl) (by kernel_rfl) (by kernel_rfl) (fun _ _ _ _ h => h) (wT h59 (E := true) rfl rfl rfl) (v := .int .i64 (j44 : Int)) (fun w1 _ => (rmove h59 rfl rfl) w1) fun a62 h61 => ?_
    obtain ⟨q63, hq64⟩ := own_addr (s48.get 0 rfl : Own _ _ _ _ _ _ _ _)
    refine tv hq47 h61 7 rfl rfl rfl rfl (by kernel_rfl) (by kernel_rfl) (by kernel_rfl) (fun _ _ _ _ h => h) (wT h61 (E := true) rfl rfl rfl) (v := .pointer (some ⟨q63, j44 * 3, none⟩)) (fun w1 _ => (rindexA h61 rfl rfl rfl (fun w => ixO Tryz.underlying64 (by kernel_rfl) (sz := 3) (hq64 (by omega)) (j := j44) rfl (by omega) (by omega) w)) w1) fun a66 h65 => ?_
    refine tv hq47 h65 8 rfl rfl rfl rfl (by kernel_rfl) (by kernel_rfl) (by kernel_rfl) (fun _ _ _ _ h => h) (wT h65 (E := true) rfl rfl rfl) (v := .agg #[.int .i64 ((L.getD j44 nilEv).done), .int .i64 0, .pointer (some ⟨b, j44 * 20, none⟩)]) (fun w1 hSw => (rld h65 rfl rfl (by have z := ldOS (P := Tryz.prog) (itC_len b L) Tryz.underlying68 rfl (by kernel_rfl) (hSw.get 0 rfl : Own _ _ _ _ _ _ _ _) (hq64 (by rw [List.length_range]; omega)) 0 (j := j44) (o := j44 * 3) (by rw [List.length_range]; omega) rfl; rw [range_getD (by omega)] at z; exact z))) fun a68 h67 => ?_
    refine tv hq47 h67 9 rfl rfl rfl rfl (by kernel_rfl) (by kernel_rfl) (by kernel_rfl) (fun _ _ _ _ h => h) (wT h67 (E := true) rfl rfl rfl) (v := .slice a n c) (fun w1 _ => (rmove h67 rfl rfl) w1) fun a70 h69 => ?_
    refine tv hq47 h69 10 rfl rfl rfl rfl (by kernel_rfl) (by kernel_rfl) (by kernel_rfl) (fun _ _ _ _ h => h) (wT h69 (E := true) rfl rfl rfl) (v := .int .i64 (j44 : Int)) (fun w1 _ => (rmove h69 rfl rfl) w1) fun a72 h71 => ?_
    refine tv hq47 h71 11 rfl rfl rfl rfl (by kernel_rfl) (by kernel_rfl) (by kernel_rfl) (fun _ _ _ _ h => h) (wT h71 (E := true) rfl rfl rfl) (v := .int .i64 ((j44 - 1 : Nat) : Int)) (fun w1 _ => (rbin h71 rfl rfl rfl (bSub _ _ _ (by omega) (by omega) (by omega))) w1) fun a74 h73 => ?_
    refine tv hq47 h73 12 rfl rfl rfl rfl (by kernel_rfl) (by kernel_rfl) (by kernel_rfl) (fun _ _ _ _ h => h) (wT h73 (E := true) rfl rfl rfl) (v := .pointer (some ⟨q63, (j44 - 1) * 3, none⟩)) (fun w1 _ => (rindexA h73 rfl rfl rfl (fun w => ixO Tryz.underlying64 (by kernel_rfl) (sz := 3) (hq64 (by omega)) (j := j44 - 1) rfl (by omega) (by omega) w)) w1) fun a76 h75 => ?_
    refine tv hq47 h75 13 rfl rfl rfl rfl (by kernel_rfl) (by kernel_rfl) (by kernel_rfl) (fun _ _ _ _ h => h) (wT h75 (E := true) rfl rfl rfl) (v := .agg #[.int .i64 ((L.getD (j44 - 1) nilEv).done), .int .i64 0, .pointer (some ⟨b, (j44 - 1) * 20, none⟩)]) (fun w1 hSw => (rld h75 rfl rfl (by have z := ldOS (P := Tryz.prog) (itC_len b L) Tryz.underlying68 rfl (by kernel_rfl) (hSw.get 0 rfl : Own _ _ _ _ _ _ _ _) (hq64 (by rw [List.length_range]; omega)) 0 (j := (j44 - 1)) (o := (j44 - 1) * 3) (by rw [List.length_range]; omega) rfl; rw [range_getD (by omega)] at z; exact z))) fun a78 h77 => ?_
    refine to_ 14 rfl (wT h77 (E := true) rfl rfl rfl) (by kernel_rfl) fun K86 hK86 => xcall h77 rfl rfl rfl (xs := [.tmp 26, .tmp 31]) rfl cp_audit_order_2_w5 rfl (vs := [.agg #[.int .i64 ((L.getD j44 nilEv).done), .int .i64 0, .pointer (some ⟨b, j44 * 20, none⟩)], .agg #[.int .i64 ((L.getD (j44 - 1) nilEv).done), .int .i64 0, .pointer (some ⟨b, (j44 - 1) * 20, none⟩)]]) rfl (args := #[.agg #[.int .i64 ((L.getD j44 nilEv).done), .int .i64 0, .pointer (some ⟨b, j44 * 20, none⟩)], .agg #[.int .i64 ((L.getD (j44 - 1) nilEv).done), .int .i64 0, .pointer (some ⟨b, (j44 - 1) * 20, none⟩)]]) rfl (cmp_s (R := [ownC 0 68 3 a (List.range n).length c ((List.range n).flatMap (itC b L)), Ch.many R]) (mo := (L.getD j44 nilEv).done) (cl := 0) (p := (some ⟨b, j44 * 20, none⟩)) (mo2 := (L.getD (j44 - 1) nilEv).done) (cl2 := 0) (p2 := (some ⟨b, (j44 - 1) * 20, none⟩)) (s48 : Sep _ [ownC 0 68 3 a (List.range n).length c ((List.range n).flatMap (itC b L)), Ch.many R])) fun a81 v82 w83 r84 h80 => ?_
    obtain ⟨rfl, s85⟩ := r84
    refine hK86 _ _ s85 fun hq79 => ?_
    clear hK86 K86
    refine tv hq79 h80 15 rfl rfl rfl rfl (by kernel_rfl) (by kernel_rfl) (by kernel_rfl) (fun _ _ _ _ h => h) (wT h80 (E := true) rfl rfl rfl) (v := .bool false) (fun w1 _ => (rbin h80 rfl rfl rfl (cLt _ _ _ _ (decide_eq_false (cmpI_up (up j44 (by omega) (by omega)))))) w1) fun a88 h87 => ?_
    refine tv hq79 h87 16 rfl rfl rfl rfl (by kernel_rfl) (by kernel_rfl) (by kernel_rfl) (fun _ _ _ _ h => h) (wanted_none rfl) (v := .bool false) (fun w1 _ => (rpick h87 rfl rfl rfl) w1) fun a90 h89 => ?_
    have h91 := h89.subs (l' := [(34, _), (9, _), (8, _), (0, _), (1, _), (2, _), (3, _)]) rfl
    clear h89 h39 h49 h51 h53 h55 h57 h59 h61 h65 h67 h69 h71 h73 h75 h77 h80 h87 a37 a50 a52 a54 a56 a58 a60 a62 a66 a68 a70 a72 a74 a76 a78 a81 a88
    refine wpAnyH_done (by kernel_rfl) ?_ _
    refine hK46 _ _ ?_
    refine wp_condS h91 rfl rfl ?_
    simp only [Bool.false_eq_true, if_false]
    have h92 := h91.subs (l' := [(9, _), (8, _), (0, _), (1, _), (2, _), (3, _)]) rfl
    clear h91
    refine wp_exit ?_
    refine hK30 _ _ ?_
    refine wp_region_lit ?_
    refine sv h92 (wanted_none rfl) rfl rfl rfl (v := .int .i64 (i17 : Int)) (rmove h92 rfl rfl) fun a94 h93 => ?_
    refine sv h93 (wanted_none rfl) rfl rfl rfl (v := .int .i64 ((i17 + 1 : Nat) : Int)) (rbin h93 rfl rfl rfl (bAdd _ _ _ (by omega) (by omega) (by omega))) fun a96 h95 => ?_
    have h97 := h95.subs (l' := [(16, _), (15, _), (9, _), (0, _), (1, _), (2, _), (3, _)]) rfl
    clear h95 h92 h93 a90 a94
    refine sv h97 (wanted_none rfl) rfl rfl rfl (v := .int .i64 ((i17 + 1 : Nat) : Int)) (rassign h97 rfl rfl) fun a99 h98 => ?_
    have h100 := h98.subs (l' := [(8, _), (9, _), (0, _), (1, _), (2, _), (3, _)]) rfl
    clear h98 h97 a96
    refine wpList_nil ?_
    exact hK15 (i17 + 1) _ _ ⟨h100.subs rfl, s85, by omega⟩ (by omega)
  · skip
    have hp101 : ¬ ((i17 : Int) < (n : Int)) := (of_decide_eq_false hc27)
    refine wp_condS h26 rfl hc27 ?_
    simp only [Bool.false_eq_true, if_false]
    have h102 := h26.subs (l' := [(8, _), (0, _), (1, _), (2, _), (3, _)]) rfl
    clear h26
    refine wp_exit ?_
    simp only [Exit.then, Exit.inBlock, ↓reduceIte, Nat.reduceEqDiff]
    refine endR (v := .tuple #[]) (fun _ => res0 rfl _) h102.defs ?_
    exact ⟨rfl, Sep.tail_un (xs := [_]) (s14 : Sep _ [ownC 0 68 3 a (List.range n).length c ((List.range n).flatMap (itC b L)), Ch.many R])⟩

set_option maxHeartbeats 4000000 in
theorem stable_s {w : World} {R : List Ch} {b n c : Nat} {a : Option Addr} {L : List EvM} (hS0 : Sep w ([ownC 0 68 3 a (List.range n).length c ((List.range n).flatMap (itC b L))] ++ R)) (hn : n < 20) (up : ∀ j, 0 < j → j < n → (L.getD (j - 1) nilEv).done ≤ (L.getD j nilEv).done) :
    CallsR Tryz.prog 48 #[.slice a n c, .int .i64 (n : Int), .func (.func 41) #[] #[]] w (fun v w' => v = .tuple #[] ∧ Sep w' ([ownC 0 68 3 a (List.range n).length c ((List.range n).flatMap (itC b L))] ++ R)) := by
  have hS : Sep w [ownC 0 68 3 a (List.range n).length c ((List.range n).flatMap (itC b L)), Ch.many R] := Sep.tail_many (xs := [_]) hS0; clear hS0
  have hr : (List.range n).length = n := List.length_range
  refine enterR Tryz.func48 rfl (N := 63) Tryz.ntmps48 (by show 3 ≤ 63; decide) [(0, .slice a n c), (1, .int .i64 (n : Int)), (2, .func (.func 41) #[] #[])] rfl fun a2 h1 => ?_
  refine wp_seq_k fun K3 hK3 => ?_
  refine wp_region_lit ?_
  refine sv h1 (wanted_none rfl) rfl rfl rfl (v := .int .i64 20) (rassign h1 rfl rfl) fun a5 h4 => ?_
  refine wpList_nil ?_
  refine hK3 _ _ ?_
  refine wp_seq_k fun K6 hK6 => ?_
  refine wp_region_lit ?_
  refine sv h4 (wanted_none rfl) rfl rfl rfl (v := .int .i64 20) (rmove h4 rfl rfl) fun a8 h7 => ?_
  refine sv h7 (wanted_none rfl) rfl rfl rfl (v := .int .i64 0) (rassign h7 rfl rfl) fun a10 h9 => ?_
  refine sv h9 (wanted_none rfl) rfl rfl rfl (v := .int .i64 20) (rassign h9 rfl rfl) fun a12 h11 => ?_
  have h13 := h11.subs (l' := [(8, _), (7, _), (6, _), (0, _), (1, _), (2, _)]) rfl
  clear h11 h1 h4 h7 h9 a2 a5 a8 a10
  refine wpList_nil ?_
  refine hK6 _ _ ?_
  refine wp_seq_k fun K14 hK14 => ?_
  refine wp_block ?_
  refine wp_loop1 (fun (z : Nat) a' w' => Kn 63 [(8, .int .i64 20), (7, .int .i64 0), (6, .int .i64 20), (0, .slice a n c), (1, .int .i64 (n : Int)), (2, .func (.func 41) #[] #[])] a' ∧ Sep w' [ownC 0 68 3 a (List.range n).length c ((List.range n).flatMap (itC b L)), Ch.many R]) (fun (z : Nat) => z) 0 ⟨h13.subs rfl, hS⟩ ?_
  clear h13
  rintro z20 a15 w16 ⟨h17, s18⟩ K19 hK19
  refine wp_seq_k fun K21 hK21 => ?_
  refine wp_seq_k fun K22 hK22 => ?_
  refine wp_region_lit ?_
  refine sv h17 (wanted_none rfl) rfl rfl rfl (v := .int .i64 20) (rmove h17 rfl rfl) fun a24 h23 => ?_
  refine sv h23 (wanted_none rfl) rfl rfl rfl (v := .int .i64 (n : Int)) (rmove h23 rfl rfl) fun a26 h25 => ?_
  refine sv h25 (wanted_none rfl) rfl rfl rfl (v := .bool false) (rbin h25 rfl rfl rfl (cLe _ _ _ _ (decide_eq_false (by omega)))) fun a28 h27 => ?_
  have h29 := h27.subs (l' := [(13, _), (8, _), (7, _), (6, _), (0, _), (1, _), (2, _)]) rfl
  clear h27 h17 h23 h25 a15 a24 a26
  refine wpList_nil ?_
  refine hK22 _ _ ?_
  refine wp_condS h29 rfl rfl ?_
  simp only [Bool.false_eq_true, if_false]
  have h30 := h29.subs (l' := [(8, _), (7, _), (6, _), (0, _), (1, _), (2, _)]) rfl
  clear h29
  refine wp_exit ?_
  refine hK14 _ _ ?_
  refine wp_seq_k fun K31 hK31 => ?_
  refine wp_region_lit ?_
  refine sv h30 (wanted_none rfl) rfl rfl rfl (v := .slice a n c) (rmove h30 rfl rfl) fun a33 h32 => ?_
  refine sv h32 (wanted_none rfl) rfl rfl rfl (v := .int .i64 0) (rmove h32 rfl rfl) fun a35 h34 => ?_
  refine sv h34 (wanted_none rfl) rfl rfl rfl (v := .int .i64 (n : Int)) (rmove h34 rfl rfl) fun a37 h36 => ?_
  refine sv h36 (wanted_none rfl) rfl rfl rfl (v := .func (.func 41) #[] #[]) (rmove h36 rfl rfl) fun a39 h38 => ?_
  refine so (wanted_none rfl) fun K46 hK46 => xcall h38 rfl rfl rfl (xs := [.tmp 23, .tmp 24, .tmp 25, .tmp 26]) rfl cp_slices_insertionSortCmpFunc_audit_item_w6 rfl (vs := [.slice a n c, .int .i64 0, .int .i64 (n : Int), .func (.func 41) #[] #[]]) rfl (args := #[.slice a n c, .int .i64 0, .int .i64 (n : Int), .func (.func 41) #[] #[]]) rfl (insertion_s (lo := 0) (R := [Ch.many R]) (s18 : Sep _ [ownC 0 68 3 a (List.range n).length c ((List.range n).flatMap (itC b L)), Ch.many R]) (by omega) (by omega) (fun j h1 h2 => up j (by omega) h2)) fun a41 v42 w43 r44 h40 => hK46 _ _ ?_
  clear hK46 K46
  obtain ⟨rfl, s45⟩ := r44
  have h47 := h40.subs (l' := [(8, _), (7, _), (6, _), (0, _), (1, _), (2, _)]) rfl
  clear h40 h30 h32 h34 h36 h38 a28 a33 a35 a37 a39
  refine wpList_nil ?_
  refine hK31 _ _ ?_
  refine wp_block ?_
  refine wp_loop1 (fun (z : Nat) a' w' => Kn 63 [(8, .int .i64 20), (7, .int .i64 0), (6, .int .i64 20), (0, .slice a n c), (1, .int .i64 (n : Int)), (2, .func (.func 41) #[] #[])] a' ∧ Sep w' [ownC 0 68 3 a (List.range n).length c ((List.range n).flatMap (itC b L)), Ch.many R]) (fun (z : Nat) => z) 0 ⟨h47.subs rfl, s45⟩ ?_
  clear h47 s45
  rintro z53 a48 w49 ⟨h50, s51⟩ K52 hK52
  refine wp_seq_k fun K54 hK54 => ?_
  refine wp_seq_k fun K55 hK55 => ?_
  refine wp_region_lit ?_
  refine sv h50 (wanted_none rfl) rfl rfl rfl (v := .int .i64 20) (rmove h50 rfl rfl) fun a57 h56 => ?_
  refine sv h56 (wanted_none rfl) rfl rfl rfl (v := .int .i64 (n : Int)) (rmove h56 rfl rfl) fun a59 h58 => ?_
  refine sv h58 (wanted_none rfl) rfl rfl rfl (v := .bool false) (rbin h58 rfl rfl rfl (cLt _ _ _ _ (decide_eq_false (by omega)))) fun a61 h60 => ?_
  have h62 := h60.subs (l' := [(30, _), (8, _), (7, _), (6, _), (0, _), (1, _), (2, _)]) rfl
  clear h60 h50 h56 h58 a48 a57 a59
  refine wpList_nil ?_
  refine hK55 _ _ ?_
  refine wp_condS h62 rfl rfl ?_
  simp only [Bool.false_eq_true, if_false]
  have h63 := h62.subs (l' := [(8, _), (7, _), (6, _), (0, _), (1, _), (2, _)]) rfl
  clear h62
  refine wp_exit ?_
  simp only [Exit.then, Exit.inBlock, ↓reduceIte, Nat.reduceEqDiff]
  refine endR (v := .tuple #[]) (fun _ => res0 rfl _) h63.defs ?_
  exact ⟨rfl, Sep.tail_un (xs := [_]) (s51 : Sep _ [ownC 0 68 3 a (List.range n).length c ((List.range n).flatMap (itC b L)), Ch.many R])⟩

set_option maxHeartbeats 4000000 in
theorem sortStable_s {w : World} {R : List Ch} {b n c : Nat} {a : Option Addr} {L : List EvM} (hS0 : Sep w ([ownC 0 68 3 a (List.range n).length c ((List.range n).flatMap (itC b L))] ++ R)) (hn : n < 20) (up : ∀ j, 0 < j → j < n → (L.getD (j - 1) nilEv).done ≤ (L.getD j nilEv).done) :
    CallsR Tryz.prog 40 #[.slice a n c, .func (.func 41) #[] #[]] w (fun v w' => v = .tuple #[] ∧ Sep w' ([ownC 0 68 3 a (List.range n).length c ((List.range n).flatMap (itC b L))] ++ R)) := by
  have hS : Sep w [ownC 0 68 3 a (List.range n).length c ((List.range n).flatMap (itC b L)), Ch.many R] := Sep.tail_many (xs := [_]) hS0; clear hS0
  have hr : (List.range n).length = n := List.length_range
  refine enterR Tryz.func40 rfl (N := 9) Tryz.ntmps40 (by show 2 ≤ 9; decide) [(0, .slice a n c), (1, .func (.func 41) #[] #[])] rfl fun a2 h1 => ?_
  refine wp_region_lit ?_
  refine sv h1 (wanted_none rfl) rfl rfl rfl (v := .slice a n c) (rmove h1 rfl rfl) fun a4 h3 => ?_
  refine sv h3 (wanted_none rfl) rfl rfl rfl (v := .slice a n c) (rmove h3 rfl rfl) fun a6 h5 => ?_
  refine sv h5 (wanted_none rfl) rfl rfl rfl (v := .int .i64 (n : Int)) (rlenS h5 rfl rfl Tryz.underlying64) fun a8 h7 => ?_
  refine sv h7 (wanted_none rfl) rfl rfl rfl (v := .func (.func 41) #[] #[]) (rmove h7 rfl rfl) fun a10 h9 => ?_
  refine so (wanted_none rfl) fun K17 hK17 => xcall h9 rfl rfl rfl (xs := [.tmp 4, .tmp 6, .tmp 7]) rfl cp_slices_stableCmpFunc_audit_item_w7 rfl (vs := [.slice a n c, .int .i64 (n : Int), .func (.func 41) #[] #[]]) rfl (args := #[.slice a n c, .int .i64 (n : Int), .func (.func 41) #[] #[]]) rfl (stable_s (R := [Ch.many R]) (hS : Sep _ [ownC 0 68 3 a (List.range n).length c ((List.range n).flatMap (itC b L)), Ch.many R]) hn up) fun a12 v13 w14 r15 h11 => hK17 _ _ ?_
  clear hK17 K17
  obtain ⟨rfl, s16⟩ := r15
  have h18 := h11.subs (l' := [(0, _), (1, _)]) rfl
  clear h11 h1 h3 h5 h7 h9 a2 a4 a6 a8 a10
  refine wpList_nil ?_
  refine endR (v := .tuple #[]) (fun _ => res0 rfl _) h18.defs ?_
  exact ⟨rfl, Sep.tail_un (xs := [_]) (s16 : Sep _ [ownC 0 68 3 a (List.range n).length c ((List.range n).flatMap (itC b L)), Ch.many R])⟩

set_option maxHeartbeats 4000000 in
theorem deleteY_s {w : World} {R : List Ch} {b c : Nat} {a : Option Addr} {L : List EvM} (hS0 : Sep w ([ownC 0 68 3 a (List.range 1).length c ((List.range 1).flatMap (itC b L))] ++ R)) (hd : (L.getD 0 nilEv).done < 1) :
    CallsR Tryz.prog 38 #[.slice a 1 c, .func (.func 39) #[] #[]] w (fun v w' => v = .slice a 0 c ∧ Sep w' R) := by
  have hS : Sep w [ownC 0 68 3 a (List.range 1).length c ((List.range 1).flatMap (itC b L)), Ch.many R] := Sep.tail_many (xs := [_]) hS0; clear hS0
  have hr : (List.range 1).length = 1 := List.length_range
  refine enterR Tryz.func38 rfl (N := 42) Tryz.ntmps38 (by show 2 ≤ 42; decide) [(0, .slice a 1 c), (1, .func (.func 39) #[] #[])] rfl fun a2 h1 => ?_
  refine wp_seq_k fun K3 hK3 => ?_
  refine wp_region_lit ?_
  refine sv h1 (wanted_none rfl) rfl rfl rfl (v := .slice none 0 0) (rassign h1 rfl rfl) fun a5 h4 => ?_
  refine wpList_nil ?_
  refine hK3 _ _ ?_
  refine wp_seq_k fun K6 hK6 => ?_
  refine wp_region_lit ?_
  refine sv h4 (wanted_none rfl) rfl rfl rfl (v := .slice a 1 c) (rmove h4 rfl rfl) fun a8 h7 => ?_
  refine sv h7 (wanted_none rfl) rfl rfl rfl (v := .func (.func 39) #[] #[]) (rmove h7 rfl rfl) fun a10 h9 => ?_
  refine so (wanted_none rfl) fun K17 hK17 => xcall h9 rfl rfl rfl (xs := [.tmp 8, .tmp 9]) rfl cp_slices_IndexFunc_audit_item_audit_item_w8 rfl (vs := [.slice a 1 c, .func (.func 39) #[] #[]]) rfl (args := #[.slice a 1 c, .func (.func 39) #[] #[]]) rfl (indexY_s (R := [Ch.many R]) (hS : Sep _ [ownC 0 68 3 a (List.range 1).length c ((List.range 1).flatMap (itC b L)), Ch.many R]) (by decide) (by decide) hd) fun a12 v13 w14 r15 h11 => hK17 _ _ ?_
  clear hK17 K17
  obtain ⟨rfl, s16⟩ := r15
  refine sv h11 (wanted_none rfl) rfl rfl rfl (v := .int .i64 0) (rassign h11 rfl rfl) fun a19 h18 => ?_
  have h20 := h18.subs (l' := [(5, _), (4, _), (0, _), (1, _)]) rfl
  clear h18 h1 h4 h7 h9 h11 a2 a5 a8 a10 a12
  refine wpList_nil ?_
  refine hK6 _ _ ?_
  refine wp_seq_k fun K21 hK21 => ?_
  refine wp_seq_k fun K22 hK22 => ?_
  refine wp_region_lit ?_
  refine sv h20 (wanted_none rfl) rfl rfl rfl (v := .int .i64 0) (rmove h20 rfl rfl) fun a24 h23 => ?_
  refine sv h23 (wanted_none rfl) rfl rfl rfl (v := .bool false) (rbin h23 rfl rfl rfl (cEq _ _ _ _ rfl)) fun a26 h25 => ?_
  have h27 := h25.subs (l' := [(12, _), (5, _), (4, _), (0, _), (1, _)]) rfl
  clear h25 h20 h23 a19 a24
  refine wpList_nil ?_
  refine hK22 _ _ ?_
  refine wp_condS h27 rfl rfl ?_
  simp only [Bool.false_eq_true, if_false]
  have h28 := h27.subs (l' := [(5, _), (4, _), (0, _), (1, _)]) rfl
  clear h27
  refine wp_skip ?_
  refine hK21 _ _ ?_
  refine wp_seq_k fun K29 hK29 => ?_
  refine wp_seq_k fun K30 hK30 => ?_
  refine wp_region_lit ?_
  refine sv h28 (wanted_none rfl) rfl rfl rfl (v := .int .i64 0) (rmove h28 rfl rfl) fun a32 h31 => ?_
  refine sv h31 (wanted_none rfl) rfl rfl rfl (v := .int .i64 1) (rbin h31 rfl rfl rfl (bAdd _ _ _ (by decide) (by decide) (by decide))) fun a34 h33 => ?_
  refine sv h33 (wanted_none rfl) rfl rfl rfl (v := .int .i64 1) (rassign h33 rfl rfl) fun a36 h35 => ?_
  have h37 := h35.subs (l' := [(6, _), (5, _), (4, _), (0, _), (1, _)]) rfl
  clear h35 h28 h31 h33 a26 a32 a34
  refine wpList_nil ?_
  refine hK30 _ _ ?_
  refine wp_block ?_
  refine wp_loop1 (fun (z : Nat) a' w' => Kn 42 [(6, .int .i64 1), (5, .int .i64 0), (4, .slice none 0 0), (0, .slice a 1 c), (1, .func (.func 39) #[] #[])] a' ∧ Sep w' [ownC 0 68 3 a (List.range 1).length c ((List.range 1).flatMap (itC b L)), Ch.many R]) (fun (z : Nat) => z) 0 ⟨h37.subs rfl, s16⟩ ?_
  clear h37 s16
  rintro z43 a38 w39 ⟨h40, s41⟩ K42 hK42
  refine wp_seq_k fun K44 hK44 => ?_
  refine wp_seq_k fun K45 hK45 => ?_
  refine wp_region_lit ?_
  refine sv h40 (wanted_none rfl) rfl rfl rfl (v := .int .i64 1) (rmove h40 rfl rfl) fun a47 h46 => ?_
  refine sv h46 (wanted_none rfl) rfl rfl rfl (v := .slice a 1 c) (rmove h46 rfl rfl) fun a49 h48 => ?_
  refine sv h48 (wanted_none rfl) rfl rfl rfl (v := .int .i64 1) (rlenS h48 rfl rfl Tryz.underlying64) fun a51 h50 => ?_
  refine sv h50 (wanted_none rfl) rfl rfl rfl (v := .bool false) (rbin h50 rfl rfl rfl (cLt _ _ _ _ rfl)) fun a53 h52 => ?_
  have h54 := h52.subs (l' := [(19, _), (6, _), (5, _), (4, _), (0, _), (1, _)]) rfl
  clear h52 h40 h46 h48 h50 a38 a47 a49 a51
  refine wpList_nil ?_
  refine hK45 _ _ ?_
  refine wp_condS h54 rfl rfl ?_
  simp only [Bool.false_eq_true, if_false]
  have h55 := h54.subs (l' := [(6, _), (5, _), (4, _), (0, _), (1, _)]) rfl
  clear h54
  refine wp_exit ?_
  refine hK29 _ _ ?_
  refine wp_seq_k fun K56 hK56 => ?_
  refine wp_region_lit ?_
  refine sv h55 (wanted_none rfl) rfl rfl rfl (v := .slice a 1 c) (rmove h55 rfl rfl) fun a58 h57 => ?_
  refine sv h57 (wanted_none rfl) rfl rfl rfl (v := .int .i64 0) (rmove h57 rfl rfl) fun a60 h59 => ?_
  obtain ⟨q61, hq62⟩ := own_addr (s41.get 0 rfl : Own _ _ _ _ _ _ _ _)
  have hcap63 := own_cap (s41.get 0 rfl : Own _ _ _ _ _ _ _ _)
  refine sv h59 (wanted_none rfl) rfl rfl rfl (v := .slice a 1 c) (rslT h59 rfl rfl (vl := some (.int .i64 0)) (vh := none) rfl rfl (fun w => slice0_s (hq62 (by decide)) hcap63 w)) fun a65 h64 => ?_
  refine so (wanted_none rfl) fun K70 hK70 => xclear1 h64 rfl rfl s41 0 rfl (hq62 (by decide)) rfl fun a67 w68 h66 s69 => hK70 _ _ ?_
  clear hK70 K70
  have h71 := h66.subs (l' := [(6, _), (5, _), (4, _), (0, _), (1, _)]) rfl
  clear h66 h55 h57 h59 h64 a53 a58 a60 a65
  refine wpList_nil ?_
  refine hK56 _ _ ?_
  refine wp_seq_k fun K72 hK72 => ?_
  refine wp_region_lit ?_
  refine sv h71 (wanted_none rfl) rfl rfl rfl (v := .slice a 1 c) (rmove h71 rfl rfl) fun a74 h73 => ?_
  refine sv h73 (wanted_none rfl) rfl rfl rfl (v := .int .i64 0) (rmove h73 rfl rfl) fun a76 h75 => ?_
  refine sv h75 (wanted_none rfl) rfl rfl rfl (v := .slice a 0 c) (rslT h75 rfl rfl (vl := none) (vh := some (.int .i64 0)) rfl rfl (fun w => slL 64 68 Tryz.underlying64 (by kernel_rfl) a 1 c (b := 0) (by omega) w)) fun a78 h77 => ?_
  have h79 := h77.subs (l' := [(41, _), (40, _), (39, _), (6, _), (5, _), (0, _), (1, _)]) rfl
  clear h77 h71 h73 h75 a67 a74 a76
  refine sv h79 (wanted_none rfl) rfl rfl rfl (v := .slice a 0 c) (rassign h79 rfl rfl) fun a81 h80 => ?_
  have h82 := h80.subs (l' := [(4, _), (6, _), (5, _), (0, _), (1, _)]) rfl
  clear h80 h79 a78
  refine wpList_nil ?_
  refine hK72 _ _ ?_
  refine wp_ret ?_
  try simp only [Exit.then, Exit.inBlock]
  refine retR (v := .slice a 0 c) (res1 h82 rfl rfl) h82.defs ?_
  exact ⟨rfl, Sep.tail_un (xs := []) ((s69.pick [1] (by decide) rfl) : Sep _ [Ch.many R])⟩

end Go.Proofs.YtpdjnefgkcmdnaaGreatDoor
/- stage 25: order, Run (sx/au.py) -/
namespace Go.Proofs.YtpdjnefgkcmdnaaGreatDoor
open Go.RowKit
set_option linter.unusedSimpArgs false
set_option linter.unusedVariables false
set_option maxRecDepth 100000

/-- an event that may be handed to fits -/
def wfE (ev : EvM) : Prop := ev.x.p1.length ≤ 1000 ∧ ev.x.p2.length ≤ 1000 ∧ ev.x.data.length ≤ 1000 ∧ (Lit.int .i64 ev.x.fd).wf = true ∧ ¬ (ev.told > 0 ∧ ev.r.e = 18) ∧ (ev.told > 0 ∨ ev.r.e = 0) ∧ (ev.na = none ∧ ev.nc = 0 ∧ ev.r.names = []) ∧ ev.r.names.length ≤ 100000
theorem ownNilE {w : World} {cs : List Ch} {ev : EvM} (h : ev.na = none ∧ ev.nc = 0 ∧ ev.r.names = []) (hS : Sep w cs) : Sep w (ownC 0 9 1 ev.na ev.r.names.length ev.nc (ev.r.names.flatMap sE) :: cs) := by
  rw [h.1, h.2.1, h.2.2]; exact hS.ownNil 0 9 1
/-- the file system behind so many events; what is told of the next one; which is the first that does not fit -/
def stE (L : List EvM) : Nat → FsM
  | 0 => fs0
  | j + 1 => (doF (stE L j) (L.getD j nilEv).cl (L.getD j nilEv).x).1
def rpE (L : List EvM) (j : Nat) : RepM := (doF (stE L j) (L.getD j nilEv).cl (L.getD j nilEv).x).2
def wrE (L : List EvM) : Nat → Int
  | 0 => 0
  | j + 1 => if ((!fitB (L.getD j nilEv) (rpE L j)) && decide (wrE L j = 0)) = true then (L.getD j nilEv).num else wrE L j
theorem wrE_bad {L : List EvM} {j : Nat} (h : ((!fitB (L.getD j nilEv) (rpE L j)) && decide (wrE L j = 0)) = true) : wrE L (j + 1) = (L.getD j nilEv).num := by
  show (if _ then _ else _) = _
  rw [if_pos h]
theorem wrE_ok {L : List EvM} {j : Nat} (h : ((!fitB (L.getD j nilEv) (rpE L j)) && decide (wrE L j = 0)) = false) : wrE L (j + 1) = wrE L j := by
  show (if _ then _ else _) = _
  rw [h]; exact if_neg Bool.false_ne_true
theorem rp_names {L : List EvM} {A : AdM} {n j : Nat} (h : FsA (stE L j) A n) (hn : n ≤ 800) : (rpE L j).names.length ≤ 100000 :=
  Nat.le_trans (do_names _ _) (Nat.le_trans h.sz.2.1 (by omega))

theorem cp_slices_insertionSortCmpFunc_audit_item_vsta9 (args : Array Value) (w : World) : (callFunc 53 args).run Tryz.prog w = .ok (.enter 53 args) w := by
  have h := Tryz.func53
  go_simp
theorem cp_slices_stableCmpFunc_audit_item_vsor13 (args : Array Value) (w : World) : (callFunc 48 args).run Tryz.prog w = .ok (.enter 48 args) w := by
  have h := Tryz.func48
  go_simp
theorem fa_api_Event_ug_4 (g off : Nat) (w : World) : (Instr.fieldAt 35 (.pointer (some ⟨g, off, none⟩)) 4).run Tryz.prog w = .ok (.pointer (some ⟨g, off + 11, none⟩)) w := rfl
theorem cp_slices_DeleteFunc_audit_item_audit_item_ug (args : Array Value) (w : World) : (callFunc 38 args).run Tryz.prog w = .ok (.enter 38 args) w := by
  have h := Tryz.func38
  go_simp
theorem cp_slices_SortStableFunc_audit_item_audit_item_ug (args : Array Value) (w : World) : (callFunc 40 args).run Tryz.prog w = .ok (.enter 40 args) w := by
  have h := Tryz.func40
  go_simp
theorem fa_api_Event_ub_4 (g off : Nat) (w : World) : (Instr.fieldAt 35 (.pointer (some ⟨g, off, none⟩)) 4).run Tryz.prog w = .ok (.pointer (some ⟨g, off + 11, none⟩)) w := rfl
theorem cp_slices_DeleteFunc_audit_item_audit_item_ub (args : Array Value) (w : World) : (callFunc 38 args).run Tryz.prog w = .ok (.enter 38 args) w := by
  have h := Tryz.func38
  go_simp
theorem cp_slices_SortStableFunc_audit_item_audit_item_ub (args : Array Value) (w : World) : (callFunc 40 args).run Tryz.prog w = .ok (.enter 40 args) w := by
  have h := Tryz.func40
  go_simp
theorem cp_posix_New_tg (args : Array Value) (w : World) : (callFunc 24 args).run Tryz.prog w = .ok (.enter 24 args) w := by
  have h := Tryz.func24
  go_simp
theorem cp_audit_order_tg (args : Array Value) (w : World) : (callFunc 25 args).run Tryz.prog w = .ok (.enter 25 args) w := by
  have h := Tryz.func25
  go_simp
theorem fa_audit_item_tg_2 (g off : Nat) (w : World) : (Instr.fieldAt 68 (.pointer (some ⟨g, off, none⟩)) 2).run Tryz.prog w = .ok (.pointer (some ⟨g, off + 2, none⟩)) w := rfl
theorem cp_audit_fits_tg (args : Array Value) (w : World) : (callFunc 27 args).run Tryz.prog w = .ok (.enter 27 args) w := by
  have h := Tryz.func27
  go_simp
theorem fa_api_Event_tg_1 (g off : Nat) (w : World) : (Instr.fieldAt 35 (.pointer (some ⟨g, off, none⟩)) 1).run Tryz.prog w = .ok (.pointer (some ⟨g, off + 1, none⟩)) w := rfl
theorem cp_posix_New_tb (args : Array Value) (w : World) : (callFunc 24 args).run Tryz.prog w = .ok (.enter 24 args) w := by
  have h := Tryz.func24
  go_simp
theorem cp_audit_order_tb (args : Array Value) (w : World) : (callFunc 25 args).run Tryz.prog w = .ok (.enter 25 args) w := by
  have h := Tryz.func25
  go_simp

set_option maxHeartbeats 4000000 in
theorem insertion0_s {w : World} {R : List Ch} {c : Nat} {a : Option Addr} (hS0 : Sep w R) :
    CallsR Tryz.prog 53 #[.slice a 0 c, .int .i64 0, .int .i64 0, .func (.func 41) #[] #[]] w (fun v w' => v = .tuple #[] ∧ Sep w' R) := by
  have hS : Sep w [Ch.many R] := Sep.tail_many (xs := []) hS0; clear hS0
  refine enterR Tryz.func53 rfl (N := 53) Tryz.ntmps53 (by show 4 ≤ 53; decide) [(0, .slice a 0 c), (1, .int .i64 0), (2, .int .i64 0), (3, .func (.func 41) #[] #[])] rfl fun a2 h1 => ?_
  refine wp_seq_k fun K3 hK3 => ?_
  refine wp_region_lit ?_
  refine sv h1 (wanted_none rfl) rfl rfl rfl (v := .int .i64 0) (rmove h1 rfl rfl) fun a5 h4 => ?_
  refine sv h4 (wanted_none rfl) rfl rfl rfl (v := .int .i64 1) (rbin h4 rfl rfl rfl (bAdd _ _ _ (by decide) (by decide) (by decide))) fun a7 h6 => ?_
  refine sv h6 (wanted_none rfl) rfl rfl rfl (v := .int .i64 1) (rassign h6 rfl rfl) fun a9 h8 => ?_
  have h10 := h8.subs (l' := [(8, _), (0, _), (1, _), (2, _), (3, _)]) rfl
  clear h8 h1 h4 h6 a2 a5 a7
  refine wpList_nil ?_
  refine hK3 _ _ ?_
  refine wp_block ?_
  refine wp_loop1 (fun (z : Nat) a' w' => Kn 53 [(8, .int .i64 1), (0, .slice a 0 c), (1, .int .i64 0), (2, .int .i64 0), (3, .func (.func 41) #[] #[])] a' ∧ Sep w' [Ch.many R]) (fun (z : Nat) => z) 0 ⟨h10.subs rfl, hS⟩ ?_
  clear h10
  rintro z16 a11 w12 ⟨h13, s14⟩ K15 hK15
  refine wp_seq_k fun K17 hK17 => ?_
  refine wp_seq_k fun K18 hK18 => ?_
  refine wp_region_lit ?_
  refine sv h13 (wanted_none rfl) rfl rfl rfl (v := .int .i64 1) (rmove h13 rfl rfl) fun a20 h19 => ?_
  refine sv h19 (wanted_none rfl) rfl rfl rfl (v := .int .i64 0) (rmove h19 rfl rfl) fun a22 h21 => ?_
  refine sv h21 (wanted_none rfl) rfl rfl rfl (v := .bool false) (rbin h21 rfl rfl rfl (cLt _ _ _ _ rfl)) fun a24 h23 => ?_
  have h25 := h23.subs (l' := [(14, _), (8, _), (0, _), (1, _), (2, _), (3, _)]) rfl
  clear h23 h13 h19 h21 a11 a20 a22
  refine wpList_nil ?_
  refine hK18 _ _ ?_
  refine wp_condS h25 rfl rfl ?_
  simp only [Bool.false_eq_true, if_false]
  have h26 := h25.subs (l' := [(8, _), (0, _), (1, _), (2, _), (3, _)]) rfl
  clear h25
  refine wp_exit ?_
  simp only [Exit.then, Exit.inBlock, ↓reduceIte, Nat.reduceEqDiff]
  refine endR (v := .tuple #[]) (fun _ => res0 rfl _) h26.defs ?_
  exact ⟨rfl, Sep.tail_un (xs := []) (s14 : Sep _ [Ch.many R])⟩

set_option maxHeartbeats 4000000 in
theorem stable0_s {w : World} {R : List Ch} {c : Nat} {a : Option Addr} (hS0 : Sep w R) :
    CallsR Tryz.prog 48 #[.slice a 0 c, .int .i64 0, .func (.func 41) #[] #[]] w (fun v w' => v = .tuple #[] ∧ Sep w' R) := by
  have hS : Sep w [Ch.many R] := Sep.tail_many (xs := []) hS0; clear hS0
  refine enterR Tryz.func48 rfl (N := 63) Tryz.ntmps48 (by show 3 ≤ 63; decide) [(0, .slice a 0 c), (1, .int .i64 0), (2, .func (.func 41) #[] #[])] rfl fun a2 h1 => ?_
  refine wp_seq_k fun K3 hK3 => ?_
  refine wp_region_lit ?_
  refine sv h1 (wanted_none rfl) rfl rfl rfl (v := .int .i64 20) (rassign h1 rfl rfl) fun a5 h4 => ?_
  refine wpList_nil ?_
  refine hK3 _ _ ?_
  refine wp_seq_k fun K6 hK6 => ?_
  refine wp_region_lit ?_
  refine sv h4 (wanted_none rfl) rfl rfl rfl (v := .int .i64 20) (rmove h4 rfl rfl) fun a8 h7 => ?_
  refine sv h7 (wanted_none rfl) rfl rfl rfl (v := .int .i64 0) (rassign h7 rfl rfl) fun a10 h9 => ?_
  refine sv h9 (wanted_none rfl) rfl rfl rfl (v := .int .i64 20) (rassign h9 rfl rfl) fun a12 h11 => ?_
  have h13 := h11.subs (l' := [(8, _), (7, _), (6, _), (0, _), (1, _), (2, _)]) rfl
  clear h11 h1 h4 h7 h9 a2 a5 a8 a10
  refine wpList_nil ?_
  refine hK6 _ _ ?_
  refine wp_seq_k fun K14 hK14 => ?_
  refine wp_block ?_
  refine wp_loop1 (fun (z : Nat) a' w' => Kn 63 [(8, .int .i64 20), (7, .int .i64 0), (6, .int .i64 20), (0, .slice a 0 c), (1, .int .i64 0), (2, .func (.func 41) #[] #[])] a' ∧ Sep w' [Ch.many R]) (fun (z : Nat) => z) 0 ⟨h13.subs rfl, hS⟩ ?_
  clear h13
  rintro z20 a15 w16 ⟨h17, s18⟩ K19 hK19
  refine wp_seq_k fun K21 hK21 => ?_
  refine wp_seq_k fun K22 hK22 => ?_
  refine wp_region_lit ?_
  refine sv h17 (wanted_none rfl) rfl rfl rfl (v := .int .i64 20) (rmove h17 rfl rfl) fun a24 h23 => ?_
  refine sv h23 (wanted_none rfl) rfl rfl rfl (v := .int .i64 0) (rmove h23 rfl rfl) fun a26 h25 => ?_
  refine sv h25 (wanted_none rfl) rfl rfl rfl (v := .bool false) (rbin h25 rfl rfl rfl (cLe _ _ _ _ rfl)) fun a28 h27 => ?_
  have h29 := h27.subs (l' := [(13, _), (8, _), (7, _), (6, _), (0, _), (1, _), (2, _)]) rfl
  clear h27 h17 h23 h25 a15 a24 a26
  refine wpList_nil ?_
  refine hK22 _ _ ?_
  refine wp_condS h29 rfl rfl ?_
  simp only [Bool.false_eq_true, if_false]
  have h30 := h29.subs (l' := [(8, _), (7, _), (6, _), (0, _), (1, _), (2, _)]) rfl
  clear h29
  refine wp_exit ?_
  refine hK14 _ _ ?_
  refine wp_seq_k fun K31 hK31 => ?_
  refine wp_region_lit ?_
  refine sv h30 (wanted_none rfl) rfl rfl rfl (v := .slice a 0 c) (rmove h30 rfl rfl) fun a33 h32 => ?_
  refine sv h32 (wanted_none rfl) rfl rfl rfl (v := .int .i64 0) (rmove h32 rfl rfl) fun a35 h34 => ?_
  refine sv h34 (wanted_none rfl) rfl rfl rfl (v := .int .i64 0) (rmove h34 rfl rfl) fun a37 h36 => ?_
  refine sv h36 (wanted_none rfl) rfl rfl rfl (v := .func (.func 41) #[] #[]) (rmove h36 rfl rfl) fun a39 h38 => ?_
  refine so (wanted_none rfl) fun K46 hK46 => xcall h38 rfl rfl rfl (xs := [.tmp 23, .tmp 24, .tmp 25, .tmp 26]) rfl cp_slices_insertionSortCmpFunc_audit_item_vsta9 rfl (vs := [.slice a 0 c, .int .i64 0, .int .i64 0, .func (.func 41) #[] #[]]) rfl (args := #[.slice a 0 c, .int .i64 0, .int .i64 0, .func (.func 41) #[] #[]]) rfl (insertion0_s (R := [Ch.many R]) (s18 : Sep _ [Ch.many R])) fun a41 v42 w43 r44 h40 => hK46 _ _ ?_
  clear hK46 K46
  obtain ⟨rfl, s45⟩ := r44
  have h47 := h40.subs (l' := [(8, _), (7, _), (6, _), (0, _), (1, _), (2, _)]) rfl
  clear h40 h30 h32 h34 h36 h38 a28 a33 a35 a37 a39
  refine wpList_nil ?_
  refine hK31 _ _ ?_
  refine wp_block ?_
  refine wp_loop1 (fun (z : Nat) a' w' => Kn 63 [(8, .int .i64 20), (7, .int .i64 0), (6, .int .i64 20), (0, .slice a 0 c), (1, .int .i64 0), (2, .func (.func 41) #[] #[])] a' ∧ Sep w' [Ch.many R]) (fun (z : Nat) => z) 0 ⟨h47.subs rfl, s45⟩ ?_
  clear h47 s45
  rintro z53 a48 w49 ⟨h50, s51⟩ K52 hK52
  refine wp_seq_k fun K54 hK54 => ?_
  refine wp_seq_k fun K55 hK55 => ?_
  refine wp_region_lit ?_
  refine sv h50 (wanted_none rfl) rfl rfl rfl (v := .int .i64 20) (rmove h50 rfl rfl) fun a57 h56 => ?_
  refine sv h56 (wanted_none rfl) rfl rfl rfl (v := .int .i64 0) (rmove h56 rfl rfl) fun a59 h58 => ?_
  refine sv h58 (wanted_none rfl) rfl rfl rfl (v := .bool false) (rbin h58 rfl rfl rfl (cLt _ _ _ _ rfl)) fun a61 h60 => ?_
  have h62 := h60.subs (l' := [(30, _), (8, _), (7, _), (6, _), (0, _), (1, _), (2, _)]) rfl
  clear h60 h50 h56 h58 a48 a57 a59
  refine wpList_nil ?_
  refine hK55 _ _ ?_
  refine wp_condS h62 rfl rfl ?_
  simp only [Bool.false_eq_true, if_false]
  have h63 := h62.subs (l' := [(8, _), (7, _), (6, _), (0, _), (1, _), (2, _)]) rfl
  clear h62
  refine wp_exit ?_
  simp only [Exit.then, Exit.inBlock, ↓reduceIte, Nat.reduceEqDiff]
  refine endR (v := .tuple #[]) (fun _ => res0 rfl _) h63.defs ?_
  exact ⟨rfl, Sep.tail_un (xs := []) (s51 : Sep _ [Ch.many R])⟩

set_option maxHeartbeats 4000000 in
theorem sortStable0_s {w : World} {R : List Ch} {c : Nat} {a : Option Addr} (hS0 : Sep w R) :
    CallsR Tryz.prog 40 #[.slice a 0 c, .func (.func 41) #[] #[]] w (fun v w' => v = .tuple #[] ∧ Sep w' R) := by
  have hS : Sep w [Ch.many R] := Sep.tail_many (xs := []) hS0; clear hS0
  refine enterR Tryz.func40 rfl (N := 9) Tryz.ntmps40 (by show 2 ≤ 9; decide) [(0, .slice a 0 c), (1, .func (.func 41) #[] #[])] rfl fun a2 h1 => ?_
  refine wp_region_lit ?_
  refine sv h1 (wanted_none rfl) rfl rfl rfl (v := .slice a 0 c) (rmove h1 rfl rfl) fun a4 h3 => ?_
  refine sv h3 (wanted_none rfl) rfl rfl rfl (v := .slice a 0 c) (rmove h3 rfl rfl) fun a6 h5 => ?_
  refine sv h5 (wanted_none rfl) rfl rfl rfl (v := .int .i64 0) (rlenS h5 rfl rfl Tryz.underlying64) fun a8 h7 => ?_
  refine sv h7 (wanted_none rfl) rfl rfl rfl (v := .func (.func 41) #[] #[]) (rmove h7 rfl rfl) fun a10 h9 => ?_
  refine so (wanted_none rfl) fun K17 hK17 => xcall h9 rfl rfl rfl (xs := [.tmp 4, .tmp 6, .tmp 7]) rfl cp_slices_stableCmpFunc_audit_item_vsor13 rfl (vs := [.slice a 0 c, .int .i64 0, .func (.func 41) #[] #[]]) rfl (args := #[.slice a 0 c, .int .i64 0, .func (.func 41) #[] #[]]) rfl (stable0_s (R := [Ch.many R]) (hS : Sep _ [Ch.many R])) fun a12 v13 w14 r15 h11 => hK17 _ _ ?_
  clear hK17 K17
  obtain ⟨rfl, s16⟩ := r15
  have h18 := h11.subs (l' := [(0, _), (1, _)]) rfl
  clear h11 h1 h3 h5 h7 h9 a2 a4 a6 a8 a10
  refine wpList_nil ?_
  refine endR (v := .tuple #[]) (fun _ => res0 rfl _) h18.defs ?_
  exact ⟨rfl, Sep.tail_un (xs := []) (s16 : Sep _ [Ch.many R])⟩

set_option maxHeartbeats 4000000 in
theorem orderN_s {w : World} {R : List Ch} {b n : Nat} {L : List EvM} (hS0 : Sep w ([blkC b 35 (L.flatMap evC)] ++ R)) (hL : L.length = n) (hn : n < 20) (hd : ∀ i, i < n → 1 ≤ (L.getD i nilEv).done) (up : ∀ j, 0 < j → j < n → (L.getD (j - 1) nilEv).done ≤ (L.getD j nilEv).done) :
    CallsR Tryz.prog 25 #[.slice (some ⟨b, 0, none⟩) n n, .slice none 0 0] w (fun v w' => ∃ ia ic, v = .slice ia n ic ∧ Sep w' ([ownC 0 68 3 ia (List.range n).length ic ((List.range n).flatMap (itC b L)), blkC b 35 (L.flatMap evC)] ++ R)) := by
  have hS : Sep w [blkC b 35 (L.flatMap evC), Ch.many R] := Sep.tail_many (xs := [_]) hS0; clear hS0
  refine enterR Tryz.func25 rfl (N := 55) Tryz.ntmps25 (by show 2 ≤ 55; decide) [(0, .slice (some ⟨b, 0, none⟩) n n), (1, .slice none 0 0)] rfl fun a2 h1 => ?_
  refine wp_seq_k fun K3 hK3 => ?_
  refine wp_region_lit ?_
  refine sv h1 (wanted_none rfl) rfl rfl rfl (v := .slice none 0 0) (rassign h1 rfl rfl) fun a5 h4 => ?_
  refine wpList_nil ?_
  refine hK3 _ _ ?_
  refine wp_seq_k fun K6 hK6 => ?_
  have s7 := hS.ownNil 0 68 3
  have s8 : Sep w [ownC 0 68 3 none (List.range 0).length 0 ((List.range 0).flatMap (itC b L)), blkC b 35 (L.flatMap evC), Ch.many R] := s7
  refine wp_region_lit ?_
  refine sv h4 (wanted_none rfl) rfl rfl rfl (v := .slice none 0 0) (rassign h4 rfl rfl) fun a10 h9 => ?_
  refine wpList_nil ?_
  refine hK6 _ _ ?_
  refine wp_seq_k fun K11 hK11 => ?_
  refine wp_seq_k fun K12 hK12 => ?_
  refine wp_region_lit ?_
  refine sv h9 (wanted_none rfl) rfl rfl rfl (v := .slice none 0 0) (rmove h9 rfl rfl) fun a14 h13 => ?_
  refine sv h13 (wanted_none rfl) rfl rfl rfl (v := .int .i64 0) (rlenS h13 rfl rfl Tryz.underlying62) fun a16 h15 => ?_
  refine sv h15 (wanted_none rfl) rfl rfl rfl (v := .int .i64 0) (rmove h15 rfl rfl) fun a18 h17 => ?_
  refine wpList_nil ?_
  refine hK12 _ _ ?_
  refine wp_block ?_
  refine wp_loop1 (fun (z : Nat) a' w' => Kn 55 [(13, .int .i64 0), (12, .int .i64 0), (11, .slice none 0 0), (5, .slice none 0 0), (4, .slice none 0 0), (0, .slice (some ⟨b, 0, none⟩) n n), (1, .slice none 0 0)] a' ∧ Sep w' [ownC 0 68 3 none (List.range 0).length 0 ((List.range 0).flatMap (itC b L)), blkC b 35 (L.flatMap evC), Ch.many R]) (fun (z : Nat) => z) 0 ⟨h17.subs rfl, s8⟩ ?_
  clear h17 s8
  rintro z24 a19 w20 ⟨h21, s22⟩ K23 hK23
  refine wp_seq_k fun K25 hK25 => ?_
  refine wp_region_lit ?_
  refine sv h21 (wanted_none rfl) rfl rfl rfl (v := .bool false) (rbin h21 rfl rfl rfl (cLt _ _ _ _ rfl)) fun a27 h26 => ?_
  refine wpList_nil ?_
  refine hK25 _ _ ?_
  refine wp_seq_k fun K28 hK28 => ?_
  refine wp_condS h26 rfl rfl ?_
  simp only [Bool.false_eq_true, if_false]
  have h29 := h26.subs (l' := [(13, _), (12, _), (11, _), (5, _), (4, _), (0, _), (1, _)]) rfl
  clear h26 h21 a19
  refine wp_exit ?_
  refine hK11 _ _ ?_
  refine wp_seq_k fun K30 hK30 => ?_
  refine wp_seq_k fun K31 hK31 => ?_
  refine wp_region_lit ?_
  refine sv h29 (wanted_none rfl) rfl rfl rfl (v := .slice (some ⟨b, 0, none⟩) n n) (rmove h29 rfl rfl) fun a33 h32 => ?_
  refine sv h32 (wanted_none rfl) rfl rfl rfl (v := .int .i64 (n : Int)) (rlenS h32 rfl rfl Tryz.underlying22) fun a35 h34 => ?_
  refine sv h34 (wanted_none rfl) rfl rfl rfl (v := .int .i64 0) (rmove h34 rfl rfl) fun a37 h36 => ?_
  have h38 := h36.subs (l' := [(34, _), (33, _), (13, _), (12, _), (11, _), (5, _), (4, _), (0, _), (1, _)]) rfl
  clear h36 h29 h32 h34 a27 a33 a35
  refine wpList_nil ?_
  refine hK31 _ _ ?_
  refine wp_block ?_
  refine wp_loop3 (fun (i : Nat) (ia : Option Addr) (ic : Nat) a' w' => Kn 55 [(34, .int .i64 (i : Int)), (33, .int .i64 (n : Int)), (13, .int .i64 0), (12, .int .i64 0), (11, .slice none 0 0), (5, .slice ia ((List.range i).length) ic), (4, .slice none 0 0), (0, .slice (some ⟨b, 0, none⟩) n n), (1, .slice none 0 0)] a' ∧ Sep w' [ownC 0 68 3 ia (List.range i).length ic ((List.range i).flatMap (itC b L)), blkC b 35 (L.flatMap evC), Ch.many R] ∧ (i ≤ n)) (fun (i : Nat) (ia : Option Addr) (ic : Nat) => n - i) 0 none 0 ⟨h38.subs rfl, s22, by omega⟩ ?_
  clear h38 s22
  rintro i45 ia46 ic47 a39 w40 ⟨h41, s42, hi44⟩ K43 hK43
  refine wp_seq_k fun K48 hK48 => ?_
  refine wp_region_lit ?_
  refine sv h41 (wanted_none rfl) rfl rfl rfl (v := .bool (decide ((i45 : Int) < (n : Int)))) (rbin h41 rfl rfl rfl (cLt _ _ _ _ rfl)) fun a50 h49 => ?_
  refine wpList_nil ?_
  refine hK48 _ _ ?_
  refine wp_seq_k fun K51 hK51 => ?_
  rcases Bool.eq_false_or_eq_true (decide ((i45 : Int) < (n : Int))) with hc52 | hc52
  · skip
    have hp53 : (i45 : Int) < (n : Int) := (of_decide_eq_true hc52)
    refine wp_condS h49 rfl hc52 ?_
    simp only [if_true]
    have h54 := h49.subs (l' := [(34, _), (33, _), (13, _), (12, _), (11, _), (5, _), (4, _), (0, _), (1, _)]) rfl
    clear h49 h41 a39
    refine wp_skip ?_
    refine hK51 _ _ ?_
    refine wp_seq_k fun K55 hK55 => ?_
    refine wp_block ?_
    refine wp_seq_k fun K56 hK56 => ?_
    refine wp_region_lit ?_
    refine sv h54 (wanted_none rfl) rfl rfl rfl (v := .int .i64 (i45 : Int)) (rmove h54 rfl rfl) fun a58 h57 => ?_
    refine sv h57 (wanted_none rfl) rfl rfl rfl (v := .int .i64 (i45 : Int)) (rassign h57 rfl rfl) fun a60 h59 => ?_
    have h61 := h59.subs (l' := [(10, _), (34, _), (33, _), (13, _), (12, _), (11, _), (5, _), (4, _), (0, _), (1, _)]) rfl
    clear h59 h54 h57 a50 a58
    refine wpList_nil ?_
    refine hK56 _ _ ?_
    have s63 := s42.drew
    refine wp_region_held_drew (S := fun w' => Sep w' [blkC b 35 (L.flatMap evC), Ch.many R]) (by kernel_rfl) (s63.pick [1, 2] (by decide) rfl) (fun hq62 => ?_)
    refine tv hq62 h61 0 rfl rfl rfl rfl (by kernel_rfl) (by kernel_rfl) (by kernel_rfl) (fun _ _ _ _ h => h) (wanted_none rfl) (v := .slice ia46 ((List.range i45).length) ic47) (fun w1 _ => (rmove h61 rfl rfl) w1) fun a65 h64 => ?_
    refine tv hq62 h64 1 rfl rfl rfl rfl (by kernel_rfl) (by kernel_rfl) (by kernel_rfl) (fun _ _ _ _ h => h) (wanted_none rfl) (v := .slice (some ⟨b, 0, none⟩) n n) (fun w1 _ => (rmove h64 rfl rfl) w1) fun a67 h66 => ?_
    refine tv hq62 h66 2 rfl rfl rfl rfl (by kernel_rfl) (by kernel_rfl) (by kernel_rfl) (fun _ _ _ _ h => h) (wanted_none rfl) (v := .int .i64 (i45 : Int)) (fun w1 _ => (rmove h66 rfl rfl) w1) fun a69 h68 => ?_
    refine tv hq62 h68 3 rfl rfl rfl rfl (by kernel_rfl) (by kernel_rfl) (by kernel_rfl) (fun _ _ _ _ h => h) (wanted_none rfl) (v := .pointer (some ⟨b, i45 * 20, none⟩)) (fun w1 _ => (rindexA h68 rfl rfl rfl (fun w => ixS Tryz.underlying22 (by kernel_rfl) (sz := 20) (j := i45) rfl (by omega) rfl w)) w1) fun a71 h70 => ?_
    refine tv hq62 h70 4 rfl rfl rfl rfl (by kernel_rfl) (by kernel_rfl) (by kernel_rfl) (fun _ _ _ _ h => h) (wanted_none rfl) (v := .pointer (some ⟨b, i45 * 20 + 11, none⟩)) (fun w1 _ => (rfa h70 rfl rfl (fun w => fa_api_Event_ug_4 b (i45 * 20) w)) w1) fun a73 h72 => ?_
    refine tv hq62 h72 5 rfl rfl rfl rfl (by kernel_rfl) (by kernel_rfl) (by kernel_rfl) (fun _ _ _ _ h => h) (wanted_none rfl) (v := .int .i64 ((L.getD i45 nilEv).done)) (fun w1 hSw => (rld h72 rfl rfl (ldB Tryz.underlying3 rfl (hSw.get 0 rfl : Blk _ _ _ _) ((ls_get evC_len (j := i45) (k := 11) nilEv (by omega) (by decide) rfl).trans rfl)))) fun a75 h74 => ?_
    refine tv hq62 h74 6 rfl rfl rfl rfl (by kernel_rfl) (by kernel_rfl) (by kernel_rfl) (fun _ _ _ _ h => h) (wanted_none rfl) (v := .slice (some ⟨b, 0, none⟩) n n) (fun w1 _ => (rmove h74 rfl rfl) w1) fun a77 h76 => ?_
    refine tv hq62 h76 7 rfl rfl rfl rfl (by kernel_rfl) (by kernel_rfl) (by kernel_rfl) (fun _ _ _ _ h => h) (wanted_none rfl) (v := .int .i64 (i45 : Int)) (fun w1 _ => (rmove h76 rfl rfl) w1) fun a79 h78 => ?_
    refine tv hq62 h78 8 rfl rfl rfl rfl (by kernel_rfl) (by kernel_rfl) (by kernel_rfl) (fun _ _ _ _ h => h) (wanted_none rfl) (v := .pointer (some ⟨b, i45 * 20, none⟩)) (fun w1 _ => (rindexA h78 rfl rfl rfl (fun w => ixS Tryz.underlying22 (by kernel_rfl) (sz := 20) (j := i45) rfl (by omega) rfl w)) w1) fun a81 h80 => ?_
    refine tv hq62 h80 9 rfl rfl rfl rfl (by kernel_rfl) (by kernel_rfl) (by kernel_rfl) (fun _ _ _ _ h => h) (wanted_none rfl) (v := .agg #[.int .i64 ((L.getD i45 nilEv).done), .int .i64 0, .pointer (some ⟨b, i45 * 20, none⟩)]) (fun w1 _ => (rbuild h80 (xs := [(0, .tmp 42), (2, .tmp 45)]) rfl (vs := [(0, .int .i64 ((L.getD i45 nilEv).done)), (2, .pointer (some ⟨b, i45 * 20, none⟩))]) rfl (fun w => by kernel_rfl)) w1) fun a83 h82 => ?_
    refine to_ 10 rfl (wanted_none rfl) (by kernel_rfl) fun K92 hK92 => xbuildS h82 rfl rfl rfl (E := 68) (xs := [(0, .tmp 46)]) rfl (vs := [(0, .agg #[.int .i64 ((L.getD i45 nilEv).done), .int .i64 0, .pointer (some ⟨b, i45 * 20, none⟩)])]) rfl (z := [.int .i64 ((L.getD i45 nilEv).done), .int .i64 0, .pointer (some ⟨b, i45 * 20, none⟩)]) (fun _ => by kernel_rfl) s63 fun a87 g85 w88 h86 s89 b90 e91 => ?_
    clear b90 e91
    refine hK92 _ _ (s89.pick [2, 3] (by decide) rfl) fun hq84 => ?_
    clear hK92 K92
    refine to_ 11 rfl (wanted_none rfl) (by kernel_rfl) fun K100 hK100 => xappS (itC_len b L) h86 rfl rfl rfl rfl EIt s89 1 rfl rfl 0 (y := i45) rfl rfl rfl (by decide) (by rw [List.length_range]; omega) (L' := List.range (i45 + 1)) (List.range_succ).symm fun a97 p94 c95 w98 h96 s99 => ?_
    have s101 : Sep w98 [ownC 0 68 3 p94 (List.range (i45 + 1)).length c95 ((List.range (i45 + 1)).flatMap (itC b L)), blkC b 35 (L.flatMap evC), Ch.many R] := s99.pick [1, 2, 3] (by decide) rfl; clear s99
    refine hK100 _ _ (s101.pick [1, 2] (by decide) rfl) fun hq93 => ?_
    clear hK100 K100
    have h102 := h96.subs (l' := [(48, _), (47, _), (46, _), (45, _), (44, _), (43, _), (42, _), (41, _), (40, _), (39, _), (38, _), (37, _), (10, _), (34, _), (33, _), (13, _), (12, _), (11, _), (4, _), (0, _), (1, _)]) rfl
    clear h96 h61 h64 h66 h68 h70 h72 h74 h76 h78 h80 h82 h86 a60 a65 a67 a69 a71 a73 a75 a77 a79 a81 a83 a87
    refine tv hq93 h102 12 rfl rfl rfl rfl (by kernel_rfl) (by kernel_rfl) (by kernel_rfl) (fun _ _ _ _ h => h) (wanted_none rfl) (v := .slice p94 ((List.range (i45 + 1)).length) c95) (fun w1 _ => (rassign h102 rfl rfl) w1) fun a104 h103 => ?_
    have h105 := h103.subs (l' := [(5, _), (10, _), (34, _), (33, _), (13, _), (12, _), (11, _), (4, _), (0, _), (1, _)]) rfl
    clear h103 h102 a97
    refine wpAnyH_done (by kernel_rfl) ?_ _
    refine hK55 _ _ ?_
    refine wp_region_lit ?_
    refine sv h105 (wanted_none rfl) rfl rfl rfl (v := .int .i64 ((i45 + 1 : Nat) : Int)) (rbin h105 rfl rfl rfl (bAdd _ _ _ (by omega) (by omega) (by omega))) fun a107 h106 => ?_
    have h108 := h106.subs (l' := [(49, _), (5, _), (10, _), (33, _), (13, _), (12, _), (11, _), (4, _), (0, _), (1, _)]) rfl
    clear h106 h105 a104
    refine sv h108 (wanted_none rfl) rfl rfl rfl (v := .int .i64 ((i45 + 1 : Nat) : Int)) (rmove h108 rfl rfl) fun a110 h109 => ?_
    have h111 := h109.subs (l' := [(34, _), (5, _), (10, _), (33, _), (13, _), (12, _), (11, _), (4, _), (0, _), (1, _)]) rfl
    clear h109 h108 a107
    refine wpList_nil ?_
    exact hK43 (i45 + 1) p94 c95 _ _ ⟨h111.subs rfl, s101, by omega⟩ (by omega)
  · skip
    have hp112 : ¬ ((i45 : Int) < (n : Int)) := (of_decide_eq_false hc52)
    refine wp_condS h49 rfl hc52 ?_
    simp only [Bool.false_eq_true, if_false]
    have h113 := h49.subs (l' := [(34, _), (33, _), (13, _), (12, _), (11, _), (5, _), (4, _), (0, _), (1, _)]) rfl
    clear h49 h41 a39
    refine wp_exit ?_
    refine hK30 _ _ ?_
    refine wp_seq_k fun K114 hK114 => ?_
    have hin : i45 = n := by omega
    rw [hin] at s42 h113; rw [List.length_range] at h113
    have hr : (List.range n).length = n := List.length_range
    refine wp_region_lit ?_
    refine sv h113 (wanted_none rfl) rfl rfl rfl (v := .slice ia46 n ic47) (rmove h113 rfl rfl) fun a116 h115 => ?_
    refine so (wanted_none rfl) fun K123 hK123 => xcall h115 rfl rfl rfl (xs := [.tmp 50, .func 39]) rfl cp_slices_DeleteFunc_audit_item_audit_item_ug rfl (vs := [.slice ia46 n ic47, .func (.func 39) #[] #[]]) rfl (args := #[.slice ia46 n ic47, .func (.func 39) #[] #[]]) rfl (deleteN_s (R := [blkC b 35 (L.flatMap evC), Ch.many R]) (s42 : Sep _ [ownC 0 68 3 ia46 (List.range n).length ic47 ((List.range n).flatMap (itC b L)), blkC b 35 (L.flatMap evC), Ch.many R]) (by omega) hd) fun a118 v119 w120 r121 h117 => hK123 _ _ ?_
    clear hK123 K123
    obtain ⟨rfl, s122⟩ := r121
    have h124 := h117.subs (l' := [(51, _), (50, _), (34, _), (33, _), (13, _), (12, _), (11, _), (4, _), (0, _), (1, _)]) rfl
    clear h117 h113 h115 a50 a116
    refine sv h124 (wanted_none rfl) rfl rfl rfl (v := .slice ia46 n ic47) (rassign h124 rfl rfl) fun a126 h125 => ?_
    have h127 := h125.subs (l' := [(5, _), (34, _), (33, _), (13, _), (12, _), (11, _), (4, _), (0, _), (1, _)]) rfl
    clear h125 h124 a118
    refine wpList_nil ?_
    refine hK114 _ _ ?_
    refine wp_seq_k fun K128 hK128 => ?_
    refine wp_region_lit ?_
    refine sv h127 (wanted_none rfl) rfl rfl rfl (v := .slice ia46 n ic47) (rmove h127 rfl rfl) fun a130 h129 => ?_
    refine so (wanted_none rfl) fun K137 hK137 => xcall h129 rfl rfl rfl (xs := [.tmp 52, .func 41]) rfl cp_slices_SortStableFunc_audit_item_audit_item_ug rfl (vs := [.slice ia46 n ic47, .func (.func 41) #[] #[]]) rfl (args := #[.slice ia46 n ic47, .func (.func 41) #[] #[]]) rfl (sortStable_s (R := [blkC b 35 (L.flatMap evC), Ch.many R]) (s122 : Sep _ [ownC 0 68 3 ia46 (List.range n).length ic47 ((List.range n).flatMap (itC b L)), blkC b 35 (L.flatMap evC), Ch.many R]) hn up) fun a132 v133 w134 r135 h131 => hK137 _ _ ?_
    clear hK137 K137
    obtain ⟨rfl, s136⟩ := r135
    have h138 := h131.subs (l' := [(5, _), (34, _), (33, _), (13, _), (12, _), (11, _), (4, _), (0, _), (1, _)]) rfl
    clear h131 h127 h129 a126 a130
    refine wpList_nil ?_
    refine hK128 _ _ ?_
    refine wp_seq_k fun K139 hK139 => ?_
    refine wp_region_lit ?_
    refine sv h138 (wanted_none rfl) rfl rfl rfl (v := .slice ia46 n ic47) (rmove h138 rfl rfl) fun a141 h140 => ?_
    have h142 := h140.subs (l' := [(54, _), (5, _), (34, _), (33, _), (13, _), (12, _), (11, _), (0, _), (1, _)]) rfl
    clear h140 h138 a132
    refine sv h142 (wanted_none rfl) rfl rfl rfl (v := .slice ia46 n ic47) (rassign h142 rfl rfl) fun a144 h143 => ?_
    have h145 := h143.subs (l' := [(4, _), (5, _), (34, _), (33, _), (13, _), (12, _), (11, _), (0, _), (1, _)]) rfl
    clear h143 h142 a141
    refine wpList_nil ?_
    refine hK139 _ _ ?_
    refine wp_ret ?_
    try simp only [Exit.then, Exit.inBlock]
    refine retR (v := .slice ia46 n ic47) (res1 h145 rfl rfl) h145.defs ?_
    exact ⟨ia46, ic47, rfl, Sep.tail_un (xs := [_, _]) (s136 : Sep _ [ownC 0 68 3 ia46 (List.range n).length ic47 ((List.range n).flatMap (itC b L)), blkC b 35 (L.flatMap evC), Ch.many R])⟩

set_option maxHeartbeats 4000000 in
theorem orderY_s {w : World} {R : List Ch} {b : Nat} {L : List EvM} (hS0 : Sep w ([blkC b 35 (L.flatMap evC)] ++ R)) (hL : L.length = 1) (hd : (L.getD 0 nilEv).done < 1) :
    CallsR Tryz.prog 25 #[.slice (some ⟨b, 0, none⟩) 1 1, .slice none 0 0] w (fun v w' => ∃ ia ic, v = .slice ia 0 ic ∧ Sep w' ([blkC b 35 (L.flatMap evC)] ++ R)) := by
  have hS : Sep w [blkC b 35 (L.flatMap evC), Ch.many R] := Sep.tail_many (xs := [_]) hS0; clear hS0
  refine enterR Tryz.func25 rfl (N := 55) Tryz.ntmps25 (by show 2 ≤ 55; decide) [(0, .slice (some ⟨b, 0, none⟩) 1 1), (1, .slice none 0 0)] rfl fun a2 h1 => ?_
  refine wp_seq_k fun K3 hK3 => ?_
  refine wp_region_lit ?_
  refine sv h1 (wanted_none rfl) rfl rfl rfl (v := .slice none 0 0) (rassign h1 rfl rfl) fun a5 h4 => ?_
  refine wpList_nil ?_
  refine hK3 _ _ ?_
  refine wp_seq_k fun K6 hK6 => ?_
  have s7 := hS.ownNil 0 68 3
  have s8 : Sep w [ownC 0 68 3 none (List.range 0).length 0 ((List.range 0).flatMap (itC b L)), blkC b 35 (L.flatMap evC), Ch.many R] := s7
  refine wp_region_lit ?_
  refine sv h4 (wanted_none rfl) rfl rfl rfl (v := .slice none 0 0) (rassign h4 rfl rfl) fun a10 h9 => ?_
  refine wpList_nil ?_
  refine hK6 _ _ ?_
  refine wp_seq_k fun K11 hK11 => ?_
  refine wp_seq_k fun K12 hK12 => ?_
  refine wp_region_lit ?_
  refine sv h9 (wanted_none rfl) rfl rfl rfl (v := .slice none 0 0) (rmove h9 rfl rfl) fun a14 h13 => ?_
  refine sv h13 (wanted_none rfl) rfl rfl rfl (v := .int .i64 0) (rlenS h13 rfl rfl Tryz.underlying62) fun a16 h15 => ?_
  refine sv h15 (wanted_none rfl) rfl rfl rfl (v := .int .i64 0) (rmove h15 rfl rfl) fun a18 h17 => ?_
  refine wpList_nil ?_
  refine hK12 _ _ ?_
  refine wp_block ?_
  refine wp_loop1 (fun (z : Nat) a' w' => Kn 55 [(13, .int .i64 0), (12, .int .i64 0), (11, .slice none 0 0), (5, .slice none 0 0), (4, .slice none 0 0), (0, .slice (some ⟨b, 0, none⟩) 1 1), (1, .slice none 0 0)] a' ∧ Sep w' [ownC 0 68 3 none (List.range 0).length 0 ((List.range 0).flatMap (itC b L)), blkC b 35 (L.flatMap evC), Ch.many R]) (fun (z : Nat) => z) 0 ⟨h17.subs rfl, s8⟩ ?_
  clear h17 s8
  rintro z24 a19 w20 ⟨h21, s22⟩ K23 hK23
  refine wp_seq_k fun K25 hK25 => ?_
  refine wp_region_lit ?_
  refine sv h21 (wanted_none rfl) rfl rfl rfl (v := .bool false) (rbin h21 rfl rfl rfl (cLt _ _ _ _ rfl)) fun a27 h26 => ?_
  refine wpList_nil ?_
  refine hK25 _ _ ?_
  refine wp_seq_k fun K28 hK28 => ?_
  refine wp_condS h26 rfl rfl ?_
  simp only [Bool.false_eq_true, if_false]
  have h29 := h26.subs (l' := [(13, _), (12, _), (11, _), (5, _), (4, _), (0, _), (1, _)]) rfl
  clear h26 h21 a19
  refine wp_exit ?_
  refine hK11 _ _ ?_
  refine wp_seq_k fun K30 hK30 => ?_
  refine wp_seq_k fun K31 hK31 => ?_
  refine wp_region_lit ?_
  refine sv h29 (wanted_none rfl) rfl rfl rfl (v := .slice (some ⟨b, 0, none⟩) 1 1) (rmove h29 rfl rfl) fun a33 h32 => ?_
  refine sv h32 (wanted_none rfl) rfl rfl rfl (v := .int .i64 1) (rlenS h32 rfl rfl Tryz.underlying22) fun a35 h34 => ?_
  refine sv h34 (wanted_none rfl) rfl rfl rfl (v := .int .i64 0) (rmove h34 rfl rfl) fun a37 h36 => ?_
  have h38 := h36.subs (l' := [(34, _), (33, _), (13, _), (12, _), (11, _), (5, _), (4, _), (0, _), (1, _)]) rfl
  clear h36 h29 h32 h34 a27 a33 a35
  refine wpList_nil ?_
  refine hK31 _ _ ?_
  refine wp_block ?_
  refine wp_loop3 (fun (i : Nat) (ia : Option Addr) (ic : Nat) a' w' => Kn 55 [(34, .int .i64 (i : Int)), (33, .int .i64 1), (13, .int .i64 0), (12, .int .i64 0), (11, .slice none 0 0), (5, .slice ia ((List.range i).length) ic), (4, .slice none 0 0), (0, .slice (some ⟨b, 0, none⟩) 1 1), (1, .slice none 0 0)] a' ∧ Sep w' [ownC 0 68 3 ia (List.range i).length ic ((List.range i).flatMap (itC b L)), blkC b 35 (L.flatMap evC), Ch.many R] ∧ (i ≤ 1)) (fun (i : Nat) (ia : Option Addr) (ic : Nat) => 1 - i) 0 none 0 ⟨h38.subs rfl, s22, by omega⟩ ?_
  clear h38 s22
  rintro i45 ia46 ic47 a39 w40 ⟨h41, s42, hi44⟩ K43 hK43
  refine wp_seq_k fun K48 hK48 => ?_
  refine wp_region_lit ?_
  refine sv h41 (wanted_none rfl) rfl rfl rfl (v := .bool (decide ((i45 : Int) < 1))) (rbin h41 rfl rfl rfl (cLt _ _ _ _ rfl)) fun a50 h49 => ?_
  refine wpList_nil ?_
  refine hK48 _ _ ?_
  refine wp_seq_k fun K51 hK51 => ?_
  rcases Bool.eq_false_or_eq_true (decide ((i45 : Int) < 1)) with hc52 | hc52
  · skip
    have hp53 : (i45 : Int) < 1 := (of_decide_eq_true hc52)
    refine wp_condS h49 rfl hc52 ?_
    simp only [if_true]
    have h54 := h49.subs (l' := [(34, _), (33, _), (13, _), (12, _), (11, _), (5, _), (4, _), (0, _), (1, _)]) rfl
    clear h49 h41 a39
    refine wp_skip ?_
    refine hK51 _ _ ?_
    refine wp_seq_k fun K55 hK55 => ?_
    refine wp_block ?_
    refine wp_seq_k fun K56 hK56 => ?_
    refine wp_region_lit ?_
    refine sv h54 (wanted_none rfl) rfl rfl rfl (v := .int .i64 (i45 : Int)) (rmove h54 rfl rfl) fun a58 h57 => ?_
    refine sv h57 (wanted_none rfl) rfl rfl rfl (v := .int .i64 (i45 : Int)) (rassign h57 rfl rfl) fun a60 h59 => ?_
    have h61 := h59.subs (l' := [(10, _), (34, _), (33, _), (13, _), (12, _), (11, _), (5, _), (4, _), (0, _), (1, _)]) rfl
    clear h59 h54 h57 a50 a58
    refine wpList_nil ?_
    refine hK56 _ _ ?_
    have s63 := s42.drew
    refine wp_region_held_drew (S := fun w' => Sep w' [blkC b 35 (L.flatMap evC), Ch.many R]) (by kernel_rfl) (s63.pick [1, 2] (by decide) rfl) (fun hq62 => ?_)
    refine tv hq62 h61 0 rfl rfl rfl rfl (by kernel_rfl) (by kernel_rfl) (by kernel_rfl) (fun _ _ _ _ h => h) (wanted_none rfl) (v := .slice ia46 ((List.range i45).length) ic47) (fun w1 _ => (rmove h61 rfl rfl) w1) fun a65 h64 => ?_
    refine tv hq62 h64 1 rfl rfl rfl rfl (by kernel_rfl) (by kernel_rfl) (by kernel_rfl) (fun _ _ _ _ h => h) (wanted_none rfl) (v := .slice (some ⟨b, 0, none⟩) 1 1) (fun w1 _ => (rmove h64 rfl rfl) w1) fun a67 h66 => ?_
    refine tv hq62 h66 2 rfl rfl rfl rfl (by kernel_rfl) (by kernel_rfl) (by kernel_rfl) (fun _ _ _ _ h => h) (wanted_none rfl) (v := .int .i64 (i45 : Int)) (fun w1 _ => (rmove h66 rfl rfl) w1) fun a69 h68 => ?_
    refine tv hq62 h68 3 rfl rfl rfl rfl (by kernel_rfl) (by kernel_rfl) (by kernel_rfl) (fun _ _ _ _ h => h) (wanted_none rfl) (v := .pointer (some ⟨b, i45 * 20, none⟩)) (fun w1 _ => (rindexA h68 rfl rfl rfl (fun w => ixS Tryz.underlying22 (by kernel_rfl) (sz := 20) (j := i45) rfl (by omega) rfl w)) w1) fun a71 h70 => ?_
    refine tv hq62 h70 4 rfl rfl rfl rfl (by kernel_rfl) (by kernel_rfl) (by kernel_rfl) (fun _ _ _ _ h => h) (wanted_none rfl) (v := .pointer (some ⟨b, i45 * 20 + 11, none⟩)) (fun w1 _ => (rfa h70 rfl rfl (fun w => fa_api_Event_ub_4 b (i45 * 20) w)) w1) fun a73 h72 => ?_
    refine tv hq62 h72 5 rfl rfl rfl rfl (by kernel_rfl) (by kernel_rfl) (by kernel_rfl) (fun _ _ _ _ h => h) (wanted_none rfl) (v := .int .i64 ((L.getD i45 nilEv).done)) (fun w1 hSw => (rld h72 rfl rfl (ldB Tryz.underlying3 rfl (hSw.get 0 rfl : Blk _ _ _ _) ((ls_get evC_len (j := i45) (k := 11) nilEv (by omega) (by decide) rfl).trans rfl)))) fun a75 h74 => ?_
    refine tv hq62 h74 6 rfl rfl rfl rfl (by kernel_rfl) (by kernel_rfl) (by kernel_rfl) (fun _ _ _ _ h => h) (wanted_none rfl) (v := .slice (some ⟨b, 0, none⟩) 1 1) (fun w1 _ => (rmove h74 rfl rfl) w1) fun a77 h76 => ?_
    refine tv hq62 h76 7 rfl rfl rfl rfl (by kernel_rfl) (by kernel_rfl) (by kernel_rfl) (fun _ _ _ _ h => h) (wanted_none rfl) (v := .int .i64 (i45 : Int)) (fun w1 _ => (rmove h76 rfl rfl) w1) fun a79 h78 => ?_
    refine tv hq62 h78 8 rfl rfl rfl rfl (by kernel_rfl) (by kernel_rfl) (by kernel_rfl) (fun _ _ _ _ h => h) (wanted_none rfl) (v := .pointer (some ⟨b, i45 * 20, none⟩)) (fun w1 _ => (rindexA h78 rfl rfl rfl (fun w => ixS Tryz.underlying22 (by kernel_rfl) (sz := 20) (j := i45) rfl (by omega) rfl w)) w1) fun a81 h80 => ?_
    refine tv hq62 h80 9 rfl rfl rfl rfl (by kernel_rfl) (by kernel_rfl) (by kernel_rfl) (fun _ _ _ _ h => h) (wanted_none rfl) (v := .agg #[.int .i64 ((L.getD i45 nilEv).done), .int .i64 0, .pointer (some ⟨b, i45 * 20, none⟩)]) (fun w1 _ => (rbuild h80 (xs := [(0, .tmp 42), (2, .tmp 45)]) rfl (vs := [(0, .int .i64 ((L.getD i45 nilEv).done)), (2, .pointer (some ⟨b, i45 * 20, none⟩))]) rfl (fun w => by kernel_rfl)) w1) fun a83 h82 => ?_
    refine to_ 10 rfl (wanted_none rfl) (by kernel_rfl) fun K92 hK92 => xbuildS h82 rfl rfl rfl (E := 68) (xs := [(0, .tmp 46)]) rfl (vs := [(0, .agg #[.int .i64 ((L.getD i45 nilEv).done), .int .i64 0, .pointer (some ⟨b, i45 * 20, none⟩)])]) rfl (z := [.int .i64 ((L.getD i45 nilEv).done), .int .i64 0, .pointer (some ⟨b, i45 * 20, none⟩)]) (fun _ => by kernel_rfl) s63 fun a87 g85 w88 h86 s89 b90 e91 => ?_
    clear b90 e91
    refine hK92 _ _ (s89.pick [2, 3] (by decide) rfl) fun hq84 => ?_
    clear hK92 K92
    refine to_ 11 rfl (wanted_none rfl) (by kernel_rfl) fun K100 hK100 => xappS (itC_len b L) h86 rfl rfl rfl rfl EIt s89 1 rfl rfl 0 (y := i45) rfl rfl rfl (by decide) (by rw [List.length_range]; omega) (L' := List.range (i45 + 1)) (List.range_succ).symm fun a97 p94 c95 w98 h96 s99 => ?_
    have s101 : Sep w98 [ownC 0 68 3 p94 (List.range (i45 + 1)).length c95 ((List.range (i45 + 1)).flatMap (itC b L)), blkC b 35 (L.flatMap evC), Ch.many R] := s99.pick [1, 2, 3] (by decide) rfl; clear s99
    refine hK100 _ _ (s101.pick [1, 2] (by decide) rfl) fun hq93 => ?_
    clear hK100 K100
    have h102 := h96.subs (l' := [(48, _), (47, _), (46, _), (45, _), (44, _), (43, _), (42, _), (41, _), (40, _), (39, _), (38, _), (37, _), (10, _), (34, _), (33, _), (13, _), (12, _), (11, _), (4, _), (0, _), (1, _)]) rfl
    clear h96 h61 h64 h66 h68 h70 h72 h74 h76 h78 h80 h82 h86 a60 a65 a67 a69 a71 a73 a75 a77 a79 a81 a83 a87
    refine tv hq93 h102 12 rfl rfl rfl rfl (by kernel_rfl) (by kernel_rfl) (by kernel_rfl) (fun _ _ _ _ h => h) (wanted_none rfl) (v := .slice p94 ((List.range (i45 + 1)).length) c95) (fun w1 _ => (rassign h102 rfl rfl) w1) fun a104 h103 => ?_
    have h105 := h103.subs (l' := [(5, _), (10, _), (34, _), (33, _), (13, _), (12, _), (11, _), (4, _), (0, _), (1, _)]) rfl
    clear h103 h102 a97
    refine wpAnyH_done (by kernel_rfl) ?_ _
    refine hK55 _ _ ?_
    refine wp_region_lit ?_
    refine sv h105 (wanted_none rfl) rfl rfl rfl (v := .int .i64 ((i45 + 1 : Nat) : Int)) (rbin h105 rfl rfl rfl (bAdd _ _ _ (by omega) (by omega) (by omega))) fun a107 h106 => ?_
    have h108 := h106.subs (l' := [(49, _), (5, _), (10, _), (33, _), (13, _), (12, _), (11, _), (4, _), (0, _), (1, _)]) rfl
    clear h106 h105 a104
    refine sv h108 (wanted_none rfl) rfl rfl rfl (v := .int .i64 ((i45 + 1 : Nat) : Int)) (rmove h108 rfl rfl) fun a110 h109 => ?_
    have h111 := h109.subs (l' := [(34, _), (5, _), (10, _), (33, _), (13, _), (12, _), (11, _), (4, _), (0, _), (1, _)]) rfl
    clear h109 h108 a107
    refine wpList_nil ?_
    exact hK43 (i45 + 1) p94 c95 _ _ ⟨h111.subs rfl, s101, by omega⟩ (by omega)
  · skip
    have hp112 : ¬ ((i45 : Int) < 1) := (of_decide_eq_false hc52)
    refine wp_condS h49 rfl hc52 ?_
    simp only [Bool.false_eq_true, if_false]
    have h113 := h49.subs (l' := [(34, _), (33, _), (13, _), (12, _), (11, _), (5, _), (4, _), (0, _), (1, _)]) rfl
    clear h49 h41 a39
    refine wp_exit ?_
    refine hK30 _ _ ?_
    refine wp_seq_k fun K114 hK114 => ?_
    have hin : i45 = 1 := by omega
    rw [hin] at s42 h113; rw [List.length_range] at h113
    have hr : (List.range 1).length = 1 := List.length_range
    refine wp_region_lit ?_
    refine sv h113 (wanted_none rfl) rfl rfl rfl (v := .slice ia46 1 ic47) (rmove h113 rfl rfl) fun a116 h115 => ?_
    refine so (wanted_none rfl) fun K123 hK123 => xcall h115 rfl rfl rfl (xs := [.tmp 50, .func 39]) rfl cp_slices_DeleteFunc_audit_item_audit_item_ub rfl (vs := [.slice ia46 1 ic47, .func (.func 39) #[] #[]]) rfl (args := #[.slice ia46 1 ic47, .func (.func 39) #[] #[]]) rfl (deleteY_s (R := [blkC b 35 (L.flatMap evC), Ch.many R]) (s42 : Sep _ [ownC 0 68 3 ia46 (List.range 1).length ic47 ((List.range 1).flatMap (itC b L)), blkC b 35 (L.flatMap evC), Ch.many R]) hd) fun a118 v119 w120 r121 h117 => hK123 _ _ ?_
    clear hK123 K123
    obtain ⟨rfl, s122⟩ := r121
    have h124 := h117.subs (l' := [(51, _), (50, _), (34, _), (33, _), (13, _), (12, _), (11, _), (4, _), (0, _), (1, _)]) rfl
    clear h117 h113 h115 a50 a116
    refine sv h124 (wanted_none rfl) rfl rfl rfl (v := .slice ia46 0 ic47) (rassign h124 rfl rfl) fun a126 h125 => ?_
    have h127 := h125.subs (l' := [(5, _), (34, _), (33, _), (13, _), (12, _), (11, _), (4, _), (0, _), (1, _)]) rfl
    clear h125 h124 a118
    refine wpList_nil ?_
    refine hK114 _ _ ?_
    refine wp_seq_k fun K128 hK128 => ?_
    refine wp_region_lit ?_
    refine sv h127 (wanted_none rfl) rfl rfl rfl (v := .slice ia46 0 ic47) (rmove h127 rfl rfl) fun a130 h129 => ?_
    refine so (wanted_none rfl) fun K137 hK137 => xcall h129 rfl rfl rfl (xs := [.tmp 52, .func 41]) rfl cp_slices_SortStableFunc_audit_item_audit_item_ub rfl (vs := [.slice ia46 0 ic47, .func (.func 41) #[] #[]]) rfl (args := #[.slice ia46 0 ic47, .func (.func 41) #[] #[]]) rfl (sortStable0_s (R := [blkC b 35 (L.flatMap evC), Ch.many R]) (s122 : Sep _ [blkC b 35 (L.flatMap evC), Ch.many R])) fun a132 v133 w134 r135 h131 => hK137 _ _ ?_
    clear hK137 K137
    obtain ⟨rfl, s136⟩ := r135
    have h138 := h131.subs (l' := [(5, _), (34, _), (33, _), (13, _), (12, _), (11, _), (4, _), (0, _), (1, _)]) rfl
    clear h131 h127 h129 a126 a130
    refine wpList_nil ?_
    refine hK128 _ _ ?_
    refine wp_seq_k fun K139 hK139 => ?_
    refine wp_region_lit ?_
    refine sv h138 (wanted_none rfl) rfl rfl rfl (v := .slice ia46 0 ic47) (rmove h138 rfl rfl) fun a141 h140 => ?_
    have h142 := h140.subs (l' := [(54, _), (5, _), (34, _), (33, _), (13, _), (12, _), (11, _), (0, _), (1, _)]) rfl
    clear h140 h138 a132
    refine sv h142 (wanted_none rfl) rfl rfl rfl (v := .slice ia46 0 ic47) (rassign h142 rfl rfl) fun a144 h143 => ?_
    have h145 := h143.subs (l' := [(4, _), (5, _), (34, _), (33, _), (13, _), (12, _), (11, _), (0, _), (1, _)]) rfl
    clear h143 h142 a141
    refine wpList_nil ?_
    refine hK139 _ _ ?_
    refine wp_ret ?_
    try simp only [Exit.then, Exit.inBlock]
    refine retR (v := .slice ia46 0 ic47) (res1 h145 rfl rfl) h145.defs ?_
    exact ⟨ia46, ic47, rfl, Sep.tail_un (xs := [_]) (s136 : Sep _ [blkC b 35 (L.flatMap evC), Ch.many R])⟩

set_option maxHeartbeats 4000000 in
theorem runN_s {w : World} {R : List Ch} {b n : Nat} {L : List EvM} (hS0 : Sep w ([blkC b 35 (L.flatMap evC)] ++ R)) (hL : L.length = n) (hn : n < 20) (hd : ∀ i, i < n → 1 ≤ (L.getD i nilEv).done) (up : ∀ j, 0 < j → j < n → (L.getD (j - 1) nilEv).done ≤ (L.getD j nilEv).done) (hw : ∀ i, i < n → wfE (L.getD i nilEv)) :
    CallsR Tryz.prog 8 #[.slice (some ⟨b, 0, none⟩) n n, .slice none 0 0] w (fun v w' => ∃ cf M, v = .tuple #[.pointer (some ⟨cf, 0, none⟩), .int .i64 M] ∧ Sep w' ([blkC b 35 (L.flatMap evC)] ++ R) ∧ M = wrE L n) := by
  have hS : Sep w [blkC b 35 (L.flatMap evC), Ch.many R] := Sep.tail_many (xs := [_]) hS0; clear hS0
  have hr : (List.range n).length = n := List.length_range
  refine enterR Tryz.func8 rfl (N := 45) Tryz.ntmps8 (by show 2 ≤ 45; decide) [(0, .slice (some ⟨b, 0, none⟩) n n), (1, .slice none 0 0)] rfl fun a2 h1 => ?_
  refine wp_seq_k fun K3 hK3 => ?_
  refine wp_region_lit ?_
  refine sv h1 (wanted_none rfl) rfl rfl rfl (v := .pointer none) (rassign h1 rfl rfl) fun a5 h4 => ?_
  refine sv h4 (wanted_none rfl) rfl rfl rfl (v := .int .i64 0) (rassign h4 rfl rfl) fun a7 h6 => ?_
  refine wpList_nil ?_
  refine hK3 _ _ ?_
  refine wp_seq_k fun K8 hK8 => ?_
  refine wp_region_lit ?_
  refine so (wanted_none rfl) fun K16 hK16 => xcall h6 rfl rfl rfl (xs := []) rfl cp_posix_New_tg rfl (vs := []) rfl (args := #[]) rfl (new_c (R := [blkC b 35 (L.flatMap evC), Ch.many R]) (hS : Sep _ [blkC b 35 (L.flatMap evC), Ch.many R])) fun a11 v12 w13 r14 h10 => hK16 _ _ ?_
  clear hK16 K16
  obtain ⟨cf, ob, Ax9, rfl, s15, hA14⟩ := r14
  refine sv h10 (wanted_none rfl) rfl rfl rfl (v := .pointer (some ⟨cf, 0, none⟩)) (rassign h10 rfl rfl) fun a18 h17 => ?_
  refine sv h17 (wanted_none rfl) rfl rfl rfl (v := .int .i64 0) (rassign h17 rfl rfl) fun a20 h19 => ?_
  have h21 := h19.subs (l' := [(7, _), (6, _), (5, _), (4, _), (0, _), (1, _)]) rfl
  clear h19 h1 h4 h6 h10 h17 a2 a5 a7 a11 a18
  refine wpList_nil ?_
  refine hK8 _ _ ?_
  refine wp_seq_k fun K22 hK22 => ?_
  refine wp_seq_k fun K23 hK23 => ?_
  refine wp_region_lit ?_
  refine sv h21 (wanted_none rfl) rfl rfl rfl (v := .slice (some ⟨b, 0, none⟩) n n) (rmove h21 rfl rfl) fun a25 h24 => ?_
  refine sv h24 (wanted_none rfl) rfl rfl rfl (v := .slice none 0 0) (rmove h24 rfl rfl) fun a27 h26 => ?_
  refine so (wanted_none rfl) fun K36 hK36 => xcall h26 rfl rfl rfl (xs := [.tmp 11, .tmp 12]) rfl cp_audit_order_tg rfl (vs := [.slice (some ⟨b, 0, none⟩) n n, .slice none 0 0]) rfl (args := #[.slice (some ⟨b, 0, none⟩) n n, .slice none 0 0]) rfl (orderN_s (L := L) (R := [blkC cf 89 [.pointer (some ⟨(Ax9.ad 0), 0, none⟩), .map (some ob)], nodX fs0 Ax9, mapC KO ob Ax9.C (opG fs0 Ax9), Ch.many R]) ((s15.pick [3, 0, 1, 2, 4] (by decide) rfl) : Sep _ [blkC b 35 (L.flatMap evC), blkC cf 89 [.pointer (some ⟨(Ax9.ad 0), 0, none⟩), .map (some ob)], nodX fs0 Ax9, mapC KO ob Ax9.C (opG fs0 Ax9), Ch.many R]) hL hn hd up) fun a31 v32 w33 r34 h30 => hK36 _ _ ?_
  clear hK36 K36
  obtain ⟨iax28, icx29, rfl, s35⟩ := r34
  refine sv h30 (wanted_none rfl) rfl rfl rfl (v := .int .i64 (n : Int)) (rlenS h30 rfl rfl Tryz.underlying64) fun a38 h37 => ?_
  refine sv h37 (wanted_none rfl) rfl rfl rfl (v := .int .i64 0) (rmove h37 rfl rfl) fun a40 h39 => ?_
  have h41 := h39.subs (l' := [(15, _), (14, _), (13, _), (7, _), (6, _), (5, _), (4, _), (0, _), (1, _)]) rfl
  clear h39 h21 h24 h26 h30 h37 a20 a25 a27 a31 a38
  refine wpList_nil ?_
  refine hK23 _ _ ?_
  refine wp_block ?_
  refine wp_loop2 (fun (j : Nat) (A : AdM) a' w' => Kn 45 [(15, .int .i64 (j : Int)), (14, .int .i64 (n : Int)), (13, .slice iax28 n icx29), (7, .int .i64 (wrE L j)), (6, .pointer (some ⟨cf, 0, none⟩)), (5, .int .i64 0), (4, .pointer none), (0, .slice (some ⟨b, 0, none⟩) n n), (1, .slice none 0 0)] a' ∧ Sep w' [blkC cf 89 [.pointer (some ⟨(A.ad 0), 0, none⟩), .map (some ob)], nodX (stE L j) A, mapC KO ob A.C (opG (stE L j) A), ownC 0 68 3 iax28 (List.range n).length icx29 ((List.range n).flatMap (itC b L)), blkC b 35 (L.flatMap evC), Ch.many R] ∧ (FsA (stE L j) A j) ∧ (j ≤ n)) (fun (j : Nat) (A : AdM) => n - j) 0 Ax9 ⟨h41.subs rfl, (s35.pick [2, 3, 4, 0, 1, 5] (by decide) rfl), ⟨fs0_ok, fs0_sz, hA14⟩, Nat.zero_le _⟩ ?_
  clear h41 s35
  rintro j49 A50 a42 w43 ⟨h44, s45, hA47, hj48⟩ K46 hK46
  refine wp_seq_k fun K51 hK51 => ?_
  refine wp_region_lit ?_
  refine sv h44 (wanted_none rfl) rfl rfl rfl (v := .bool (decide ((j49 : Int) < (n : Int)))) (rbin h44 rfl rfl rfl (cLt _ _ _ _ rfl)) fun a53 h52 => ?_
  refine wpList_nil ?_
  refine hK51 _ _ ?_
  refine wp_seq_k fun K54 hK54 => ?_
  rcases Bool.eq_false_or_eq_true (decide ((j49 : Int) < (n : Int))) with hc55 | hc55
  · skip
    have hp56 : (j49 : Int) < (n : Int) := (of_decide_eq_true hc55)
    refine wp_condS h52 rfl hc55 ?_
    simp only [if_true]
    have h57 := h52.subs (l' := [(15, _), (14, _), (13, _), (7, _), (6, _), (5, _), (4, _), (0, _), (1, _)]) rfl
    clear h52 h44 a42
    refine wp_skip ?_
    refine hK54 _ _ ?_
    refine wp_seq_k fun K58 hK58 => ?_
    refine wp_block ?_
    refine wp_seq_k fun K59 hK59 => ?_
    refine wp_region_lit ?_
    obtain ⟨q60, hq61⟩ := own_addr (s45.get 3 rfl : Own _ _ _ _ _ _ _ _)
    refine sv h57 (wanted_none rfl) rfl rfl rfl (v := .pointer (some ⟨q60, j49 * 3, none⟩)) (rindexA h57 rfl rfl rfl (fun w => ixO Tryz.underlying64 (by kernel_rfl) (sz := 3) (hq61 (by omega)) (j := j49) rfl (by omega) (by omega) w)) fun a63 h62 => ?_
    refine sw h62 (wanted_none rfl) rfl rfl rfl (v := .agg #[.int .i64 ((L.getD j49 nilEv).done), .int .i64 0, .pointer (some ⟨b, j49 * 20, none⟩)]) (rld h62 rfl rfl (by have z := ldOS (P := Tryz.prog) (itC_len b L) Tryz.underlying68 rfl (by kernel_rfl) (s45.get 3 rfl : Own _ _ _ _ _ _ _ _) (hq61 (by rw [List.length_range]; omega)) 0 (j := j49) (o := j49 * 3) (by rw [List.length_range]; omega) rfl; rw [range_getD (by omega)] at z; exact z)) fun a65 h64 => ?_
    refine so (wanted_none rfl) fun K73 hK73 => xalloc h64 rfl rfl rfl rfl (z := [.int .i64 0, .int .i64 0, .pointer none]) (fun _ => rfl) s45 fun a68 g66 w69 h67 s70 b71 e72 => hK73 _ _ ?_
    clear hK73 K73
    clear b71 e72
    refine so (wanted_none rfl) fun K79 hK79 => xstore h67 rfl rfl s70 0 rfl rfl rfl [.int .i64 ((L.getD j49 nilEv).done), .int .i64 0, .pointer (some ⟨b, j49 * 20, none⟩)] rfl (by kernel_rfl) rfl (by show 0 + 3 ≤ 3; decide) (L' := [.int .i64 ((L.getD j49 nilEv).done), .int .i64 0, .pointer (some ⟨b, j49 * 20, none⟩)]) rfl (cs' := [blkC g66 68 [.int .i64 ((L.getD j49 nilEv).done), .int .i64 0, .pointer (some ⟨b, j49 * 20, none⟩)], blkC cf 89 [.pointer (some ⟨(A50.ad 0), 0, none⟩), .map (some ob)], nodX (stE L j49) A50, mapC KO ob A50.C (opG (stE L j49) A50), ownC 0 68 3 iax28 (List.range n).length icx29 ((List.range n).flatMap (itC b L)), blkC b 35 (L.flatMap evC), Ch.many R]) rfl fun a75 w76 h74 s77 t78 => hK79 _ _ ?_
    clear hK79 K79
    clear t78
    have h80 := h74.subs (l' := [(9, _), (15, _), (14, _), (13, _), (7, _), (6, _), (5, _), (4, _), (0, _), (1, _)]) rfl
    clear h74 h57 h62 h64 h67 a53 a63 a65 a68
    refine wpList_nil ?_
    refine hK59 _ _ ?_
    refine wp_seq_k fun K81 hK81 => ?_
    refine wp_seq_k fun K82 hK82 => ?_
    refine wp_region_lit ?_
    refine sv h80 (wanted_none rfl) rfl rfl rfl (v := .pointer (some ⟨g66, 2, none⟩)) (rfa h80 rfl rfl (fun w => fa_audit_item_tg_2 g66 0 w)) fun a84 h83 => ?_
    refine sw h83 (wanted_none rfl) rfl rfl rfl (v := .pointer (some ⟨b, j49 * 20, none⟩)) (rld h83 rfl rfl (ldB Tryz.underlying66 rfl (s77.get 0 rfl : Blk _ _ _ _) rfl)) fun a86 h85 => ?_
    refine sv h85 (wanted_none rfl) rfl rfl rfl (v := .bool false) (rbin h85 rfl rfl rfl (bNil _ Tryz.underlying66 _ _ _)) fun a88 h87 => ?_
    have h89 := h87.subs (l' := [(21, _), (9, _), (15, _), (14, _), (13, _), (7, _), (6, _), (5, _), (4, _), (0, _), (1, _)]) rfl
    clear h87 h80 h83 h85 a75 a84 a86
    refine wpList_nil ?_
    refine hK82 _ _ ?_
    refine wp_condS h89 rfl rfl ?_
    simp only [Bool.false_eq_true, if_false]
    have h90 := h89.subs (l' := [(9, _), (15, _), (14, _), (13, _), (7, _), (6, _), (5, _), (4, _), (0, _), (1, _)]) rfl
    clear h89
    refine wp_skip ?_
    refine hK81 _ _ ?_
    refine wp_seq_k fun K91 hK91 => ?_
    refine wp_region_lit ?_
    refine sv h90 (wanted_none rfl) rfl rfl rfl (v := .pointer (some ⟨cf, 0, none⟩)) (rmove h90 rfl rfl) fun a93 h92 => ?_
    refine sv h92 (wanted_none rfl) rfl rfl rfl (v := .pointer (some ⟨g66, 2, none⟩)) (rfa h92 rfl rfl (fun w => fa_audit_item_tg_2 g66 0 w)) fun a95 h94 => ?_
    refine sw h94 (wanted_none rfl) rfl rfl rfl (v := .pointer (some ⟨b, j49 * 20, none⟩)) (rld h94 rfl rfl (ldB Tryz.underlying66 rfl (s77.get 0 rfl : Blk _ _ _ _) rfl)) fun a97 h96 => ?_
    refine sv h96 (wanted_none rfl) rfl rfl rfl (v := .pointer (some ⟨b, j49 * 20, none⟩)) (rnil h96 rfl rfl) fun a99 h98 => ?_
    refine sw h98 (wanted_none rfl) rfl rfl rfl (v := .agg #[.int .i64 ((L.getD j49 nilEv).cl), .int .i64 ((L.getD j49 nilEv).num), .int .i64 ((L.getD j49 nilEv).x.kind), .string (strB ((L.getD j49 nilEv).x.p1)), .string (strB ((L.getD j49 nilEv).x.p2)), .int .i64 ((L.getD j49 nilEv).x.fl), .int .i64 ((L.getD j49 nilEv).x.fd), .int .i64 ((L.getD j49 nilEv).x.off), .int .i64 ((L.getD j49 nilEv).x.n), .string (strB ((L.getD j49 nilEv).x.data)), .int .i64 ((L.getD j49 nilEv).asked), .int .i64 ((L.getD j49 nilEv).done), .int .i64 ((L.getD j49 nilEv).told), .int .i64 ((L.getD j49 nilEv).r.e), .int .i64 ((L.getD j49 nilEv).r.fd), .string (strB ((L.getD j49 nilEv).r.data)), .slice ((L.getD j49 nilEv).na) ((L.getD j49 nilEv).r.names.length) ((L.getD j49 nilEv).nc), .int .i64 ((L.getD j49 nilEv).r.kind), .int .i64 ((L.getD j49 nilEv).r.links), .int .i64 ((L.getD j49 nilEv).r.size)]) (rld h98 rfl rfl (ldA Tryz.underlying35 rfl (n := 20) (by kernel_rfl) (s77.get 5 rfl : Blk _ _ _ _) (ls_all evC_len nilEv (by omega) rfl) rfl)) fun a101 h100 => ?_
    have hws102 := hw j49 (by omega)
    have s102 : Sep w76 [ownC 0 9 1 ((L.getD j49 nilEv).na) ((L.getD j49 nilEv).r.names).length ((L.getD j49 nilEv).nc) (((L.getD j49 nilEv).r.names).flatMap sE), blkC g66 68 [.int .i64 ((L.getD j49 nilEv).done), .int .i64 0, .pointer (some ⟨b, j49 * 20, none⟩)], blkC cf 89 [.pointer (some ⟨(A50.ad 0), 0, none⟩), .map (some ob)], nodX (stE L j49) A50, mapC KO ob A50.C (opG (stE L j49) A50), ownC 0 68 3 iax28 (List.range n).length icx29 ((List.range n).flatMap (itC b L)), blkC b 35 (L.flatMap evC), Ch.many R] := ownNilE hws102.2.2.2.2.2.2.1 s77
    refine so (wanted_none rfl) fun K110 hK110 => xcall h100 rfl rfl rfl (xs := [.tmp 26, .tmp 30]) rfl cp_audit_fits_tg rfl (vs := [.pointer (some ⟨cf, 0, none⟩), .agg #[.int .i64 ((L.getD j49 nilEv).cl), .int .i64 ((L.getD j49 nilEv).num), .int .i64 ((L.getD j49 nilEv).x.kind), .string (strB ((L.getD j49 nilEv).x.p1)), .string (strB ((L.getD j49 nilEv).x.p2)), .int .i64 ((L.getD j49 nilEv).x.fl), .int .i64 ((L.getD j49 nilEv).x.fd), .int .i64 ((L.getD j49 nilEv).x.off), .int .i64 ((L.getD j49 nilEv).x.n), .string (strB ((L.getD j49 nilEv).x.data)), .int .i64 ((L.getD j49 nilEv).asked), .int .i64 ((L.getD j49 nilEv).done), .int .i64 ((L.getD j49 nilEv).told), .int .i64 ((L.getD j49 nilEv).r.e), .int .i64 ((L.getD j49 nilEv).r.fd), .string (strB ((L.getD j49 nilEv).r.data)), .slice ((L.getD j49 nilEv).na) ((L.getD j49 nilEv).r.names.length) ((L.getD j49 nilEv).nc), .int .i64 ((L.getD j49 nilEv).r.kind), .int .i64 ((L.getD j49 nilEv).r.links), .int .i64 ((L.getD j49 nilEv).r.size)]]) rfl (args := #[.pointer (some ⟨cf, 0, none⟩), .agg #[.int .i64 ((L.getD j49 nilEv).cl), .int .i64 ((L.getD j49 nilEv).num), .int .i64 ((L.getD j49 nilEv).x.kind), .string (strB ((L.getD j49 nilEv).x.p1)), .string (strB ((L.getD j49 nilEv).x.p2)), .int .i64 ((L.getD j49 nilEv).x.fl), .int .i64 ((L.getD j49 nilEv).x.fd), .int .i64 ((L.getD j49 nilEv).x.off), .int .i64 ((L.getD j49 nilEv).x.n), .string (strB ((L.getD j49 nilEv).x.data)), .int .i64 ((L.getD j49 nilEv).asked), .int .i64 ((L.getD j49 nilEv).done), .int .i64 ((L.getD j49 nilEv).told), .int .i64 ((L.getD j49 nilEv).r.e), .int .i64 ((L.getD j49 nilEv).r.fd), .string (strB ((L.getD j49 nilEv).r.data)), .slice ((L.getD j49 nilEv).na) ((L.getD j49 nilEv).r.names.length) ((L.getD j49 nilEv).nc), .int .i64 ((L.getD j49 nilEv).r.kind), .int .i64 ((L.getD j49 nilEv).r.links), .int .i64 ((L.getD j49 nilEv).r.size)]]) rfl (fits_s (cf := cf) (ob := ob) (n := j49) (A := A50) (F := (stE L j49)) (G := stE L (j49 + 1)) (r := rpE L j49) (ev := (L.getD j49 nilEv)) (R := [blkC g66 68 [.int .i64 ((L.getD j49 nilEv).done), .int .i64 0, .pointer (some ⟨b, j49 * 20, none⟩)], ownC 0 68 3 iax28 (List.range n).length icx29 ((List.range n).flatMap (itC b L)), blkC b 35 (L.flatMap evC), Ch.many R]) ((s102.pick [2, 3, 4, 0, 1, 5, 6, 7] (by decide) rfl) : Sep _ [blkC cf 89 [.pointer (some ⟨(A50.ad 0), 0, none⟩), .map (some ob)], nodX (stE L j49) A50, mapC KO ob A50.C (opG (stE L j49) A50), ownC 0 9 1 ((L.getD j49 nilEv).na) ((L.getD j49 nilEv).r.names).length ((L.getD j49 nilEv).nc) (((L.getD j49 nilEv).r.names).flatMap sE), blkC g66 68 [.int .i64 ((L.getD j49 nilEv).done), .int .i64 0, .pointer (some ⟨b, j49 * 20, none⟩)], ownC 0 68 3 iax28 (List.range n).length icx29 ((List.range n).flatMap (itC b L)), blkC b 35 (L.flatMap evC), Ch.many R]) hA47 (by omega) hws102.1 hws102.2.1 hws102.2.2.1 hws102.2.2.2.1 rfl hws102.2.2.2.2.1 hws102.2.2.2.2.2.1 (rp_names hA47 (by omega)) hws102.2.2.2.2.2.2.2) fun a105 v106 w107 r108 h104 => hK110 _ _ ?_
    clear hK110 K110
    obtain ⟨Ax103, rfl, s109, hA108⟩ := r108
    have s111 : Sep w107 [blkC cf 89 [.pointer (some ⟨(Ax103.ad 0), 0, none⟩), .map (some ob)], nodX (stE L (j49 + 1)) Ax103, mapC KO ob Ax103.C (opG (stE L (j49 + 1)) Ax103), blkC g66 68 [.int .i64 ((L.getD j49 nilEv).done), .int .i64 0, .pointer (some ⟨b, j49 * 20, none⟩)], ownC 0 68 3 iax28 (List.range n).length icx29 ((List.range n).flatMap (itC b L)), blkC b 35 (L.flatMap evC), Ch.many R] := (s109.pick [0, 1, 2, 4, 5, 6, 7] (by decide) rfl); clear s109
    refine sv h104 (wanted_none rfl) rfl rfl rfl (v := .bool (!(fitB (L.getD j49 nilEv) (rpE L j49)))) (rnot h104 rfl (b := fitB (L.getD j49 nilEv) (rpE L j49)) rfl) fun a113 h112 => ?_
    refine sv h112 (wanted_none rfl) rfl rfl rfl (v := .bool (!(fitB (L.getD j49 nilEv) (rpE L j49)))) (rmove h112 rfl rfl) fun a115 h114 => ?_
    refine sg h114 (wT h114 rfl rfl rfl) rfl rfl rfl (v := .int .i64 (wrE L j49)) (fun hC116 => by have hq := (notT hC116); exact rmove h114 rfl rfl _) fun a118 h117 => ?_
    refine sg h117 (wT h117 rfl rfl rfl) rfl rfl rfl (v := .bool (decide (wrE L j49 = 0))) (fun hC119 => by have hq := (notT hC119); exact rbin h117 rfl (opg rfl hC119) rfl (cEq _ _ _ _ rfl) _) fun a121 h120 => ?_
    refine sv h120 (wanted_none rfl) rfl rfl rfl (v := .bool ((!(fitB (L.getD j49 nilEv) (rpE L j49))) && (decide (wrE L j49 = 0)))) (rpickA h120 rfl (E := (!(fitB (L.getD j49 nilEv) (rpE L j49)))) (F := (decide (wrE L j49 = 0))) rfl rfl rfl (fun e => if_pos (by rw [e]; try rfl))) fun a123 h122 => ?_
    have h124 := h122.subs (l' := [(36, _), (9, _), (15, _), (14, _), (13, _), (7, _), (6, _), (5, _), (4, _), (0, _), (1, _)]) rfl
    clear h122 h90 h92 h94 h96 h98 h100 h104 h112 h114 h117 h120 a88 a93 a95 a97 a99 a101 a105 a113 a115 a118 a121
    refine wpList_nil ?_
    refine hK91 _ _ ?_
    rcases Bool.eq_false_or_eq_true ((!(fitB (L.getD j49 nilEv) (rpE L j49))) && (decide (wrE L j49 = 0))) with hc125 | hc125
    · skip
      have hp126 : ((fitB (L.getD j49 nilEv) (rpE L j49)) = false) ∧ (wrE L j49 = 0) := (And.intro (notT (andT hc125).1) (of_decide_eq_true (andT hc125).2))
      refine wp_condS h124 rfl hc125 ?_
      simp only [if_true]
      have h127 := h124.subs (l' := [(9, _), (15, _), (14, _), (13, _), (7, _), (6, _), (5, _), (4, _), (0, _), (1, _)]) rfl
      clear h124
      refine wp_region_lit ?_
      refine sv h127 (wanted_none rfl) rfl rfl rfl (v := .pointer (some ⟨g66, 2, none⟩)) (rfa h127 rfl rfl (fun w => fa_audit_item_tg_2 g66 0 w)) fun a129 h128 => ?_
      refine sw h128 (wanted_none rfl) rfl rfl rfl (v := .pointer (some ⟨b, j49 * 20, none⟩)) (rld h128 rfl rfl (ldB Tryz.underlying66 rfl (s111.get 3 rfl : Blk _ _ _ _) rfl)) fun a131 h130 => ?_
      refine sv h130 (wanted_none rfl) rfl rfl rfl (v := .pointer (some ⟨b, j49 * 20, none⟩)) (rnil h130 rfl rfl) fun a133 h132 => ?_
      refine sv h132 (wanted_none rfl) rfl rfl rfl (v := .pointer (some ⟨b, j49 * 20 + 1, none⟩)) (rfa h132 rfl rfl (fun w => fa_api_Event_tg_1 b (j49 * 20) w)) fun a135 h134 => ?_
      refine sw h134 (wanted_none rfl) rfl rfl rfl (v := .int .i64 ((L.getD j49 nilEv).num)) (rld h134 rfl rfl (ldB Tryz.underlying3 rfl (s111.get 5 rfl : Blk _ _ _ _) ((ls_get evC_len (j := j49) (k := 1) nilEv (by omega) (by decide) rfl).trans rfl))) fun a137 h136 => ?_
      have h138 := h136.subs (l' := [(41, _), (40, _), (39, _), (38, _), (37, _), (9, _), (15, _), (14, _), (13, _), (6, _), (5, _), (4, _), (0, _), (1, _)]) rfl
      clear h136 h127 h128 h130 h132 h134 a123 a129 a131 a133 a135
      refine sv h138 (wanted_none rfl) rfl rfl rfl (v := .int .i64 ((L.getD j49 nilEv).num)) (rassign h138 rfl rfl) fun a140 h139 => ?_
      have h141 := h139.subs (l' := [(7, _), (9, _), (15, _), (14, _), (13, _), (6, _), (5, _), (4, _), (0, _), (1, _)]) rfl
      clear h139 h138 a137
      refine wpList_nil ?_
      refine hK58 _ _ ?_
      refine wp_region_lit ?_
      refine sv h141 (wanted_none rfl) rfl rfl rfl (v := .int .i64 ((j49 + 1 : Nat) : Int)) (rbin h141 rfl rfl rfl (bAdd _ _ _ (by omega) (by omega) (by omega))) fun a143 h142 => ?_
      have h144 := h142.subs (l' := [(42, _), (7, _), (9, _), (14, _), (13, _), (6, _), (5, _), (4, _), (0, _), (1, _)]) rfl
      clear h142 h141 a140
      refine sv h144 (wanted_none rfl) rfl rfl rfl (v := .int .i64 ((j49 + 1 : Nat) : Int)) (rmove h144 rfl rfl) fun a146 h145 => ?_
      have h147 := h145.subs (l' := [(15, _), (7, _), (9, _), (14, _), (13, _), (6, _), (5, _), (4, _), (0, _), (1, _)]) rfl
      clear h145 h144 a143
      refine wpList_nil ?_
      rw [← wrE_bad (L := L) (j := j49) hc125] at h147
      exact hK46 (j49 + 1) Ax103 _ _ ⟨h147.subs rfl, (s111.pick [0, 1, 2, 4, 5, 6] (by decide) rfl), hA108, by omega⟩ (by omega)
    · skip
      have hp148 : ((fitB (L.getD j49 nilEv) (rpE L j49)) = true) ∨ (¬ (wrE L j49 = 0)) := ((andF hc125).imp (fun q => (notF q)) (fun q => (of_decide_eq_false q)))
      refine wp_condS h124 rfl hc125 ?_
      simp only [Bool.false_eq_true, if_false]
      have h149 := h124.subs (l' := [(9, _), (15, _), (14, _), (13, _), (7, _), (6, _), (5, _), (4, _), (0, _), (1, _)]) rfl
      clear h124
      refine wp_skip ?_
      refine hK58 _ _ ?_
      refine wp_region_lit ?_
      refine sv h149 (wanted_none rfl) rfl rfl rfl (v := .int .i64 ((j49 + 1 : Nat) : Int)) (rbin h149 rfl rfl rfl (bAdd _ _ _ (by omega) (by omega) (by omega))) fun a151 h150 => ?_
      have h152 := h150.subs (l' := [(42, _), (9, _), (14, _), (13, _), (7, _), (6, _), (5, _), (4, _), (0, _), (1, _)]) rfl
      clear h150 h149 a123
      refine sv h152 (wanted_none rfl) rfl rfl rfl (v := .int .i64 ((j49 + 1 : Nat) : Int)) (rmove h152 rfl rfl) fun a154 h153 => ?_
      have h155 := h153.subs (l' := [(15, _), (9, _), (14, _), (13, _), (7, _), (6, _), (5, _), (4, _), (0, _), (1, _)]) rfl
      clear h153 h152 a151
      refine wpList_nil ?_
      rw [← wrE_ok (L := L) (j := j49) hc125] at h155
      exact hK46 (j49 + 1) Ax103 _ _ ⟨h155.subs rfl, (s111.pick [0, 1, 2, 4, 5, 6] (by decide) rfl), hA108, by omega⟩ (by omega)
  · skip
    have hp156 : ¬ ((j49 : Int) < (n : Int)) := (of_decide_eq_false hc55)
    refine wp_condS h52 rfl hc55 ?_
    simp only [Bool.false_eq_true, if_false]
    have h157 := h52.subs (l' := [(15, _), (14, _), (13, _), (7, _), (6, _), (5, _), (4, _), (0, _), (1, _)]) rfl
    clear h52 h44 a42
    refine wp_exit ?_
    refine hK22 _ _ ?_
    refine wp_seq_k fun K158 hK158 => ?_
    refine wp_region_lit ?_
    refine sv h157 (wanted_none rfl) rfl rfl rfl (v := .pointer (some ⟨cf, 0, none⟩)) (rmove h157 rfl rfl) fun a160 h159 => ?_
    refine sv h159 (wanted_none rfl) rfl rfl rfl (v := .int .i64 (wrE L j49)) (rmove h159 rfl rfl) fun a162 h161 => ?_
    have h163 := h161.subs (l' := [(44, _), (43, _), (15, _), (14, _), (13, _), (7, _), (6, _), (5, _), (0, _), (1, _)]) rfl
    clear h161 h157 h159 a53 a160
    refine sv h163 (wanted_none rfl) rfl rfl rfl (v := .pointer (some ⟨cf, 0, none⟩)) (rassign h163 rfl rfl) fun a165 h164 => ?_
    have h166 := h164.subs (l' := [(4, _), (44, _), (43, _), (15, _), (14, _), (13, _), (7, _), (6, _), (0, _), (1, _)]) rfl
    clear h164 h163 a162
    refine sv h166 (wanted_none rfl) rfl rfl rfl (v := .int .i64 (wrE L j49)) (rassign h166 rfl rfl) fun a168 h167 => ?_
    have h169 := h167.subs (l' := [(5, _), (4, _), (15, _), (14, _), (13, _), (7, _), (6, _), (0, _), (1, _)]) rfl
    clear h167 h166 a165
    refine wpList_nil ?_
    refine hK158 _ _ ?_
    refine wp_ret ?_
    try simp only [Exit.then, Exit.inBlock]
    refine retR (v := .tuple #[.pointer (some ⟨cf, 0, none⟩), .int .i64 (wrE L j49)]) (res2 h169 rfl rfl rfl) h169.defs ?_
    have hjn : j49 = n := by omega
    exact ⟨cf, wrE L n, by rw [hjn], Sep.tail_un (xs := [_]) ((s45.pick [4, 5] (by decide) rfl) : Sep _ [blkC b 35 (L.flatMap evC), Ch.many R]), rfl⟩

set_option maxHeartbeats 4000000 in
theorem runY_s {w : World} {R : List Ch} {b : Nat} {L : List EvM} (hS0 : Sep w ([blkC b 35 (L.flatMap evC)] ++ R)) (hL : L.length = 1) (hd : (L.getD 0 nilEv).done < 1) :
    CallsR Tryz.prog 8 #[.slice (some ⟨b, 0, none⟩) 1 1, .slice none 0 0] w (fun v w' => ∃ cf, v = .tuple #[.pointer (some ⟨cf, 0, none⟩), .int .i64 0] ∧ Sep w' ([blkC b 35 (L.flatMap evC)] ++ R)) := by
  have hS : Sep w [blkC b 35 (L.flatMap evC), Ch.many R] := Sep.tail_many (xs := [_]) hS0; clear hS0
  refine enterR Tryz.func8 rfl (N := 45) Tryz.ntmps8 (by show 2 ≤ 45; decide) [(0, .slice (some ⟨b, 0, none⟩) 1 1), (1, .slice none 0 0)] rfl fun a2 h1 => ?_
  refine wp_seq_k fun K3 hK3 => ?_
  refine wp_region_lit ?_
  refine sv h1 (wanted_none rfl) rfl rfl rfl (v := .pointer none) (rassign h1 rfl rfl) fun a5 h4 => ?_
  refine sv h4 (wanted_none rfl) rfl rfl rfl (v := .int .i64 0) (rassign h4 rfl rfl) fun a7 h6 => ?_
  refine wpList_nil ?_
  refine hK3 _ _ ?_
  refine wp_seq_k fun K8 hK8 => ?_
  refine wp_region_lit ?_
  refine so (wanted_none rfl) fun K16 hK16 => xcall h6 rfl rfl rfl (xs := []) rfl cp_posix_New_tb rfl (vs := []) rfl (args := #[]) rfl (new_c (R := [blkC b 35 (L.flatMap evC), Ch.many R]) (hS : Sep _ [blkC b 35 (L.flatMap evC), Ch.many R])) fun a11 v12 w13 r14 h10 => hK16 _ _ ?_
  clear hK16 K16
  obtain ⟨cf, ob, Ax9, rfl, s15, hA14⟩ := r14
  refine sv h10 (wanted_none rfl) rfl rfl rfl (v := .pointer (some ⟨cf, 0, none⟩)) (rassign h10 rfl rfl) fun a18 h17 => ?_
  refine sv h17 (wanted_none rfl) rfl rfl rfl (v := .int .i64 0) (rassign h17 rfl rfl) fun a20 h19 => ?_
  have h21 := h19.subs (l' := [(7, _), (6, _), (5, _), (4, _), (0, _), (1, _)]) rfl
  clear h19 h1 h4 h6 h10 h17 a2 a5 a7 a11 a18
  refine wpList_nil ?_
  refine hK8 _ _ ?_
  refine wp_seq_k fun K22 hK22 => ?_
  refine wp_seq_k fun K23 hK23 => ?_
  refine wp_region_lit ?_
  refine sv h21 (wanted_none rfl) rfl rfl rfl (v := .slice (some ⟨b, 0, none⟩) 1 1) (rmove h21 rfl rfl) fun a25 h24 => ?_
  refine sv h24 (wanted_none rfl) rfl rfl rfl (v := .slice none 0 0) (rmove h24 rfl rfl) fun a27 h26 => ?_
  refine so (wanted_none rfl) fun K36 hK36 => xcall h26 rfl rfl rfl (xs := [.tmp 11, .tmp 12]) rfl cp_audit_order_tb rfl (vs := [.slice (some ⟨b, 0, none⟩) 1 1, .slice none 0 0]) rfl (args := #[.slice (some ⟨b, 0, none⟩) 1 1, .slice none 0 0]) rfl (orderY_s (L := L) (R := [blkC cf 89 [.pointer (some ⟨(Ax9.ad 0), 0, none⟩), .map (some ob)], nodX fs0 Ax9, mapC KO ob Ax9.C (opG fs0 Ax9), Ch.many R]) ((s15.pick [3, 0, 1, 2, 4] (by decide) rfl) : Sep _ [blkC b 35 (L.flatMap evC), blkC cf 89 [.pointer (some ⟨(Ax9.ad 0), 0, none⟩), .map (some ob)], nodX fs0 Ax9, mapC KO ob Ax9.C (opG fs0 Ax9), Ch.many R]) hL hd) fun a31 v32 w33 r34 h30 => hK36 _ _ ?_
  clear hK36 K36
  obtain ⟨iax28, icx29, rfl, s35⟩ := r34
  refine sv h30 (wanted_none rfl) rfl rfl rfl (v := .int .i64 0) (rlenS h30 rfl rfl Tryz.underlying64) fun a38 h37 => ?_
  refine sv h37 (wanted_none rfl) rfl rfl rfl (v := .int .i64 0) (rmove h37 rfl rfl) fun a40 h39 => ?_
  have h41 := h39.subs (l' := [(15, _), (14, _), (13, _), (7, _), (6, _), (5, _), (4, _), (0, _), (1, _)]) rfl
  clear h39 h21 h24 h26 h30 h37 a20 a25 a27 a31 a38
  refine wpList_nil ?_
  refine hK23 _ _ ?_
  refine wp_block ?_
  refine wp_loop1 (fun (z : Nat) a' w' => Kn 45 [(15, .int .i64 0), (14, .int .i64 0), (13, .slice iax28 0 icx29), (7, .int .i64 0), (6, .pointer (some ⟨cf, 0, none⟩)), (5, .int .i64 0), (4, .pointer none), (0, .slice (some ⟨b, 0, none⟩) 1 1), (1, .slice none 0 0)] a' ∧ Sep w' [blkC b 35 (L.flatMap evC), blkC cf 89 [.pointer (some ⟨(Ax9.ad 0), 0, none⟩), .map (some ob)], nodX fs0 Ax9, mapC KO ob Ax9.C (opG fs0 Ax9), Ch.many R]) (fun (z : Nat) => z) 0 ⟨h41.subs rfl, s35⟩ ?_
  clear h41 s35
  rintro z47 a42 w43 ⟨h44, s45⟩ K46 hK46
  refine wp_seq_k fun K48 hK48 => ?_
  refine wp_region_lit ?_
  refine sv h44 (wanted_none rfl) rfl rfl rfl (v := .bool false) (rbin h44 rfl rfl rfl (cLt _ _ _ _ rfl)) fun a50 h49 => ?_
  refine wpList_nil ?_
  refine hK48 _ _ ?_
  refine wp_seq_k fun K51 hK51 => ?_
  refine wp_condS h49 rfl rfl ?_
  simp only [Bool.false_eq_true, if_false]
  have h52 := h49.subs (l' := [(15, _), (14, _), (13, _), (7, _), (6, _), (5, _), (4, _), (0, _), (1, _)]) rfl
  clear h49 h44 a42
  refine wp_exit ?_
  refine hK22 _ _ ?_
  refine wp_seq_k fun K53 hK53 => ?_
  refine wp_region_lit ?_
  refine sv h52 (wanted_none rfl) rfl rfl rfl (v := .pointer (some ⟨cf, 0, none⟩)) (rmove h52 rfl rfl) fun a55 h54 => ?_
  refine sv h54 (wanted_none rfl) rfl rfl rfl (v := .int .i64 0) (rmove h54 rfl rfl) fun a57 h56 => ?_
  have h58 := h56.subs (l' := [(44, _), (43, _), (15, _), (14, _), (13, _), (7, _), (6, _), (5, _), (0, _), (1, _)]) rfl
  clear h56 h52 h54 a50 a55
  refine sv h58 (wanted_none rfl) rfl rfl rfl (v := .pointer (some ⟨cf, 0, none⟩)) (rassign h58 rfl rfl) fun a60 h59 => ?_
  have h61 := h59.subs (l' := [(4, _), (44, _), (43, _), (15, _), (14, _), (13, _), (7, _), (6, _), (0, _), (1, _)]) rfl
  clear h59 h58 a57
  refine sv h61 (wanted_none rfl) rfl rfl rfl (v := .int .i64 0) (rassign h61 rfl rfl) fun a63 h62 => ?_
  have h64 := h62.subs (l' := [(5, _), (4, _), (15, _), (14, _), (13, _), (7, _), (6, _), (0, _), (1, _)]) rfl
  clear h62 h61 a60
  refine wpList_nil ?_
  refine hK53 _ _ ?_
  refine wp_ret ?_
  try simp only [Exit.then, Exit.inBlock]
  refine retR (v := .tuple #[.pointer (some ⟨cf, 0, none⟩), .int .i64 0]) (res2 h64 rfl rfl rfl) h64.defs ?_
  exact ⟨cf, rfl, Sep.tail_un (xs := [_]) ((s45.pick [0, 4] (by decide) rfl) : Sep _ [blkC b 35 (L.flatMap evC), Ch.many R])⟩

end Go.Proofs.YtpdjnefgkcmdnaaGreatDoor
/- stage 25: AuditMoments (sx/au.py) -/
namespace Go.Proofs.YtpdjnefgkcmdnaaGreatDoor
open Go.RowKit
set_option linter.unusedSimpArgs false
set_option linter.unusedVariables false
set_option maxRecDepth 100000

def lvA : EvM := ⟨1, 5, ⟨1, [47, 97], [], 1, 0, 0, 0, []⟩, 1, 2, 3, ⟨0, 0, [], [], 0, 0, 0⟩, none, 0⟩
def lvB : EvM := ⟨1, 5, ⟨1, [47, 97], [], 1, 0, 0, 0, []⟩, 1, 2, 3, ⟨0, 1, [], [], 0, 0, 0⟩, none, 0⟩
def mvE (a d t : Int) : EvM := ⟨1, 9, ⟨7, [47, 97], [], 0, 0, 0, 0, []⟩, a, d, t, ⟨0, 0, [], [], 0, 0, 0⟩, none, 0⟩
theorem one_hd {ev : EvM} (h : 1 ≤ ev.done) : ∀ i, i < 1 → 1 ≤ ([ev].getD i nilEv).done := fun i hi => (show i = 0 by omega) ▸ h
theorem one_up {ev : EvM} : ∀ j, 0 < j → j < 1 → ([ev].getD (j - 1) nilEv).done ≤ ([ev].getD j nilEv).done := fun j h1 h2 => absurd h2 (by omega)
theorem one_wf {ev : EvM} (h : wfE ev) : ∀ i, i < 1 → wfE ([ev].getD i nilEv) := fun i hi => (show i = 0 by omega) ▸ h
theorem lvA_wf : wfE lvA := ⟨by decide, by decide, by decide, by decide, by decide, by decide, ⟨rfl, rfl, rfl⟩, by decide⟩
theorem lvB_wf : wfE lvB := ⟨by decide, by decide, by decide, by decide, by decide, by decide, ⟨rfl, rfl, rfl⟩, by decide⟩
theorem mvE_wf (a d t : Int) : wfE (mvE a d t) := ⟨by show 2 ≤ 1000; decide, Nat.zero_le _, Nat.zero_le _, (by decide : (Lit.int .i64 0).wf = true), fun h => absurd h.2 (by show ¬ (0 : Int) = 18; decide), .inr rfl, ⟨rfl, rfl, rfl⟩, Nat.zero_le _⟩
theorem lvA_wr : wrE [lvA] 1 = 0 := by decide +kernel
theorem lvB_wr : wrE [lvB] 1 = 5 := by decide +kernel
theorem mv_eq : eqA (doF fs0 1 ⟨7, [47, 97], [], 0, 0, 0, 0, []⟩).2 ⟨0, 0, [], [], 0, 0, 0⟩ = true := by decide +kernel
theorem mv_fit (a d t : Int) : fitB (mvE a d t) (rpE [mvE a d t] 0) = (!decide (t > 0) || decide (a ≤ d ∧ d ≤ t)) := by
  show (!decide (t > 0) || (eqA (doF fs0 1 ⟨7, [47, 97], [], 0, 0, 0, 0, []⟩).2 ⟨0, 0, [], [], 0, 0, 0⟩ && decide (a ≤ d ∧ d ≤ t))) = _
  rw [mv_eq]; rfl
theorem mv_bad {a d t M : Int} (hM : M = wrE [mvE a d t] 1) (h : t > 0 ∧ (a > d ∨ d > t)) : M = 9 := by
  rw [hM]
  refine wrE_bad (L := [mvE a d t]) (j := 0) ?_
  show ((!fitB (mvE a d t) (rpE [mvE a d t] 0)) && true) = true
  rw [mv_fit, decide_eq_true h.1, decide_eq_false (by omega)]; rfl
theorem mv_ok {a d t M : Int} (hM : M = wrE [mvE a d t] 1) (h : ¬ (t > 0 ∧ (a > d ∨ d > t))) : M = 0 := by
  rw [hM]
  refine (wrE_ok (L := [mvE a d t]) (j := 0) ?_).trans rfl
  show ((!fitB (mvE a d t) (rpE [mvE a d t] 0)) && true) = false
  rw [mv_fit]
  by_cases ht : t > 0
  · rw [decide_eq_true ht, decide_eq_true (by omega)]; rfl
  · rw [decide_eq_false ht]; rfl
theorem beq_same {X Y b : Bool} (h1 : X = b) (h2 : Y = b) : (X == Y) = true := by rw [h1, h2]; cases b <;> rfl
theorem cp_audit_Run_s1 (args : Array Value) (w : World) : (callFunc 8 args).run Tryz.prog w = .ok (.enter 8 args) w := by
  have h := Tryz.func8
  go_simp
theorem fa_api_Event_s1_6 (g off : Nat) (w : World) : (Instr.fieldAt 35 (.pointer (some ⟨g, off, none⟩)) 6).run Tryz.prog w = .ok (.pointer (some ⟨g, off + 13, none⟩)) w := rfl
theorem fa_api_Reply_s1_1 (g off : Nat) (w : World) : (Instr.fieldAt 28 (.pointer (some ⟨g, off, none⟩)) 1).run Tryz.prog w = .ok (.pointer (some ⟨g, off + 1, none⟩)) w := rfl
theorem cp_audit_Run_s2 (args : Array Value) (w : World) : (callFunc 8 args).run Tryz.prog w = .ok (.enter 8 args) w := by
  have h := Tryz.func8
  go_simp
theorem cp_commonslaw25_lives_s2 (args : Array Value) (w : World) : (callFunc 9 args).run Tryz.prog w = .ok (.enter 9 args) w := by
  have h := Tryz.func9
  go_simp

set_option maxHeartbeats 4000000 in
theorem lives25_s {w : World} {R : List Ch} (hS0 : Sep w R) :
    CallsR Tryz.prog 9 #[] w (fun v w' => v = .bool true ∧ Sep w' R) := by
  have hS : Sep w [Ch.many R] := Sep.tail_many (xs := []) hS0; clear hS0
  refine enterR Tryz.func9 rfl (N := 32) Tryz.ntmps9 (by show 0 ≤ 32; decide) [] rfl fun a2 h1 => ?_
  refine wp_seq_k fun K3 hK3 => ?_
  refine wp_region_lit ?_
  refine sv h1 (wanted_none rfl) rfl rfl rfl (v := .bool false) (rassign h1 rfl rfl) fun a5 h4 => ?_
  refine wpList_nil ?_
  refine hK3 _ _ ?_
  refine wp_seq_k fun K6 hK6 => ?_
  refine wp_region_lit ?_
  refine sv h4 (wanted_none rfl) rfl rfl rfl (v := .agg #[.int .i64 1, .string (strB [47, 97]), .string (strB []), .int .i64 1, .int .i64 0, .int .i64 0, .int .i64 0, .string (strB [])]) (rbuild h4 (xs := [(0, .const (.int .i64 1)), (1, .const (.string (strB [47, 97]))), (3, .const (.int .i64 1))]) rfl (vs := [(0, .int .i64 1), (1, .string (strB [47, 97])), (3, .int .i64 1)]) rfl (fun w => by kernel_rfl)) fun a8 h7 => ?_
  refine sv h7 (wanted_none rfl) rfl rfl rfl (v := .agg #[.int .i64 1, .int .i64 5, .int .i64 1, .string (strB [47, 97]), .string (strB []), .int .i64 1, .int .i64 0, .int .i64 0, .int .i64 0, .string (strB []), .int .i64 1, .int .i64 2, .int .i64 3, .int .i64 0, .int .i64 0, .string (strB []), .slice none 0 0, .int .i64 0, .int .i64 0, .int .i64 0]) (rbuild h7 (xs := [(0, .const (.int .i64 1)), (1, .const (.int .i64 5)), (2, .tmp 6), (3, .const (.int .i64 1)), (4, .const (.int .i64 2)), (5, .const (.int .i64 3))]) rfl (vs := [(0, .int .i64 1), (1, .int .i64 5), (2, .agg #[.int .i64 1, .string (strB [47, 97]), .string (strB []), .int .i64 1, .int .i64 0, .int .i64 0, .int .i64 0, .string (strB [])]), (3, .int .i64 1), (4, .int .i64 2), (5, .int .i64 3)]) rfl (fun w => by kernel_rfl)) fun a10 h9 => ?_
  refine so (wanted_none rfl) fun K18 hK18 => xalloc h9 rfl rfl rfl rfl (z := [.int .i64 0, .int .i64 0, .int .i64 0, .string (strB []), .string (strB []), .int .i64 0, .int .i64 0, .int .i64 0, .int .i64 0, .string (strB []), .int .i64 0, .int .i64 0, .int .i64 0, .int .i64 0, .int .i64 0, .string (strB []), .slice none 0 0, .int .i64 0, .int .i64 0, .int .i64 0]) (fun _ => rfl) hS fun a13 g11 w14 h12 s15 b16 e17 => hK18 _ _ ?_
  clear hK18 K18
  clear b16 e17
  refine so (wanted_none rfl) fun K24 hK24 => xstore h12 rfl rfl s15 0 rfl rfl rfl [.int .i64 1, .int .i64 5, .int .i64 1, .string (strB [47, 97]), .string (strB []), .int .i64 1, .int .i64 0, .int .i64 0, .int .i64 0, .string (strB []), .int .i64 1, .int .i64 2, .int .i64 3, .int .i64 0, .int .i64 0, .string (strB []), .slice none 0 0, .int .i64 0, .int .i64 0, .int .i64 0] rfl (by kernel_rfl) rfl (by show 0 + 20 ≤ 20; decide) (L' := [.int .i64 1, .int .i64 5, .int .i64 1, .string (strB [47, 97]), .string (strB []), .int .i64 1, .int .i64 0, .int .i64 0, .int .i64 0, .string (strB []), .int .i64 1, .int .i64 2, .int .i64 3, .int .i64 0, .int .i64 0, .string (strB []), .slice none 0 0, .int .i64 0, .int .i64 0, .int .i64 0]) rfl (cs' := [blkC g11 35 [.int .i64 1, .int .i64 5, .int .i64 1, .string (strB [47, 97]), .string (strB []), .int .i64 1, .int .i64 0, .int .i64 0, .int .i64 0, .string (strB []), .int .i64 1, .int .i64 2, .int .i64 3, .int .i64 0, .int .i64 0, .string (strB []), .slice none 0 0, .int .i64 0, .int .i64 0, .int .i64 0], Ch.many R]) rfl fun a20 w21 h19 s22 t23 => hK24 _ _ ?_
  clear hK24 K24
  clear t23
  have h25 := h19.subs (l' := [(1, _), (0, _)]) rfl
  clear h19 h1 h4 h7 h9 h12 a2 a5 a8 a10 a13
  refine wpList_nil ?_
  refine hK6 _ _ ?_
  refine wp_seq_k fun K26 hK26 => ?_
  refine wp_region_lit ?_
  refine sw h25 (wanted_none rfl) rfl rfl rfl (v := .agg #[.int .i64 1, .int .i64 5, .int .i64 1, .string (strB [47, 97]), .string (strB []), .int .i64 1, .int .i64 0, .int .i64 0, .int .i64 0, .string (strB []), .int .i64 1, .int .i64 2, .int .i64 3, .int .i64 0, .int .i64 0, .string (strB []), .slice none 0 0, .int .i64 0, .int .i64 0, .int .i64 0]) (rld h25 rfl rfl (ldA Tryz.underlying35 rfl (n := 20) (by kernel_rfl) (s22.get 0 rfl : Blk _ _ _ _) rfl rfl)) fun a28 h27 => ?_
  refine so (wanted_none rfl) fun K36 hK36 => xbuildS h27 rfl rfl rfl (E := 35) (xs := [(0, .tmp 9)]) rfl (vs := [(0, .agg #[.int .i64 1, .int .i64 5, .int .i64 1, .string (strB [47, 97]), .string (strB []), .int .i64 1, .int .i64 0, .int .i64 0, .int .i64 0, .string (strB []), .int .i64 1, .int .i64 2, .int .i64 3, .int .i64 0, .int .i64 0, .string (strB []), .slice none 0 0, .int .i64 0, .int .i64 0, .int .i64 0])]) rfl (z := [.int .i64 1, .int .i64 5, .int .i64 1, .string (strB [47, 97]), .string (strB []), .int .i64 1, .int .i64 0, .int .i64 0, .int .i64 0, .string (strB []), .int .i64 1, .int .i64 2, .int .i64 3, .int .i64 0, .int .i64 0, .string (strB []), .slice none 0 0, .int .i64 0, .int .i64 0, .int .i64 0]) (fun _ => by kernel_rfl) s22 fun a31 g29 w32 h30 s33 b34 e35 => hK36 _ _ ?_
  clear hK36 K36
  clear b34 e35
  refine so (wanted_none rfl) fun K45 hK45 => xcall h30 rfl rfl rfl (xs := [.tmp 10, .const (.slice none 0 0)]) rfl cp_audit_Run_s1 rfl (vs := [.slice (some ⟨g29, 0, none⟩) 1 1, .slice none 0 0]) rfl (args := #[.slice (some ⟨g29, 0, none⟩) 1 1, .slice none 0 0]) rfl (runN_s (L := [lvA]) (n := 1) (b := g29) (R := [blkC g11 35 [.int .i64 1, .int .i64 5, .int .i64 1, .string (strB [47, 97]), .string (strB []), .int .i64 1, .int .i64 0, .int .i64 0, .int .i64 0, .string (strB []), .int .i64 1, .int .i64 2, .int .i64 3, .int .i64 0, .int .i64 0, .string (strB []), .slice none 0 0, .int .i64 0, .int .i64 0, .int .i64 0], Ch.many R]) (s33 : Sep _ [blkC g29 35 ([lvA].flatMap evC), blkC g11 35 [.int .i64 1, .int .i64 5, .int .i64 1, .string (strB [47, 97]), .string (strB []), .int .i64 1, .int .i64 0, .int .i64 0, .int .i64 0, .string (strB []), .int .i64 1, .int .i64 2, .int .i64 3, .int .i64 0, .int .i64 0, .string (strB []), .slice none 0 0, .int .i64 0, .int .i64 0, .int .i64 0], Ch.many R]) rfl (by decide) (one_hd (by decide)) one_up (one_wf lvA_wf)) fun a40 v41 w42 r43 h39 => hK45 _ _ ?_
  clear hK45 K45
  obtain ⟨cfx37, Mx38, rfl, s44, hM43⟩ := r43
  have hv46 : Mx38 = 0 := hM43.trans lvA_wr
  refine sv h39 (wanted_none rfl) rfl rfl rfl (v := .tuple #[.pointer (some ⟨cfx37, 0, none⟩), .int .i64 Mx38]) (rmove h39 rfl rfl) fun a48 h47 => ?_
  refine sv h47 (wanted_none rfl) rfl rfl rfl (v := .pointer (some ⟨cfx37, 0, none⟩)) (rext h47 rfl rfl rfl) fun a50 h49 => ?_
  refine sv h49 (wanted_none rfl) rfl rfl rfl (v := .int .i64 Mx38) (rext h49 rfl rfl rfl) fun a52 h51 => ?_
  refine sv h51 (wanted_none rfl) rfl rfl rfl (v := .pointer (some ⟨cfx37, 0, none⟩)) (rassign h51 rfl rfl) fun a54 h53 => ?_
  refine sv h53 (wanted_none rfl) rfl rfl rfl (v := .int .i64 Mx38) (rassign h53 rfl rfl) fun a56 h55 => ?_
  have h57 := h55.subs (l' := [(3, _), (2, _), (1, _), (0, _)]) rfl
  clear h55 h25 h27 h30 h39 h47 h49 h51 h53 a20 a28 a31 a40 a48 a50 a52 a54
  refine wpList_nil ?_
  refine hK26 _ _ ?_
  refine wp_seq_k fun K58 hK58 => ?_
  refine wp_region_lit ?_
  refine sv h57 (wanted_none rfl) rfl rfl rfl (v := .pointer (some ⟨g11, 13, none⟩)) (rfa h57 rfl rfl (fun w => fa_api_Event_s1_6 g11 0 w)) fun a60 h59 => ?_
  refine sv h59 (wanted_none rfl) rfl rfl rfl (v := .pointer (some ⟨g11, 14, none⟩)) (rfa h59 rfl rfl (fun w => fa_api_Reply_s1_1 g11 13 w)) fun a62 h61 => ?_
  refine so (wanted_none rfl) fun K68 hK68 => xstore h61 rfl rfl s44 1 rfl rfl rfl [.int .i64 1] rfl (by kernel_rfl) rfl (by show 14 + 1 ≤ 20; decide) (L' := [.int .i64 1, .int .i64 5, .int .i64 1, .string (strB [47, 97]), .string (strB []), .int .i64 1, .int .i64 0, .int .i64 0, .int .i64 0, .string (strB []), .int .i64 1, .int .i64 2, .int .i64 3, .int .i64 0, .int .i64 1, .string (strB []), .slice none 0 0, .int .i64 0, .int .i64 0, .int .i64 0]) rfl (cs' := [blkC g29 35 ([lvA].flatMap evC), blkC g11 35 [.int .i64 1, .int .i64 5, .int .i64 1, .string (strB [47, 97]), .string (strB []), .int .i64 1, .int .i64 0, .int .i64 0, .int .i64 0, .string (strB []), .int .i64 1, .int .i64 2, .int .i64 3, .int .i64 0, .int .i64 1, .string (strB []), .slice none 0 0, .int .i64 0, .int .i64 0, .int .i64 0], Ch.many R]) rfl fun a64 w65 h63 s66 t67 => hK68 _ _ ?_
  clear hK68 K68
  clear t67
  have h69 := h63.subs (l' := [(3, _), (2, _), (1, _), (0, _)]) rfl
  clear h63 h57 h59 h61 a56 a60 a62
  refine wpList_nil ?_
  refine hK58 _ _ ?_
  refine wp_seq_k fun K70 hK70 => ?_
  refine wp_region_lit ?_
  refine sw h69 (wanted_none rfl) rfl rfl rfl (v := .agg #[.int .i64 1, .int .i64 5, .int .i64 1, .string (strB [47, 97]), .string (strB []), .int .i64 1, .int .i64 0, .int .i64 0, .int .i64 0, .string (strB []), .int .i64 1, .int .i64 2, .int .i64 3, .int .i64 0, .int .i64 1, .string (strB []), .slice none 0 0, .int .i64 0, .int .i64 0, .int .i64 0]) (rld h69 rfl rfl (ldA Tryz.underlying35 rfl (n := 20) (by kernel_rfl) (s66.get 1 rfl : Blk _ _ _ _) rfl rfl)) fun a72 h71 => ?_
  refine so (wanted_none rfl) fun K80 hK80 => xbuildS h71 rfl rfl rfl (E := 35) (xs := [(0, .tmp 17)]) rfl (vs := [(0, .agg #[.int .i64 1, .int .i64 5, .int .i64 1, .string (strB [47, 97]), .string (strB []), .int .i64 1, .int .i64 0, .int .i64 0, .int .i64 0, .string (strB []), .int .i64 1, .int .i64 2, .int .i64 3, .int .i64 0, .int .i64 1, .string (strB []), .slice none 0 0, .int .i64 0, .int .i64 0, .int .i64 0])]) rfl (z := [.int .i64 1, .int .i64 5, .int .i64 1, .string (strB [47, 97]), .string (strB []), .int .i64 1, .int .i64 0, .int .i64 0, .int .i64 0, .string (strB []), .int .i64 1, .int .i64 2, .int .i64 3, .int .i64 0, .int .i64 1, .string (strB []), .slice none 0 0, .int .i64 0, .int .i64 0, .int .i64 0]) (fun _ => by kernel_rfl) s66 fun a75 g73 w76 h74 s77 b78 e79 => hK80 _ _ ?_
  clear hK80 K80
  clear b78 e79
  refine so (wanted_none rfl) fun K89 hK89 => xcall h74 rfl rfl rfl (xs := [.tmp 18, .const (.slice none 0 0)]) rfl cp_audit_Run_s1 rfl (vs := [.slice (some ⟨g73, 0, none⟩) 1 1, .slice none 0 0]) rfl (args := #[.slice (some ⟨g73, 0, none⟩) 1 1, .slice none 0 0]) rfl (runN_s (L := [lvB]) (n := 1) (b := g73) (R := [blkC g29 35 ([lvA].flatMap evC), blkC g11 35 [.int .i64 1, .int .i64 5, .int .i64 1, .string (strB [47, 97]), .string (strB []), .int .i64 1, .int .i64 0, .int .i64 0, .int .i64 0, .string (strB []), .int .i64 1, .int .i64 2, .int .i64 3, .int .i64 0, .int .i64 1, .string (strB []), .slice none 0 0, .int .i64 0, .int .i64 0, .int .i64 0], Ch.many R]) (s77 : Sep _ [blkC g73 35 ([lvB].flatMap evC), blkC g29 35 ([lvA].flatMap evC), blkC g11 35 [.int .i64 1, .int .i64 5, .int .i64 1, .string (strB [47, 97]), .string (strB []), .int .i64 1, .int .i64 0, .int .i64 0, .int .i64 0, .string (strB []), .int .i64 1, .int .i64 2, .int .i64 3, .int .i64 0, .int .i64 1, .string (strB []), .slice none 0 0, .int .i64 0, .int .i64 0, .int .i64 0], Ch.many R]) rfl (by decide) (one_hd (by decide)) one_up (one_wf lvB_wf)) fun a84 v85 w86 r87 h83 => hK89 _ _ ?_
  clear hK89 K89
  obtain ⟨cfx81, Mx82, rfl, s88, hM87⟩ := r87
  have hv90 : Mx82 = 5 := hM87.trans lvB_wr
  refine sv h83 (wanted_none rfl) rfl rfl rfl (v := .tuple #[.pointer (some ⟨cfx81, 0, none⟩), .int .i64 Mx82]) (rmove h83 rfl rfl) fun a92 h91 => ?_
  refine sv h91 (wanted_none rfl) rfl rfl rfl (v := .pointer (some ⟨cfx81, 0, none⟩)) (rext h91 rfl rfl rfl) fun a94 h93 => ?_
  refine sv h93 (wanted_none rfl) rfl rfl rfl (v := .int .i64 Mx82) (rext h93 rfl rfl rfl) fun a96 h95 => ?_
  refine sv h95 (wanted_none rfl) rfl rfl rfl (v := .pointer (some ⟨cfx81, 0, none⟩)) (rassign h95 rfl rfl) fun a98 h97 => ?_
  refine sv h97 (wanted_none rfl) rfl rfl rfl (v := .int .i64 Mx82) (rassign h97 rfl rfl) fun a100 h99 => ?_
  have h101 := h99.subs (l' := [(5, _), (3, _), (2, _), (1, _), (0, _)]) rfl
  clear h99 h69 h71 h74 h83 h91 h93 h95 h97 a64 a72 a75 a84 a92 a94 a96 a98
  refine wpList_nil ?_
  refine hK70 _ _ ?_
  refine wp_seq_k fun K102 hK102 => ?_
  refine wp_region_lit ?_
  refine sv h101 (wanted_none rfl) rfl rfl rfl (v := .pointer (some ⟨cfx37, 0, none⟩)) (rmove h101 rfl rfl) fun a104 h103 => ?_
  refine sv h103 (wanted_none rfl) rfl rfl rfl (v := .bool true) (rbin h103 rfl rfl rfl (bNNil _ Tryz.underlying37 _ _ _)) fun a106 h105 => ?_
  refine sv h105 (wanted_none rfl) rfl rfl rfl (v := .bool true) (rmove h105 rfl rfl) fun a108 h107 => ?_
  refine sv h107 (wT h107 (E := true) rfl rfl rfl) rfl rfl rfl (v := .int .i64 Mx38) (rmove h107 rfl rfl) fun a110 h109 => ?_
  refine sv h109 (wT h109 (E := true) rfl rfl rfl) rfl rfl rfl (v := .bool true) (rbin h109 rfl rfl rfl (cEq _ _ _ _ (decide_eq_true (by omega)))) fun a112 h111 => ?_
  refine sv h111 (wanted_none rfl) rfl rfl rfl (v := .bool true) (rpick h111 rfl rfl rfl) fun a114 h113 => ?_
  refine sv h113 (wanted_none rfl) rfl rfl rfl (v := .bool true) (rmove h113 rfl rfl) fun a116 h115 => ?_
  refine sv h115 (wT h115 (E := true) rfl rfl rfl) rfl rfl rfl (v := .int .i64 Mx82) (rmove h115 rfl rfl) fun a118 h117 => ?_
  refine sv h117 (wT h117 (E := true) rfl rfl rfl) rfl rfl rfl (v := .bool true) (rbin h117 rfl rfl rfl (cEq _ _ _ _ (decide_eq_true (by omega)))) fun a120 h119 => ?_
  refine sv h119 (wanted_none rfl) rfl rfl rfl (v := .bool true) (rpick h119 rfl rfl rfl) fun a122 h121 => ?_
  have h123 := h121.subs (l' := [(31, _), (30, _), (29, _), (28, _), (27, _), (26, _), (25, _), (24, _), (23, _), (22, _), (5, _), (3, _), (2, _), (1, _)]) rfl
  clear h121 h101 h103 h105 h107 h109 h111 h113 h115 h117 h119 a100 a104 a106 a108 a110 a112 a114 a116 a118 a120
  refine sv h123 (wanted_none rfl) rfl rfl rfl (v := .bool true) (rassign h123 rfl rfl) fun a125 h124 => ?_
  have h126 := h124.subs (l' := [(0, _), (5, _), (3, _), (2, _), (1, _)]) rfl
  clear h124 h123 a122
  refine wpList_nil ?_
  refine hK102 _ _ ?_
  refine wp_ret ?_
  try simp only [Exit.then, Exit.inBlock]
  refine retR (v := .bool true) (res1 h126 rfl rfl) h126.defs ?_
  exact ⟨rfl, Sep.tail_un (xs := []) ((s88.pick [3] (by decide) rfl) : Sep _ [Ch.many R])⟩

set_option maxHeartbeats 4000000 in
theorem AuditMoments_walk (W : World) (qa : Int) (hqa : (Lit.int .i64 qa).wf = true) (qd : Int) (hqd : (Lit.int .i64 qd).wf = true) (qt : Int) (hqt : (Lit.int .i64 qt).wf = true) :
    Calls Tryz.prog 4 #[.int .i64 qa, .int .i64 qd, .int .i64 qt] W fun e W' => e = .returned (.bool true) ∧ Below W.heap.size W W' := by
  have hS : Sep W [oldC W W.heap.size] := Sep.start W
  suffices hZ : CallsR Tryz.prog 4 #[.int .i64 qa, .int .i64 qd, .int .i64 qt] W (fun v W' => v = .bool true ∧ Below W.heap.size W W') from Calls.mono hZ fun e W' ⟨v, e1, e2, h⟩ => ⟨by rw [e1, e2], h⟩
  refine enterR Tryz.func4 rfl (N := 53) Tryz.ntmps4 (by show 3 ≤ 53; decide) [(0, .int .i64 qa), (1, .int .i64 qd), (2, .int .i64 qt)] rfl fun a2 h1 => ?_
  refine wp_seq_k fun K3 hK3 => ?_
  refine wp_region_lit ?_
  refine sv h1 (wanted_none rfl) rfl rfl rfl (v := .bool false) (rassign h1 rfl rfl) fun a5 h4 => ?_
  refine wpList_nil ?_
  refine hK3 _ _ ?_
  refine wp_seq_k fun K6 hK6 => ?_
  refine wp_region_lit ?_
  refine sv h4 (wanted_none rfl) rfl rfl rfl (v := .agg #[.int .i64 7, .string (strB [47, 97]), .string (strB []), .int .i64 0, .int .i64 0, .int .i64 0, .int .i64 0, .string (strB [])]) (rbuild h4 (xs := [(0, .const (.int .i64 7)), (1, .const (.string (strB [47, 97])))]) rfl (vs := [(0, .int .i64 7), (1, .string (strB [47, 97]))]) rfl (fun w => by kernel_rfl)) fun a8 h7 => ?_
  refine sv h7 (wanted_none rfl) rfl rfl rfl (v := .int .i64 qa) (rmove h7 rfl rfl) fun a10 h9 => ?_
  refine sv h9 (wanted_none rfl) rfl rfl rfl (v := .int .i64 qd) (rmove h9 rfl rfl) fun a12 h11 => ?_
  refine sv h11 (wanted_none rfl) rfl rfl rfl (v := .int .i64 qt) (rmove h11 rfl rfl) fun a14 h13 => ?_
  refine sv h13 (wanted_none rfl) rfl rfl rfl (v := .agg #[.int .i64 1, .int .i64 9, .int .i64 7, .string (strB [47, 97]), .string (strB []), .int .i64 0, .int .i64 0, .int .i64 0, .int .i64 0, .string (strB []), .int .i64 qa, .int .i64 qd, .int .i64 qt, .int .i64 0, .int .i64 0, .string (strB []), .slice none 0 0, .int .i64 0, .int .i64 0, .int .i64 0]) (rbuild h13 (xs := [(0, .const (.int .i64 1)), (1, .const (.int .i64 9)), (2, .tmp 11), (3, .tmp 12), (4, .tmp 13), (5, .tmp 14)]) rfl (vs := [(0, .int .i64 1), (1, .int .i64 9), (2, .agg #[.int .i64 7, .string (strB [47, 97]), .string (strB []), .int .i64 0, .int .i64 0, .int .i64 0, .int .i64 0, .string (strB [])]), (3, .int .i64 qa), (4, .int .i64 qd), (5, .int .i64 qt)]) rfl (fun w => by kernel_rfl)) fun a16 h15 => ?_
  refine so (wanted_none rfl) fun K24 hK24 => xalloc h15 rfl rfl rfl rfl (z := [.int .i64 0, .int .i64 0, .int .i64 0, .string (strB []), .string (strB []), .int .i64 0, .int .i64 0, .int .i64 0, .int .i64 0, .string (strB []), .int .i64 0, .int .i64 0, .int .i64 0, .int .i64 0, .int .i64 0, .string (strB []), .slice none 0 0, .int .i64 0, .int .i64 0, .int .i64 0]) (fun _ => rfl) hS fun a19 g17 w20 h18 s21 b22 e23 => hK24 _ _ ?_
  clear hK24 K24
  clear b22 e23
  refine so (wanted_none rfl) fun K30 hK30 => xstore h18 rfl rfl s21 0 rfl rfl rfl [.int .i64 1, .int .i64 9, .int .i64 7, .string (strB [47, 97]), .string (strB []), .int .i64 0, .int .i64 0, .int .i64 0, .int .i64 0, .string (strB []), .int .i64 qa, .int .i64 qd, .int .i64 qt, .int .i64 0, .int .i64 0, .string (strB []), .slice none 0 0, .int .i64 0, .int .i64 0, .int .i64 0] rfl (by kernel_rfl) rfl (by show 0 + 20 ≤ 20; decide) (L' := [.int .i64 1, .int .i64 9, .int .i64 7, .string (strB [47, 97]), .string (strB []), .int .i64 0, .int .i64 0, .int .i64 0, .int .i64 0, .string (strB []), .int .i64 qa, .int .i64 qd, .int .i64 qt, .int .i64 0, .int .i64 0, .string (strB []), .slice none 0 0, .int .i64 0, .int .i64 0, .int .i64 0]) rfl (cs' := [blkC g17 35 [.int .i64 1, .int .i64 9, .int .i64 7, .string (strB [47, 97]), .string (strB []), .int .i64 0, .int .i64 0, .int .i64 0, .int .i64 0, .string (strB []), .int .i64 qa, .int .i64 qd, .int .i64 qt, .int .i64 0, .int .i64 0, .string (strB []), .slice none 0 0, .int .i64 0, .int .i64 0, .int .i64 0], oldC W W.heap.size]) rfl fun a26 w27 h25 s28 t29 => hK30 _ _ ?_
  clear hK30 K30
  clear t29
  have h31 := h25.subs (l' := [(7, _), (6, _), (0, _), (1, _), (2, _)]) rfl
  clear h25 h1 h4 h7 h9 h11 h13 h15 h18 a2 a5 a8 a10 a12 a14 a16 a19
  refine wpList_nil ?_
  refine hK6 _ _ ?_
  refine wp_seq_k fun K32 hK32 => ?_
  refine wp_region_lit ?_
  refine sw h31 (wanted_none rfl) rfl rfl rfl (v := .agg #[.int .i64 1, .int .i64 9, .int .i64 7, .string (strB [47, 97]), .string (strB []), .int .i64 0, .int .i64 0, .int .i64 0, .int .i64 0, .string (strB []), .int .i64 qa, .int .i64 qd, .int .i64 qt, .int .i64 0, .int .i64 0, .string (strB []), .slice none 0 0, .int .i64 0, .int .i64 0, .int .i64 0]) (rld h31 rfl rfl (ldA Tryz.underlying35 rfl (n := 20) (by kernel_rfl) (s28.get 0 rfl : Blk _ _ _ _) rfl rfl)) fun a34 h33 => ?_
  refine so (wanted_none rfl) fun K42 hK42 => xbuildS h33 rfl rfl rfl (E := 35) (xs := [(0, .tmp 17)]) rfl (vs := [(0, .agg #[.int .i64 1, .int .i64 9, .int .i64 7, .string (strB [47, 97]), .string (strB []), .int .i64 0, .int .i64 0, .int .i64 0, .int .i64 0, .string (strB []), .int .i64 qa, .int .i64 qd, .int .i64 qt, .int .i64 0, .int .i64 0, .string (strB []), .slice none 0 0, .int .i64 0, .int .i64 0, .int .i64 0])]) rfl (z := [.int .i64 1, .int .i64 9, .int .i64 7, .string (strB [47, 97]), .string (strB []), .int .i64 0, .int .i64 0, .int .i64 0, .int .i64 0, .string (strB []), .int .i64 qa, .int .i64 qd, .int .i64 qt, .int .i64 0, .int .i64 0, .string (strB []), .slice none 0 0, .int .i64 0, .int .i64 0, .int .i64 0]) (fun _ => by kernel_rfl) s28 fun a37 g35 w38 h36 s39 b40 e41 => hK42 _ _ ?_
  clear hK42 K42
  clear b40 e41
  rcases Bool.eq_false_or_eq_true (decide (qd < 1)) with hc43 | hc43
  · skip
    have hp44 : qd < 1 := (of_decide_eq_true hc43)
    refine so (wanted_none rfl) fun K52 hK52 => xcall h36 rfl rfl rfl (xs := [.tmp 18, .const (.slice none 0 0)]) rfl cp_audit_Run_s2 rfl (vs := [.slice (some ⟨g35, 0, none⟩) 1 1, .slice none 0 0]) rfl (args := #[.slice (some ⟨g35, 0, none⟩) 1 1, .slice none 0 0]) rfl (runY_s (L := [mvE qa qd qt]) (b := g35) (R := [blkC g17 35 [.int .i64 1, .int .i64 9, .int .i64 7, .string (strB [47, 97]), .string (strB []), .int .i64 0, .int .i64 0, .int .i64 0, .int .i64 0, .string (strB []), .int .i64 qa, .int .i64 qd, .int .i64 qt, .int .i64 0, .int .i64 0, .string (strB []), .slice none 0 0, .int .i64 0, .int .i64 0, .int .i64 0], oldC W W.heap.size]) (s39 : Sep _ [blkC g35 35 ([mvE qa qd qt].flatMap evC), blkC g17 35 [.int .i64 1, .int .i64 9, .int .i64 7, .string (strB [47, 97]), .string (strB []), .int .i64 0, .int .i64 0, .int .i64 0, .int .i64 0, .string (strB []), .int .i64 qa, .int .i64 qd, .int .i64 qt, .int .i64 0, .int .i64 0, .string (strB []), .slice none 0 0, .int .i64 0, .int .i64 0, .int .i64 0], oldC W W.heap.size]) rfl (by show qd < 1; omega)) fun a47 v48 w49 r50 h46 => hK52 _ _ ?_
    clear hK52 K52
    obtain ⟨cfx45, rfl, s51⟩ := r50
    refine sv h46 (wanted_none rfl) rfl rfl rfl (v := .tuple #[.pointer (some ⟨cfx45, 0, none⟩), .int .i64 0]) (rmove h46 rfl rfl) fun a54 h53 => ?_
    refine sv h53 (wanted_none rfl) rfl rfl rfl (v := .pointer (some ⟨cfx45, 0, none⟩)) (rext h53 rfl rfl rfl) fun a56 h55 => ?_
    refine sv h55 (wanted_none rfl) rfl rfl rfl (v := .int .i64 0) (rext h55 rfl rfl rfl) fun a58 h57 => ?_
    refine sv h57 (wanted_none rfl) rfl rfl rfl (v := .pointer (some ⟨cfx45, 0, none⟩)) (rassign h57 rfl rfl) fun a60 h59 => ?_
    refine sv h59 (wanted_none rfl) rfl rfl rfl (v := .int .i64 0) (rassign h59 rfl rfl) fun a62 h61 => ?_
    have h63 := h61.subs (l' := [(9, _), (7, _), (6, _), (0, _), (1, _), (2, _)]) rfl
    clear h61 h31 h33 h36 h46 h53 h55 h57 h59 a26 a34 a37 a47 a54 a56 a58 a60
    refine wpList_nil ?_
    refine hK32 _ _ ?_
    refine wp_seq_k fun K64 hK64 => ?_
    refine wp_region_lit ?_
    refine sv h63 (wanted_none rfl) rfl rfl rfl (v := .int .i64 qd) (rmove h63 rfl rfl) fun a66 h65 => ?_
    refine sv h65 (wanted_none rfl) rfl rfl rfl (v := .bool false) (rbin h65 rfl rfl rfl (cGt _ _ _ _ (decide_eq_false (by omega)))) fun a68 h67 => ?_
    refine sv h67 (wanted_none rfl) rfl rfl rfl (v := .bool false) (rmove h67 rfl rfl) fun a70 h69 => ?_
    refine su h69 (wT h69 (E := false) rfl rfl rfl) rfl rfl rfl fun a72 h71 => ?_
    refine su h71 (wT h71 (E := false) rfl rfl rfl) rfl rfl rfl fun a74 h73 => ?_
    refine sv h73 (wanted_none rfl) rfl rfl rfl (v := .bool false) (rpick h73 rfl rfl rfl) fun a76 h75 => ?_
    refine sv h75 (wanted_none rfl) rfl rfl rfl (v := .bool false) (rmove h75 rfl rfl) fun a78 h77 => ?_
    refine su h77 (wT h77 (E := false) rfl rfl rfl) rfl rfl rfl fun a80 h79 => ?_
    refine su h79 (wT h79 (E := false) rfl rfl rfl) rfl rfl rfl fun a82 h81 => ?_
    refine su h81 (wT h81 (E := false) rfl rfl rfl) rfl rfl rfl fun a84 h83 => ?_
    refine su h83 (wT h83 (E := false) rfl rfl rfl) rfl rfl rfl fun a86 h85 => ?_
    refine su h85 (wgu h85 rfl rfl rfl) rfl rfl rfl fun a88 h87 => ?_
    refine su h87 (wgu h87 rfl rfl rfl) rfl rfl rfl fun a90 h89 => ?_
    refine su h89 (wgu h89 rfl rfl rfl) rfl rfl rfl fun a92 h91 => ?_
    refine su h91 (wT h91 (E := false) rfl rfl rfl) rfl rfl rfl fun a94 h93 => ?_
    refine sv h93 (wanted_none rfl) rfl rfl rfl (v := .bool false) (rpick h93 rfl rfl rfl) fun a96 h95 => ?_
    refine sv h95 (wanted_none rfl) rfl rfl rfl (v := .bool false) (rassign h95 rfl rfl) fun a98 h97 => ?_
    have h99 := h97.subs (l' := [(10, _), (9, _), (7, _), (6, _), (0, _), (1, _), (2, _)]) rfl
    clear h97 h63 h65 h67 h69 h71 h73 h75 h77 h79 h81 h83 h85 h87 h89 h91 h93 h95 a62 a66 a68 a70 a72 a74 a76 a78 a80 a82 a84 a86 a88 a90 a92 a94 a96
    refine wpList_nil ?_
    refine hK64 _ _ ?_
    refine wp_seq_k fun K100 hK100 => ?_
    refine wp_region_lit ?_
    refine sv h99 (wanted_none rfl) rfl rfl rfl (v := .int .i64 0) (rmove h99 rfl rfl) fun a102 h101 => ?_
    refine sv h101 (wanted_none rfl) rfl rfl rfl (v := .bool false) (rbin h101 rfl rfl rfl (cEq _ _ _ _ rfl)) fun a104 h103 => ?_
    refine sv h103 (wanted_none rfl) rfl rfl rfl (v := .bool false) (rmove h103 rfl rfl) fun a106 h105 => ?_
    refine sv h105 (wanted_none rfl) rfl rfl rfl (v := .bool true) (rbin h105 rfl rfl rfl (bSame _ Tryz.underlying4 _ _ _)) fun a108 h107 => ?_
    refine sv h107 (wanted_none rfl) rfl rfl rfl (v := .bool true) (rmove h107 rfl rfl) fun a110 h109 => ?_
    refine sv h109 (wT h109 (E := true) rfl rfl rfl) rfl rfl rfl (v := .int .i64 0) (rmove h109 rfl rfl) fun a112 h111 => ?_
    refine sv h111 (wT h111 (E := true) rfl rfl rfl) rfl rfl rfl (v := .bool true) (rbin h111 rfl rfl rfl (cEq _ _ _ _ rfl)) fun a114 h113 => ?_
    refine sv h113 (wT h113 (E := true) rfl rfl rfl) rfl rfl rfl (v := .bool true) (rmove h113 rfl rfl) fun a116 h115 => ?_
    refine su h115 (wF h115 (E := true) rfl rfl rfl) rfl rfl rfl fun a118 h117 => ?_
    refine su h117 (wF h117 (E := true) rfl rfl rfl) rfl rfl rfl fun a120 h119 => ?_
    refine sv h119 (wT h119 (E := true) rfl rfl rfl) rfl rfl rfl (v := .bool true) (rpick h119 rfl rfl rfl) fun a122 h121 => ?_
    refine sv h121 (wanted_none rfl) rfl rfl rfl (v := .bool true) (rpick h121 rfl rfl rfl) fun a124 h123 => ?_
    refine sv h123 (wanted_none rfl) rfl rfl rfl (v := .bool true) (rmove h123 rfl rfl) fun a126 h125 => ?_
    refine so (wT h125 (E := true) rfl rfl rfl) fun K133 hK133 => xcall h125 rfl rfl rfl (xs := []) rfl cp_commonslaw25_lives_s2 rfl (vs := []) rfl (args := #[]) rfl (lives25_s (R := [blkC g35 35 ([mvE qa qd qt].flatMap evC), blkC g17 35 [.int .i64 1, .int .i64 9, .int .i64 7, .string (strB [47, 97]), .string (strB []), .int .i64 0, .int .i64 0, .int .i64 0, .int .i64 0, .string (strB []), .int .i64 qa, .int .i64 qd, .int .i64 qt, .int .i64 0, .int .i64 0, .string (strB []), .slice none 0 0, .int .i64 0, .int .i64 0, .int .i64 0], oldC W W.heap.size]) (s51 : Sep _ [blkC g35 35 ([mvE qa qd qt].flatMap evC), blkC g17 35 [.int .i64 1, .int .i64 9, .int .i64 7, .string (strB [47, 97]), .string (strB []), .int .i64 0, .int .i64 0, .int .i64 0, .int .i64 0, .string (strB []), .int .i64 qa, .int .i64 qd, .int .i64 qt, .int .i64 0, .int .i64 0, .string (strB []), .slice none 0 0, .int .i64 0, .int .i64 0, .int .i64 0], oldC W W.heap.size])) fun a128 v129 w130 r131 h127 => hK133 _ _ ?_
    clear hK133 K133
    obtain ⟨rfl, s132⟩ := r131
    refine sv h127 (wanted_none rfl) rfl rfl rfl (v := .bool true) (rpick h127 rfl rfl rfl) fun a135 h134 => ?_
    have h136 := h134.subs (l' := [(52, _), (51, _), (50, _), (49, _), (48, _), (47, _), (46, _), (45, _), (44, _), (43, _), (42, _), (41, _), (40, _), (39, _), (38, _), (10, _), (9, _), (7, _), (0, _), (1, _), (2, _)]) rfl
    clear h134 h99 h101 h103 h105 h107 h109 h111 h113 h115 h117 h119 h121 h123 h125 h127 a98 a102 a104 a106 a108 a110 a112 a114 a116 a118 a120 a122 a124 a126 a128
    refine sv h136 (wanted_none rfl) rfl rfl rfl (v := .bool true) (rassign h136 rfl rfl) fun a138 h137 => ?_
    have h139 := h137.subs (l' := [(6, _), (10, _), (9, _), (7, _), (0, _), (1, _), (2, _)]) rfl
    clear h137 h136 a135
    refine wpList_nil ?_
    refine hK100 _ _ ?_
    refine wp_ret ?_
    try simp only [Exit.then, Exit.inBlock]
    refine retR (v := .bool true) (res1 h139 rfl rfl) h139.defs ?_
    exact ⟨rfl, (s132.get 2 rfl : Below _ _ _ ∧ _).1⟩
  · skip
    have hp140 : ¬ (qd < 1) := (of_decide_eq_false hc43)
    refine so (wanted_none rfl) fun K149 hK149 => xcall h36 rfl rfl rfl (xs := [.tmp 18, .const (.slice none 0 0)]) rfl cp_audit_Run_s2 rfl (vs := [.slice (some ⟨g35, 0, none⟩) 1 1, .slice none 0 0]) rfl (args := #[.slice (some ⟨g35, 0, none⟩) 1 1, .slice none 0 0]) rfl (runN_s (L := [mvE qa qd qt]) (n := 1) (b := g35) (R := [blkC g17 35 [.int .i64 1, .int .i64 9, .int .i64 7, .string (strB [47, 97]), .string (strB []), .int .i64 0, .int .i64 0, .int .i64 0, .int .i64 0, .string (strB []), .int .i64 qa, .int .i64 qd, .int .i64 qt, .int .i64 0, .int .i64 0, .string (strB []), .slice none 0 0, .int .i64 0, .int .i64 0, .int .i64 0], oldC W W.heap.size]) (s39 : Sep _ [blkC g35 35 ([mvE qa qd qt].flatMap evC), blkC g17 35 [.int .i64 1, .int .i64 9, .int .i64 7, .string (strB [47, 97]), .string (strB []), .int .i64 0, .int .i64 0, .int .i64 0, .int .i64 0, .string (strB []), .int .i64 qa, .int .i64 qd, .int .i64 qt, .int .i64 0, .int .i64 0, .string (strB []), .slice none 0 0, .int .i64 0, .int .i64 0, .int .i64 0], oldC W W.heap.size]) rfl (by decide) (one_hd (by show 1 ≤ qd; omega)) one_up (one_wf (mvE_wf qa qd qt))) fun a144 v145 w146 r147 h143 => hK149 _ _ ?_
    clear hK149 K149
    obtain ⟨cfx141, Mx142, rfl, s148, hM147⟩ := r147
    refine sv h143 (wanted_none rfl) rfl rfl rfl (v := .tuple #[.pointer (some ⟨cfx141, 0, none⟩), .int .i64 Mx142]) (rmove h143 rfl rfl) fun a151 h150 => ?_
    refine sv h150 (wanted_none rfl) rfl rfl rfl (v := .pointer (some ⟨cfx141, 0, none⟩)) (rext h150 rfl rfl rfl) fun a153 h152 => ?_
    refine sv h152 (wanted_none rfl) rfl rfl rfl (v := .int .i64 Mx142) (rext h152 rfl rfl rfl) fun a155 h154 => ?_
    refine sv h154 (wanted_none rfl) rfl rfl rfl (v := .pointer (some ⟨cfx141, 0, none⟩)) (rassign h154 rfl rfl) fun a157 h156 => ?_
    refine sv h156 (wanted_none rfl) rfl rfl rfl (v := .int .i64 Mx142) (rassign h156 rfl rfl) fun a159 h158 => ?_
    have h160 := h158.subs (l' := [(9, _), (7, _), (6, _), (0, _), (1, _), (2, _)]) rfl
    clear h158 h31 h33 h36 h143 h150 h152 h154 h156 a26 a34 a37 a144 a151 a153 a155 a157
    refine wpList_nil ?_
    refine hK32 _ _ ?_
    refine wp_seq_k fun K161 hK161 => ?_
    refine wp_region_lit ?_
    refine sv h160 (wanted_none rfl) rfl rfl rfl (v := .int .i64 qd) (rmove h160 rfl rfl) fun a163 h162 => ?_
    refine sv h162 (wanted_none rfl) rfl rfl rfl (v := .bool true) (rbin h162 rfl rfl rfl (cGt _ _ _ _ (decide_eq_true (by omega)))) fun a165 h164 => ?_
    refine sv h164 (wanted_none rfl) rfl rfl rfl (v := .bool true) (rmove h164 rfl rfl) fun a167 h166 => ?_
    refine sv h166 (wT h166 (E := true) rfl rfl rfl) rfl rfl rfl (v := .int .i64 qt) (rmove h166 rfl rfl) fun a169 h168 => ?_
    refine sv h168 (wT h168 (E := true) rfl rfl rfl) rfl rfl rfl (v := .bool (decide (qt > 0))) (rbin h168 rfl rfl rfl (cGt _ _ _ _ rfl)) fun a171 h170 => ?_
    refine sv h170 (wanted_none rfl) rfl rfl rfl (v := .bool (decide (qt > 0))) (rpick h170 rfl rfl rfl) fun a173 h172 => ?_
    refine sv h172 (wanted_none rfl) rfl rfl rfl (v := .bool (decide (qt > 0))) (rmove h172 rfl rfl) fun a175 h174 => ?_
    rcases Bool.eq_false_or_eq_true (decide (qt > 0)) with hc176 | hc176
    · skip
      have hp177 : qt > 0 := (of_decide_eq_true hc176)
      refine sv h174 ((wT h174 rfl rfl rfl).trans hc176) rfl rfl rfl (v := .int .i64 qa) (rmove h174 rfl rfl) fun a179 h178 => ?_
      refine sv h178 ((wT h178 rfl rfl rfl).trans hc176) rfl rfl rfl (v := .int .i64 qd) (rmove h178 rfl rfl) fun a181 h180 => ?_
      refine sv h180 ((wT h180 rfl rfl rfl).trans hc176) rfl rfl rfl (v := .bool (decide (qa > qd))) (rbin h180 rfl rfl rfl (cGt _ _ _ _ rfl)) fun a183 h182 => ?_
      refine sv h182 ((wT h182 rfl rfl rfl).trans hc176) rfl rfl rfl (v := .bool (decide (qa > qd))) (rmove h182 rfl rfl) fun a185 h184 => ?_
      rcases Bool.eq_false_or_eq_true (decide (qa > qd)) with hc186 | hc186
      · skip
        have hp187 : qa > qd := (of_decide_eq_true hc186)
        refine su h184 ((wF h184 rfl rfl rfl).trans (bNotT hc186)) rfl rfl rfl fun a189 h188 => ?_
        refine su h188 ((wF h188 rfl rfl rfl).trans (bNotT hc186)) rfl rfl rfl fun a191 h190 => ?_
        refine su h190 ((wF h190 rfl rfl rfl).trans (bNotT hc186)) rfl rfl rfl fun a193 h192 => ?_
        refine sv h192 ((wT h192 rfl rfl rfl).trans hc176) rfl rfl rfl (v := .bool true) (rpickE h192 rfl (E := (decide (qa > qd))) (b := true) rfl hc186 rfl) fun a195 h194 => ?_
        refine sv h194 (wanted_none rfl) rfl rfl rfl (v := .bool true) (rpickE h194 rfl (E := (decide (qt > 0))) (b := true) rfl hc176 rfl) fun a197 h196 => ?_
        refine sv h196 (wanted_none rfl) rfl rfl rfl (v := .bool true) (rassign h196 rfl rfl) fun a199 h198 => ?_
        have h200 := h198.subs (l' := [(10, _), (9, _), (7, _), (6, _), (0, _), (1, _), (2, _)]) rfl
        clear h198 h160 h162 h164 h166 h168 h170 h172 h174 h178 h180 h182 h184 h188 h190 h192 h194 h196 a159 a163 a165 a167 a169 a171 a173 a175 a179 a181 a183 a185 a189 a191 a193 a195 a197
        refine wpList_nil ?_
        refine hK161 _ _ ?_
        refine wp_seq_k fun K201 hK201 => ?_
        have hv202 : Mx142 = 9 := mv_bad hM147 (by omega)
        refine wp_region_lit ?_
        refine sv h200 (wanted_none rfl) rfl rfl rfl (v := .int .i64 Mx142) (rmove h200 rfl rfl) fun a204 h203 => ?_
        refine sv h203 (wanted_none rfl) rfl rfl rfl (v := .bool true) (rbin h203 rfl rfl rfl (cEq _ _ _ _ (decide_eq_true (by omega)))) fun a206 h205 => ?_
        refine sv h205 (wanted_none rfl) rfl rfl rfl (v := .bool true) (rmove h205 rfl rfl) fun a208 h207 => ?_
        refine sv h207 (wanted_none rfl) rfl rfl rfl (v := .bool true) (rbin h207 rfl rfl rfl (bSame _ Tryz.underlying4 _ _ _)) fun a210 h209 => ?_
        refine sv h209 (wanted_none rfl) rfl rfl rfl (v := .bool true) (rmove h209 rfl rfl) fun a212 h211 => ?_
        refine sv h211 (wT h211 (E := true) rfl rfl rfl) rfl rfl rfl (v := .int .i64 Mx142) (rmove h211 rfl rfl) fun a214 h213 => ?_
        refine sv h213 (wT h213 (E := true) rfl rfl rfl) rfl rfl rfl (v := .bool false) (rbin h213 rfl rfl rfl (cEq _ _ _ _ (decide_eq_false (by omega)))) fun a216 h215 => ?_
        refine sv h215 (wT h215 (E := true) rfl rfl rfl) rfl rfl rfl (v := .bool false) (rmove h215 rfl rfl) fun a218 h217 => ?_
        refine sv h217 (wF h217 (E := false) rfl rfl rfl) rfl rfl rfl (v := .int .i64 Mx142) (rmove h217 rfl rfl) fun a220 h219 => ?_
        refine sv h219 (wF h219 (E := false) rfl rfl rfl) rfl rfl rfl (v := .bool true) (rbin h219 rfl rfl rfl (cEq _ _ _ _ (decide_eq_true (by omega)))) fun a222 h221 => ?_
        refine sv h221 (wT h221 (E := true) rfl rfl rfl) rfl rfl rfl (v := .bool true) (rpick h221 rfl rfl rfl) fun a224 h223 => ?_
        refine sv h223 (wanted_none rfl) rfl rfl rfl (v := .bool true) (rpick h223 rfl rfl rfl) fun a226 h225 => ?_
        refine sv h225 (wanted_none rfl) rfl rfl rfl (v := .bool true) (rmove h225 rfl rfl) fun a228 h227 => ?_
        refine so (wT h227 (E := true) rfl rfl rfl) fun K235 hK235 => xcall h227 rfl rfl rfl (xs := []) rfl cp_commonslaw25_lives_s2 rfl (vs := []) rfl (args := #[]) rfl (lives25_s (R := [blkC g35 35 ([mvE qa qd qt].flatMap evC), blkC g17 35 [.int .i64 1, .int .i64 9, .int .i64 7, .string (strB [47, 97]), .string (strB []), .int .i64 0, .int .i64 0, .int .i64 0, .int .i64 0, .string (strB []), .int .i64 qa, .int .i64 qd, .int .i64 qt, .int .i64 0, .int .i64 0, .string (strB []), .slice none 0 0, .int .i64 0, .int .i64 0, .int .i64 0], oldC W W.heap.size]) (s148 : Sep _ [blkC g35 35 ([mvE qa qd qt].flatMap evC), blkC g17 35 [.int .i64 1, .int .i64 9, .int .i64 7, .string (strB [47, 97]), .string (strB []), .int .i64 0, .int .i64 0, .int .i64 0, .int .i64 0, .string (strB []), .int .i64 qa, .int .i64 qd, .int .i64 qt, .int .i64 0, .int .i64 0, .string (strB []), .slice none 0 0, .int .i64 0, .int .i64 0, .int .i64 0], oldC W W.heap.size])) fun a230 v231 w232 r233 h229 => hK235 _ _ ?_
        clear hK235 K235
        obtain ⟨rfl, s234⟩ := r233
        refine sv h229 (wanted_none rfl) rfl rfl rfl (v := .bool true) (rpick h229 rfl rfl rfl) fun a237 h236 => ?_
        have h238 := h236.subs (l' := [(52, _), (51, _), (50, _), (49, _), (48, _), (47, _), (46, _), (45, _), (44, _), (43, _), (42, _), (41, _), (40, _), (39, _), (38, _), (10, _), (9, _), (7, _), (0, _), (1, _), (2, _)]) rfl
        clear h236 h200 h203 h205 h207 h209 h211 h213 h215 h217 h219 h221 h223 h225 h227 h229 a199 a204 a206 a208 a210 a212 a214 a216 a218 a220 a222 a224 a226 a228 a230
        refine sv h238 (wanted_none rfl) rfl rfl rfl (v := .bool true) (rassign h238 rfl rfl) fun a240 h239 => ?_
        have h241 := h239.subs (l' := [(6, _), (10, _), (9, _), (7, _), (0, _), (1, _), (2, _)]) rfl
        clear h239 h238 a237
        refine wpList_nil ?_
        refine hK201 _ _ ?_
        refine wp_ret ?_
        try simp only [Exit.then, Exit.inBlock]
        refine retR (v := .bool true) (res1 h241 rfl rfl) h241.defs ?_
        exact ⟨rfl, (s234.get 2 rfl : Below _ _ _ ∧ _).1⟩
      · skip
        have hp242 : ¬ (qa > qd) := (of_decide_eq_false hc186)
        refine sv h184 ((wF h184 rfl rfl rfl).trans (bNotF hc186)) rfl rfl rfl (v := .int .i64 qd) (rmove h184 rfl rfl) fun a244 h243 => ?_
        refine sv h243 ((wF h243 rfl rfl rfl).trans (bNotF hc186)) rfl rfl rfl (v := .int .i64 qt) (rmove h243 rfl rfl) fun a246 h245 => ?_
        refine sv h245 ((wF h245 rfl rfl rfl).trans (bNotF hc186)) rfl rfl rfl (v := .bool (decide (qd > qt))) (rbin h245 rfl rfl rfl (cGt _ _ _ _ rfl)) fun a248 h247 => ?_
        refine sv h247 ((wT h247 rfl rfl rfl).trans hc176) rfl rfl rfl (v := .bool (decide (qd > qt))) (rpickE h247 rfl (E := (decide (qa > qd))) (b := false) rfl hc186 rfl) fun a250 h249 => ?_
        refine sv h249 (wanted_none rfl) rfl rfl rfl (v := .bool (decide (qd > qt))) (rpickE h249 rfl (E := (decide (qt > 0))) (b := true) rfl hc176 rfl) fun a252 h251 => ?_
        refine sv h251 (wanted_none rfl) rfl rfl rfl (v := .bool (decide (qd > qt))) (rassign h251 rfl rfl) fun a254 h253 => ?_
        have h255 := h253.subs (l' := [(10, _), (9, _), (7, _), (6, _), (0, _), (1, _), (2, _)]) rfl
        clear h253 h160 h162 h164 h166 h168 h170 h172 h174 h178 h180 h182 h184 h243 h245 h247 h249 h251 a159 a163 a165 a167 a169 a171 a173 a175 a179 a181 a183 a185 a244 a246 a248 a250 a252
        refine wpList_nil ?_
        refine hK161 _ _ ?_
        refine wp_seq_k fun K256 hK256 => ?_
        rcases Bool.eq_false_or_eq_true (decide (qd > qt)) with hc257 | hc257
        · skip
          have hp258 : qd > qt := (of_decide_eq_true hc257)
          have hv259 : Mx142 = 9 := mv_bad hM147 (by omega)
          refine wp_region_lit ?_
          refine sv h255 (wanted_none rfl) rfl rfl rfl (v := .int .i64 Mx142) (rmove h255 rfl rfl) fun a261 h260 => ?_
          refine sv h260 (wanted_none rfl) rfl rfl rfl (v := .bool true) (rbin h260 rfl rfl rfl (cEq _ _ _ _ (decide_eq_true (by omega)))) fun a263 h262 => ?_
          refine sv h262 (wanted_none rfl) rfl rfl rfl (v := .bool (decide (qd > qt))) (rmove h262 rfl rfl) fun a265 h264 => ?_
          refine sv h264 (wanted_none rfl) rfl rfl rfl (v := .bool (true == (decide (qd > qt)))) (rbin h264 rfl rfl rfl (bBool .eql Tryz.underlying4 _ _ _ _)) fun a267 h266 => ?_
          refine sv h266 (wanted_none rfl) rfl rfl rfl (v := .bool (true == (decide (qd > qt)))) (rmove h266 rfl rfl) fun a269 h268 => ?_
          refine sv h268 ((wT h268 rfl rfl rfl).trans (beq_same (b := true) rfl hc257)) rfl rfl rfl (v := .int .i64 Mx142) (rmove h268 rfl rfl) fun a271 h270 => ?_
          refine sv h270 ((wT h270 rfl rfl rfl).trans (beq_same (b := true) rfl hc257)) rfl rfl rfl (v := .bool false) (rbin h270 rfl rfl rfl (cEq _ _ _ _ (decide_eq_false (by omega)))) fun a273 h272 => ?_
          refine sv h272 ((wT h272 rfl rfl rfl).trans (beq_same (b := true) rfl hc257)) rfl rfl rfl (v := .bool false) (rmove h272 rfl rfl) fun a275 h274 => ?_
          refine sv h274 (wF h274 (E := false) rfl rfl rfl) rfl rfl rfl (v := .int .i64 Mx142) (rmove h274 rfl rfl) fun a277 h276 => ?_
          refine sv h276 (wF h276 (E := false) rfl rfl rfl) rfl rfl rfl (v := .bool true) (rbin h276 rfl rfl rfl (cEq _ _ _ _ (decide_eq_true (by omega)))) fun a279 h278 => ?_
          refine sv h278 ((wT h278 rfl rfl rfl).trans (beq_same (b := true) rfl hc257)) rfl rfl rfl (v := .bool true) (rpick h278 rfl rfl rfl) fun a281 h280 => ?_
          refine sv h280 (wanted_none rfl) rfl rfl rfl (v := .bool true) (rpickE h280 rfl (E := (true == (decide (qd > qt)))) (b := true) rfl (beq_same (b := true) rfl hc257) rfl) fun a283 h282 => ?_
          refine sv h282 (wanted_none rfl) rfl rfl rfl (v := .bool true) (rmove h282 rfl rfl) fun a285 h284 => ?_
          refine so (wT h284 (E := true) rfl rfl rfl) fun K292 hK292 => xcall h284 rfl rfl rfl (xs := []) rfl cp_commonslaw25_lives_s2 rfl (vs := []) rfl (args := #[]) rfl (lives25_s (R := [blkC g35 35 ([mvE qa qd qt].flatMap evC), blkC g17 35 [.int .i64 1, .int .i64 9, .int .i64 7, .string (strB [47, 97]), .string (strB []), .int .i64 0, .int .i64 0, .int .i64 0, .int .i64 0, .string (strB []), .int .i64 qa, .int .i64 qd, .int .i64 qt, .int .i64 0, .int .i64 0, .string (strB []), .slice none 0 0, .int .i64 0, .int .i64 0, .int .i64 0], oldC W W.heap.size]) (s148 : Sep _ [blkC g35 35 ([mvE qa qd qt].flatMap evC), blkC g17 35 [.int .i64 1, .int .i64 9, .int .i64 7, .string (strB [47, 97]), .string (strB []), .int .i64 0, .int .i64 0, .int .i64 0, .int .i64 0, .string (strB []), .int .i64 qa, .int .i64 qd, .int .i64 qt, .int .i64 0, .int .i64 0, .string (strB []), .slice none 0 0, .int .i64 0, .int .i64 0, .int .i64 0], oldC W W.heap.size])) fun a287 v288 w289 r290 h286 => hK292 _ _ ?_
          clear hK292 K292
          obtain ⟨rfl, s291⟩ := r290
          refine sv h286 (wanted_none rfl) rfl rfl rfl (v := .bool true) (rpick h286 rfl rfl rfl) fun a294 h293 => ?_
          have h295 := h293.subs (l' := [(52, _), (51, _), (50, _), (49, _), (48, _), (47, _), (46, _), (45, _), (44, _), (43, _), (42, _), (41, _), (40, _), (39, _), (38, _), (10, _), (9, _), (7, _), (0, _), (1, _), (2, _)]) rfl
          clear h293 h255 h260 h262 h264 h266 h268 h270 h272 h274 h276 h278 h280 h282 h284 h286 a254 a261 a263 a265 a267 a269 a271 a273 a275 a277 a279 a281 a283 a285 a287
          refine sv h295 (wanted_none rfl) rfl rfl rfl (v := .bool true) (rassign h295 rfl rfl) fun a297 h296 => ?_
          have h298 := h296.subs (l' := [(6, _), (10, _), (9, _), (7, _), (0, _), (1, _), (2, _)]) rfl
          clear h296 h295 a294
          refine wpList_nil ?_
          refine hK256 _ _ ?_
          refine wp_ret ?_
          try simp only [Exit.then, Exit.inBlock]
          refine retR (v := .bool true) (res1 h298 rfl rfl) h298.defs ?_
          exact ⟨rfl, (s291.get 2 rfl : Below _ _ _ ∧ _).1⟩
        · skip
          have hp299 : ¬ (qd > qt) := (of_decide_eq_false hc257)
          have hv300 : Mx142 = 0 := mv_ok hM147 (by omega)
          refine wp_region_lit ?_
          refine sv h255 (wanted_none rfl) rfl rfl rfl (v := .int .i64 Mx142) (rmove h255 rfl rfl) fun a302 h301 => ?_
          refine sv h301 (wanted_none rfl) rfl rfl rfl (v := .bool false) (rbin h301 rfl rfl rfl (cEq _ _ _ _ (decide_eq_false (by omega)))) fun a304 h303 => ?_
          refine sv h303 (wanted_none rfl) rfl rfl rfl (v := .bool (decide (qd > qt))) (rmove h303 rfl rfl) fun a306 h305 => ?_
          refine sv h305 (wanted_none rfl) rfl rfl rfl (v := .bool (false == (decide (qd > qt)))) (rbin h305 rfl rfl rfl (bBool .eql Tryz.underlying4 _ _ _ _)) fun a308 h307 => ?_
          refine sv h307 (wanted_none rfl) rfl rfl rfl (v := .bool (false == (decide (qd > qt)))) (rmove h307 rfl rfl) fun a310 h309 => ?_
          refine sv h309 ((wT h309 rfl rfl rfl).trans (beq_same (b := false) rfl hc257)) rfl rfl rfl (v := .int .i64 Mx142) (rmove h309 rfl rfl) fun a312 h311 => ?_
          refine sv h311 ((wT h311 rfl rfl rfl).trans (beq_same (b := false) rfl hc257)) rfl rfl rfl (v := .bool true) (rbin h311 rfl rfl rfl (cEq _ _ _ _ (decide_eq_true (by omega)))) fun a314 h313 => ?_
          refine sv h313 ((wT h313 rfl rfl rfl).trans (beq_same (b := false) rfl hc257)) rfl rfl rfl (v := .bool true) (rmove h313 rfl rfl) fun a316 h315 => ?_
          refine su h315 (wF h315 (E := true) rfl rfl rfl) rfl rfl rfl fun a318 h317 => ?_
          refine su h317 (wF h317 (E := true) rfl rfl rfl) rfl rfl rfl fun a320 h319 => ?_
          refine sv h319 ((wT h319 rfl rfl rfl).trans (beq_same (b := false) rfl hc257)) rfl rfl rfl (v := .bool true) (rpick h319 rfl rfl rfl) fun a322 h321 => ?_
          refine sv h321 (wanted_none rfl) rfl rfl rfl (v := .bool true) (rpickE h321 rfl (E := (false == (decide (qd > qt)))) (b := true) rfl (beq_same (b := false) rfl hc257) rfl) fun a324 h323 => ?_
          refine sv h323 (wanted_none rfl) rfl rfl rfl (v := .bool true) (rmove h323 rfl rfl) fun a326 h325 => ?_
          refine so (wT h325 (E := true) rfl rfl rfl) fun K333 hK333 => xcall h325 rfl rfl rfl (xs := []) rfl cp_commonslaw25_lives_s2 rfl (vs := []) rfl (args := #[]) rfl (lives25_s (R := [blkC g35 35 ([mvE qa qd qt].flatMap evC), blkC g17 35 [.int .i64 1, .int .i64 9, .int .i64 7, .string (strB [47, 97]), .string (strB []), .int .i64 0, .int .i64 0, .int .i64 0, .int .i64 0, .string (strB []), .int .i64 qa, .int .i64 qd, .int .i64 qt, .int .i64 0, .int .i64 0, .string (strB []), .slice none 0 0, .int .i64 0, .int .i64 0, .int .i64 0], oldC W W.heap.size]) (s148 : Sep _ [blkC g35 35 ([mvE qa qd qt].flatMap evC), blkC g17 35 [.int .i64 1, .int .i64 9, .int .i64 7, .string (strB [47, 97]), .string (strB []), .int .i64 0, .int .i64 0, .int .i64 0, .int .i64 0, .string (strB []), .int .i64 qa, .int .i64 qd, .int .i64 qt, .int .i64 0, .int .i64 0, .string (strB []), .slice none 0 0, .int .i64 0, .int .i64 0, .int .i64 0], oldC W W.heap.size])) fun a328 v329 w330 r331 h327 => hK333 _ _ ?_
          clear hK333 K333
          obtain ⟨rfl, s332⟩ := r331
          refine sv h327 (wanted_none rfl) rfl rfl rfl (v := .bool true) (rpick h327 rfl rfl rfl) fun a335 h334 => ?_
          have h336 := h334.subs (l' := [(52, _), (51, _), (50, _), (49, _), (48, _), (47, _), (46, _), (45, _), (44, _), (43, _), (42, _), (41, _), (40, _), (39, _), (38, _), (10, _), (9, _), (7, _), (0, _), (1, _), (2, _)]) rfl
          clear h334 h255 h301 h303 h305 h307 h309 h311 h313 h315 h317 h319 h321 h323 h325 h327 a254 a302 a304 a306 a308 a310 a312 a314 a316 a318 a320 a322 a324 a326 a328
          refine sv h336 (wanted_none rfl) rfl rfl rfl (v := .bool true) (rassign h336 rfl rfl) fun a338 h337 => ?_
          have h339 := h337.subs (l' := [(6, _), (10, _), (9, _), (7, _), (0, _), (1, _), (2, _)]) rfl
          clear h337 h336 a335
          refine wpList_nil ?_
          refine hK256 _ _ ?_
          refine wp_ret ?_
          try simp only [Exit.then, Exit.inBlock]
          refine retR (v := .bool true) (res1 h339 rfl rfl) h339.defs ?_
          exact ⟨rfl, (s332.get 2 rfl : Below _ _ _ ∧ _).1⟩
    · skip
      have hp340 : ¬ (qt > 0) := (of_decide_eq_false hc176)
      refine su h174 ((wT h174 rfl rfl rfl).trans hc176) rfl rfl rfl fun a342 h341 => ?_
      refine su h341 ((wT h341 rfl rfl rfl).trans hc176) rfl rfl rfl fun a344 h343 => ?_
      refine su h343 ((wT h343 rfl rfl rfl).trans hc176) rfl rfl rfl fun a346 h345 => ?_
      refine su h345 ((wT h345 rfl rfl rfl).trans hc176) rfl rfl rfl fun a348 h347 => ?_
      refine su h347 (wgu h347 rfl rfl rfl) rfl rfl rfl fun a350 h349 => ?_
      refine su h349 (wgu h349 rfl rfl rfl) rfl rfl rfl fun a352 h351 => ?_
      refine su h351 (wgu h351 rfl rfl rfl) rfl rfl rfl fun a354 h353 => ?_
      refine su h353 ((wT h353 rfl rfl rfl).trans hc176) rfl rfl rfl fun a356 h355 => ?_
      refine sv h355 (wanted_none rfl) rfl rfl rfl (v := .bool false) (rpickE h355 rfl (E := (decide (qt > 0))) (b := false) rfl hc176 rfl) fun a358 h357 => ?_
      refine sv h357 (wanted_none rfl) rfl rfl rfl (v := .bool false) (rassign h357 rfl rfl) fun a360 h359 => ?_
      have h361 := h359.subs (l' := [(10, _), (9, _), (7, _), (6, _), (0, _), (1, _), (2, _)]) rfl
      clear h359 h160 h162 h164 h166 h168 h170 h172 h174 h341 h343 h345 h347 h349 h351 h353 h355 h357 a159 a163 a165 a167 a169 a171 a173 a175 a342 a344 a346 a348 a350 a352 a354 a356 a358
      refine wpList_nil ?_
      refine hK161 _ _ ?_
      refine wp_seq_k fun K362 hK362 => ?_
      have hv363 : Mx142 = 0 := mv_ok hM147 (by omega)
      refine wp_region_lit ?_
      refine sv h361 (wanted_none rfl) rfl rfl rfl (v := .int .i64 Mx142) (rmove h361 rfl rfl) fun a365 h364 => ?_
      refine sv h364 (wanted_none rfl) rfl rfl rfl (v := .bool false) (rbin h364 rfl rfl rfl (cEq _ _ _ _ (decide_eq_false (by omega)))) fun a367 h366 => ?_
      refine sv h366 (wanted_none rfl) rfl rfl rfl (v := .bool false) (rmove h366 rfl rfl) fun a369 h368 => ?_
      refine sv h368 (wanted_none rfl) rfl rfl rfl (v := .bool true) (rbin h368 rfl rfl rfl (bSame _ Tryz.underlying4 _ _ _)) fun a371 h370 => ?_
      refine sv h370 (wanted_none rfl) rfl rfl rfl (v := .bool true) (rmove h370 rfl rfl) fun a373 h372 => ?_
      refine sv h372 (wT h372 (E := true) rfl rfl rfl) rfl rfl rfl (v := .int .i64 Mx142) (rmove h372 rfl rfl) fun a375 h374 => ?_
      refine sv h374 (wT h374 (E := true) rfl rfl rfl) rfl rfl rfl (v := .bool true) (rbin h374 rfl rfl rfl (cEq _ _ _ _ (decide_eq_true (by omega)))) fun a377 h376 => ?_
      refine sv h376 (wT h376 (E := true) rfl rfl rfl) rfl rfl rfl (v := .bool true) (rmove h376 rfl rfl) fun a379 h378 => ?_
      refine su h378 (wF h378 (E := true) rfl rfl rfl) rfl rfl rfl fun a381 h380 => ?_
      refine su h380 (wF h380 (E := true) rfl rfl rfl) rfl rfl rfl fun a383 h382 => ?_
      refine sv h382 (wT h382 (E := true) rfl rfl rfl) rfl rfl rfl (v := .bool true) (rpick h382 rfl rfl rfl) fun a385 h384 => ?_
      refine sv h384 (wanted_none rfl) rfl rfl rfl (v := .bool true) (rpick h384 rfl rfl rfl) fun a387 h386 => ?_
      refine sv h386 (wanted_none rfl) rfl rfl rfl (v := .bool true) (rmove h386 rfl rfl) fun a389 h388 => ?_
      refine so (wT h388 (E := true) rfl rfl rfl) fun K396 hK396 => xcall h388 rfl rfl rfl (xs := []) rfl cp_commonslaw25_lives_s2 rfl (vs := []) rfl (args := #[]) rfl (lives25_s (R := [blkC g35 35 ([mvE qa qd qt].flatMap evC), blkC g17 35 [.int .i64 1, .int .i64 9, .int .i64 7, .string (strB [47, 97]), .string (strB []), .int .i64 0, .int .i64 0, .int .i64 0, .int .i64 0, .string (strB []), .int .i64 qa, .int .i64 qd, .int .i64 qt, .int .i64 0, .int .i64 0, .string (strB []), .slice none 0 0, .int .i64 0, .int .i64 0, .int .i64 0], oldC W W.heap.size]) (s148 : Sep _ [blkC g35 35 ([mvE qa qd qt].flatMap evC), blkC g17 35 [.int .i64 1, .int .i64 9, .int .i64 7, .string (strB [47, 97]), .string (strB []), .int .i64 0, .int .i64 0, .int .i64 0, .int .i64 0, .string (strB []), .int .i64 qa, .int .i64 qd, .int .i64 qt, .int .i64 0, .int .i64 0, .string (strB []), .slice none 0 0, .int .i64 0, .int .i64 0, .int .i64 0], oldC W W.heap.size])) fun a391 v392 w393 r394 h390 => hK396 _ _ ?_
      clear hK396 K396
      obtain ⟨rfl, s395⟩ := r394
      refine sv h390 (wanted_none rfl) rfl rfl rfl (v := .bool true) (rpick h390 rfl rfl rfl) fun a398 h397 => ?_
      have h399 := h397.subs (l' := [(52, _), (51, _), (50, _), (49, _), (48, _), (47, _), (46, _), (45, _), (44, _), (43, _), (42, _), (41, _), (40, _), (39, _), (38, _), (10, _), (9, _), (7, _), (0, _), (1, _), (2, _)]) rfl
      clear h397 h361 h364 h366 h368 h370 h372 h374 h376 h378 h380 h382 h384 h386 h388 h390 a360 a365 a367 a369 a371 a373 a375 a377 a379 a381 a383 a385 a387 a389 a391
      refine sv h399 (wanted_none rfl) rfl rfl rfl (v := .bool true) (rassign h399 rfl rfl) fun a401 h400 => ?_
      have h402 := h400.subs (l' := [(6, _), (10, _), (9, _), (7, _), (0, _), (1, _), (2, _)]) rfl
      clear h400 h399 a398
      refine wpList_nil ?_
      refine hK362 _ _ ?_
      refine wp_ret ?_
      try simp only [Exit.then, Exit.inBlock]
      refine retR (v := .bool true) (res1 h402 rfl rfl) h402.defs ?_
      exact ⟨rfl, (s395.get 2 rfl : Below _ _ _ ∧ _).1⟩

end Go.Proofs.YtpdjnefgkcmdnaaGreatDoor
