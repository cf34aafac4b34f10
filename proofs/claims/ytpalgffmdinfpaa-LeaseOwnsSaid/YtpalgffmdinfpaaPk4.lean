import Derived.Test.YtpalgffmdinfpaaPk3
import Derived.Deep.Slices
import Derived.Deep.Fields
import Derived.ChangeSame
section
namespace Go.Proofs.Ytpalgffmdinfpaa
open Go.RowKit
set_option linter.unusedSimpArgs false
set_option linter.unusedVariables false
set_option maxRecDepth 100000

open Go.Lib
theorem EHL : ElemT Try.prog 33 36 4 32 := elemT Try.underlying33 (z := .agg #[.int .i64 0, .int .i64 0, .bool false, .int .i64 0]) (by kernel_rfl) rfl (by omega)
def encH (g : GrF) (p : Int × Int) : List Value := [.int .i64 p.1, .int .i64 p.2, .bool ((g p).getD (false, 0)).1, .int .i64 ((g p).getD (false, 0)).2]
theorem encH_len (g : GrF) (p : Int × Int) : (encH g p).length = 4 := rfl
/-- all grants, by their inodes and then by their clients -/
def allK (g : GrF) : List (Int × Int) := keys8.filter (fun p => (g p).isSome)

theorem fa_lease_Held_lf2_1 (g off : Nat) (w : World) : (Instr.fieldAt 36 (.pointer (some ⟨g, off, none⟩)) 1).run Try.prog w = .ok (.pointer (some ⟨g, off + 1, none⟩)) w := rfl
theorem fa_lease_Held_lf2_0 (g off : Nat) (w : World) : (Instr.fieldAt 36 (.pointer (some ⟨g, off, none⟩)) 0).run Try.prog w = .ok (.pointer (some ⟨g, off + 0, none⟩)) w := rfl
theorem cp_cmp_Or_int_lf2 (args : Array Value) (w : World) : (callFunc 28 args).run Try.prog w = .ok (.enter 28 args) w := by
  have h := Try.func28
  go_simp
theorem fa_lease_Table_lf3_0 (g off : Nat) (w : World) : (Instr.fieldAt 54 (.pointer (some ⟨g, off, none⟩)) 0).run Try.prog w = .ok (.pointer (some ⟨g, off + 0, none⟩)) w := rfl
theorem cp_slices_SortFunc_lease_Held_lease_Held_lf3 (args : Array Value) (w : World) : (callFunc 26 args).run Try.prog w = .ok (.enter 26 args) w := by
  have h := Try.func26
  go_simp
theorem cp_lease_key_held_lf3 (args : Array Value) (w : World) : (callFunc 25 args).run Try.prog w = .ok (.enter 25 args) w := by
  have h := Try.func25
  go_simp

set_option maxHeartbeats 4000000 in
theorem or2_s {w : World} {q : Nat} {x y : Int} (hS : Sep w [blkC q 3 [.int .i64 x, .int .i64 y]]) :
    CallsR Try.prog 28 #[.slice (some ⟨q, 0, none⟩) 2 2] w (fun v w' => v = .int .i64 (if x ≠ 0 then x else y) ∧ w' = w) := by
  refine enterR Try.func28 rfl (N := 18) Try.ntmps28 (by show 1 ≤ 18; decide) [(0, .slice (some ⟨q, 0, none⟩) 2 2)] rfl fun a2 h1 => ?_
  refine wp_seq_k fun K3 hK3 => ?_
  refine wp_region_lit ?_
  refine sv h1 (wanted_none rfl) rfl rfl rfl (v := .int .i64 0) (rassign h1 rfl rfl) fun a5 h4 => ?_
  refine wpList_nil ?_
  refine hK3 _ _ ?_
  refine wp_seq_k fun K6 hK6 => ?_
  refine wp_region_lit ?_
  refine sv h4 (wanted_none rfl) rfl rfl rfl (v := .int .i64 0) (rassign h4 rfl rfl) fun a8 h7 => ?_
  refine wpList_nil ?_
  refine hK6 _ _ ?_
  refine wp_seq_k fun K9 hK9 => ?_
  refine wp_seq_k fun K10 hK10 => ?_
  refine wp_region_lit ?_
  refine sv h7 (wanted_none rfl) rfl rfl rfl (v := .slice (some ⟨q, 0, none⟩) 2 2) (rmove h7 rfl rfl) fun a12 h11 => ?_
  refine sv h11 (wanted_none rfl) rfl rfl rfl (v := .int .i64 2) (rlenS h11 rfl rfl Try.underlying38) fun a14 h13 => ?_
  refine sv h13 (wanted_none rfl) rfl rfl rfl (v := .int .i64 0) (rmove h13 rfl rfl) fun a16 h15 => ?_
  refine wpList_nil ?_
  refine hK10 _ _ ?_
  refine wp_block ?_
  refine wp_loop1 (fun (n : Nat) a' w' => Kn 18 [(8, .int .i64 (n : Int)), (7, .int .i64 2), (6, .slice (some ⟨q, 0, none⟩) 2 2), (3, .int .i64 0), (2, .int .i64 0), (0, .slice (some ⟨q, 0, none⟩) 2 2)] a' ∧ Sep w' [blkC q 3 [.int .i64 x, .int .i64 y]] ∧ (n ≤ 2) ∧ ((1 ≤ n → x = 0) ∧ (2 ≤ n → y = 0)) ∧ (w' = w)) (fun (n : Nat) => 2 - n) 0 ⟨h15.subs rfl, hS, by omega, by omega, rfl⟩ ?_
  clear h15
  rintro n25 a17 w18 ⟨h19, s20, hn22, hz23, hw24⟩ K21 hK21
  obtain rfl := hw24
  refine wp_seq_k fun K26 hK26 => ?_
  refine wp_region_lit ?_
  refine sv h19 (wanted_none rfl) rfl rfl rfl (v := .bool (decide ((n25 : Int) < 2))) (rbin h19 rfl rfl rfl (cLt _ _ _ _ rfl)) fun a28 h27 => ?_
  refine wpList_nil ?_
  refine hK26 _ _ ?_
  refine wp_seq_k fun K29 hK29 => ?_
  rcases Bool.eq_false_or_eq_true (decide ((n25 : Int) < 2)) with hc30 | hc30
  · skip
    have hp31 : (n25 : Int) < 2 := (of_decide_eq_true hc30)
    refine wp_condS h27 rfl hc30 ?_
    simp only [if_true]
    have h32 := h27.subs (l' := [(8, _), (7, _), (6, _), (3, _), (2, _), (0, _)]) rfl
    clear h27 h19 a17
    refine wp_skip ?_
    refine hK29 _ _ ?_
    refine wp_seq_k fun K33 hK33 => ?_
    refine wp_block ?_
    refine wp_seq_k fun K34 hK34 => ?_
    refine wp_region_lit ?_
    refine sv h32 (wanted_none rfl) rfl rfl rfl (v := .pointer (some ⟨q, n25, none⟩)) (rindexA h32 rfl rfl rfl (fun w => ixS Try.underlying38 (by kernel_rfl) (sz := 1) (j := n25) rfl (by omega) (Nat.mul_one _) w)) fun a36 h35 => ?_
    refine sw h35 (wanted_none rfl) rfl rfl rfl (v := .int .i64 (if n25 = 0 then x else y)) (rld h35 rfl rfl (ldB Try.underlying3 rfl (s20.get 0 rfl : Blk _ _ _ _) (by rcases (show n25 = 0 ∨ n25 = 1 by omega) with e | e <;> subst e <;> rfl))) fun a38 h37 => ?_
    refine sv h37 (wanted_none rfl) rfl rfl rfl (v := .int .i64 (if n25 = 0 then x else y)) (rassign h37 rfl rfl) fun a40 h39 => ?_
    have h41 := h39.subs (l' := [(5, _), (8, _), (7, _), (6, _), (3, _), (2, _), (0, _)]) rfl
    clear h39 h32 h35 h37 a28 a36 a38
    refine wpList_nil ?_
    refine hK34 _ _ ?_
    refine wp_seq_k fun K42 hK42 => ?_
    refine wp_region_lit ?_
    refine sv h41 (wanted_none rfl) rfl rfl rfl (v := .int .i64 (if n25 = 0 then x else y)) (rmove h41 rfl rfl) fun a44 h43 => ?_
    refine sv h43 (wanted_none rfl) rfl rfl rfl (v := .int .i64 0) (rmove h43 rfl rfl) fun a46 h45 => ?_
    refine sv h45 (wanted_none rfl) rfl rfl rfl (v := .bool (decide ((if n25 = 0 then x else y) ≠ 0))) (rbin h45 rfl rfl rfl (cNe _ _ _ _ rfl)) fun a48 h47 => ?_
    have h49 := h47.subs (l' := [(14, _), (5, _), (8, _), (7, _), (6, _), (3, _), (2, _), (0, _)]) rfl
    clear h47 h41 h43 h45 a40 a44 a46
    refine wpList_nil ?_
    refine hK42 _ _ ?_
    rcases Bool.eq_false_or_eq_true (decide ((if n25 = 0 then x else y) ≠ 0)) with hc50 | hc50
    · skip
      have hp51 : (if n25 = 0 then x else y) ≠ 0 := (of_decide_eq_true hc50)
      refine wp_condS h49 rfl hc50 ?_
      simp only [if_true]
      have h52 := h49.subs (l' := [(5, _), (8, _), (7, _), (6, _), (3, _), (2, _), (0, _)]) rfl
      clear h49
      refine wp_seq_k fun K53 hK53 => ?_
      refine wp_region_lit ?_
      refine sv h52 (wanted_none rfl) rfl rfl rfl (v := .int .i64 (if n25 = 0 then x else y)) (rmove h52 rfl rfl) fun a55 h54 => ?_
      have h56 := h54.subs (l' := [(15, _), (5, _), (8, _), (7, _), (6, _), (3, _), (0, _)]) rfl
      clear h54 h52 a48
      refine sv h56 (wanted_none rfl) rfl rfl rfl (v := .int .i64 (if n25 = 0 then x else y)) (rassign h56 rfl rfl) fun a58 h57 => ?_
      have h59 := h57.subs (l' := [(2, _), (5, _), (8, _), (7, _), (6, _), (3, _), (0, _)]) rfl
      clear h57 h56 a55
      refine wpList_nil ?_
      refine hK53 _ _ ?_
      refine wp_ret ?_
      try simp only [Exit.then, Exit.inBlock]
      refine retR (v := .int .i64 (if n25 = 0 then x else y)) (res1 h59 rfl rfl) h59.defs ?_
      refine ⟨?_, rfl⟩
      rcases (show n25 = 0 ∨ n25 = 1 by omega) with e | e <;> subst e <;> simp_all
    · skip
      have hp60 : ¬ ((if n25 = 0 then x else y) ≠ 0) := (of_decide_eq_false hc50)
      refine wp_condS h49 rfl hc50 ?_
      simp only [Bool.false_eq_true, if_false]
      have h61 := h49.subs (l' := [(5, _), (8, _), (7, _), (6, _), (3, _), (2, _), (0, _)]) rfl
      clear h49
      refine wp_skip ?_
      refine hK33 _ _ ?_
      refine wp_region_lit ?_
      refine sv h61 (wanted_none rfl) rfl rfl rfl (v := .int .i64 ((n25 + 1 : Nat) : Int)) (rbin h61 rfl rfl rfl (bAdd _ _ _ (by omega) (by omega) (by omega))) fun a63 h62 => ?_
      have h64 := h62.subs (l' := [(16, _), (5, _), (7, _), (6, _), (3, _), (2, _), (0, _)]) rfl
      clear h62 h61 a48
      refine sv h64 (wanted_none rfl) rfl rfl rfl (v := .int .i64 ((n25 + 1 : Nat) : Int)) (rmove h64 rfl rfl) fun a66 h65 => ?_
      have h67 := h65.subs (l' := [(8, _), (5, _), (7, _), (6, _), (3, _), (2, _), (0, _)]) rfl
      clear h65 h64 a63
      refine wpList_nil ?_
      exact hK21 (n25 + 1) _ _ ⟨h67.subs rfl, s20, by omega, by rcases (show n25 = 0 ∨ n25 = 1 by omega) with e | e <;> subst e <;> simp_all, rfl⟩ (by omega)
  · skip
    have hp68 : ¬ ((n25 : Int) < 2) := (of_decide_eq_false hc30)
    refine wp_condS h27 rfl hc30 ?_
    simp only [Bool.false_eq_true, if_false]
    have h69 := h27.subs (l' := [(8, _), (7, _), (6, _), (3, _), (2, _), (0, _)]) rfl
    clear h27 h19 a17
    refine wp_exit ?_
    refine hK9 _ _ ?_
    refine wp_seq_k fun K70 hK70 => ?_
    refine wp_region_lit ?_
    refine sv h69 (wanted_none rfl) rfl rfl rfl (v := .int .i64 0) (rmove h69 rfl rfl) fun a72 h71 => ?_
    have h73 := h71.subs (l' := [(17, _), (8, _), (7, _), (6, _), (3, _), (0, _)]) rfl
    clear h71 h69 a28
    refine sv h73 (wanted_none rfl) rfl rfl rfl (v := .int .i64 0) (rassign h73 rfl rfl) fun a75 h74 => ?_
    have h76 := h74.subs (l' := [(2, _), (8, _), (7, _), (6, _), (3, _), (0, _)]) rfl
    clear h74 h73 a72
    refine wpList_nil ?_
    refine hK70 _ _ ?_
    refine wp_ret ?_
    try simp only [Exit.then, Exit.inBlock]
    refine retR (v := .int .i64 0) (res1 h76 rfl rfl) h76.defs ?_
    exact ⟨by rw [if_neg (by omega), show y = 0 by omega], rfl⟩

set_option maxHeartbeats 4000000 in
theorem cmpAll_s (w : World) (p q : Int × Int) (u t : Bool × Int) (hp : 1 ≤ p.1 ∧ p.1 ≤ 8 ∧ 1 ≤ p.2 ∧ p.2 ≤ 32) (hq : 1 ≤ q.1 ∧ q.1 ≤ 8 ∧ 1 ≤ q.2 ∧ q.2 ≤ 32) :
    CallsR Try.prog 27 #[.agg #[.int .i64 p.1, .int .i64 p.2, .bool u.1, .int .i64 u.2], .agg #[.int .i64 q.1, .int .i64 q.2, .bool t.1, .int .i64 t.2]] w (fun v w' => v = .int .i64 (if p.2 - q.2 ≠ 0 then p.2 - q.2 else p.1 - q.1) ∧ ∃ k os, w' = Go.Sort.grow (w.drewN k) os) := by
  have hS : Sep w [] := Sep.nil w
  refine enterR Try.func27 rfl (N := 17) Try.ntmps27 (by show 2 ≤ 17; decide) [(0, .agg #[.int .i64 p.1, .int .i64 p.2, .bool u.1, .int .i64 u.2]), (1, .agg #[.int .i64 q.1, .int .i64 q.2, .bool t.1, .int .i64 t.2])] rfl fun a2 h1 => ?_
  refine wp_seq_k fun K3 hK3 => ?_
  refine wp_region_lit ?_
  refine so (wanted_none rfl) fun K11 hK11 => xbox h1 rfl rfl rfl rfl rfl (z := [.int .i64 p.1, .int .i64 p.2, .bool u.1, .int .i64 u.2]) rfl hS fun a6 g4 w7 h5 s8 b9 e10 => hK11 _ _ ?_
  clear hK11 K11
  clear e10
  refine so (wanted_none rfl) fun K19 hK19 => xbox h5 rfl rfl rfl rfl rfl (z := [.int .i64 q.1, .int .i64 q.2, .bool t.1, .int .i64 t.2]) rfl s8 fun a14 g12 w15 h13 s16 b17 e18 => hK19 _ _ ?_
  clear hK19 K19
  clear e18
  refine sv h13 (wanted_none rfl) rfl rfl rfl (v := .int .i64 0) (rassign h13 rfl rfl) fun a21 h20 => ?_
  refine wpList_nil ?_
  refine hK3 _ _ ?_
  refine wp_seq_k fun K22 hK22 => ?_
  refine wp_region_lit ?_
  refine sv h20 (wanted_none rfl) rfl rfl rfl (v := .pointer (some ⟨g4, 1, none⟩)) (rfa h20 rfl rfl (fun w => fa_lease_Held_lf2_1 g4 0 w)) fun a24 h23 => ?_
  refine sw h23 (wanted_none rfl) rfl rfl rfl (v := .int .i64 p.2) (rld h23 rfl rfl (ldB Try.underlying3 rfl (s16.get 1 rfl : Blk _ _ _ _) rfl)) fun a26 h25 => ?_
  refine sv h25 (wanted_none rfl) rfl rfl rfl (v := .pointer (some ⟨g12, 1, none⟩)) (rfa h25 rfl rfl (fun w => fa_lease_Held_lf2_1 g12 0 w)) fun a28 h27 => ?_
  refine sw h27 (wanted_none rfl) rfl rfl rfl (v := .int .i64 q.2) (rld h27 rfl rfl (ldB Try.underlying3 rfl (s16.get 0 rfl : Blk _ _ _ _) rfl)) fun a30 h29 => ?_
  refine sv h29 (wanted_none rfl) rfl rfl rfl (v := .int .i64 (p.2 - q.2)) (rbin h29 rfl rfl rfl (bSub _ _ _ (by omega) (by omega) (by omega))) fun a32 h31 => ?_
  refine sv h31 (wanted_none rfl) rfl rfl rfl (v := .pointer (some ⟨g4, 0, none⟩)) (rfa h31 rfl rfl (fun w => fa_lease_Held_lf2_0 g4 0 w)) fun a34 h33 => ?_
  refine sw h33 (wanted_none rfl) rfl rfl rfl (v := .int .i64 p.1) (rld h33 rfl rfl (ldB Try.underlying3 rfl (s16.get 1 rfl : Blk _ _ _ _) rfl)) fun a36 h35 => ?_
  refine sv h35 (wanted_none rfl) rfl rfl rfl (v := .pointer (some ⟨g12, 0, none⟩)) (rfa h35 rfl rfl (fun w => fa_lease_Held_lf2_0 g12 0 w)) fun a38 h37 => ?_
  refine sw h37 (wanted_none rfl) rfl rfl rfl (v := .int .i64 q.1) (rld h37 rfl rfl (ldB Try.underlying3 rfl (s16.get 0 rfl : Blk _ _ _ _) rfl)) fun a40 h39 => ?_
  refine sv h39 (wanted_none rfl) rfl rfl rfl (v := .int .i64 (p.1 - q.1)) (rbin h39 rfl rfl rfl (bSub _ _ _ (by omega) (by omega) (by omega))) fun a42 h41 => ?_
  refine so (wanted_none rfl) fun K50 hK50 => xbuildS h41 rfl rfl rfl (E := 3) (xs := [(0, .tmp 9), (1, .tmp 14)]) rfl (vs := [(0, .int .i64 (p.2 - q.2)), (1, .int .i64 (p.1 - q.1))]) rfl (z := [.int .i64 (p.2 - q.2), .int .i64 (p.1 - q.1)]) (fun _ => by kernel_rfl) s16 fun a45 g43 w46 h44 s47 b48 e49 => hK50 _ _ ?_
  clear hK50 K50
  clear e49
  refine so (wanted_none rfl) fun K57 hK57 => xcall h44 rfl rfl rfl (xs := [.tmp 15]) rfl cp_cmp_Or_int_lf2 rfl (vs := [.slice (some ⟨g43, 0, none⟩) 2 2]) rfl (args := #[.slice (some ⟨g43, 0, none⟩) 2 2]) rfl (or2_s (w := w46) (x := p.2 - q.2) (y := p.1 - q.1) (s47.pick [0] (by decide) rfl)) fun a52 v53 w54 r55 h51 => hK57 _ _ ?_
  clear hK57 K57
  obtain ⟨rfl, rfl⟩ := r55
  have h58 := h51.subs (l' := [(16, _), (15, _), (14, _), (13, _), (12, _), (11, _), (10, _), (9, _), (8, _), (7, _), (6, _), (5, _), (3, _), (2, _), (0, _), (1, _)]) rfl
  clear h51 h1 h5 h13 h20 h23 h25 h27 h29 h31 h33 h35 h37 h39 h41 h44 a2 a6 a14 a21 a24 a26 a28 a30 a32 a34 a36 a38 a40 a42 a45
  refine sv h58 (wanted_none rfl) rfl rfl rfl (v := .int .i64 (if p.2 - q.2 ≠ 0 then p.2 - q.2 else p.1 - q.1)) (rassign h58 rfl rfl) fun a60 h59 => ?_
  have h61 := h59.subs (l' := [(4, _), (3, _), (2, _), (0, _), (1, _)]) rfl
  clear h59 h58 a52
  refine wpList_nil ?_
  refine hK22 _ _ ?_
  refine wp_ret ?_
  try simp only [Exit.then, Exit.inBlock]
  refine retR (v := .int .i64 (if p.2 - q.2 ≠ 0 then p.2 - q.2 else p.1 - q.1)) (res1 h61 rfl rfl) h61.defs ?_
  refine ⟨rfl, 0, ?_⟩
  obtain ⟨ob9, rfl⟩ := b9
  obtain ⟨ob17, rfl⟩ := b17
  obtain ⟨ob48, rfl⟩ := b48
  exact ⟨_, by rw [Go.Sort.alloc_eq_grow, Go.Sort.alloc_eq_grow, Go.Sort.alloc_eq_grow, Go.Sort.grow_grow, Go.Sort.grow_grow]; rfl⟩

abbrev KF := Fin 8 × Fin 32
def kf (p : KF) : Int × Int := (((p.1.val + 1 : Nat) : Int), ((p.2.val + 1 : Nat) : Int))
theorem kf_bd (p : KF) : 1 ≤ (kf p).1 ∧ (kf p).1 ≤ 8 ∧ 1 ≤ (kf p).2 ∧ (kf p).2 ≤ 32 := by
  have h1 := p.1.isLt
  have h2 := p.2.isLt
  unfold kf
  refine ⟨?_, ?_, ?_, ?_⟩ <;> simp only <;> omega
theorem kf_inj {p q : KF} (h : kf p = kf q) : p = q := by
  unfold kf at h
  have h1 := (Prod.mk.inj h).1
  have h2 := (Prod.mk.inj h).2
  exact Prod.ext (Fin.ext (by omega)) (Fin.ext (by omega))
theorem kf_of : ∀ {K : List (Int × Int)}, (∀ p ∈ K, 1 ≤ p.1 ∧ p.1 ≤ 8 ∧ 1 ≤ p.2 ∧ p.2 ≤ 32) → ∃ M : List KF, K = M.map kf
  | [], _ => ⟨[], rfl⟩
  | p :: K, h => by
    obtain ⟨M, hM⟩ := kf_of (K := K) (fun q hq => h q (List.mem_cons_of_mem _ hq))
    have hp := h p (List.mem_cons_self ..)
    refine ⟨(⟨(p.1 - 1).toNat, by omega⟩, ⟨(p.2 - 1).toNat, by omega⟩) :: M, ?_⟩
    rw [List.map_cons, ← hM]
    congr 1
    unfold kf
    exact Prod.ext (by show p.1 = _; simp only; omega) (by show p.2 = _; simp only; omega)
def encF (g : GrF) (p : KF) : List Value := encH g (kf p)
theorem flat_kf (g : GrF) (M : List KF) : (M.map kf).flatMap (encH g) = M.flatMap (encF g) := by induction M <;> simp_all [encF]
def cfF (x y : KF) : Int := if (kf x).2 - (kf y).2 ≠ 0 then (kf x).2 - (kf y).2 else (kf x).1 - (kf y).1
theorem ltF_iff (x y : KF) : ltOf cfF x y = true ↔ (kf x).2 < (kf y).2 ∨ ((kf x).2 = (kf y).2 ∧ (kf x).1 < (kf y).1) := by
  unfold ltOf cfF
  rw [decide_eq_true_eq]
  split <;> omega
theorem ltF_no (x y : KF) : ltOf cfF x y = false ↔ ¬ ((kf x).2 < (kf y).2 ∨ ((kf x).2 = (kf y).2 ∧ (kf x).1 < (kf y).1)) := by
  rw [← ltF_iff]; simp
theorem swoF : Go.Sort.SWO (ltOf cfF) := by
  refine ⟨fun x => ?_, fun x y z h1 h2 => ?_, fun x y z h1 h2 => ?_⟩
  · rw [ltF_no]; omega
  · rw [ltF_iff] at *; omega
  · rw [ltF_no] at *; omega
theorem totF (x y : KF) (h1 : ltOf cfF x y = false) (h2 : ltOf cfF y x = false) : x = y := by
  rw [ltF_no] at *
  exact kf_inj (Prod.ext (by omega) (by omega))
theorem GathK.bd {g : GrF} {left : Int × Int → Bool} {K : List (Int × Int)} (h : GathK g left K) (ok : GrOk g) : ∀ p ∈ K, 1 ≤ p.1 ∧ p.1 ≤ 8 ∧ 1 ≤ p.2 ∧ p.2 ≤ 32 := fun p hp => by
  obtain ⟨a, ha⟩ := Option.isSome_iff_exists.1 (h.wf p hp).2.1
  exact ok p a ha
theorem keys8_up : keys8.Pairwise (fun p q => p.2 < q.2 ∨ (p.2 = q.2 ∧ p.1 < q.1)) := by
  unfold keys8
  rw [List.pairwise_map]
  refine List.Pairwise.imp (fun {a b} h => ?_) List.pairwise_lt_range
  show ((a / 8 + 1 : Nat) : Int) < ((b / 8 + 1 : Nat) : Int) ∨ (((a / 8 + 1 : Nat) : Int) = ((b / 8 + 1 : Nat) : Int) ∧ ((a % 8 + 1 : Nat) : Int) < ((b % 8 + 1 : Nat) : Int))
  omega
theorem allK_mem {g : GrF} (hok : GrOk g) {p : Int × Int} : p ∈ allK g ↔ (g p).isSome = true := by
  unfold allK
  rw [List.mem_filter]
  refine ⟨fun h => h.2, fun h => ⟨?_, h⟩⟩
  obtain ⟨a, ha⟩ := Option.isSome_iff_exists.1 h
  exact mem_keys8 (hok p a ha)
theorem allK_up (g : GrF) : (allK g).Pairwise (fun p q => p.2 < q.2 ∨ (p.2 = q.2 ∧ p.1 < q.1)) := List.Pairwise.filter _ keys8_up
theorem allK_nd (g : GrF) : (allK g).Nodup := (allK_up g).imp fun {p q} h e => by subst e; omega
theorem gath_perm {g : GrF} {left : Int × Int → Bool} {K : List (Int × Int)} (hok : GrOk g) (h : GathK g left K) (hl : ∀ p, KG.ok p → left p = false) : K.Perm (allK g) :=
  (List.perm_ext_iff_of_nodup h.nd (allK_nd g)).2 fun p => by
    rw [allK_mem hok]
    refine ⟨fun hp => (h.wf p hp).2.1, fun hp => ?_⟩
    obtain ⟨a, ha⟩ := Option.isSome_iff_exists.1 hp
    have b := hok p a ha
    have hw : wfK p := ⟨wf_i64 (by omega) (by omega), wf_i64 (by omega) (by omega)⟩
    exact h.all p hw hp (hl p hw)
theorem allK_len {g : GrF} {left : Int × Int → Bool} {K : List (Int × Int)} (hok : GrOk g) (h : GathK g left K) (hl : ∀ p, KG.ok p → left p = false) : K.length = (allK g).length := (gath_perm hok h hl).length_eq
theorem callC27 (args : Array Value) (w : World) : (callFunc 27 args).run Try.prog w = .ok (.enter 27 args) w := by
  have h := Try.func27
  go_simp
theorem sortAll_s {w : World} {B : Nat} {a : Option Addr} {c : Nat} {g : GrF} {left : Int × Int → Bool} {K : List (Int × Int)} {R : List Ch} (hS : Sep w (ownC B 36 4 a K.length c (K.flatMap (encH g)) :: R)) (hok : GrOk g) (h : GathK g left K) (hl : ∀ p, KG.ok p → left p = false) :
    CallsR Try.prog 26 #[.slice a K.length c, .func (.func 27) #[] #[]] w fun v w' => v = .tuple #[] ∧ Sep w' (ownC 0 36 4 a (allK g).length c ((allK g).flatMap (encH g)) :: R) := by
  have hO : Own w 0 36 4 a K.length c (K.flatMap (encH g)) := Own.low (hS.get 0 rfl) (Nat.zero_le _)
  have hp := gath_perm hok h hl
  obtain ⟨M, rfl⟩ := kf_of (h.bd hok)
  cases a with
  | none =>
    have hn : (M.map kf).length = 0 := by
      rcases hO.2 with ⟨_, h0⟩ | ⟨g', cap, cur, hv, _⟩
      · exact h0
      · cases hv
    have hM : M = [] := List.eq_nil_of_length_eq_zero (by simpa using hn)
    subst hM
    have ha : allK g = [] := List.eq_nil_of_length_eq_zero (by rw [← hp.length_eq]; rfl)
    rw [ha]
    refine (slices_SortFunc_none (α := KF) none c _ w).mono fun e w' q => ⟨_, q.1, rfl, ?_⟩
    rw [q.2]
    exact Sep.upd hS 0 rfl (Turns.refl (fun _ => False) w) (fun k _ e => e.elim) (c' := ownC 0 36 4 none 0 c []) hO (fun k hk => .inl hk)
  | some ad =>
    have had : ∃ q, ad = ⟨q, 0, none⟩ := by
      rcases hO.2 with ⟨hv, _⟩ | ⟨g', cap, cur, hv, _⟩
      · cases hv
      · cases hv; exact ⟨g', rfl⟩
    obtain ⟨q, rfl⟩ := had
    rw [flat_kf, List.length_map] at hO
    obtain ⟨h1, h2, h3⟩ := own_sortK (enc := encF g) (fun _ => rfl) hO
    have hlen : M.length ≤ 256 := by have := h.len hok; rwa [List.length_map] at this
    have hcmp : CmpLays Try.prog 27 #[] (encF g) 4 cfF q 0 M.toArray.size w := fun m os dk _ x y =>
      Calls.mono (cmpAll_s _ (kf x) (kf y) ((g (kf x)).getD (false, 0)) ((g (kf y)).getD (false, 0)) (kf_bd x) (kf_bd y)) fun e w' ⟨v, e1, e2, r⟩ => ⟨by rw [e1, e2]; rfl, r⟩
    have hc := slices_SortFunc_total (α := KF) 4 Try.isAgg36 Try.sizeOf36 (encF g) (fun _ => rfl) (fun x v hv => by simp [encF, encH] at hv; rcases hv with rfl | rfl | rfl | rfl <;> rfl) cfF swoF 27 #[] q 0 c M.toArray w callC27 hcmp h1 h2 (by simp; omega) totF
    rw [List.length_map]
    refine hc.mono fun e w' r => ?_
    obtain ⟨r1, n, os, rfl⟩ := r
    refine ⟨_, r1, rfl, ?_⟩
    obtain ⟨M', hM'⟩ : ∃ M', M' = M.mergeSort fun x y => !(ltOf cfF) y x := ⟨_, rfl⟩
    have hperm : M'.Perm M := by rw [hM']; exact List.mergeSort_perm _ _
    have hsorted : (M'.map kf).Pairwise (fun p q => p.2 < q.2 ∨ (p.2 = q.2 ∧ p.1 ≤ q.1)) := by
      rw [List.pairwise_map, hM']
      refine (List.pairwise_mergeSort (le := fun x y => !(ltOf cfF) y x) (fun x y z a b => ?_) (fun x y => ?_) M).imp fun {x y} hxy => ?_
      · simp only [Bool.not_eq_true'] at a b ⊢
        exact swoF.ntrans z y x b a
      · cases hb : ltOf cfF y x
        · rfl
        · simp only [Bool.not_true, Bool.false_or, Bool.not_eq_true']
          rw [ltF_iff] at hb; rw [ltF_no]; omega
      · simp only [Bool.not_eq_true'] at hxy
        rw [ltF_no] at hxy; omega
    have hall : M'.map kf = allK g := by
      refine List.Perm.eq_of_pairwise (le := fun p q => decide (p.2 < q.2 ∨ (p.2 = q.2 ∧ p.1 ≤ q.1))) (fun a b _ _ h1 h2 => ?_) (hsorted.imp fun {a b} h => decide_eq_true h) ((allK_up g).imp fun {a b} h => decide_eq_true (by omega)) ((hperm.map kf).trans hp)
      simp only [decide_eq_true_eq] at h1 h2
      exact Prod.ext (by omega) (by omega)
    have hl' : M'.length = M.length := hperm.length_eq
    obtain ⟨o1, o2⟩ := h3 n os M' hl'
    rw [← hM', ← hall, flat_kf, List.length_map]
    exact Sep.upd hS 0 rfl (Turns.of_row (r := some q) o2) (fun k _ hk => hk) (c' := ownC 0 36 4 (some ⟨q, 0, none⟩) M'.length c (M'.flatMap (encF g))) o1 (fun k hk => .inl hk)
set_option maxHeartbeats 4000000 in
theorem allT_s {w : World} {tg gm wm n m : Nat} {g : GrF} {wt : WtF} {R : List Ch} (hS0 : Sep w (tab3 tg gm wm n m g wt ++ R)) (hok : GrOk g) :
    CallsR Try.prog 13 #[.pointer (some ⟨tg, 0, none⟩)] w (fun v w' => ∃ la lc, v = .slice la (allK g).length lc ∧ Sep w' ((ownC 0 36 4 la (allK g).length lc ((allK g).flatMap (encH g)) :: tab3 tg gm wm n m g wt) ++ R)) := by
  have hS : Sep w [blkC tg 54 [.map (some gm), .map (some wm)], mapC KG gm n g, mapC KW wm m wt, Ch.many R] := Sep.tail_many (xs := tab3 tg gm wm n m g wt) hS0; clear hS0
  refine enterR Try.func13 rfl (N := 25) Try.ntmps13 (by show 1 ≤ 25; decide) [(0, .pointer (some ⟨tg, 0, none⟩))] rfl fun a2 h1 => ?_
  refine wp_seq_k fun K3 hK3 => ?_
  refine wp_region_lit ?_
  refine sv h1 (wanted_none rfl) rfl rfl rfl (v := .slice none 0 0) (rassign h1 rfl rfl) fun a5 h4 => ?_
  refine wpList_nil ?_
  refine hK3 _ _ ?_
  refine wp_seq_k fun K6 hK6 => ?_
  refine wp_region_lit ?_
  refine sv h4 (wanted_none rfl) rfl rfl rfl (v := .slice none 0 0) (rassign h4 rfl rfl) fun a8 h7 => ?_
  refine wpList_nil ?_
  refine hK6 _ _ ?_
  refine wp_seq_k fun K9 hK9 => ?_
  refine wp_seq_k fun K10 hK10 => ?_
  refine wp_region_lit ?_
  refine sv h7 (wanted_none rfl) rfl rfl rfl (v := .pointer (some ⟨tg, 0, none⟩)) (rmove h7 rfl rfl) fun a12 h11 => ?_
  refine sv h11 (wanted_none rfl) rfl rfl rfl (v := .pointer (some ⟨tg, 0, none⟩)) (rnil h11 rfl rfl) fun a14 h13 => ?_
  refine sv h13 (wanted_none rfl) rfl rfl rfl (v := .pointer (some ⟨tg, 0, none⟩)) (rfa h13 rfl rfl (fun w => fa_lease_Table_lf3_0 tg 0 w)) fun a16 h15 => ?_
  refine sw h15 (wanted_none rfl) rfl rfl rfl (v := .map (some gm)) (rld h15 rfl rfl (ldB Try.underlying51 rfl (hS.get 0 rfl : Blk _ _ _ _) rfl)) fun a18 h17 => ?_
  refine so (wanted_none rfl) fun K26 hK26 => xrange (M := KG) h17 rfl rfl rfl rfl rfl hS 1 rfl rfl fun a22 r19 w23 cnt20 h21 s24 b25 => hK26 _ _ ?_
  clear hK26 K26
  clear b25
  have s27 : Sep w23 [blkC tg 54 [.map (some gm), .map (some wm)], ranC KG gm r19 n g (fun i => (g i).isSome) cnt20, mapC KW wm m wt, Ch.many R] := s24; clear s24
  have h28 := h21.subs (l' := [(10, _), (3, _), (2, _), (0, _)]) rfl
  clear h21 h1 h4 h7 h11 h13 h15 h17 a2 a5 a8 a12 a14 a16 a18
  refine wpList_nil ?_
  refine hK10 _ _ ?_
  refine wp_block ?_
  have s29 := s27.ownNil 0 36 4
  refine wp_loop5 (fun (left : Int × Int → Bool) (cnt : Nat) (K : List (Int × Int)) (a : Option Addr) (cc : Nat) a' w' => Kn 25 [(10, .pointer (some ⟨r19, 0, none⟩)), (3, .slice a K.length cc), (2, .slice none 0 0), (0, .pointer (some ⟨tg, 0, none⟩))] a' ∧ Sep w' [ownC 0 36 4 a K.length cc (K.flatMap (encH g)), blkC tg 54 [.map (some gm), .map (some wm)], ranC KG gm r19 n g left cnt, mapC KW wm m wt, Ch.many R] ∧ (GathK g left K)) (fun (left : Int × Int → Bool) (cnt : Nat) (K : List (Int × Int)) (a : Option Addr) (cc : Nat) => cnt) (fun i => (g i).isSome) cnt20 [] none 0 ⟨h28.subs rfl, s29, GathK.start g⟩ ?_
  clear h28 s29
  rintro left36 cnt37 K38 a39 cc40 a30 w31 ⟨h32, s33, hga35⟩ K34 hK34
  refine wp_seq_k fun K41 hK41 => ?_
  refine wp_region_lit ?_
  refine so (wanted_none rfl) fun Ka43 hKa43 => xnext (M := KG) h32 rfl rfl rfl rfl s33 2 rfl rfl (fun a43 h42 hlh42 => hKa43 _ _ ?_) ?_
  · skip
    refine sv h42 (wanted_none rfl) rfl rfl rfl (v := .bool false) (rext h42 rfl rfl rfl) fun a45 h44 => ?_
    have h46 := h44.subs (l' := [(12, _), (10, _), (3, _), (2, _), (0, _)]) rfl
    clear h44 h32 h42 a30 a43
    refine wpList_nil ?_
    refine hK41 _ _ ?_
    refine wp_seq_k fun K47 hK47 => ?_
    refine wp_condS h46 rfl rfl ?_
    simp only [Bool.false_eq_true, if_false]
    have h48 := h46.subs (l' := [(10, _), (3, _), (2, _), (0, _)]) rfl
    clear h46
    refine wp_exit ?_
    refine hK9 _ _ ?_
    refine wp_seq_k fun K49 hK49 => ?_
    refine wp_region_lit ?_
    refine sv h48 (wanted_none rfl) rfl rfl rfl (v := .slice a39 K38.length cc40) (rmove h48 rfl rfl) fun a51 h50 => ?_
    refine so (wanted_none rfl) fun K58 hK58 => xcall h50 rfl rfl rfl (xs := [.tmp 22, .func 27]) rfl cp_slices_SortFunc_lease_Held_lease_Held_lf3 rfl (vs := [.slice a39 K38.length cc40, .func (.func 27) #[] #[]]) rfl (args := #[.slice a39 K38.length cc40, .func (.func 27) #[] #[]]) rfl (sortAll_s (R := [blkC tg 54 [.map (some gm), .map (some wm)], ranC KG gm r19 n g left36 cnt37, mapC KW wm m wt, Ch.many R]) (s33 : Sep _ [ownC 0 36 4 a39 K38.length cc40 (K38.flatMap (encH g)), blkC tg 54 [.map (some gm), .map (some wm)], ranC KG gm r19 n g left36 cnt37, mapC KW wm m wt, Ch.many R]) hok hga35 hlh42) fun a53 v54 w55 r56 h52 => hK58 _ _ ?_
    clear hK58 K58
    obtain ⟨rfl, s57⟩ := r56
    rw [allK_len hok hga35 hlh42] at h52
    have h59 := h52.subs (l' := [(10, _), (3, _), (2, _), (0, _)]) rfl
    clear h52 h48 h50 a45 a51
    refine wpList_nil ?_
    refine hK49 _ _ ?_
    refine wp_seq_k fun K60 hK60 => ?_
    refine wp_region_lit ?_
    refine sv h59 (wanted_none rfl) rfl rfl rfl (v := .slice a39 ((allK g).length) cc40) (rmove h59 rfl rfl) fun a62 h61 => ?_
    have h63 := h61.subs (l' := [(24, _), (10, _), (3, _), (0, _)]) rfl
    clear h61 h59 a53
    refine sv h63 (wanted_none rfl) rfl rfl rfl (v := .slice a39 ((allK g).length) cc40) (rassign h63 rfl rfl) fun a65 h64 => ?_
    have h66 := h64.subs (l' := [(2, _), (10, _), (3, _), (0, _)]) rfl
    clear h64 h63 a62
    refine wpList_nil ?_
    refine hK60 _ _ ?_
    refine wp_ret ?_
    try simp only [Exit.then, Exit.inBlock]
    refine retR (v := .slice a39 ((allK g).length) cc40) (res1 h66 rfl rfl) h66.defs ?_
    have s67 := s57.ran_map 2 rfl
    have s68 : Sep _ [ownC 0 36 4 a39 (allK g).length cc40 ((allK g).flatMap (encH g)), blkC tg 54 [.map (some gm), .map (some wm)], mapC KG gm n g, mapC KW wm m wt, Ch.many R] := s67
    exact ⟨a39, cc40, rfl, Sep.tail_un (xs := [_, _, _, _]) s68⟩
  · skip
    rintro a74 w71 p69 u70 cnt73 h75 s72x okp69 hlp69 hgp69 hnp69 hep69
    refine hKa43 _ _ ?_
    have s72 : Sep w71 [ownC 0 36 4 a39 K38.length cc40 (K38.flatMap (encH g)), blkC tg 54 [.map (some gm), .map (some wm)], ranC KG gm r19 n g (fun j => left36 j && !decide (j = p69)) cnt73, mapC KW wm m wt, Ch.many R] := s72x; clear s72x
    obtain rfl : u70 = (g p69).getD (false, 0) := by rw [hgp69]; rfl
    refine sv h75 (wanted_none rfl) rfl rfl rfl (v := .bool true) (rext h75 rfl rfl rfl) fun a77 h76 => ?_
    have h78 := h76.subs (l' := [(12, _), (10, _), (3, _), (2, _), (0, _)]) rfl
    clear h76 h32 h75 a30 a74
    refine wpList_nil ?_
    refine hK41 _ _ ?_
    refine wp_seq_k fun K79 hK79 => ?_
    refine wp_condS h78 rfl rfl ?_
    simp only [if_true]
    have h80 := h78.subs (l' := [(10, _), (3, _), (2, _), (0, _)]) rfl
    clear h78
    refine wp_skip ?_
    refine hK79 _ _ ?_
    refine wp_block ?_
    refine wp_seq_k fun K81 hK81 => ?_
    refine wp_region_lit ?_
    refine sw h80 (wanted_none rfl) rfl rfl rfl (v := .tuple #[.agg #[.int .i64 p69.1, .int .i64 p69.2], .agg #[.bool (((g p69).getD (false, 0)).1), .int .i64 (((g p69).getD (false, 0)).2)]]) (rentry h80 rfl rfl hep69) fun a83 h82 => ?_
    refine sv h82 (wanted_none rfl) rfl rfl rfl (v := .agg #[.int .i64 p69.1, .int .i64 p69.2]) (rext h82 rfl rfl rfl) fun a85 h84 => ?_
    refine sv h84 (wanted_none rfl) rfl rfl rfl (v := .agg #[.bool (((g p69).getD (false, 0)).1), .int .i64 (((g p69).getD (false, 0)).2)]) (rext h84 rfl rfl rfl) fun a87 h86 => ?_
    refine so (wanted_none rfl) fun K95 hK95 => xalloc h86 rfl rfl rfl rfl (z := [.int .i64 0, .int .i64 0]) (fun _ => rfl) s72 fun a90 g88 w91 h89 s92 b93 e94 => hK95 _ _ ?_
    clear hK95 K95
    clear b93 e94
    refine so (wanted_none rfl) fun K103 hK103 => xalloc h89 rfl rfl rfl rfl (z := [.bool false, .int .i64 0]) (fun _ => rfl) s92 fun a98 g96 w99 h97 s100 b101 e102 => hK103 _ _ ?_
    clear hK103 K103
    clear b101 e102
    refine so (wanted_none rfl) fun K109 hK109 => xstore h97 rfl rfl s100 1 rfl rfl rfl [.int .i64 p69.1, .int .i64 p69.2] rfl (by kernel_rfl) rfl (by show 0 + 2 ≤ 2; decide) (L' := [.int .i64 p69.1, .int .i64 p69.2]) rfl (cs' := [blkC g96 62 [.bool false, .int .i64 0], blkC g88 60 [.int .i64 p69.1, .int .i64 p69.2], ownC 0 36 4 a39 K38.length cc40 (K38.flatMap (encH g)), blkC tg 54 [.map (some gm), .map (some wm)], ranC KG gm r19 n g (fun j => left36 j && !decide (j = p69)) cnt73, mapC KW wm m wt, Ch.many R]) rfl fun a105 w106 h104 s107 t108 => hK109 _ _ ?_
    clear hK109 K109
    clear t108
    refine so (wanted_none rfl) fun K115 hK115 => xstore h104 rfl rfl s107 0 rfl rfl rfl [.bool (((g p69).getD (false, 0)).1), .int .i64 (((g p69).getD (false, 0)).2)] rfl (by kernel_rfl) rfl (by show 0 + 2 ≤ 2; decide) (L' := [.bool (((g p69).getD (false, 0)).1), .int .i64 (((g p69).getD (false, 0)).2)]) rfl (cs' := [blkC g96 62 [.bool (((g p69).getD (false, 0)).1), .int .i64 (((g p69).getD (false, 0)).2)], blkC g88 60 [.int .i64 p69.1, .int .i64 p69.2], ownC 0 36 4 a39 K38.length cc40 (K38.flatMap (encH g)), blkC tg 54 [.map (some gm), .map (some wm)], ranC KG gm r19 n g (fun j => left36 j && !decide (j = p69)) cnt73, mapC KW wm m wt, Ch.many R]) rfl fun a111 w112 h110 s113 t114 => hK115 _ _ ?_
    clear hK115 K115
    clear t114
    have h116 := h110.subs (l' := [(5, _), (4, _), (10, _), (3, _), (2, _), (0, _)]) rfl
    clear h110 h80 h82 h84 h86 h89 h97 h104 a77 a83 a85 a87 a90 a98 a105
    refine wpList_nil ?_
    refine hK81 _ _ ?_
    refine wp_region_lit ?_
    refine sv h116 (wanted_none rfl) rfl rfl rfl (v := .slice a39 K38.length cc40) (rmove h116 rfl rfl) fun a118 h117 => ?_
    refine sw h117 (wanted_none rfl) rfl rfl rfl (v := .agg #[.int .i64 p69.1, .int .i64 p69.2]) (rld h117 rfl rfl (ldA Try.underlying60 rfl (n := 2) (by kernel_rfl) (s113.get 1 rfl : Blk _ _ _ _) rfl rfl)) fun a120 h119 => ?_
    refine sw h119 (wanted_none rfl) rfl rfl rfl (v := .agg #[.bool (((g p69).getD (false, 0)).1), .int .i64 (((g p69).getD (false, 0)).2)]) (rld h119 rfl rfl (ldA Try.underlying62 rfl (n := 2) (by kernel_rfl) (s113.get 0 rfl : Blk _ _ _ _) rfl rfl)) fun a122 h121 => ?_
    refine so (wanted_none rfl) fun K129 hK129 => xcall h121 rfl rfl rfl (xs := [.tmp 17, .tmp 18]) rfl cp_lease_key_held_lf3 rfl (vs := [.agg #[.int .i64 p69.1, .int .i64 p69.2], .agg #[.bool (((g p69).getD (false, 0)).1), .int .i64 (((g p69).getD (false, 0)).2)]]) rfl (args := #[.agg #[.int .i64 p69.1, .int .i64 p69.2], .agg #[.bool (((g p69).getD (false, 0)).1), .int .i64 (((g p69).getD (false, 0)).2)]]) rfl (heldT_s (R := [blkC g96 62 [.bool (((g p69).getD (false, 0)).1), .int .i64 (((g p69).getD (false, 0)).2)], blkC g88 60 [.int .i64 p69.1, .int .i64 p69.2], ownC 0 36 4 a39 K38.length cc40 (K38.flatMap (encH g)), blkC tg 54 [.map (some gm), .map (some wm)], ranC KG gm r19 n g (fun j => left36 j && !decide (j = p69)) cnt73, mapC KW wm m wt, Ch.many R]) s113 p69.1 p69.2 (((g p69).getD (false, 0)).2) (((g p69).getD (false, 0)).1)) fun a124 v125 w126 r127 h123 => hK129 _ _ ?_
    clear hK129 K129
    obtain ⟨rfl, s128⟩ := r127
    refine so (wanted_none rfl) fun K137 hK137 => xbuildS h123 rfl rfl rfl (E := 36) (xs := [(0, .tmp 19)]) rfl (vs := [(0, .agg #[.int .i64 p69.1, .int .i64 p69.2, .bool (((g p69).getD (false, 0)).1), .int .i64 (((g p69).getD (false, 0)).2)])]) rfl (z := [.int .i64 p69.1, .int .i64 p69.2, .bool (((g p69).getD (false, 0)).1), .int .i64 (((g p69).getD (false, 0)).2)]) (fun _ => by kernel_rfl) s128 fun a132 g130 w133 h131 s134 b135 e136 => hK137 _ _ ?_
    clear hK137 K137
    clear b135 e136
    refine so (wanted_none rfl) fun K144 hK144 => xappS (encH_len g) h131 rfl rfl rfl rfl EHL s134 3 rfl rfl 0 (y := p69) rfl rfl rfl (by decide) (by have := hga35.len hok; omega) (L' := K38 ++ [p69]) rfl fun a141 p138 c139 w142 h140 s143 => hK144 _ _ ?_
    clear hK144 K144
    have s145 : Sep w142 [blkC g96 62 [.bool (((g p69).getD (false, 0)).1), .int .i64 (((g p69).getD (false, 0)).2)], blkC g88 60 [.int .i64 p69.1, .int .i64 p69.2], ownC 0 36 4 p138 (K38 ++ [p69]).length c139 ((K38 ++ [p69]).flatMap (encH g)), blkC tg 54 [.map (some gm), .map (some wm)], ranC KG gm r19 n g (fun j => left36 j && !decide (j = p69)) cnt73, mapC KW wm m wt, Ch.many R] := s143.pick [1, 2, 3, 4, 5, 6, 7] (by decide) rfl; clear s143
    have h146 := h140.subs (l' := [(21, _), (20, _), (19, _), (18, _), (17, _), (16, _), (5, _), (4, _), (10, _), (2, _), (0, _)]) rfl
    clear h140 h116 h117 h119 h121 h123 h131 a111 a118 a120 a122 a124 a132
    refine sv h146 (wanted_none rfl) rfl rfl rfl (v := .slice p138 ((K38 ++ [p69]).length) c139) (rassign h146 rfl rfl) fun a148 h147 => ?_
    have h149 := h147.subs (l' := [(3, _), (5, _), (4, _), (10, _), (2, _), (0, _)]) rfl
    clear h147 h146 a141
    refine wpList_nil ?_
    exact hK34 (fun j => left36 j && !decide (j = p69)) cnt73 (K38 ++ [p69]) p138 c139 _ _ ⟨h149.subs rfl, (s145.pick [2, 3, 4, 5, 6] (by decide) rfl), hga35.push okp69 hlp69 (by rw [hgp69]; rfl)⟩ (hnp69)

end Go.Proofs.Ytpalgffmdinfpaa
end
section
namespace Go.Proofs.Ytpalgffmdinfpaa
open Go.RowKit
set_option linter.unusedSimpArgs false
set_option linter.unusedVariables false
set_option maxRecDepth 100000

structure DeedV where
  k : Int
  now : Int
  c : Int
  i : Int
  own : Bool
def DeedV.wf (d : DeedV) : Prop := (Lit.int .i64 d.k).wf = true ∧ (Lit.int .i64 d.now).wf = true ∧ (Lit.int .i64 d.c).wf = true ∧ (Lit.int .i64 d.i).wf = true
def stepG (d : DeedV) (g : GrF) (wt : WtF) : GrF := if d.k = 0 then askG g wt d.now d.c d.i d.own else if d.k = 1 then updG g (d.c, d.i) none else if d.k = 2 then dropG d.c g else g
def stepW (d : DeedV) (g : GrF) (wt : WtF) : WtF := if d.k = 0 then askW g wt d.now d.c d.i d.own else if d.k = 1 then wt else if d.k = 2 then dropW d.c wt else wt
theorem step_askG {d : DeedV} {g : GrF} {wt : WtF} (h : d.k = 0) : stepG d g wt = askG g wt d.now d.c d.i d.own := if_pos h
theorem step_askW {d : DeedV} {g : GrF} {wt : WtF} (h : d.k = 0) : stepW d g wt = askW g wt d.now d.c d.i d.own := if_pos h
theorem step_giveG {d : DeedV} {g : GrF} {wt : WtF} (h : d.k = 1) : stepG d g wt = updG g (d.c, d.i) none := by unfold stepG; rw [if_neg (by omega), if_pos h]
theorem step_giveW {d : DeedV} {g : GrF} {wt : WtF} (h : d.k = 1) : stepW d g wt = wt := by unfold stepW; rw [if_neg (by omega), if_pos h]
theorem step_dropG {d : DeedV} {g : GrF} {wt : WtF} (h : d.k = 2) : stepG d g wt = dropG d.c g := by unfold stepG; rw [if_neg (by omega), if_neg (by omega), if_pos h]
theorem step_dropW {d : DeedV} {g : GrF} {wt : WtF} (h : d.k = 2) : stepW d g wt = dropW d.c wt := by unfold stepW; rw [if_neg (by omega), if_neg (by omega), if_pos h]
theorem step_elseG {d : DeedV} {g : GrF} {wt : WtF} (h : ¬ d.k = 0 ∧ ¬ d.k = 1 ∧ ¬ d.k = 2) : stepG d g wt = g := by unfold stepG; rw [if_neg h.1, if_neg h.2.1, if_neg h.2.2]
theorem step_elseW {d : DeedV} {g : GrF} {wt : WtF} (h : ¬ d.k = 0 ∧ ¬ d.k = 1 ∧ ¬ d.k = 2) : stepW d g wt = wt := by unfold stepW; rw [if_neg h.1, if_neg h.2.1, if_neg h.2.2]
theorem ownW_or (wt : WtF) (c i : Int) : ownW wt c i = wt ∨ ownW wt c i = updG wt i none := by
  unfold ownW
  cases wt i with
  | none => exact .inl rfl
  | some a =>
    show (if a.1 = c then updG wt i none else wt) = wt ∨ (if a.1 = c then updG wt i none else wt) = _
    split
    · exact .inr rfl
    · exact .inl rfl
theorem WtOk.ask {wt : WtF} (h : WtOk wt) (g : GrF) (now c i : Int) (own : Bool) : WtOk (askW g wt now c i own) := fun j a ha => by
  unfold askW at ha
  split at ha
  · rename_i hb
    have hok := askOkB_iff.1 hb
    unfold askOk at hok
    split at ha
    · split at ha
      · exact h j a ha
      · rcases ownW_or wt c i with q | q
        · rw [q] at ha; exact h j a ha
        · rw [q] at ha
          by_cases e : j = i
          · subst e; rw [updG_same] at ha; cases ha
          · rw [updG_ne _ _ e] at ha; exact h j a ha
    · split at ha
      · exact h j a ha
      · by_cases e : j = i
        · subst e; rw [updG_same] at ha; cases ha; exact ⟨hok.2.1.1, hok.2.1.2, hok.2.2.1, hok.2.2.2⟩
        · rw [updG_ne _ _ e] at ha; exact h j a ha
  · exact h j a ha
theorem WtOk.drop {wt : WtF} (h : WtOk wt) (c : Int) : WtOk (dropW c wt) := fun j a ha => by
  unfold dropW at ha
  cases hb : wt j with
  | none => rw [hb] at ha; cases ha
  | some b =>
    rw [hb] at ha
    have ha' : (if b.1 = c then none else some b) = some a := ha
    split at ha'
    · cases ha'
    · cases ha'; exact h j _ hb
theorem WtOk.empty : WtOk (fun _ => none) := fun i a h => by cases h
def both7 (tg gm wm n m : Nat) (g : GrF) (wt : WtF) (rg gb wb lb : Nat) (G : List Gr3) (W L : List Int) : List Ch := [blkC tg 54 [.map (some gm), .map (some wm)], mapC KG gm n g, mapC KW wm m wt, blkC rg 43 [.slice (some ⟨gb, 0, none⟩) 297 297, .slice (some ⟨wb, 0, none⟩) 33 33, .slice (some ⟨lb, 0, none⟩) 33 33], blkC gb 58 (G.flatMap g3C), blkC wb 3 (W.map iV), blkC lb 3 (L.map iV)]
def In7 (tg gm wm rg gb wb lb b : Nat) : Prop := b = tg ∨ b = gm ∨ b = wm ∨ b = rg ∨ b = gb ∨ b = wb ∨ b = lb
theorem foot7 {tg gm wm n m : Nat} {g : GrF} {wt : WtF} {rg gb wb lb : Nat} {G : List Gr3} {W L : List Int} : ∀ (i : Nat) (c : Ch), (both7 tg gm wm n m g wt rg gb wb lb G W L)[i]? = some c → ∀ k, c.F k → In7 tg gm wm rg gb wb lb k
  | 0, c, h, k, hk => by cases h; exact .inl hk
  | 1, c, h, k, hk => by cases h; exact .inr (.inl hk)
  | 2, c, h, k, hk => by cases h; exact .inr (.inr (.inl hk))
  | 3, c, h, k, hk => by cases h; exact .inr (.inr (.inr (.inl hk)))
  | 4, c, h, k, hk => by cases h; exact .inr (.inr (.inr (.inr (.inl hk))))
  | 5, c, h, k, hk => by cases h; exact .inr (.inr (.inr (.inr (.inr (.inl hk)))))
  | 6, c, h, k, hk => by cases h; exact .inr (.inr (.inr (.inr (.inr (.inr hk)))))
theorem foot7' {tg gm wm n m : Nat} {g : GrF} {wt : WtF} {rg gb wb lb : Nat} {G : List Gr3} {W L : List Int} {k : Nat} (h : In7 tg gm wm rg gb wb lb k) : ∃ (j : Nat) (d : Ch), (both7 tg gm wm n m g wt rg gb wb lb G W L)[j]? = some d ∧ d.F k := by
  rcases h with h | h | h | h | h | h | h
  · exact ⟨0, _, rfl, h⟩
  · exact ⟨1, _, rfl, h⟩
  · exact ⟨2, _, rfl, h⟩
  · exact ⟨3, _, rfl, h⟩
  · exact ⟨4, _, rfl, h⟩
  · exact ⟨5, _, rfl, h⟩
  · exact ⟨6, _, rfl, h⟩
/-- both tables, of the same grants and waits -/
def bothC (tg gm wm rg gb wb lb K : Nat) (g : GrF) (wt : WtF) : Ch where
  F b := In7 tg gm wm rg gb wb lb b
  P w := ∃ n m G W L, n ≤ K ∧ m ≤ K ∧ Sep w (both7 tg gm wm n m g wt rg gb wb lb G W L) ∧ RelL g wt G W L ∧ GrOk g ∧ WtOk wt
  keep h t := by
    obtain ⟨n, m, G, W, L, h1, h2, h3, h4⟩ := h
    exact ⟨n, m, G, W, L, h1, h2, h3.turns t (fun k _ hk i c hi hF => hk (foot7 i c hi k hF)), h4⟩
  lt h b hb := by
    obtain ⟨n, m, G, W, L, h1, h2, h3, h4⟩ := h
    obtain ⟨j, d, hj, hd⟩ := foot7' (n := n) (m := m) (g := g) (wt := wt) (G := G) (W := W) (L := L) hb
    exact d.lt (h3.all j d hj) b hd
theorem both_open {w : World} {tg gm wm rg gb wb lb K : Nat} {g : GrF} {wt : WtF} {R : List Ch} (h : Sep w (bothC tg gm wm rg gb wb lb K g wt :: R)) :
    ∃ n m G W L, n ≤ K ∧ m ≤ K ∧ Sep w (both7 tg gm wm n m g wt rg gb wb lb G W L ++ R) ∧ RelL g wt G W L ∧ GrOk g ∧ WtOk wt := by
  obtain ⟨n, m, G, W, L, h1, h2, h3, h4⟩ : (bothC tg gm wm rg gb wb lb K g wt).P w := h.get 0 rfl
  exact ⟨n, m, G, W, L, h1, h2, Sep.swap (A := [bothC tg gm wm rg gb wb lb K g wt]) h h3 (fun i c hi k hk => ⟨0, _, rfl, foot7 i c hi k hk⟩), h4⟩
theorem both_close {w : World} {tg gm wm rg gb wb lb K n m : Nat} {g : GrF} {wt : WtF} {G : List Gr3} {W L : List Int} {R : List Ch} (hn : n ≤ K) (hm : m ≤ K) (h : Sep w (both7 tg gm wm n m g wt rg gb wb lb G W L ++ R)) (hR : RelL g wt G W L) (hok : GrOk g) (hwo : WtOk wt) : Sep w (bothC tg gm wm rg gb wb lb K g wt :: R) := by
  refine Sep.swap (A := both7 tg gm wm n m g wt rg gb wb lb G W L) (B := [bothC tg gm wm rg gb wb lb K g wt]) h ?_ (fun i c hi k hk => ?_)
  · refine Sep.cons ⟨n, m, G, W, L, hn, hm, h.left, hR, hok, hwo⟩ (Sep.nil _) (fun i d hi => by simp at hi)
  · cases i with
    | zero => cases hi; exact foot7' hk
    | succ i => simp at hi
theorem sameI_t {w : World} {B B' : Nat} {a b : Option Addr} {c d : Nat} {xs ys : List Int} {R : List Ch} (hS : Sep w (ownC B 3 1 a xs.length c (xs.map iV) :: ownC B' 3 1 b ys.length d (ys.map iV) :: R)) :
    CallsR Try.prog 14 #[.slice a xs.length c, .slice b ys.length d] w fun v w' => v = .bool (decide (xs = ys)) ∧ Sep w' (ownC B 3 1 a xs.length c (xs.map iV) :: ownC B' 3 1 b ys.length d (ys.map iV) :: R) :=
  (sameInts_any a b c d xs ys w (Own.row (hS.get 0 rfl : Own _ _ _ _ _ _ _ _)) (Own.row (hS.get 1 rfl : Own _ _ _ _ _ _ _ _))).mono fun e w' ⟨e1, hb⟩ => ⟨_, e1, rfl, hS.mono hb⟩
theorem sameI_s {w : World} {B B' : Nat} {a b : Option Addr} {c d : Nat} {xs : List Int} {R : List Ch} (hS : Sep w (ownC B 3 1 a xs.length c (xs.map iV) :: ownC B' 3 1 b xs.length d (xs.map iV) :: R)) :
    CallsR Try.prog 14 #[.slice a xs.length c, .slice b xs.length d] w fun v w' => v = .bool true ∧ Sep w' (ownC B 3 1 a xs.length c (xs.map iV) :: ownC B' 3 1 b xs.length d (xs.map iV) :: R) :=
  (sameI_t hS).mono fun v w' ⟨e1, h⟩ => ⟨by rw [e1]; simp, h⟩

theorem fa_commonslaw19_Deed_lg1_0 (g off : Nat) (w : World) : (Instr.fieldAt 29 (.pointer (some ⟨g, off, none⟩)) 0).run Try.prog w = .ok (.pointer (some ⟨g, off + 0, none⟩)) w := rfl
theorem fa_commonslaw19_Deed_lg1_1 (g off : Nat) (w : World) : (Instr.fieldAt 29 (.pointer (some ⟨g, off, none⟩)) 1).run Try.prog w = .ok (.pointer (some ⟨g, off + 1, none⟩)) w := rfl
theorem fa_commonslaw19_Deed_lg1_2 (g off : Nat) (w : World) : (Instr.fieldAt 29 (.pointer (some ⟨g, off, none⟩)) 2).run Try.prog w = .ok (.pointer (some ⟨g, off + 2, none⟩)) w := rfl
theorem fa_commonslaw19_Deed_lg1_3 (g off : Nat) (w : World) : (Instr.fieldAt 29 (.pointer (some ⟨g, off, none⟩)) 3).run Try.prog w = .ok (.pointer (some ⟨g, off + 3, none⟩)) w := rfl
theorem fa_commonslaw19_Deed_lg1_4 (g off : Nat) (w : World) : (Instr.fieldAt 29 (.pointer (some ⟨g, off, none⟩)) 4).run Try.prog w = .ok (.pointer (some ⟨g, off + 4, none⟩)) w := rfl
theorem cp_lease_Table_Ask_lg1 (args : Array Value) (w : World) : (callFunc 17 args).run Try.prog w = .ok (.enter 17 args) w := by
  have h := Try.func17
  go_simp
theorem cp_commonsref19_Table_Ask_lg1 (args : Array Value) (w : World) : (callFunc 20 args).run Try.prog w = .ok (.enter 20 args) w := by
  have h := Try.func20
  go_simp
theorem cp_commonsref03_SameInts_lg1 (args : Array Value) (w : World) : (callFunc 14 args).run Try.prog w = .ok (.enter 14 args) w := by
  have h := Try.func14
  go_simp
theorem cp_lease_Table_Give_lg1 (args : Array Value) (w : World) : (callFunc 21 args).run Try.prog w = .ok (.enter 21 args) w := by
  have h := Try.func21
  go_simp
theorem cp_commonsref19_Table_Give_lg1 (args : Array Value) (w : World) : (callFunc 22 args).run Try.prog w = .ok (.enter 22 args) w := by
  have h := Try.func22
  go_simp
theorem cp_lease_Table_Drop_lg1 (args : Array Value) (w : World) : (callFunc 18 args).run Try.prog w = .ok (.enter 18 args) w := by
  have h := Try.func18
  go_simp
theorem cp_commonsref19_Table_Drop_lg1 (args : Array Value) (w : World) : (callFunc 23 args).run Try.prog w = .ok (.enter 23 args) w := by
  have h := Try.func23
  go_simp

set_option maxHeartbeats 4000000 in
theorem does_s {w : World} {tg gm wm rg gb wb lb K : Nat} {g : GrF} {wt : WtF} {R : List Ch} (hSb : Sep w (bothC tg gm wm rg gb wb lb K g wt :: R)) (hK : K < 1000) (d : DeedV) (hd : d.wf) :
    CallsR Try.prog 10 #[.pointer (some ⟨tg, 0, none⟩), .pointer (some ⟨rg, 0, none⟩), .agg #[.int .i64 d.k, .int .i64 d.now, .int .i64 d.c, .int .i64 d.i, .bool d.own]] w (fun v w' => v = .bool true ∧ Sep w' (bothC tg gm wm rg gb wb lb (K + 1) (stepG d g wt) (stepW d g wt) :: R)) := by
  obtain ⟨n, m, G, W, L, hnK, hmK, hS0, hR, hok, hwo⟩ := both_open hSb; clear hSb
  have hS : Sep w [blkC tg 54 [.map (some gm), .map (some wm)], mapC KG gm n g, mapC KW wm m wt, blkC rg 43 [.slice (some ⟨gb, 0, none⟩) 297 297, .slice (some ⟨wb, 0, none⟩) 33 33, .slice (some ⟨lb, 0, none⟩) 33 33], blkC gb 58 (G.flatMap g3C), blkC wb 3 (W.map iV), blkC lb 3 (L.map iV), Ch.many R] := Sep.tail_many (xs := [_, _, _, _, _, _, _]) hS0; clear hS0; obtain ⟨hG, hW, hL⟩ := hR.n
  have hkw := i64_bd hd.1; have hnw := i64_bd hd.2.1; have hcw := i64_bd hd.2.2.1; have hiw := i64_bd hd.2.2.2
  refine enterR Try.func10 rfl (N := 76) Try.ntmps10 (by show 3 ≤ 76; decide) [(0, .pointer (some ⟨tg, 0, none⟩)), (1, .pointer (some ⟨rg, 0, none⟩)), (2, .agg #[.int .i64 d.k, .int .i64 d.now, .int .i64 d.c, .int .i64 d.i, .bool d.own])] rfl fun a2 h1 => ?_
  refine wp_seq_k fun K3 hK3 => ?_
  refine wp_region_lit ?_
  refine so (wanted_none rfl) fun K11 hK11 => xbox h1 rfl rfl rfl rfl rfl (z := [.int .i64 d.k, .int .i64 d.now, .int .i64 d.c, .int .i64 d.i, .bool d.own]) rfl hS fun a6 g4 w7 h5 s8 b9 e10 => hK11 _ _ ?_
  clear hK11 K11
  clear b9 e10
  refine sv h5 (wanted_none rfl) rfl rfl rfl (v := .bool false) (rassign h5 rfl rfl) fun a13 h12 => ?_
  refine wpList_nil ?_
  refine hK3 _ _ ?_
  refine wp_seq_k fun K14 hK14 => ?_
  refine wp_seq_k fun K15 hK15 => ?_
  refine wp_region_lit ?_
  refine sv h12 (wanted_none rfl) rfl rfl rfl (v := .pointer (some ⟨g4, 0, none⟩)) (rfa h12 rfl rfl (fun w => fa_commonslaw19_Deed_lg1_0 g4 0 w)) fun a17 h16 => ?_
  refine sw h16 (wanted_none rfl) rfl rfl rfl (v := .int .i64 d.k) (rld h16 rfl rfl (ldB Try.underlying3 rfl (s8.get 0 rfl : Blk _ _ _ _) rfl)) fun a19 h18 => ?_
  have h20 := h18.subs (l' := [(13, _), (6, _), (5, _), (0, _), (1, _), (2, _)]) rfl
  clear h18 h1 h5 h12 h16 a2 a6 a13 a17
  refine wpList_nil ?_
  refine hK15 _ _ ?_
  refine wp_block ?_
  refine wp_seq_k fun K21 hK21 => ?_
  refine wp_region_lit ?_
  refine sv h20 (wanted_none rfl) rfl rfl rfl (v := .bool (decide (d.k = 0))) (rbin h20 rfl rfl rfl (cEq _ _ _ _ rfl)) fun a23 h22 => ?_
  refine sv h22 (wanted_none rfl) rfl rfl rfl (v := .bool (decide (d.k = 0))) (rassign h22 rfl rfl) fun a25 h24 => ?_
  have h26 := h24.subs (l' := [(14, _), (13, _), (6, _), (5, _), (0, _), (1, _), (2, _)]) rfl
  clear h24 h20 h22 a19 a23
  refine wpList_nil ?_
  refine hK21 _ _ ?_
  rcases Bool.eq_false_or_eq_true (decide (d.k = 0)) with hc27 | hc27
  · skip
    have hp28 : d.k = 0 := (of_decide_eq_true hc27)
    refine wp_condS h26 rfl hc27 ?_
    simp only [if_true]
    have h29 := h26.subs (l' := [(13, _), (6, _), (5, _), (0, _), (1, _), (2, _)]) rfl
    clear h26
    refine wp_seq_k fun K30 hK30 => ?_
    refine wp_region_lit ?_
    refine sv h29 (wanted_none rfl) rfl rfl rfl (v := .pointer (some ⟨tg, 0, none⟩)) (rmove h29 rfl rfl) fun a32 h31 => ?_
    refine sv h31 (wanted_none rfl) rfl rfl rfl (v := .pointer (some ⟨g4, 1, none⟩)) (rfa h31 rfl rfl (fun w => fa_commonslaw19_Deed_lg1_1 g4 0 w)) fun a34 h33 => ?_
    refine sw h33 (wanted_none rfl) rfl rfl rfl (v := .int .i64 d.now) (rld h33 rfl rfl (ldB Try.underlying3 rfl (s8.get 0 rfl : Blk _ _ _ _) rfl)) fun a36 h35 => ?_
    refine sv h35 (wanted_none rfl) rfl rfl rfl (v := .pointer (some ⟨g4, 2, none⟩)) (rfa h35 rfl rfl (fun w => fa_commonslaw19_Deed_lg1_2 g4 0 w)) fun a38 h37 => ?_
    refine sw h37 (wanted_none rfl) rfl rfl rfl (v := .int .i64 d.c) (rld h37 rfl rfl (ldB Try.underlying3 rfl (s8.get 0 rfl : Blk _ _ _ _) rfl)) fun a40 h39 => ?_
    refine sv h39 (wanted_none rfl) rfl rfl rfl (v := .pointer (some ⟨g4, 3, none⟩)) (rfa h39 rfl rfl (fun w => fa_commonslaw19_Deed_lg1_3 g4 0 w)) fun a42 h41 => ?_
    refine sw h41 (wanted_none rfl) rfl rfl rfl (v := .int .i64 d.i) (rld h41 rfl rfl (ldB Try.underlying3 rfl (s8.get 0 rfl : Blk _ _ _ _) rfl)) fun a44 h43 => ?_
    refine sv h43 (wanted_none rfl) rfl rfl rfl (v := .pointer (some ⟨g4, 4, none⟩)) (rfa h43 rfl rfl (fun w => fa_commonslaw19_Deed_lg1_4 g4 0 w)) fun a46 h45 => ?_
    refine sw h45 (wanted_none rfl) rfl rfl rfl (v := .bool d.own) (rld h45 rfl rfl (ldB Try.underlying4 rfl (s8.get 0 rfl : Blk _ _ _ _) rfl)) fun a48 h47 => ?_
    refine so (wanted_none rfl) fun K59 hK59 => xcall h47 rfl rfl rfl (xs := [.tmp 17, .tmp 19, .tmp 21, .tmp 23, .tmp 25]) rfl cp_lease_Table_Ask_lg1 rfl (vs := [.pointer (some ⟨tg, 0, none⟩), .int .i64 d.now, .int .i64 d.c, .int .i64 d.i, .bool d.own]) rfl (args := #[.pointer (some ⟨tg, 0, none⟩), .int .i64 d.now, .int .i64 d.c, .int .i64 d.i, .bool d.own]) rfl (askT_s (tg := tg) (gm := gm) (wm := wm) (R := [blkC g4 29 [.int .i64 d.k, .int .i64 d.now, .int .i64 d.c, .int .i64 d.i, .bool d.own], blkC rg 43 [.slice (some ⟨gb, 0, none⟩) 297 297, .slice (some ⟨wb, 0, none⟩) 33 33, .slice (some ⟨lb, 0, none⟩) 33 33], blkC gb 58 (G.flatMap g3C), blkC wb 3 (W.map iV), blkC lb 3 (L.map iV), Ch.many R]) ((s8.pick [1, 2, 3, 0, 4, 5, 6, 7, 8] (by decide) rfl) : Sep _ [blkC tg 54 [.map (some gm), .map (some wm)], mapC KG gm n g, mapC KW wm m wt, blkC g4 29 [.int .i64 d.k, .int .i64 d.now, .int .i64 d.c, .int .i64 d.i, .bool d.own], blkC rg 43 [.slice (some ⟨gb, 0, none⟩) 297 297, .slice (some ⟨wb, 0, none⟩) 33 33, .slice (some ⟨lb, 0, none⟩) 33 33], blkC gb 58 (G.flatMap g3C), blkC wb 3 (W.map iV), blkC lb 3 (L.map iV), Ch.many R]) hok (by omega) (by omega) d.now d.c d.i d.own) fun a54 v55 w56 r57 h53 => hK59 _ _ ?_
    clear hK59 K59
    obtain ⟨lax49, lcx50, nx51, mx52, rfl, s58, hn57, hm57⟩ := r57
    refine sv h53 (wanted_none rfl) rfl rfl rfl (v := .tuple #[.slice lax49 ((askLst g d.now d.c d.i d.own).length) lcx50, .int .i64 (askE g wt d.now d.c d.i d.own)]) (rmove h53 rfl rfl) fun a61 h60 => ?_
    refine sv h60 (wanted_none rfl) rfl rfl rfl (v := .slice lax49 ((askLst g d.now d.c d.i d.own).length) lcx50) (rext h60 rfl rfl rfl) fun a63 h62 => ?_
    refine sv h62 (wanted_none rfl) rfl rfl rfl (v := .int .i64 (askE g wt d.now d.c d.i d.own)) (rext h62 rfl rfl rfl) fun a65 h64 => ?_
    refine sv h64 (wanted_none rfl) rfl rfl rfl (v := .slice lax49 ((askLst g d.now d.c d.i d.own).length) lcx50) (rassign h64 rfl rfl) fun a67 h66 => ?_
    refine sv h66 (wanted_none rfl) rfl rfl rfl (v := .int .i64 (askE g wt d.now d.c d.i d.own)) (rassign h66 rfl rfl) fun a69 h68 => ?_
    have h70 := h68.subs (l' := [(8, _), (7, _), (13, _), (6, _), (5, _), (0, _), (1, _), (2, _)]) rfl
    clear h68 h29 h31 h33 h35 h37 h39 h41 h43 h45 h47 h53 h60 h62 h64 h66 a25 a32 a34 a36 a38 a40 a42 a44 a46 a48 a54 a61 a63 a65 a67
    refine wpList_nil ?_
    refine hK30 _ _ ?_
    refine wp_seq_k fun K71 hK71 => ?_
    refine wp_region_lit ?_
    refine sv h70 (wanted_none rfl) rfl rfl rfl (v := .pointer (some ⟨rg, 0, none⟩)) (rmove h70 rfl rfl) fun a73 h72 => ?_
    refine sv h72 (wanted_none rfl) rfl rfl rfl (v := .pointer (some ⟨g4, 1, none⟩)) (rfa h72 rfl rfl (fun w => fa_commonslaw19_Deed_lg1_1 g4 0 w)) fun a75 h74 => ?_
    refine sw h74 (wanted_none rfl) rfl rfl rfl (v := .int .i64 d.now) (rld h74 rfl rfl (ldB Try.underlying3 rfl (s58.get 4 rfl : Blk _ _ _ _) rfl)) fun a77 h76 => ?_
    refine sv h76 (wanted_none rfl) rfl rfl rfl (v := .pointer (some ⟨g4, 2, none⟩)) (rfa h76 rfl rfl (fun w => fa_commonslaw19_Deed_lg1_2 g4 0 w)) fun a79 h78 => ?_
    refine sw h78 (wanted_none rfl) rfl rfl rfl (v := .int .i64 d.c) (rld h78 rfl rfl (ldB Try.underlying3 rfl (s58.get 4 rfl : Blk _ _ _ _) rfl)) fun a81 h80 => ?_
    refine sv h80 (wanted_none rfl) rfl rfl rfl (v := .pointer (some ⟨g4, 3, none⟩)) (rfa h80 rfl rfl (fun w => fa_commonslaw19_Deed_lg1_3 g4 0 w)) fun a83 h82 => ?_
    refine sw h82 (wanted_none rfl) rfl rfl rfl (v := .int .i64 d.i) (rld h82 rfl rfl (ldB Try.underlying3 rfl (s58.get 4 rfl : Blk _ _ _ _) rfl)) fun a85 h84 => ?_
    refine sv h84 (wanted_none rfl) rfl rfl rfl (v := .pointer (some ⟨g4, 4, none⟩)) (rfa h84 rfl rfl (fun w => fa_commonslaw19_Deed_lg1_4 g4 0 w)) fun a87 h86 => ?_
    refine sw h86 (wanted_none rfl) rfl rfl rfl (v := .bool d.own) (rld h86 rfl rfl (ldB Try.underlying4 rfl (s58.get 4 rfl : Blk _ _ _ _) rfl)) fun a89 h88 => ?_
    refine so (wanted_none rfl) fun K101 hK101 => xcall h88 rfl rfl rfl (xs := [.tmp 30, .tmp 32, .tmp 34, .tmp 36, .tmp 38]) rfl cp_commonsref19_Table_Ask_lg1 rfl (vs := [.pointer (some ⟨rg, 0, none⟩), .int .i64 d.now, .int .i64 d.c, .int .i64 d.i, .bool d.own]) rfl (args := #[.pointer (some ⟨rg, 0, none⟩), .int .i64 d.now, .int .i64 d.c, .int .i64 d.i, .bool d.own]) rfl (askR_any (R := [ownC 0 3 1 lax49 (askLst g d.now d.c d.i d.own).length lcx50 ((askLst g d.now d.c d.i d.own).map iV), blkC tg 54 [.map (some gm), .map (some wm)], mapC KG gm nx51 (askG g wt d.now d.c d.i d.own), mapC KW wm mx52 (askW g wt d.now d.c d.i d.own), blkC g4 29 [.int .i64 d.k, .int .i64 d.now, .int .i64 d.c, .int .i64 d.i, .bool d.own], Ch.many R]) ((s58.pick [5, 6, 7, 8, 0, 1, 2, 3, 4, 9] (by decide) rfl) : Sep _ [blkC rg 43 [.slice (some ⟨gb, 0, none⟩) 297 297, .slice (some ⟨wb, 0, none⟩) 33 33, .slice (some ⟨lb, 0, none⟩) 33 33], blkC gb 58 (G.flatMap g3C), blkC wb 3 (W.map iV), blkC lb 3 (L.map iV), ownC 0 3 1 lax49 (askLst g d.now d.c d.i d.own).length lcx50 ((askLst g d.now d.c d.i d.own).map iV), blkC tg 54 [.map (some gm), .map (some wm)], mapC KG gm nx51 (askG g wt d.now d.c d.i d.own), mapC KW wm mx52 (askW g wt d.now d.c d.i d.own), blkC g4 29 [.int .i64 d.k, .int .i64 d.now, .int .i64 d.c, .int .i64 d.i, .bool d.own], Ch.many R]) hR hd.2.1 hd.2.2.1 hd.2.2.2) fun a96 v97 w98 r99 h95 => hK101 _ _ ?_
    clear hK101 K101
    obtain ⟨lax90, lcx91, Gx92, Wx93, Lx94, rfl, s100, hR99⟩ := r99
    refine sv h95 (wanted_none rfl) rfl rfl rfl (v := .tuple #[.slice lax90 ((askLst g d.now d.c d.i d.own).length) lcx91, .int .i64 (askE g wt d.now d.c d.i d.own)]) (rmove h95 rfl rfl) fun a103 h102 => ?_
    refine sv h102 (wanted_none rfl) rfl rfl rfl (v := .slice lax90 ((askLst g d.now d.c d.i d.own).length) lcx91) (rext h102 rfl rfl rfl) fun a105 h104 => ?_
    refine sv h104 (wanted_none rfl) rfl rfl rfl (v := .int .i64 (askE g wt d.now d.c d.i d.own)) (rext h104 rfl rfl rfl) fun a107 h106 => ?_
    refine sv h106 (wanted_none rfl) rfl rfl rfl (v := .slice lax90 ((askLst g d.now d.c d.i d.own).length) lcx91) (rassign h106 rfl rfl) fun a109 h108 => ?_
    refine sv h108 (wanted_none rfl) rfl rfl rfl (v := .int .i64 (askE g wt d.now d.c d.i d.own)) (rassign h108 rfl rfl) fun a111 h110 => ?_
    have h112 := h110.subs (l' := [(10, _), (9, _), (8, _), (7, _), (13, _), (6, _), (5, _), (0, _), (1, _), (2, _)]) rfl
    clear h110 h70 h72 h74 h76 h78 h80 h82 h84 h86 h88 h95 h102 h104 h106 h108 a69 a73 a75 a77 a79 a81 a83 a85 a87 a89 a96 a103 a105 a107 a109
    refine wpList_nil ?_
    refine hK71 _ _ ?_
    refine wp_seq_k fun K113 hK113 => ?_
    refine wp_region_lit ?_
    refine sv h112 (wanted_none rfl) rfl rfl rfl (v := .slice lax49 ((askLst g d.now d.c d.i d.own).length) lcx50) (rmove h112 rfl rfl) fun a115 h114 => ?_
    refine sv h114 (wanted_none rfl) rfl rfl rfl (v := .slice lax90 ((askLst g d.now d.c d.i d.own).length) lcx91) (rmove h114 rfl rfl) fun a117 h116 => ?_
    refine so (wanted_none rfl) fun K124 hK124 => xcall h116 rfl rfl rfl (xs := [.tmp 42, .tmp 43]) rfl cp_commonsref03_SameInts_lg1 rfl (vs := [.slice lax49 ((askLst g d.now d.c d.i d.own).length) lcx50, .slice lax90 ((askLst g d.now d.c d.i d.own).length) lcx91]) rfl (args := #[.slice lax49 ((askLst g d.now d.c d.i d.own).length) lcx50, .slice lax90 ((askLst g d.now d.c d.i d.own).length) lcx91]) rfl (sameI_s (R := [blkC rg 43 [.slice (some ⟨gb, 0, none⟩) 297 297, .slice (some ⟨wb, 0, none⟩) 33 33, .slice (some ⟨lb, 0, none⟩) 33 33], blkC gb 58 (Gx92.flatMap g3C), blkC wb 3 (Wx93.map iV), blkC lb 3 (Lx94.map iV), blkC tg 54 [.map (some gm), .map (some wm)], mapC KG gm nx51 (askG g wt d.now d.c d.i d.own), mapC KW wm mx52 (askW g wt d.now d.c d.i d.own), blkC g4 29 [.int .i64 d.k, .int .i64 d.now, .int .i64 d.c, .int .i64 d.i, .bool d.own], Ch.many R]) ((s100.pick [5, 0, 1, 2, 3, 4, 6, 7, 8, 9, 10] (by decide) rfl) : Sep _ [ownC 0 3 1 lax49 (askLst g d.now d.c d.i d.own).length lcx50 ((askLst g d.now d.c d.i d.own).map iV), ownC 0 3 1 lax90 (askLst g d.now d.c d.i d.own).length lcx91 ((askLst g d.now d.c d.i d.own).map iV), blkC rg 43 [.slice (some ⟨gb, 0, none⟩) 297 297, .slice (some ⟨wb, 0, none⟩) 33 33, .slice (some ⟨lb, 0, none⟩) 33 33], blkC gb 58 (Gx92.flatMap g3C), blkC wb 3 (Wx93.map iV), blkC lb 3 (Lx94.map iV), blkC tg 54 [.map (some gm), .map (some wm)], mapC KG gm nx51 (askG g wt d.now d.c d.i d.own), mapC KW wm mx52 (askW g wt d.now d.c d.i d.own), blkC g4 29 [.int .i64 d.k, .int .i64 d.now, .int .i64 d.c, .int .i64 d.i, .bool d.own], Ch.many R])) fun a119 v120 w121 r122 h118 => hK124 _ _ ?_
    clear hK124 K124
    obtain ⟨rfl, s123⟩ := r122
    refine sv h118 (wanted_none rfl) rfl rfl rfl (v := .bool true) (rassign h118 rfl rfl) fun a126 h125 => ?_
    have h127 := h125.subs (l' := [(11, _), (10, _), (9, _), (8, _), (7, _), (13, _), (6, _), (5, _), (0, _), (1, _), (2, _)]) rfl
    clear h125 h112 h114 h116 h118 a111 a115 a117 a119
    refine wpList_nil ?_
    refine hK113 _ _ ?_
    refine wp_seq_k fun K128 hK128 => ?_
    refine wp_region_lit ?_
    refine sv h127 (wanted_none rfl) rfl rfl rfl (v := .bool true) (rmove h127 rfl rfl) fun a130 h129 => ?_
    refine sv h129 (wanted_none rfl) rfl rfl rfl (v := .bool true) (rmove h129 rfl rfl) fun a132 h131 => ?_
    refine sv h131 (wT h131 (E := true) rfl rfl rfl) rfl rfl rfl (v := .int .i64 (askE g wt d.now d.c d.i d.own)) (rmove h131 rfl rfl) fun a134 h133 => ?_
    refine sv h133 (wT h133 (E := true) rfl rfl rfl) rfl rfl rfl (v := .int .i64 (askE g wt d.now d.c d.i d.own)) (rmove h133 rfl rfl) fun a136 h135 => ?_
    refine sv h135 (wT h135 (E := true) rfl rfl rfl) rfl rfl rfl (v := .bool true) (rbin h135 rfl rfl rfl (cEq _ _ _ _ (decide_eq_true rfl))) fun a138 h137 => ?_
    refine sv h137 (wanted_none rfl) rfl rfl rfl (v := .bool true) (rpick h137 rfl rfl rfl) fun a140 h139 => ?_
    have h141 := h139.subs (l' := [(50, _), (49, _), (48, _), (47, _), (46, _), (45, _), (11, _), (10, _), (9, _), (8, _), (7, _), (13, _), (5, _), (0, _), (1, _), (2, _)]) rfl
    clear h139 h127 h129 h131 h133 h135 h137 a126 a130 a132 a134 a136 a138
    refine sv h141 (wanted_none rfl) rfl rfl rfl (v := .bool true) (rassign h141 rfl rfl) fun a143 h142 => ?_
    have h144 := h142.subs (l' := [(6, _), (11, _), (10, _), (9, _), (8, _), (7, _), (13, _), (5, _), (0, _), (1, _), (2, _)]) rfl
    clear h142 h141 a140
    refine wpList_nil ?_
    refine hK128 _ _ ?_
    refine wp_ret ?_
    try simp only [Exit.then, Exit.inBlock]
    refine retR (v := .bool true) (res1 h144 rfl rfl) h144.defs ?_
    refine ⟨rfl, ?_⟩
    rw [step_askG (by omega), step_askW (by omega)]
    exact both_close (K := K + 1) (by omega) (by omega) (Sep.tail_un (xs := both7 _ _ _ _ _ _ _ _ _ _ _ _ _ _) ((s123.pick [6, 7, 8, 2, 3, 4, 5, 10] (by decide) rfl) : Sep _ [blkC tg 54 [.map (some gm), .map (some wm)], mapC KG gm nx51 (askG g wt d.now d.c d.i d.own), mapC KW wm mx52 (askW g wt d.now d.c d.i d.own), blkC rg 43 [.slice (some ⟨gb, 0, none⟩) 297 297, .slice (some ⟨wb, 0, none⟩) 33 33, .slice (some ⟨lb, 0, none⟩) 33 33], blkC gb 58 (Gx92.flatMap g3C), blkC wb 3 (Wx93.map iV), blkC lb 3 (Lx94.map iV), Ch.many R])) hR99 (hok.ask wt d.now d.c d.i d.own) (hwo.ask g d.now d.c d.i d.own)
  · skip
    have hp145 : ¬ (d.k = 0) := (of_decide_eq_false hc27)
    refine wp_condS h26 rfl hc27 ?_
    simp only [Bool.false_eq_true, if_false]
    have h146 := h26.subs (l' := [(13, _), (6, _), (5, _), (0, _), (1, _), (2, _)]) rfl
    clear h26
    refine wp_seq_k fun K147 hK147 => ?_
    refine wp_region_lit ?_
    refine sv h146 (wanted_none rfl) rfl rfl rfl (v := .bool (decide (d.k = 1))) (rbin h146 rfl rfl rfl (cEq _ _ _ _ rfl)) fun a149 h148 => ?_
    refine sv h148 (wanted_none rfl) rfl rfl rfl (v := .bool (decide (d.k = 1))) (rassign h148 rfl rfl) fun a151 h150 => ?_
    have h152 := h150.subs (l' := [(51, _), (13, _), (6, _), (5, _), (0, _), (1, _), (2, _)]) rfl
    clear h150 h146 h148 a25 a149
    refine wpList_nil ?_
    refine hK147 _ _ ?_
    rcases Bool.eq_false_or_eq_true (decide (d.k = 1)) with hc153 | hc153
    · skip
      have hp154 : d.k = 1 := (of_decide_eq_true hc153)
      refine wp_condS h152 rfl hc153 ?_
      simp only [if_true]
      have h155 := h152.subs (l' := [(13, _), (6, _), (5, _), (0, _), (1, _), (2, _)]) rfl
      clear h152
      refine wp_seq_k fun K156 hK156 => ?_
      have s158 := s8.drew
      refine wp_region_held_drew (S := fun w' => Sep w' [blkC g4 29 [.int .i64 d.k, .int .i64 d.now, .int .i64 d.c, .int .i64 d.i, .bool d.own], blkC tg 54 [.map (some gm), .map (some wm)], mapC KW wm m wt, Ch.many R]) (by kernel_rfl) (s158.pick [0, 1, 3, 8] (by decide) rfl) (fun hq157 => ?_)
      refine tv hq157 h155 0 rfl rfl rfl rfl (by kernel_rfl) (by kernel_rfl) (by kernel_rfl) (fun _ _ _ _ h => h) (wanted_none rfl) (v := .pointer (some ⟨tg, 0, none⟩)) (fun w1 _ => (rmove h155 rfl rfl) w1) fun a160 h159 => ?_
      refine tv hq157 h159 1 rfl rfl rfl rfl (by kernel_rfl) (by kernel_rfl) (by kernel_rfl) (fun _ _ _ _ h => h) (wanted_none rfl) (v := .pointer (some ⟨g4, 2, none⟩)) (fun w1 _ => (rfa h159 rfl rfl (fun w => fa_commonslaw19_Deed_lg1_2 g4 0 w)) w1) fun a162 h161 => ?_
      refine tv hq157 h161 2 rfl rfl rfl rfl (by kernel_rfl) (by kernel_rfl) (by kernel_rfl) (fun _ _ _ _ h => h) (wanted_none rfl) (v := .int .i64 d.c) (fun w1 hSw => (rld h161 rfl rfl (ldB Try.underlying3 rfl (hSw.get 0 rfl : Blk _ _ _ _) rfl))) fun a164 h163 => ?_
      refine tv hq157 h163 3 rfl rfl rfl rfl (by kernel_rfl) (by kernel_rfl) (by kernel_rfl) (fun _ _ _ _ h => h) (wanted_none rfl) (v := .pointer (some ⟨g4, 3, none⟩)) (fun w1 _ => (rfa h163 rfl rfl (fun w => fa_commonslaw19_Deed_lg1_3 g4 0 w)) w1) fun a166 h165 => ?_
      refine tv hq157 h165 4 rfl rfl rfl rfl (by kernel_rfl) (by kernel_rfl) (by kernel_rfl) (fun _ _ _ _ h => h) (wanted_none rfl) (v := .int .i64 d.i) (fun w1 hSw => (rld h165 rfl rfl (ldB Try.underlying3 rfl (hSw.get 0 rfl : Blk _ _ _ _) rfl))) fun a168 h167 => ?_
      refine tv hq157 h167 6 rfl rfl rfl rfl (by kernel_rfl) (by kernel_rfl) (by kernel_rfl) (fun _ _ _ _ h => h) (wanted_none rfl) (v := .pointer (some ⟨rg, 0, none⟩)) (fun w1 _ => (rmove h167 rfl rfl) w1) fun a170 h169 => ?_
      refine tv hq157 h169 7 rfl rfl rfl rfl (by kernel_rfl) (by kernel_rfl) (by kernel_rfl) (fun _ _ _ _ h => h) (wanted_none rfl) (v := .pointer (some ⟨g4, 2, none⟩)) (fun w1 _ => (rfa h169 rfl rfl (fun w => fa_commonslaw19_Deed_lg1_2 g4 0 w)) w1) fun a172 h171 => ?_
      refine tv hq157 h171 8 rfl rfl rfl rfl (by kernel_rfl) (by kernel_rfl) (by kernel_rfl) (fun _ _ _ _ h => h) (wanted_none rfl) (v := .int .i64 d.c) (fun w1 hSw => (rld h171 rfl rfl (ldB Try.underlying3 rfl (hSw.get 0 rfl : Blk _ _ _ _) rfl))) fun a174 h173 => ?_
      refine tv hq157 h173 9 rfl rfl rfl rfl (by kernel_rfl) (by kernel_rfl) (by kernel_rfl) (fun _ _ _ _ h => h) (wanted_none rfl) (v := .pointer (some ⟨g4, 3, none⟩)) (fun w1 _ => (rfa h173 rfl rfl (fun w => fa_commonslaw19_Deed_lg1_3 g4 0 w)) w1) fun a176 h175 => ?_
      refine tv hq157 h175 10 rfl rfl rfl rfl (by kernel_rfl) (by kernel_rfl) (by kernel_rfl) (fun _ _ _ _ h => h) (wanted_none rfl) (v := .int .i64 d.i) (fun w1 hSw => (rld h175 rfl rfl (ldB Try.underlying3 rfl (hSw.get 0 rfl : Blk _ _ _ _) rfl))) fun a178 h177 => ?_
      refine to_ 5 rfl (wanted_none rfl) (by kernel_rfl) fun K186 hK186 => xcall h177 rfl rfl rfl (xs := [.tmp 53, .tmp 55, .tmp 57]) rfl cp_lease_Table_Give_lg1 rfl (vs := [.pointer (some ⟨tg, 0, none⟩), .int .i64 d.c, .int .i64 d.i]) rfl (args := #[.pointer (some ⟨tg, 0, none⟩), .int .i64 d.c, .int .i64 d.i]) rfl (giveT_s (tg := tg) (gm := gm) (wm := wm) (R := [blkC g4 29 [.int .i64 d.k, .int .i64 d.now, .int .i64 d.c, .int .i64 d.i, .bool d.own], blkC rg 43 [.slice (some ⟨gb, 0, none⟩) 297 297, .slice (some ⟨wb, 0, none⟩) 33 33, .slice (some ⟨lb, 0, none⟩) 33 33], blkC gb 58 (G.flatMap g3C), blkC wb 3 (W.map iV), blkC lb 3 (L.map iV), Ch.many R]) ((s158.pick [1, 2, 3, 0, 4, 5, 6, 7, 8] (by decide) rfl) : Sep _ [blkC tg 54 [.map (some gm), .map (some wm)], mapC KG gm n g, mapC KW wm m wt, blkC g4 29 [.int .i64 d.k, .int .i64 d.now, .int .i64 d.c, .int .i64 d.i, .bool d.own], blkC rg 43 [.slice (some ⟨gb, 0, none⟩) 297 297, .slice (some ⟨wb, 0, none⟩) 33 33, .slice (some ⟨lb, 0, none⟩) 33 33], blkC gb 58 (G.flatMap g3C), blkC wb 3 (W.map iV), blkC lb 3 (L.map iV), Ch.many R]) (c := d.c) (i := d.i) ⟨hd.2.2.1, hd.2.2.2⟩) fun a181 v182 w183 r184 h180 => ?_
      obtain ⟨rfl, s185⟩ := r184
      refine hK186 _ _ (s185.pick [3, 0, 2, 8] (by decide) rfl) fun hq179 => ?_
      clear hK186 K186
      refine to_ 11 rfl (wanted_none rfl) (by kernel_rfl) fun K197 hK197 => xcall h180 rfl rfl rfl (xs := [.tmp 59, .tmp 61, .tmp 63]) rfl cp_commonsref19_Table_Give_lg1 rfl (vs := [.pointer (some ⟨rg, 0, none⟩), .int .i64 d.c, .int .i64 d.i]) rfl (args := #[.pointer (some ⟨rg, 0, none⟩), .int .i64 d.c, .int .i64 d.i]) rfl (giveR_s (R := [blkC tg 54 [.map (some gm), .map (some wm)], mapC KG gm n (updG g (d.c, d.i) none), mapC KW wm m wt, blkC g4 29 [.int .i64 d.k, .int .i64 d.now, .int .i64 d.c, .int .i64 d.i, .bool d.own], Ch.many R]) ((s185.pick [4, 5, 6, 7, 0, 1, 2, 3, 8] (by decide) rfl) : Sep _ [blkC rg 43 [.slice (some ⟨gb, 0, none⟩) 297 297, .slice (some ⟨wb, 0, none⟩) 33 33, .slice (some ⟨lb, 0, none⟩) 33 33], blkC gb 58 (G.flatMap g3C), blkC wb 3 (W.map iV), blkC lb 3 (L.map iV), blkC tg 54 [.map (some gm), .map (some wm)], mapC KG gm n (updG g (d.c, d.i) none), mapC KW wm m wt, blkC g4 29 [.int .i64 d.k, .int .i64 d.now, .int .i64 d.c, .int .i64 d.i, .bool d.own], Ch.many R]) hR hok hcw hiw) fun a192 v193 w194 r195 h191 => ?_
      obtain ⟨Gx188, Wx189, Lx190, rfl, s196, hR195⟩ := r195
      refine hK197 _ _ (s196.pick [7, 4, 6, 8] (by decide) rfl) fun hq187 => ?_
      clear hK197 K197
      refine tv hq187 h191 12 rfl rfl rfl rfl (by kernel_rfl) (by kernel_rfl) (by kernel_rfl) (fun _ _ _ _ h => h) (wanted_none rfl) (v := .bool true) (fun w1 _ => (rbin h191 rfl rfl rfl (cEq _ _ _ _ (decide_eq_true rfl))) w1) fun a199 h198 => ?_
      have h200 := h198.subs (l' := [(65, _), (64, _), (58, _), (63, _), (62, _), (61, _), (60, _), (59, _), (57, _), (56, _), (55, _), (54, _), (53, _), (13, _), (5, _), (0, _), (1, _), (2, _)]) rfl
      clear h198 h155 h159 h161 h163 h165 h167 h169 h171 h173 h175 h177 h180 h191 a151 a160 a162 a164 a166 a168 a170 a172 a174 a176 a178 a181 a192
      refine tv hq187 h200 13 rfl rfl rfl rfl (by kernel_rfl) (by kernel_rfl) (by kernel_rfl) (fun _ _ _ _ h => h) (wanted_none rfl) (v := .bool true) (fun w1 _ => (rassign h200 rfl rfl) w1) fun a202 h201 => ?_
      have h203 := h201.subs (l' := [(6, _), (13, _), (5, _), (0, _), (1, _), (2, _)]) rfl
      clear h201 h200 a199
      refine wpAnyH_done (by kernel_rfl) ?_ _
      refine hK156 _ _ ?_
      refine wp_ret ?_
      try simp only [Exit.then, Exit.inBlock]
      refine retR (v := .bool true) (res1 h203 rfl rfl) h203.defs ?_
      refine ⟨rfl, ?_⟩
      rw [step_giveG (by omega), step_giveW (by omega)]
      exact both_close (K := K + 1) (by omega) (by omega) (Sep.tail_un (xs := both7 _ _ _ _ _ _ _ _ _ _ _ _ _ _) ((s196.pick [4, 5, 6, 0, 1, 2, 3, 8] (by decide) rfl) : Sep _ [blkC tg 54 [.map (some gm), .map (some wm)], mapC KG gm n (updG g (d.c, d.i) none), mapC KW wm m wt, blkC rg 43 [.slice (some ⟨gb, 0, none⟩) 297 297, .slice (some ⟨wb, 0, none⟩) 33 33, .slice (some ⟨lb, 0, none⟩) 33 33], blkC gb 58 (Gx188.flatMap g3C), blkC wb 3 (Wx189.map iV), blkC lb 3 (Lx190.map iV), Ch.many R])) hR195 (hok.give _) hwo
    · skip
      have hp204 : ¬ (d.k = 1) := (of_decide_eq_false hc153)
      refine wp_condS h152 rfl hc153 ?_
      simp only [Bool.false_eq_true, if_false]
      have h205 := h152.subs (l' := [(13, _), (6, _), (5, _), (0, _), (1, _), (2, _)]) rfl
      clear h152
      refine wp_seq_k fun K206 hK206 => ?_
      refine wp_region_lit ?_
      refine sv h205 (wanted_none rfl) rfl rfl rfl (v := .bool (decide (d.k = 2))) (rbin h205 rfl rfl rfl (cEq _ _ _ _ rfl)) fun a208 h207 => ?_
      refine sv h207 (wanted_none rfl) rfl rfl rfl (v := .bool (decide (d.k = 2))) (rassign h207 rfl rfl) fun a210 h209 => ?_
      have h211 := h209.subs (l' := [(66, _), (13, _), (6, _), (5, _), (0, _), (1, _), (2, _)]) rfl
      clear h209 h205 h207 a151 a208
      refine wpList_nil ?_
      refine hK206 _ _ ?_
      rcases Bool.eq_false_or_eq_true (decide (d.k = 2)) with hc212 | hc212
      · skip
        have hp213 : d.k = 2 := (of_decide_eq_true hc212)
        refine wp_condS h211 rfl hc212 ?_
        simp only [if_true]
        have h214 := h211.subs (l' := [(13, _), (6, _), (5, _), (0, _), (1, _), (2, _)]) rfl
        clear h211
        refine wp_seq_k fun K215 hK215 => ?_
        refine wp_region_lit ?_
        refine sv h214 (wanted_none rfl) rfl rfl rfl (v := .pointer (some ⟨tg, 0, none⟩)) (rmove h214 rfl rfl) fun a217 h216 => ?_
        refine sv h216 (wanted_none rfl) rfl rfl rfl (v := .pointer (some ⟨g4, 2, none⟩)) (rfa h216 rfl rfl (fun w => fa_commonslaw19_Deed_lg1_2 g4 0 w)) fun a219 h218 => ?_
        refine sw h218 (wanted_none rfl) rfl rfl rfl (v := .int .i64 d.c) (rld h218 rfl rfl (ldB Try.underlying3 rfl (s8.get 0 rfl : Blk _ _ _ _) rfl)) fun a221 h220 => ?_
        refine so (wanted_none rfl) fun K228 hK228 => xcall h220 rfl rfl rfl (xs := [.tmp 68, .tmp 70]) rfl cp_lease_Table_Drop_lg1 rfl (vs := [.pointer (some ⟨tg, 0, none⟩), .int .i64 d.c]) rfl (args := #[.pointer (some ⟨tg, 0, none⟩), .int .i64 d.c]) rfl (dropT_s (tg := tg) (gm := gm) (wm := wm) (R := [blkC g4 29 [.int .i64 d.k, .int .i64 d.now, .int .i64 d.c, .int .i64 d.i, .bool d.own], blkC rg 43 [.slice (some ⟨gb, 0, none⟩) 297 297, .slice (some ⟨wb, 0, none⟩) 33 33, .slice (some ⟨lb, 0, none⟩) 33 33], blkC gb 58 (G.flatMap g3C), blkC wb 3 (W.map iV), blkC lb 3 (L.map iV), Ch.many R]) ((s8.pick [1, 2, 3, 0, 4, 5, 6, 7, 8] (by decide) rfl) : Sep _ [blkC tg 54 [.map (some gm), .map (some wm)], mapC KG gm n g, mapC KW wm m wt, blkC g4 29 [.int .i64 d.k, .int .i64 d.now, .int .i64 d.c, .int .i64 d.i, .bool d.own], blkC rg 43 [.slice (some ⟨gb, 0, none⟩) 297 297, .slice (some ⟨wb, 0, none⟩) 33 33, .slice (some ⟨lb, 0, none⟩) 33 33], blkC gb 58 (G.flatMap g3C), blkC wb 3 (W.map iV), blkC lb 3 (L.map iV), Ch.many R]) d.c) fun a223 v224 w225 r226 h222 => hK228 _ _ ?_
        clear hK228 K228
        obtain ⟨rfl, s227⟩ := r226
        have h229 := h222.subs (l' := [(13, _), (6, _), (5, _), (0, _), (1, _), (2, _)]) rfl
        clear h222 h214 h216 h218 h220 a210 a217 a219 a221
        refine wpList_nil ?_
        refine hK215 _ _ ?_
        refine wp_region_lit ?_
        refine sv h229 (wanted_none rfl) rfl rfl rfl (v := .pointer (some ⟨rg, 0, none⟩)) (rmove h229 rfl rfl) fun a231 h230 => ?_
        refine sv h230 (wanted_none rfl) rfl rfl rfl (v := .pointer (some ⟨g4, 2, none⟩)) (rfa h230 rfl rfl (fun w => fa_commonslaw19_Deed_lg1_2 g4 0 w)) fun a233 h232 => ?_
        refine sw h232 (wanted_none rfl) rfl rfl rfl (v := .int .i64 d.c) (rld h232 rfl rfl (ldB Try.underlying3 rfl (s227.get 3 rfl : Blk _ _ _ _) rfl)) fun a235 h234 => ?_
        refine so (wanted_none rfl) fun K245 hK245 => xcall h234 rfl rfl rfl (xs := [.tmp 72, .tmp 74]) rfl cp_commonsref19_Table_Drop_lg1 rfl (vs := [.pointer (some ⟨rg, 0, none⟩), .int .i64 d.c]) rfl (args := #[.pointer (some ⟨rg, 0, none⟩), .int .i64 d.c]) rfl (dropR_s (R := [blkC tg 54 [.map (some gm), .map (some wm)], mapC KG gm n (dropG d.c g), mapC KW wm m (dropW d.c wt), blkC g4 29 [.int .i64 d.k, .int .i64 d.now, .int .i64 d.c, .int .i64 d.i, .bool d.own], Ch.many R]) ((s227.pick [4, 5, 6, 7, 0, 1, 2, 3, 8] (by decide) rfl) : Sep _ [blkC rg 43 [.slice (some ⟨gb, 0, none⟩) 297 297, .slice (some ⟨wb, 0, none⟩) 33 33, .slice (some ⟨lb, 0, none⟩) 33 33], blkC gb 58 (G.flatMap g3C), blkC wb 3 (W.map iV), blkC lb 3 (L.map iV), blkC tg 54 [.map (some gm), .map (some wm)], mapC KG gm n (dropG d.c g), mapC KW wm m (dropW d.c wt), blkC g4 29 [.int .i64 d.k, .int .i64 d.now, .int .i64 d.c, .int .i64 d.i, .bool d.own], Ch.many R]) hR hok hwo hcw) fun a240 v241 w242 r243 h239 => hK245 _ _ ?_
        clear hK245 K245
        obtain ⟨Gx236, Wx237, Lx238, rfl, s244, hR243⟩ := r243
        have h246 := h239.subs (l' := [(13, _), (6, _), (5, _), (0, _), (1, _), (2, _)]) rfl
        clear h239 h229 h230 h232 h234 a223 a231 a233 a235
        refine wpList_nil ?_
        refine hK14 _ _ ?_
        refine wp_seq_k fun K247 hK247 => ?_
        refine wp_region_lit ?_
        have h248 := h246.subs (l' := [(13, _), (5, _), (0, _), (1, _), (2, _)]) rfl
        clear h246
        refine sv h248 (wanted_none rfl) rfl rfl rfl (v := .bool true) (rassign h248 rfl rfl) fun a250 h249 => ?_
        refine wpList_nil ?_
        refine hK247 _ _ ?_
        refine wp_ret ?_
        try simp only [Exit.then, Exit.inBlock]
        refine retR (v := .bool true) (res1 h249 rfl rfl) h249.defs ?_
        refine ⟨rfl, ?_⟩
        rw [step_dropG (by omega), step_dropW (by omega)]
        exact both_close (K := K + 1) (by omega) (by omega) (Sep.tail_un (xs := both7 _ _ _ _ _ _ _ _ _ _ _ _ _ _) ((s244.pick [4, 5, 6, 0, 1, 2, 3, 8] (by decide) rfl) : Sep _ [blkC tg 54 [.map (some gm), .map (some wm)], mapC KG gm n (dropG d.c g), mapC KW wm m (dropW d.c wt), blkC rg 43 [.slice (some ⟨gb, 0, none⟩) 297 297, .slice (some ⟨wb, 0, none⟩) 33 33, .slice (some ⟨lb, 0, none⟩) 33 33], blkC gb 58 (Gx236.flatMap g3C), blkC wb 3 (Wx237.map iV), blkC lb 3 (Lx238.map iV), Ch.many R])) hR243 (hok.drop _) (hwo.drop _)
      · skip
        have hp251 : ¬ (d.k = 2) := (of_decide_eq_false hc212)
        refine wp_condS h211 rfl hc212 ?_
        simp only [Bool.false_eq_true, if_false]
        have h252 := h211.subs (l' := [(13, _), (6, _), (5, _), (0, _), (1, _), (2, _)]) rfl
        clear h211
        refine wp_skip ?_
        refine hK14 _ _ ?_
        refine wp_seq_k fun K253 hK253 => ?_
        refine wp_region_lit ?_
        have h254 := h252.subs (l' := [(13, _), (5, _), (0, _), (1, _), (2, _)]) rfl
        clear h252
        refine sv h254 (wanted_none rfl) rfl rfl rfl (v := .bool true) (rassign h254 rfl rfl) fun a256 h255 => ?_
        refine wpList_nil ?_
        refine hK253 _ _ ?_
        refine wp_ret ?_
        try simp only [Exit.then, Exit.inBlock]
        refine retR (v := .bool true) (res1 h255 rfl rfl) h255.defs ?_
        refine ⟨rfl, ?_⟩
        rw [step_elseG (by omega), step_elseW (by omega)]
        exact both_close (K := K + 1) (by omega) (by omega) (Sep.tail_un (xs := both7 _ _ _ _ _ _ _ _ _ _ _ _ _ _) ((s8.pick [1, 2, 3, 4, 5, 6, 7, 8] (by decide) rfl) : Sep _ [blkC tg 54 [.map (some gm), .map (some wm)], mapC KG gm n g, mapC KW wm m wt, blkC rg 43 [.slice (some ⟨gb, 0, none⟩) 297 297, .slice (some ⟨wb, 0, none⟩) 33 33, .slice (some ⟨lb, 0, none⟩) 33 33], blkC gb 58 (G.flatMap g3C), blkC wb 3 (W.map iV), blkC lb 3 (L.map iV), Ch.many R])) hR hok hwo

end Go.Proofs.Ytpalgffmdinfpaa
end
section
namespace Go.Proofs.Ytpalgffmdinfpaa
open Go.RowKit
set_option linter.unusedSimpArgs false
set_option linter.unusedVariables false
set_option maxRecDepth 100000

theorem allK_256 (g : GrF) : (allK g).length ≤ 256 := Nat.le_trans (List.length_filter_le ..) (by decide +kernel)
/-- how many grants are told ahead of a place -/
def posL (g : GrF) (i c : Int) : Nat := ((allK g).filter (fun p => decide (p.2 < i ∨ (p.2 = i ∧ p.1 < c)))).length
theorem GrOk.at_ {g : GrF} (h : GrOk g) {c i : Int} (hs : (g (c, i)).isSome = true) : 1 ≤ c ∧ c ≤ 8 ∧ 1 ≤ i ∧ i ≤ 32 := by
  obtain ⟨a, ha⟩ := Option.isSome_iff_exists.1 hs
  exact h _ _ ha
theorem findT_yes {w : World} {tg gm wm n m : Nat} {g : GrF} {wt : WtF} {R : List Ch} (hS : Sep w (tab3 tg gm wm n m g wt ++ R)) {c i : Int} (hk : wfK (c, i)) (hs : (g (c, i)).isSome = true) :
    CallsR Try.prog 19 #[.pointer (some ⟨tg, 0, none⟩), .int .i64 c, .int .i64 i] w fun v w' => v = .tuple #[.agg #[.int .i64 c, .int .i64 i, .bool ((g (c, i)).getD (false, 0)).1, .int .i64 ((g (c, i)).getD (false, 0)).2], .bool true] ∧ Sep w' (tab3 tg gm wm n m g wt ++ R) :=
  (findT_s hS hk).mono fun v w' ⟨e1, h⟩ => ⟨by rw [e1, findV, if_pos hs], h⟩
theorem findT_no {w : World} {tg gm wm n m : Nat} {g : GrF} {wt : WtF} {R : List Ch} (hS : Sep w (tab3 tg gm wm n m g wt ++ R)) {c i : Int} (hk : wfK (c, i)) (hs : (g (c, i)).isSome = false) :
    CallsR Try.prog 19 #[.pointer (some ⟨tg, 0, none⟩), .int .i64 c, .int .i64 i] w fun v w' => v = .tuple #[.agg #[.int .i64 0, .int .i64 0, .bool false, .int .i64 0], .bool false] ∧ Sep w' (tab3 tg gm wm n m g wt ++ R) :=
  (findT_s hS hk).mono fun v w' ⟨e1, h⟩ => ⟨by rw [e1, findV, if_neg (by rw [hs]; exact Bool.false_ne_true)], h⟩
theorem hasR_t {w : World} {rg gb wb lb : Nat} {g : GrF} {wt : WtF} {G : List Gr3} {W L : List Int} {R : List Ch} {c i : Int} {b : Bool} (hS : Sep w ([blkC rg 43 [.slice (some ⟨gb, 0, none⟩) 297 297, .slice (some ⟨wb, 0, none⟩) 33 33, .slice (some ⟨lb, 0, none⟩) 33 33], blkC gb 58 (G.flatMap g3C), blkC wb 3 (W.map iV), blkC lb 3 (L.map iV)] ++ R)) (hR : RelL g wt G W L) (hok : GrOk g) (hcw : -9223372036854775808 ≤ c ∧ c ≤ 9223372036854775807) (hiw : -9223372036854775808 ≤ i ∧ i ≤ 9223372036854775807) (hs : (g (c, i)).isSome = b) :
    CallsR Try.prog 24 #[.pointer (some ⟨rg, 0, none⟩), .int .i64 c, .int .i64 i] w fun v w' => v = .bool b ∧ Sep w' ([blkC rg 43 [.slice (some ⟨gb, 0, none⟩) 297 297, .slice (some ⟨wb, 0, none⟩) 33 33, .slice (some ⟨lb, 0, none⟩) 33 33], blkC gb 58 (G.flatMap g3C), blkC wb 3 (W.map iV), blkC lb 3 (L.map iV)] ++ R) :=
  (hasR_s hS hR hcw hiw).mono fun v w' ⟨e1, h⟩ => ⟨by
    rw [e1]; congr 1
    cases hb : (g (c, i)).isSome
    · rw [← hs, hb]; simp
    · rw [← hs, hb, inR_iff.2 (hok.at_ hb)]; rfl, h⟩
theorem ref_at {g : GrF} {wt : WtF} {G : List Gr3} {W L : List Int} (h : RelL g wt G W L) (hok : GrOk g) {c i : Int} {j : Nat} (hs : (g (c, i)).isSome = true) (h0 : (j : Int) = 9 * i + c) (h1 : True) : G.getD j (false, false, 0) = (true, ((g (c, i)).getD (false, 0)).1, ((g (c, i)).getD (false, 0)).2) := by
  have b := hok.at_ hs
  have e := h.g c i b.1 b.2.1 b.2.2.1 b.2.2.2
  rw [← h0, Int.toNat_natCast] at e
  rw [e]
  obtain ⟨a, ha⟩ := Option.isSome_iff_exists.1 hs
  rw [ha]; rfl
abbrev leK (p q : Int × Int) : Prop := p.2 < q.2 ∨ (p.2 = q.2 ∧ p.1 < q.1)
theorem pos_at : ∀ {K : List (Int × Int)} (_ : K.Pairwise leK) {p : Int × Int} (_ : p ∈ K), K[(K.filter (fun q => decide (leK q p))).length]? = some p
  | k :: K, h, p, hp => by
    have h' := List.pairwise_cons.1 h
    rcases List.mem_cons.1 hp with rfl | hp
    · have e : (p :: K).filter (fun q => decide (leK q p)) = [] := by
        rw [List.filter_eq_nil_iff]
        intro q hq
        rw [decide_eq_true_eq]
        rcases List.mem_cons.1 hq with rfl | hq
        · unfold leK; omega
        · have := h'.1 q hq; unfold leK at *; omega
      rw [e]; rfl
    · have hk : leK k p := h'.1 p hp
      rw [List.filter_cons, if_pos (decide_eq_true hk), List.length_cons, List.getElem?_cons_succ]
      exact pos_at h'.2 hp
theorem pos_succ : ∀ {K : List (Int × Int)} (_ : K.Pairwise leK) {p : Int × Int} (_ : p ∈ K), (K.filter (fun q => decide (leK q p ∨ q = p))).length = (K.filter (fun q => decide (leK q p))).length + 1
  | k :: K, h, p, hp => by
    have h' := List.pairwise_cons.1 h
    rcases List.mem_cons.1 hp with rfl | hp
    · have e : ∀ q ∈ K, ¬ leK q p ∧ ¬ q = p := fun q hq => by
        have := h'.1 q hq
        refine ⟨by unfold leK at *; omega, fun z => by subst z; unfold leK at this; omega⟩
      have e1 : K.filter (fun q => decide (leK q p ∨ q = p)) = [] := by
        rw [List.filter_eq_nil_iff]; intro q hq; rw [decide_eq_true_eq]; exact fun z => z.elim (e q hq).1 (e q hq).2
      have e2 : K.filter (fun q => decide (leK q p)) = [] := by
        rw [List.filter_eq_nil_iff]; intro q hq; rw [decide_eq_true_eq]; exact (e q hq).1
      have n1 : ¬ leK p p := by unfold leK; omega
      rw [List.filter_cons, if_pos (decide_eq_true (.inr rfl)), List.filter_cons, if_neg (by rw [decide_eq_true_eq]; exact n1), e1, e2]; rfl
    · have hk : leK k p := h'.1 p hp
      rw [List.filter_cons, if_pos (decide_eq_true (.inl hk)), List.filter_cons, if_pos (decide_eq_true hk), List.length_cons, List.length_cons, pos_succ h'.2 hp]
theorem allK_leK (g : GrF) : (allK g).Pairwise leK := allK_up g
theorem posL_eq (g : GrF) (i c : Int) : posL g i c = ((allK g).filter (fun q => decide (leK q (c, i)))).length := rfl
theorem posL_at {g : GrF} (hok : GrOk g) {i c : Int} (hs : (g (c, i)).isSome = true) : (allK g).getD (posL g i c) (0, 0) = (c, i) := by
  rw [posL_eq, List.getD_eq_getElem?_getD, pos_at (allK_leK g) ((allK_mem hok).2 hs)]; rfl
theorem posL_lt {g : GrF} (hok : GrOk g) {i c : Int} (hs : (g (c, i)).isSome = true) : posL g i c < (allK g).length := by
  have := pos_at (allK_leK g) ((allK_mem hok).2 hs)
  exact (List.getElem?_eq_some_iff.1 this).1
theorem posL_yes {g : GrF} (hok : GrOk g) {i c : Int} (hs : (g (c, i)).isSome = true) : posL g i (c + 1) = posL g i c + 1 := by
  rw [posL_eq g i c, ← pos_succ (allK_leK g) ((allK_mem hok).2 hs), posL_eq]
  congr 1
  refine List.filter_congr fun q _ => decide_eq_decide.2 ?_
  unfold leK
  refine ⟨fun h => ?_, fun h => ?_⟩
  · rcases h with h | h
    · exact .inl (.inl h)
    · have h1 : q.2 = i := h.1
      have h2 : q.1 < c + 1 := h.2
      by_cases e : q.1 = c
      · exact .inr (Prod.ext e h1)
      · exact .inl (.inr ⟨h1, show q.1 < c by omega⟩)
  · rcases h with (h | h) | h
    · exact .inl h
    · exact .inr ⟨h.1, show q.1 < c + 1 by have h2 : q.1 < c := h.2; omega⟩
    · subst h; exact .inr ⟨rfl, show c < c + 1 by omega⟩
theorem posL_no {g : GrF} (hok : GrOk g) {i c : Int} (hs : (g (c, i)).isSome = false) : posL g i (c + 1) = posL g i c := by
  rw [posL_eq, posL_eq]
  congr 1
  refine List.filter_congr fun q hq => decide_eq_decide.2 ?_
  have hne : q ≠ (c, i) := fun e => by subst e; rw [(allK_mem hok).1 hq] at hs; cases hs
  unfold leK
  refine ⟨fun h => ?_, fun h => ?_⟩
  · rcases h with h | h
    · exact .inl h
    · have h1 : q.2 = i := h.1
      have h2 : q.1 < c + 1 := h.2
      refine .inr ⟨h1, show q.1 < c from ?_⟩
      by_cases e : q.1 = c
      · exact absurd (Prod.ext e h1) hne
      · omega
  · rcases h with h | h
    · exact .inl h
    · exact .inr ⟨h.1, show q.1 < c + 1 by have h2 : q.1 < c := h.2; omega⟩
theorem posL_row {g : GrF} (hok : GrOk g) (i : Int) : posL g (i + 1) 0 = posL g i 10 := by
  rw [posL_eq, posL_eq]
  congr 1
  refine List.filter_congr fun q hq => decide_eq_decide.2 ?_
  have b := hok.at_ ((allK_mem hok).1 hq)
  unfold leK; simp only; omega
theorem posL_0 {g : GrF} (hok : GrOk g) : posL g 0 0 = 0 := by
  rw [posL_eq, List.length_eq_zero_iff, List.filter_eq_nil_iff]
  intro q hq
  have b := hok.at_ ((allK_mem hok).1 hq)
  rw [decide_eq_true_eq]; unfold leK; simp only; omega
theorem posL_end {g : GrF} (hok : GrOk g) : posL g 34 0 = (allK g).length := by
  rw [posL_eq]
  congr 1
  refine List.filter_eq_self.2 fun q hq => ?_
  have b := hok.at_ ((allK_mem hok).1 hq)
  rw [decide_eq_true_eq]; unfold leK; simp only; omega

theorem cp_lease_Table_All_lg2 (args : Array Value) (w : World) : (callFunc 13 args).run Try.prog w = .ok (.enter 13 args) w := by
  have h := Try.func13
  go_simp
theorem cp_lease_Table_Find_lg2 (args : Array Value) (w : World) : (callFunc 19 args).run Try.prog w = .ok (.enter 19 args) w := by
  have h := Try.func19
  go_simp
theorem cp_commonsref19_Table_Has_lg2 (args : Array Value) (w : World) : (callFunc 24 args).run Try.prog w = .ok (.enter 24 args) w := by
  have h := Try.func24
  go_simp
theorem fa_commonsref19_Table_lg2_0 (g off : Nat) (w : World) : (Instr.fieldAt 43 (.pointer (some ⟨g, off, none⟩)) 0).run Try.prog w = .ok (.pointer (some ⟨g, off + 0, none⟩)) w := rfl
theorem fa_commonsref19_Grant_lg2_1 (g off : Nat) (w : World) : (Instr.fieldAt 58 (.pointer (some ⟨g, off, none⟩)) 1).run Try.prog w = .ok (.pointer (some ⟨g, off + 1, none⟩)) w := rfl
theorem fa_commonsref19_Grant_lg2_2 (g off : Nat) (w : World) : (Instr.fieldAt 58 (.pointer (some ⟨g, off, none⟩)) 2).run Try.prog w = .ok (.pointer (some ⟨g, off + 2, none⟩)) w := rfl
set_option maxHeartbeats 4000000 in
theorem eqS_lease_Held_lg2_in (x0 : Int) (x1 : Int) (x2 : Bool) (x3 : Int) (y0 : Int) (y1 : Int) (y2 : Bool) (y3 : Int) (w : World) : (Op.equalIn 10000 36 (.agg #[.int .i64 x0, .int .i64 x1, .bool x2, .int .i64 x3]) (.agg #[.int .i64 y0, .int .i64 y1, .bool y2, .int .i64 y3])).run Try.prog w = .ok (decide (x0 = y0) && (decide (x1 = y1) && ((x2 == y2) && decide (x3 = y3)))) w := by
  have u3 := Try.underlying3
  have a3 := Try.isAgg3
  have z3 := Try.sizeOf3
  have u4 := Try.underlying4
  have a4 := Try.isAgg4
  have z4 := Try.sizeOf4
  have hS : Try.prog.underlying 36 = some (.struct (Try.prog.fieldsOf 36)) := by kernel_rfl
  have hp : Try.prog.stoodInHeld 36 = false := by kernel_rfl
  rw [show (10000 : Nat) = 9999 + 1 from rfl, run_equalIn_agg w 9999 36 _ _ hS hp]
  simp only [Program.fieldsOf, Try.underlying36]
  go_simp
  by_cases h0 : x0 = y0
  case neg => simp [h0]
  by_cases h1 : x1 = y1
  case neg => simp [h0, h1]
  by_cases h2 : x2 = y2
  case neg => simp [h0, h1, h2]
  by_cases h3 : x3 = y3
  case neg => simp [h0, h1, h2, h3]
  simp [h0, h1, h2, h3]
theorem eqS_lease_Held_lg2_neq (o p : Operand) (x0 : Int) (x1 : Int) (x2 : Bool) (x3 : Int) (y0 : Int) (y1 : Int) (y2 : Bool) (y3 : Int) (w : World) : (do eqGuard .neq 36 o p (.agg #[.int .i64 x0, .int .i64 x1, .bool x2, .int .i64 x3]) (.agg #[.int .i64 y0, .int .i64 y1, .bool y2, .int .i64 y3]); binOp .neq 36 (.agg #[.int .i64 x0, .int .i64 x1, .bool x2, .int .i64 x3]) (.agg #[.int .i64 y0, .int .i64 y1, .bool y2, .int .i64 y3]) : Sem Value).run Try.prog w = .ok (.bool (!(decide (x0 = y0) && (decide (x1 = y1) && ((x2 == y2) && decide (x3 = y3)))))) w := by
  have e : (Op.equal 36 (.agg #[.int .i64 x0, .int .i64 x1, .bool x2, .int .i64 x3]) (.agg #[.int .i64 y0, .int .i64 y1, .bool y2, .int .i64 y3])).run Try.prog w = .ok (decide (x0 = y0) && (decide (x1 = y1) && ((x2 == y2) && decide (x3 = y3)))) w := eqS_lease_Held_lg2_in x0 x1 x2 x3 y0 y1 y2 y3 w
  rw [Sem.run_bind, run_eqGuard_agg (P := Try.prog) w .neq 36 o p _ _ (by kernel_rfl)]
  show (binOp .neq 36 _ _).run Try.prog w = _
  simp only [binOp, Sem.run_bind, e]
  rfl

set_option maxHeartbeats 4000000 in
theorem like_s {w : World} {tg gm wm rg gb wb lb K : Nat} {g : GrF} {wt : WtF} {R : List Ch} (hSb : Sep w (bothC tg gm wm rg gb wb lb K g wt :: R)) (hK : K < 1000) :
    CallsR Try.prog 11 #[.pointer (some ⟨tg, 0, none⟩), .pointer (some ⟨rg, 0, none⟩)] w (fun v w' => v = .bool true ∧ Sep w' (bothC tg gm wm rg gb wb lb K g wt :: R)) := by
  obtain ⟨n, m, G, W, L, hnK, hmK, hS0, hR, hok, hwo⟩ := both_open hSb; clear hSb
  have hS : Sep w [blkC tg 54 [.map (some gm), .map (some wm)], mapC KG gm n g, mapC KW wm m wt, blkC rg 43 [.slice (some ⟨gb, 0, none⟩) 297 297, .slice (some ⟨wb, 0, none⟩) 33 33, .slice (some ⟨lb, 0, none⟩) 33 33], blkC gb 58 (G.flatMap g3C), blkC wb 3 (W.map iV), blkC lb 3 (L.map iV), Ch.many R] := Sep.tail_many (xs := [_, _, _, _, _, _, _]) hS0; clear hS0; obtain ⟨hG, hW, hL⟩ := hR.n
  have hAK := allK_256 g
  refine enterR Try.func11 rfl (N := 83) Try.ntmps11 (by show 2 ≤ 83; decide) [(0, .pointer (some ⟨tg, 0, none⟩)), (1, .pointer (some ⟨rg, 0, none⟩))] rfl fun a2 h1 => ?_
  refine wp_seq_k fun K3 hK3 => ?_
  refine wp_region_lit ?_
  refine sv h1 (wanted_none rfl) rfl rfl rfl (v := .bool false) (rassign h1 rfl rfl) fun a5 h4 => ?_
  refine wpList_nil ?_
  refine hK3 _ _ ?_
  refine wp_seq_k fun K6 hK6 => ?_
  refine wp_region_lit ?_
  refine sv h4 (wanted_none rfl) rfl rfl rfl (v := .pointer (some ⟨tg, 0, none⟩)) (rmove h4 rfl rfl) fun a8 h7 => ?_
  refine so (wanted_none rfl) fun K17 hK17 => xcall h7 rfl rfl rfl (xs := [.tmp 14]) rfl cp_lease_Table_All_lg2 rfl (vs := [.pointer (some ⟨tg, 0, none⟩)]) rfl (args := #[.pointer (some ⟨tg, 0, none⟩)]) rfl (allT_s (tg := tg) (gm := gm) (wm := wm) (R := [blkC rg 43 [.slice (some ⟨gb, 0, none⟩) 297 297, .slice (some ⟨wb, 0, none⟩) 33 33, .slice (some ⟨lb, 0, none⟩) 33 33], blkC gb 58 (G.flatMap g3C), blkC wb 3 (W.map iV), blkC lb 3 (L.map iV), Ch.many R]) (hS : Sep _ [blkC tg 54 [.map (some gm), .map (some wm)], mapC KG gm n g, mapC KW wm m wt, blkC rg 43 [.slice (some ⟨gb, 0, none⟩) 297 297, .slice (some ⟨wb, 0, none⟩) 33 33, .slice (some ⟨lb, 0, none⟩) 33 33], blkC gb 58 (G.flatMap g3C), blkC wb 3 (W.map iV), blkC lb 3 (L.map iV), Ch.many R]) hok) fun a12 v13 w14 r15 h11 => hK17 _ _ ?_
  clear hK17 K17
  obtain ⟨lax9, lcx10, rfl, s16⟩ := r15
  refine sv h11 (wanted_none rfl) rfl rfl rfl (v := .slice lax9 ((allK g).length) lcx10) (rassign h11 rfl rfl) fun a19 h18 => ?_
  have h20 := h18.subs (l' := [(5, _), (4, _), (0, _), (1, _)]) rfl
  clear h18 h1 h4 h7 h11 a2 a5 a8 a12
  refine wpList_nil ?_
  refine hK6 _ _ ?_
  refine wp_seq_k fun K21 hK21 => ?_
  refine wp_region_lit ?_
  refine sv h20 (wanted_none rfl) rfl rfl rfl (v := .int .i64 0) (rassign h20 rfl rfl) fun a23 h22 => ?_
  refine wpList_nil ?_
  refine hK21 _ _ ?_
  refine wp_seq_k fun K24 hK24 => ?_
  refine wp_seq_k fun K25 hK25 => ?_
  refine wp_region_lit ?_
  refine sv h22 (wanted_none rfl) rfl rfl rfl (v := .int .i64 0) (rassign h22 rfl rfl) fun a27 h26 => ?_
  refine wpList_nil ?_
  refine hK25 _ _ ?_
  refine wp_block ?_
  refine wp_loop2 (fun (i : Nat) (p : Nat) a' w' => Kn 83 [(7, .int .i64 (i : Int)), (6, .int .i64 (p : Int)), (5, .slice lax9 ((allK g).length) lcx10), (4, .bool false), (0, .pointer (some ⟨tg, 0, none⟩)), (1, .pointer (some ⟨rg, 0, none⟩))] a' ∧ Sep w' [ownC 0 36 4 lax9 (allK g).length lcx10 ((allK g).flatMap (encH g)), blkC tg 54 [.map (some gm), .map (some wm)], mapC KG gm n g, mapC KW wm m wt, blkC rg 43 [.slice (some ⟨gb, 0, none⟩) 297 297, .slice (some ⟨wb, 0, none⟩) 33 33, .slice (some ⟨lb, 0, none⟩) 33 33], blkC gb 58 (G.flatMap g3C), blkC wb 3 (W.map iV), blkC lb 3 (L.map iV), Ch.many R] ∧ (i ≤ 34) ∧ (p = posL g (i : Int) 0)) (fun (i : Nat) (p : Nat) => 34 - i) 0 0 ⟨h26.subs rfl, s16, by omega, (posL_0 hok).symm⟩ ?_
  clear h26 s16
  rintro i35 p36 a28 w29 ⟨h30, s31, hi33, hpos034⟩ K32 hK32
  refine wp_seq_k fun K37 hK37 => ?_
  refine wp_seq_k fun K38 hK38 => ?_
  refine wp_region_lit ?_
  refine sv h30 (wanted_none rfl) rfl rfl rfl (v := .int .i64 (i35 : Int)) (rmove h30 rfl rfl) fun a40 h39 => ?_
  refine sv h39 (wanted_none rfl) rfl rfl rfl (v := .bool (decide ((i35 : Int) ≤ 33))) (rbin h39 rfl rfl rfl (cLe _ _ _ _ rfl)) fun a42 h41 => ?_
  have h43 := h41.subs (l' := [(17, _), (7, _), (6, _), (5, _), (4, _), (0, _), (1, _)]) rfl
  clear h41 h30 h39 a28 a40
  refine wpList_nil ?_
  refine hK38 _ _ ?_
  rcases Bool.eq_false_or_eq_true (decide ((i35 : Int) ≤ 33)) with hc44 | hc44
  · skip
    have hp45 : (i35 : Int) ≤ 33 := (of_decide_eq_true hc44)
    refine wp_condS h43 rfl hc44 ?_
    simp only [if_true]
    have h46 := h43.subs (l' := [(7, _), (6, _), (5, _), (4, _), (0, _), (1, _)]) rfl
    clear h43
    refine wp_skip ?_
    refine hK37 _ _ ?_
    refine wp_seq_k fun K47 hK47 => ?_
    refine wp_block ?_
    refine wp_seq_k fun K48 hK48 => ?_
    refine wp_region_lit ?_
    refine sv h46 (wanted_none rfl) rfl rfl rfl (v := .int .i64 0) (rassign h46 rfl rfl) fun a50 h49 => ?_
    refine wpList_nil ?_
    refine hK48 _ _ ?_
    refine wp_block ?_
    refine wp_loop2 (fun (c : Nat) (p : Nat) a' w' => Kn 83 [(8, .int .i64 (c : Int)), (7, .int .i64 (i35 : Int)), (6, .int .i64 (p : Int)), (5, .slice lax9 ((allK g).length) lcx10), (4, .bool false), (0, .pointer (some ⟨tg, 0, none⟩)), (1, .pointer (some ⟨rg, 0, none⟩))] a' ∧ Sep w' [ownC 0 36 4 lax9 (allK g).length lcx10 ((allK g).flatMap (encH g)), blkC tg 54 [.map (some gm), .map (some wm)], mapC KG gm n g, mapC KW wm m wt, blkC rg 43 [.slice (some ⟨gb, 0, none⟩) 297 297, .slice (some ⟨wb, 0, none⟩) 33 33, .slice (some ⟨lb, 0, none⟩) 33 33], blkC gb 58 (G.flatMap g3C), blkC wb 3 (W.map iV), blkC lb 3 (L.map iV), Ch.many R] ∧ (c ≤ 10) ∧ (p = posL g (i35 : Int) (c : Int))) (fun (c : Nat) (p : Nat) => 10 - c) 0 p36 ⟨h49.subs rfl, s31, by omega, hpos034⟩ ?_
    clear h49 s31
    rintro c58 p59 a51 w52 ⟨h53, s54, hc56, hpos57⟩ K55 hK55
    refine wp_seq_k fun K60 hK60 => ?_
    refine wp_seq_k fun K61 hK61 => ?_
    refine wp_region_lit ?_
    refine sv h53 (wanted_none rfl) rfl rfl rfl (v := .int .i64 (c58 : Int)) (rmove h53 rfl rfl) fun a63 h62 => ?_
    refine sv h62 (wanted_none rfl) rfl rfl rfl (v := .bool (decide ((c58 : Int) ≤ 9))) (rbin h62 rfl rfl rfl (cLe _ _ _ _ rfl)) fun a65 h64 => ?_
    have h66 := h64.subs (l' := [(21, _), (8, _), (7, _), (6, _), (5, _), (4, _), (0, _), (1, _)]) rfl
    clear h64 h53 h62 a51 a63
    refine wpList_nil ?_
    refine hK61 _ _ ?_
    rcases Bool.eq_false_or_eq_true (decide ((c58 : Int) ≤ 9)) with hc67 | hc67
    · skip
      have hp68 : (c58 : Int) ≤ 9 := (of_decide_eq_true hc67)
      refine wp_condS h66 rfl hc67 ?_
      simp only [if_true]
      have h69 := h66.subs (l' := [(8, _), (7, _), (6, _), (5, _), (4, _), (0, _), (1, _)]) rfl
      clear h66
      refine wp_skip ?_
      refine hK60 _ _ ?_
      refine wp_seq_k fun K70 hK70 => ?_
      refine wp_block ?_
      refine wp_seq_k fun K71 hK71 => ?_
      refine wp_region_lit ?_
      refine sv h69 (wanted_none rfl) rfl rfl rfl (v := .pointer (some ⟨tg, 0, none⟩)) (rmove h69 rfl rfl) fun a73 h72 => ?_
      refine sv h72 (wanted_none rfl) rfl rfl rfl (v := .int .i64 (c58 : Int)) (rmove h72 rfl rfl) fun a75 h74 => ?_
      refine sv h74 (wanted_none rfl) rfl rfl rfl (v := .int .i64 (i35 : Int)) (rmove h74 rfl rfl) fun a77 h76 => ?_
      rcases Bool.eq_false_or_eq_true ((g ((c58 : Int), (i35 : Int))).isSome) with hc78 | hc78
      · skip
        have hp80 := hok.at_ hc78; have hp81 : p59 < (allK g).length := by rw [hpos57]; exact posL_lt hok hc78
        have hp82 := posL_yes hok hc78
        refine so (wanted_none rfl) fun K89 hK89 => xcall h76 rfl rfl rfl (xs := [.tmp 25, .tmp 26, .tmp 27]) rfl cp_lease_Table_Find_lg2 rfl (vs := [.pointer (some ⟨tg, 0, none⟩), .int .i64 (c58 : Int), .int .i64 (i35 : Int)]) rfl (args := #[.pointer (some ⟨tg, 0, none⟩), .int .i64 (c58 : Int), .int .i64 (i35 : Int)]) rfl (findT_yes (tg := tg) (gm := gm) (wm := wm) (R := [ownC 0 36 4 lax9 (allK g).length lcx10 ((allK g).flatMap (encH g)), blkC rg 43 [.slice (some ⟨gb, 0, none⟩) 297 297, .slice (some ⟨wb, 0, none⟩) 33 33, .slice (some ⟨lb, 0, none⟩) 33 33], blkC gb 58 (G.flatMap g3C), blkC wb 3 (W.map iV), blkC lb 3 (L.map iV), Ch.many R]) ((s54.pick [1, 2, 3, 0, 4, 5, 6, 7, 8] (by decide) rfl) : Sep _ [blkC tg 54 [.map (some gm), .map (some wm)], mapC KG gm n g, mapC KW wm m wt, ownC 0 36 4 lax9 (allK g).length lcx10 ((allK g).flatMap (encH g)), blkC rg 43 [.slice (some ⟨gb, 0, none⟩) 297 297, .slice (some ⟨wb, 0, none⟩) 33 33, .slice (some ⟨lb, 0, none⟩) 33 33], blkC gb 58 (G.flatMap g3C), blkC wb 3 (W.map iV), blkC lb 3 (L.map iV), Ch.many R]) ⟨wf_i64 (by omega) (by omega), wf_i64 (by omega) (by omega)⟩ hc78) fun a84 v85 w86 r87 h83 => hK89 _ _ ?_
        clear hK89 K89
        obtain ⟨rfl, s88⟩ := r87
        refine sv h83 (wanted_none rfl) rfl rfl rfl (v := .tuple #[.agg #[.int .i64 (c58 : Int), .int .i64 (i35 : Int), .bool (((g ((c58 : Int), (i35 : Int))).getD (false, 0)).1), .int .i64 (((g ((c58 : Int), (i35 : Int))).getD (false, 0)).2)], .bool true]) (rmove h83 rfl rfl) fun a91 h90 => ?_
        refine sv h90 (wanted_none rfl) rfl rfl rfl (v := .agg #[.int .i64 (c58 : Int), .int .i64 (i35 : Int), .bool (((g ((c58 : Int), (i35 : Int))).getD (false, 0)).1), .int .i64 (((g ((c58 : Int), (i35 : Int))).getD (false, 0)).2)]) (rext h90 rfl rfl rfl) fun a93 h92 => ?_
        refine sv h92 (wanted_none rfl) rfl rfl rfl (v := .bool true) (rext h92 rfl rfl rfl) fun a95 h94 => ?_
        refine so (wanted_none rfl) fun K103 hK103 => xalloc h94 rfl rfl rfl rfl (z := [.int .i64 0, .int .i64 0, .bool false, .int .i64 0]) (fun _ => rfl) s88 fun a98 g96 w99 h97 s100 b101 e102 => hK103 _ _ ?_
        clear hK103 K103
        clear b101 e102
        refine so (wanted_none rfl) fun K109 hK109 => xstore h97 rfl rfl s100 0 rfl rfl rfl [.int .i64 (c58 : Int), .int .i64 (i35 : Int), .bool (((g ((c58 : Int), (i35 : Int))).getD (false, 0)).1), .int .i64 (((g ((c58 : Int), (i35 : Int))).getD (false, 0)).2)] rfl (by kernel_rfl) rfl (by show 0 + 4 ≤ 4; decide) (L' := [.int .i64 (c58 : Int), .int .i64 (i35 : Int), .bool (((g ((c58 : Int), (i35 : Int))).getD (false, 0)).1), .int .i64 (((g ((c58 : Int), (i35 : Int))).getD (false, 0)).2)]) rfl (cs' := [blkC g96 36 [.int .i64 (c58 : Int), .int .i64 (i35 : Int), .bool (((g ((c58 : Int), (i35 : Int))).getD (false, 0)).1), .int .i64 (((g ((c58 : Int), (i35 : Int))).getD (false, 0)).2)], blkC tg 54 [.map (some gm), .map (some wm)], mapC KG gm n g, mapC KW wm m wt, ownC 0 36 4 lax9 (allK g).length lcx10 ((allK g).flatMap (encH g)), blkC rg 43 [.slice (some ⟨gb, 0, none⟩) 297 297, .slice (some ⟨wb, 0, none⟩) 33 33, .slice (some ⟨lb, 0, none⟩) 33 33], blkC gb 58 (G.flatMap g3C), blkC wb 3 (W.map iV), blkC lb 3 (L.map iV), Ch.many R]) rfl fun a105 w106 h104 s107 t108 => hK109 _ _ ?_
        clear hK109 K109
        clear t108
        refine sv h104 (wanted_none rfl) rfl rfl rfl (v := .bool true) (rassign h104 rfl rfl) fun a111 h110 => ?_
        have h112 := h110.subs (l' := [(10, _), (9, _), (8, _), (7, _), (6, _), (5, _), (4, _), (0, _), (1, _)]) rfl
        clear h110 h69 h72 h74 h76 h83 h90 h92 h94 h97 h104 a65 a73 a75 a77 a84 a91 a93 a95 a98 a105
        refine wpList_nil ?_
        refine hK71 _ _ ?_
        refine wp_seq_k fun K113 hK113 => ?_
        refine wp_region_lit ?_
        refine sv h112 (wanted_none rfl) rfl rfl rfl (v := .pointer (some ⟨rg, 0, none⟩)) (rmove h112 rfl rfl) fun a115 h114 => ?_
        refine sv h114 (wanted_none rfl) rfl rfl rfl (v := .int .i64 (c58 : Int)) (rmove h114 rfl rfl) fun a117 h116 => ?_
        refine sv h116 (wanted_none rfl) rfl rfl rfl (v := .int .i64 (i35 : Int)) (rmove h116 rfl rfl) fun a119 h118 => ?_
        refine so (wanted_none rfl) fun K126 hK126 => xcall h118 rfl rfl rfl (xs := [.tmp 31, .tmp 32, .tmp 33]) rfl cp_commonsref19_Table_Has_lg2 rfl (vs := [.pointer (some ⟨rg, 0, none⟩), .int .i64 (c58 : Int), .int .i64 (i35 : Int)]) rfl (args := #[.pointer (some ⟨rg, 0, none⟩), .int .i64 (c58 : Int), .int .i64 (i35 : Int)]) rfl (hasR_t (R := [blkC g96 36 [.int .i64 (c58 : Int), .int .i64 (i35 : Int), .bool (((g ((c58 : Int), (i35 : Int))).getD (false, 0)).1), .int .i64 (((g ((c58 : Int), (i35 : Int))).getD (false, 0)).2)], blkC tg 54 [.map (some gm), .map (some wm)], mapC KG gm n g, mapC KW wm m wt, ownC 0 36 4 lax9 (allK g).length lcx10 ((allK g).flatMap (encH g)), Ch.many R]) ((s107.pick [5, 6, 7, 8, 0, 1, 2, 3, 4, 9] (by decide) rfl) : Sep _ [blkC rg 43 [.slice (some ⟨gb, 0, none⟩) 297 297, .slice (some ⟨wb, 0, none⟩) 33 33, .slice (some ⟨lb, 0, none⟩) 33 33], blkC gb 58 (G.flatMap g3C), blkC wb 3 (W.map iV), blkC lb 3 (L.map iV), blkC g96 36 [.int .i64 (c58 : Int), .int .i64 (i35 : Int), .bool (((g ((c58 : Int), (i35 : Int))).getD (false, 0)).1), .int .i64 (((g ((c58 : Int), (i35 : Int))).getD (false, 0)).2)], blkC tg 54 [.map (some gm), .map (some wm)], mapC KG gm n g, mapC KW wm m wt, ownC 0 36 4 lax9 (allK g).length lcx10 ((allK g).flatMap (encH g)), Ch.many R]) hR hok (by omega) (by omega) hc78) fun a121 v122 w123 r124 h120 => hK126 _ _ ?_
        clear hK126 K126
        obtain ⟨rfl, s125⟩ := r124
        refine sv h120 (wanted_none rfl) rfl rfl rfl (v := .bool true) (rassign h120 rfl rfl) fun a128 h127 => ?_
        have h129 := h127.subs (l' := [(11, _), (10, _), (9, _), (8, _), (7, _), (6, _), (5, _), (4, _), (0, _), (1, _)]) rfl
        clear h127 h112 h114 h116 h118 h120 a111 a115 a117 a119 a121
        refine wpList_nil ?_
        refine hK113 _ _ ?_
        refine wp_seq_k fun K130 hK130 => ?_
        refine wp_seq_k fun K131 hK131 => ?_
        refine wp_region_lit ?_
        refine sv h129 (wanted_none rfl) rfl rfl rfl (v := .bool true) (rmove h129 rfl rfl) fun a133 h132 => ?_
        refine sv h132 (wanted_none rfl) rfl rfl rfl (v := .bool true) (rmove h132 rfl rfl) fun a135 h134 => ?_
        refine sv h134 (wanted_none rfl) rfl rfl rfl (v := .bool false) (rbin h134 rfl rfl rfl (bSameN _ Try.underlying4 _ _ _)) fun a137 h136 => ?_
        have h138 := h136.subs (l' := [(37, _), (11, _), (10, _), (9, _), (8, _), (7, _), (6, _), (5, _), (4, _), (0, _), (1, _)]) rfl
        clear h136 h129 h132 h134 a128 a133 a135
        refine wpList_nil ?_
        refine hK131 _ _ ?_
        refine wp_condS h138 rfl rfl ?_
        simp only [Bool.false_eq_true, if_false]
        have h139 := h138.subs (l' := [(11, _), (10, _), (9, _), (8, _), (7, _), (6, _), (5, _), (4, _), (0, _), (1, _)]) rfl
        clear h138
        refine wp_skip ?_
        refine hK130 _ _ ?_
        refine wp_seq_k fun K140 hK140 => ?_
        refine wp_seq_k fun K141 hK141 => ?_
        refine wp_region_lit ?_
        refine sv h139 (wanted_none rfl) rfl rfl rfl (v := .bool true) (rmove h139 rfl rfl) fun a143 h142 => ?_
        refine sv h142 (wanted_none rfl) rfl rfl rfl (v := .bool false) (rnot h142 rfl (b := true) rfl) fun a145 h144 => ?_
        have h146 := h144.subs (l' := [(39, _), (11, _), (10, _), (9, _), (8, _), (7, _), (6, _), (5, _), (4, _), (0, _), (1, _)]) rfl
        clear h144 h139 h142 a137 a143
        refine wpList_nil ?_
        refine hK141 _ _ ?_
        refine wp_condS h146 rfl rfl ?_
        simp only [Bool.false_eq_true, if_false]
        have h147 := h146.subs (l' := [(11, _), (10, _), (9, _), (8, _), (7, _), (6, _), (5, _), (4, _), (0, _), (1, _)]) rfl
        clear h146
        refine wp_skip ?_
        refine hK140 _ _ ?_
        refine wp_seq_k fun K148 hK148 => ?_
        refine wp_region_lit ?_
        refine sv h147 (wanted_none rfl) rfl rfl rfl (v := .pointer (some ⟨rg, 0, none⟩)) (rmove h147 rfl rfl) fun a150 h149 => ?_
        refine sv h149 (wanted_none rfl) rfl rfl rfl (v := .pointer (some ⟨rg, 0, none⟩)) (rnil h149 rfl rfl) fun a152 h151 => ?_
        refine sv h151 (wanted_none rfl) rfl rfl rfl (v := .pointer (some ⟨rg, 0, none⟩)) (rfa h151 rfl rfl (fun w => fa_commonsref19_Table_lg2_0 rg 0 w)) fun a154 h153 => ?_
        refine sw h153 (wanted_none rfl) rfl rfl rfl (v := .slice (some ⟨gb, 0, none⟩) 297 297) (rld h153 rfl rfl (ldB Try.underlying41 rfl (s125.get 0 rfl : Blk _ _ _ _) rfl)) fun a156 h155 => ?_
        refine sv h155 (wanted_none rfl) rfl rfl rfl (v := .int .i64 (i35 : Int)) (rmove h155 rfl rfl) fun a158 h157 => ?_
        refine sv h157 (wanted_none rfl) rfl rfl rfl (v := .int .i64 (9 * (i35 : Int))) (rbin h157 rfl rfl rfl (bMul _ _ _ (by omega) (by omega) (by omega))) fun a160 h159 => ?_
        refine sv h159 (wanted_none rfl) rfl rfl rfl (v := .int .i64 (c58 : Int)) (rmove h159 rfl rfl) fun a162 h161 => ?_
        refine sv h161 (wanted_none rfl) rfl rfl rfl (v := .int .i64 (9 * (i35 : Int) + (c58 : Int))) (rbin h161 rfl rfl rfl (bAdd _ _ _ (by omega) (by omega) (by omega))) fun a164 h163 => ?_
        refine sv h163 (wanted_none rfl) rfl rfl rfl (v := .pointer (some ⟨gb, ((9 * (i35 : Int) + (c58 : Int)).toNat) * 3, none⟩)) (rindexA h163 rfl rfl rfl (fun w => ixS Try.underlying41 (by kernel_rfl) (sz := 3) (j := (9 * (i35 : Int) + (c58 : Int)).toNat) (by omega) (by omega) rfl w)) fun a166 h165 => ?_
        refine sw h165 (wanted_none rfl) rfl rfl rfl (v := .agg #[.bool true, .bool (((g ((c58 : Int), (i35 : Int))).getD (false, 0)).1), .int .i64 (((g ((c58 : Int), (i35 : Int))).getD (false, 0)).2)]) (rld h165 rfl rfl (ldA Try.underlying58 rfl (n := 3) (by kernel_rfl) (s125.get 1 rfl : Blk _ _ _ _) ((ls_all g3C_len (false, false, 0) (by omega) rfl).trans (by rw [ref_at (j := (9 * (i35 : Int) + (c58 : Int)).toNat) hR hok hc78 (by omega) trivial]; rfl)) rfl)) fun a168 h167 => ?_
        refine so (wanted_none rfl) fun K176 hK176 => xalloc h167 rfl rfl rfl rfl (z := [.bool false, .bool false, .int .i64 0]) (fun _ => rfl) s125 fun a171 g169 w172 h170 s173 b174 e175 => hK176 _ _ ?_
        clear hK176 K176
        clear b174 e175
        refine so (wanted_none rfl) fun K182 hK182 => xstore h170 rfl rfl s173 0 rfl rfl rfl [.bool true, .bool (((g ((c58 : Int), (i35 : Int))).getD (false, 0)).1), .int .i64 (((g ((c58 : Int), (i35 : Int))).getD (false, 0)).2)] rfl (by kernel_rfl) rfl (by show 0 + 3 ≤ 3; decide) (L' := [.bool true, .bool (((g ((c58 : Int), (i35 : Int))).getD (false, 0)).1), .int .i64 (((g ((c58 : Int), (i35 : Int))).getD (false, 0)).2)]) rfl (cs' := [blkC g169 58 [.bool true, .bool (((g ((c58 : Int), (i35 : Int))).getD (false, 0)).1), .int .i64 (((g ((c58 : Int), (i35 : Int))).getD (false, 0)).2)], blkC rg 43 [.slice (some ⟨gb, 0, none⟩) 297 297, .slice (some ⟨wb, 0, none⟩) 33 33, .slice (some ⟨lb, 0, none⟩) 33 33], blkC gb 58 (G.flatMap g3C), blkC wb 3 (W.map iV), blkC lb 3 (L.map iV), blkC g96 36 [.int .i64 (c58 : Int), .int .i64 (i35 : Int), .bool (((g ((c58 : Int), (i35 : Int))).getD (false, 0)).1), .int .i64 (((g ((c58 : Int), (i35 : Int))).getD (false, 0)).2)], blkC tg 54 [.map (some gm), .map (some wm)], mapC KG gm n g, mapC KW wm m wt, ownC 0 36 4 lax9 (allK g).length lcx10 ((allK g).flatMap (encH g)), Ch.many R]) rfl fun a178 w179 h177 s180 t181 => hK182 _ _ ?_
        clear hK182 K182
        clear t181
        have h183 := h177.subs (l' := [(12, _), (11, _), (10, _), (9, _), (8, _), (7, _), (6, _), (5, _), (4, _), (0, _), (1, _)]) rfl
        clear h177 h147 h149 h151 h153 h155 h157 h159 h161 h163 h165 h167 h170 a145 a150 a152 a154 a156 a158 a160 a162 a164 a166 a168 a171
        refine wpList_nil ?_
        refine hK148 _ _ ?_
        refine wp_seq_k fun K184 hK184 => ?_
        refine wp_region_lit ?_
        refine sv h183 (wanted_none rfl) rfl rfl rfl (v := .int .i64 (c58 : Int)) (rmove h183 rfl rfl) fun a186 h185 => ?_
        refine sv h185 (wanted_none rfl) rfl rfl rfl (v := .int .i64 (i35 : Int)) (rmove h185 rfl rfl) fun a188 h187 => ?_
        refine sv h187 (wanted_none rfl) rfl rfl rfl (v := .pointer (some ⟨g169, 1, none⟩)) (rfa h187 rfl rfl (fun w => fa_commonsref19_Grant_lg2_1 g169 0 w)) fun a190 h189 => ?_
        refine sw h189 (wanted_none rfl) rfl rfl rfl (v := .bool (((g ((c58 : Int), (i35 : Int))).getD (false, 0)).1)) (rld h189 rfl rfl (ldB Try.underlying4 rfl (s180.get 0 rfl : Blk _ _ _ _) rfl)) fun a192 h191 => ?_
        refine sv h191 (wanted_none rfl) rfl rfl rfl (v := .pointer (some ⟨g169, 2, none⟩)) (rfa h191 rfl rfl (fun w => fa_commonsref19_Grant_lg2_2 g169 0 w)) fun a194 h193 => ?_
        refine sw h193 (wanted_none rfl) rfl rfl rfl (v := .int .i64 (((g ((c58 : Int), (i35 : Int))).getD (false, 0)).2)) (rld h193 rfl rfl (ldB Try.underlying3 rfl (s180.get 0 rfl : Blk _ _ _ _) rfl)) fun a196 h195 => ?_
        refine sv h195 (wanted_none rfl) rfl rfl rfl (v := .agg #[.int .i64 (c58 : Int), .int .i64 (i35 : Int), .bool (((g ((c58 : Int), (i35 : Int))).getD (false, 0)).1), .int .i64 (((g ((c58 : Int), (i35 : Int))).getD (false, 0)).2)]) (rbuild h195 (xs := [(0, .tmp 53), (1, .tmp 54), (2, .tmp 56), (3, .tmp 58)]) rfl (vs := [(0, .int .i64 (c58 : Int)), (1, .int .i64 (i35 : Int)), (2, .bool (((g ((c58 : Int), (i35 : Int))).getD (false, 0)).1)), (3, .int .i64 (((g ((c58 : Int), (i35 : Int))).getD (false, 0)).2))]) rfl (fun w => by kernel_rfl)) fun a198 h197 => ?_
        refine so (wanted_none rfl) fun K206 hK206 => xalloc h197 rfl rfl rfl rfl (z := [.int .i64 0, .int .i64 0, .bool false, .int .i64 0]) (fun _ => rfl) s180 fun a201 g199 w202 h200 s203 b204 e205 => hK206 _ _ ?_
        clear hK206 K206
        clear b204 e205
        refine so (wanted_none rfl) fun K212 hK212 => xstore h200 rfl rfl s203 0 rfl rfl rfl [.int .i64 (c58 : Int), .int .i64 (i35 : Int), .bool (((g ((c58 : Int), (i35 : Int))).getD (false, 0)).1), .int .i64 (((g ((c58 : Int), (i35 : Int))).getD (false, 0)).2)] rfl (by kernel_rfl) rfl (by show 0 + 4 ≤ 4; decide) (L' := [.int .i64 (c58 : Int), .int .i64 (i35 : Int), .bool (((g ((c58 : Int), (i35 : Int))).getD (false, 0)).1), .int .i64 (((g ((c58 : Int), (i35 : Int))).getD (false, 0)).2)]) rfl (cs' := [blkC g199 36 [.int .i64 (c58 : Int), .int .i64 (i35 : Int), .bool (((g ((c58 : Int), (i35 : Int))).getD (false, 0)).1), .int .i64 (((g ((c58 : Int), (i35 : Int))).getD (false, 0)).2)], blkC g169 58 [.bool true, .bool (((g ((c58 : Int), (i35 : Int))).getD (false, 0)).1), .int .i64 (((g ((c58 : Int), (i35 : Int))).getD (false, 0)).2)], blkC rg 43 [.slice (some ⟨gb, 0, none⟩) 297 297, .slice (some ⟨wb, 0, none⟩) 33 33, .slice (some ⟨lb, 0, none⟩) 33 33], blkC gb 58 (G.flatMap g3C), blkC wb 3 (W.map iV), blkC lb 3 (L.map iV), blkC g96 36 [.int .i64 (c58 : Int), .int .i64 (i35 : Int), .bool (((g ((c58 : Int), (i35 : Int))).getD (false, 0)).1), .int .i64 (((g ((c58 : Int), (i35 : Int))).getD (false, 0)).2)], blkC tg 54 [.map (some gm), .map (some wm)], mapC KG gm n g, mapC KW wm m wt, ownC 0 36 4 lax9 (allK g).length lcx10 ((allK g).flatMap (encH g)), Ch.many R]) rfl fun a208 w209 h207 s210 t211 => hK212 _ _ ?_
        clear hK212 K212
        clear t211
        have h213 := h207.subs (l' := [(13, _), (12, _), (11, _), (10, _), (9, _), (8, _), (7, _), (6, _), (5, _), (4, _), (0, _), (1, _)]) rfl
        clear h207 h183 h185 h187 h189 h191 h193 h195 h197 h200 a178 a186 a188 a190 a192 a194 a196 a198 a201
        refine wpList_nil ?_
        refine hK184 _ _ ?_
        refine wp_seq_k fun K214 hK214 => ?_
        refine wp_seq_k fun K215 hK215 => ?_
        have s217 := s210.drew
        refine wp_region_held_drew (S := fun w' => Sep w' [blkC g199 36 [.int .i64 (c58 : Int), .int .i64 (i35 : Int), .bool (((g ((c58 : Int), (i35 : Int))).getD (false, 0)).1), .int .i64 (((g ((c58 : Int), (i35 : Int))).getD (false, 0)).2)], blkC g169 58 [.bool true, .bool (((g ((c58 : Int), (i35 : Int))).getD (false, 0)).1), .int .i64 (((g ((c58 : Int), (i35 : Int))).getD (false, 0)).2)], blkC rg 43 [.slice (some ⟨gb, 0, none⟩) 297 297, .slice (some ⟨wb, 0, none⟩) 33 33, .slice (some ⟨lb, 0, none⟩) 33 33], blkC gb 58 (G.flatMap g3C), blkC wb 3 (W.map iV), blkC lb 3 (L.map iV), blkC g96 36 [.int .i64 (c58 : Int), .int .i64 (i35 : Int), .bool (((g ((c58 : Int), (i35 : Int))).getD (false, 0)).1), .int .i64 (((g ((c58 : Int), (i35 : Int))).getD (false, 0)).2)], blkC tg 54 [.map (some gm), .map (some wm)], mapC KG gm n g, mapC KW wm m wt, ownC 0 36 4 lax9 (allK g).length lcx10 ((allK g).flatMap (encH g)), Ch.many R]) (by kernel_rfl) s217 (fun hq216 => ?_)
        refine tv hq216 h213 0 rfl rfl rfl rfl (by kernel_rfl) (by kernel_rfl) (by kernel_rfl) (fun _ _ _ _ h => h) (wanted_none rfl) (v := .agg #[.int .i64 (c58 : Int), .int .i64 (i35 : Int), .bool (((g ((c58 : Int), (i35 : Int))).getD (false, 0)).1), .int .i64 (((g ((c58 : Int), (i35 : Int))).getD (false, 0)).2)]) (fun w1 hSw => (rld h213 rfl rfl (ldA Try.underlying36 rfl (n := 4) (by kernel_rfl) (hSw.get 6 rfl : Blk _ _ _ _) rfl rfl))) fun a219 h218 => ?_
        refine tv hq216 h218 1 rfl rfl rfl rfl (by kernel_rfl) (by kernel_rfl) (by kernel_rfl) (fun _ _ _ _ h => h) (wanted_none rfl) (v := .agg #[.int .i64 (c58 : Int), .int .i64 (i35 : Int), .bool (((g ((c58 : Int), (i35 : Int))).getD (false, 0)).1), .int .i64 (((g ((c58 : Int), (i35 : Int))).getD (false, 0)).2)]) (fun w1 hSw => (rld h218 rfl rfl (ldA Try.underlying36 rfl (n := 4) (by kernel_rfl) (hSw.get 0 rfl : Blk _ _ _ _) rfl rfl))) fun a221 h220 => ?_
        refine tv hq216 h220 2 rfl rfl rfl rfl (by kernel_rfl) (by kernel_rfl) (by kernel_rfl) (fun _ _ _ _ h => h) (wanted_none rfl) (v := .bool (!((decide ((c58 : Int) = (c58 : Int))) && ((decide ((i35 : Int) = (i35 : Int))) && (((((g ((c58 : Int), (i35 : Int))).getD (false, 0)).1) == (((g ((c58 : Int), (i35 : Int))).getD (false, 0)).1)) && (decide (((g ((c58 : Int), (i35 : Int))).getD (false, 0)).2 = ((g ((c58 : Int), (i35 : Int))).getD (false, 0)).2))))))) (fun w1 _ => (rbin h220 rfl rfl rfl (eqS_lease_Held_lg2_neq _ _ (c58 : Int) (i35 : Int) (((g ((c58 : Int), (i35 : Int))).getD (false, 0)).1) (((g ((c58 : Int), (i35 : Int))).getD (false, 0)).2) (c58 : Int) (i35 : Int) (((g ((c58 : Int), (i35 : Int))).getD (false, 0)).1) (((g ((c58 : Int), (i35 : Int))).getD (false, 0)).2))) w1) fun a223 h222 => ?_
        refine tv hq216 h222 3 rfl rfl rfl rfl (by kernel_rfl) (by kernel_rfl) (by kernel_rfl) (fun _ _ _ _ h => h) (wanted_none rfl) (v := .bool (!((decide ((c58 : Int) = (c58 : Int))) && ((decide ((i35 : Int) = (i35 : Int))) && (((((g ((c58 : Int), (i35 : Int))).getD (false, 0)).1) == (((g ((c58 : Int), (i35 : Int))).getD (false, 0)).1)) && (decide (((g ((c58 : Int), (i35 : Int))).getD (false, 0)).2 = ((g ((c58 : Int), (i35 : Int))).getD (false, 0)).2))))))) (fun w1 _ => (rmove h222 rfl rfl) w1) fun a225 h224 => ?_
        refine tv hq216 h224 4 rfl rfl rfl rfl (by kernel_rfl) (by kernel_rfl) (by kernel_rfl) (fun _ _ _ _ h => h) ((wF h224 rfl rfl rfl).trans (bNotF (bNotT (bAnd (decide_eq_true (by omega)) (bAnd (decide_eq_true (by omega)) (bAnd (beq_self_eq_true _) (decide_eq_true (by omega)))))))) (v := .int .i64 (p59 : Int)) (fun w1 _ => (rmove h224 rfl rfl) w1) fun a227 h226 => ?_
        refine tv hq216 h226 5 rfl rfl rfl rfl (by kernel_rfl) (by kernel_rfl) (by kernel_rfl) (fun _ _ _ _ h => h) ((wF h226 rfl rfl rfl).trans (bNotF (bNotT (bAnd (decide_eq_true (by omega)) (bAnd (decide_eq_true (by omega)) (bAnd (beq_self_eq_true _) (decide_eq_true (by omega)))))))) (v := .slice lax9 ((allK g).length) lcx10) (fun w1 _ => (rmove h226 rfl rfl) w1) fun a229 h228 => ?_
        refine tv hq216 h228 6 rfl rfl rfl rfl (by kernel_rfl) (by kernel_rfl) (by kernel_rfl) (fun _ _ _ _ h => h) ((wF h228 rfl rfl rfl).trans (bNotF (bNotT (bAnd (decide_eq_true (by omega)) (bAnd (decide_eq_true (by omega)) (bAnd (beq_self_eq_true _) (decide_eq_true (by omega)))))))) (v := .int .i64 (((allK g).length : Nat) : Int)) (fun w1 _ => (rlenS h228 rfl rfl Try.underlying33) w1) fun a231 h230 => ?_
        refine tv hq216 h230 7 rfl rfl rfl rfl (by kernel_rfl) (by kernel_rfl) (by kernel_rfl) (fun _ _ _ _ h => h) ((wF h230 rfl rfl rfl).trans (bNotF (bNotT (bAnd (decide_eq_true (by omega)) (bAnd (decide_eq_true (by omega)) (bAnd (beq_self_eq_true _) (decide_eq_true (by omega)))))))) (v := .bool false) (fun w1 _ => (rbin h230 rfl rfl rfl (cGe _ _ _ _ (decide_eq_false (by omega)))) w1) fun a233 h232 => ?_
        refine tv hq216 h232 8 rfl rfl rfl rfl (by kernel_rfl) (by kernel_rfl) (by kernel_rfl) (fun _ _ _ _ h => h) (wanted_none rfl) (v := .bool false) (fun w1 _ => (rpickE h232 rfl (E := (!((decide ((c58 : Int) = (c58 : Int))) && ((decide ((i35 : Int) = (i35 : Int))) && (((((g ((c58 : Int), (i35 : Int))).getD (false, 0)).1) == (((g ((c58 : Int), (i35 : Int))).getD (false, 0)).1)) && (decide (((g ((c58 : Int), (i35 : Int))).getD (false, 0)).2 = ((g ((c58 : Int), (i35 : Int))).getD (false, 0)).2))))))) (b := false) rfl (bNotT (bAnd (decide_eq_true (by omega)) (bAnd (decide_eq_true (by omega)) (bAnd (beq_self_eq_true _) (decide_eq_true (by omega)))))) rfl) w1) fun a235 h234 => ?_
        refine tv hq216 h234 9 rfl rfl rfl rfl (by kernel_rfl) (by kernel_rfl) (by kernel_rfl) (fun _ _ _ _ h => h) (wanted_none rfl) (v := .bool false) (fun w1 _ => (rmove h234 rfl rfl) w1) fun a237 h236 => ?_
        refine tv hq216 h236 10 rfl rfl rfl rfl (by kernel_rfl) (by kernel_rfl) (by kernel_rfl) (fun _ _ _ _ h => h) (wF h236 (E := false) rfl rfl rfl) (v := .slice lax9 ((allK g).length) lcx10) (fun w1 _ => (rmove h236 rfl rfl) w1) fun a239 h238 => ?_
        refine tv hq216 h238 11 rfl rfl rfl rfl (by kernel_rfl) (by kernel_rfl) (by kernel_rfl) (fun _ _ _ _ h => h) (wF h238 (E := false) rfl rfl rfl) (v := .int .i64 (p59 : Int)) (fun w1 _ => (rmove h238 rfl rfl) w1) fun a241 h240 => ?_
        obtain ⟨q242, hq243⟩ := own_addr (s217.get 10 rfl : Own _ _ _ _ _ _ _ _)
        refine tv hq216 h240 12 rfl rfl rfl rfl (by kernel_rfl) (by kernel_rfl) (by kernel_rfl) (fun _ _ _ _ h => h) (wF h240 (E := false) rfl rfl rfl) (v := .pointer (some ⟨q242, p59 * 4, none⟩)) (fun w1 _ => (rindexA h240 rfl rfl rfl (fun w => ixO Try.underlying33 (by kernel_rfl) (sz := 4) (hq243 (by omega)) (j := p59) rfl (by omega) (by omega) w)) w1) fun a245 h244 => ?_
        refine tv hq216 h244 13 rfl rfl rfl rfl (by kernel_rfl) (by kernel_rfl) (by kernel_rfl) (fun _ _ _ _ h => h) (wF h244 (E := false) rfl rfl rfl) (v := .agg #[.int .i64 (c58 : Int), .int .i64 (i35 : Int), .bool (((g ((c58 : Int), (i35 : Int))).getD (false, 0)).1), .int .i64 (((g ((c58 : Int), (i35 : Int))).getD (false, 0)).2)]) (fun w1 hSw => (rld h244 rfl rfl (by have z := ldOS (encH_len g) Try.underlying36 rfl (by kernel_rfl) (hSw.get 10 rfl : Own _ _ _ _ _ _ _ _) (hq243 (by omega)) (0, 0) (j := p59) (by omega) rfl; rw [show (allK g).getD p59 (0, 0) = ((c58 : Int), (i35 : Int)) by rw [hpos57]; exact posL_at hok hc78] at z; exact z))) fun a247 h246 => ?_
        refine tv hq216 h246 14 rfl rfl rfl rfl (by kernel_rfl) (by kernel_rfl) (by kernel_rfl) (fun _ _ _ _ h => h) (wF h246 (E := false) rfl rfl rfl) (v := .agg #[.int .i64 (c58 : Int), .int .i64 (i35 : Int), .bool (((g ((c58 : Int), (i35 : Int))).getD (false, 0)).1), .int .i64 (((g ((c58 : Int), (i35 : Int))).getD (false, 0)).2)]) (fun w1 hSw => (rld h246 rfl rfl (ldA Try.underlying36 rfl (n := 4) (by kernel_rfl) (hSw.get 0 rfl : Blk _ _ _ _) rfl rfl))) fun a249 h248 => ?_
        refine tv hq216 h248 15 rfl rfl rfl rfl (by kernel_rfl) (by kernel_rfl) (by kernel_rfl) (fun _ _ _ _ h => h) (wF h248 (E := false) rfl rfl rfl) (v := .bool (!((decide ((c58 : Int) = (c58 : Int))) && ((decide ((i35 : Int) = (i35 : Int))) && (((((g ((c58 : Int), (i35 : Int))).getD (false, 0)).1) == (((g ((c58 : Int), (i35 : Int))).getD (false, 0)).1)) && (decide (((g ((c58 : Int), (i35 : Int))).getD (false, 0)).2 = ((g ((c58 : Int), (i35 : Int))).getD (false, 0)).2))))))) (fun w1 _ => (rbin h248 rfl rfl rfl (eqS_lease_Held_lg2_neq _ _ (c58 : Int) (i35 : Int) (((g ((c58 : Int), (i35 : Int))).getD (false, 0)).1) (((g ((c58 : Int), (i35 : Int))).getD (false, 0)).2) (c58 : Int) (i35 : Int) (((g ((c58 : Int), (i35 : Int))).getD (false, 0)).1) (((g ((c58 : Int), (i35 : Int))).getD (false, 0)).2))) w1) fun a251 h250 => ?_
        refine tv hq216 h250 16 rfl rfl rfl rfl (by kernel_rfl) (by kernel_rfl) (by kernel_rfl) (fun _ _ _ _ h => h) (wanted_none rfl) (v := .bool (!((decide ((c58 : Int) = (c58 : Int))) && ((decide ((i35 : Int) = (i35 : Int))) && (((((g ((c58 : Int), (i35 : Int))).getD (false, 0)).1) == (((g ((c58 : Int), (i35 : Int))).getD (false, 0)).1)) && (decide (((g ((c58 : Int), (i35 : Int))).getD (false, 0)).2 = ((g ((c58 : Int), (i35 : Int))).getD (false, 0)).2))))))) (fun w1 _ => (rpick h250 rfl rfl rfl) w1) fun a253 h252 => ?_
        have h254 := h252.subs (l' := [(76, _), (13, _), (12, _), (11, _), (10, _), (9, _), (8, _), (7, _), (6, _), (5, _), (4, _), (0, _), (1, _)]) rfl
        clear h252 h213 h218 h220 h222 h224 h226 h228 h230 h232 h234 h236 h238 h240 h244 h246 h248 h250 a208 a219 a221 a223 a225 a227 a229 a231 a233 a235 a237 a239 a241 a245 a247 a249 a251
        refine wpAnyH_done (by kernel_rfl) ?_ _
        refine hK215 _ _ ?_
        refine wp_condS h254 rfl (bNotT (bAnd (decide_eq_true (by omega)) (bAnd (decide_eq_true (by omega)) (bAnd (beq_self_eq_true _) (decide_eq_true (by omega)))))) ?_
        simp only [Bool.false_eq_true, if_false]
        have h255 := h254.subs (l' := [(13, _), (12, _), (11, _), (10, _), (9, _), (8, _), (7, _), (6, _), (5, _), (4, _), (0, _), (1, _)]) rfl
        clear h254
        refine wp_skip ?_
        refine hK214 _ _ ?_
        refine wp_region_lit ?_
        refine sv h255 (wanted_none rfl) rfl rfl rfl (v := .int .i64 (p59 : Int)) (rmove h255 rfl rfl) fun a257 h256 => ?_
        refine sv h256 (wanted_none rfl) rfl rfl rfl (v := .int .i64 ((p59 + 1 : Nat) : Int)) (rbin h256 rfl rfl rfl (bAdd _ _ _ (by omega) (by omega) (by omega))) fun a259 h258 => ?_
        have h260 := h258.subs (l' := [(78, _), (77, _), (13, _), (12, _), (11, _), (10, _), (9, _), (8, _), (7, _), (5, _), (4, _), (0, _), (1, _)]) rfl
        clear h258 h255 h256 a253 a257
        refine sv h260 (wanted_none rfl) rfl rfl rfl (v := .int .i64 ((p59 + 1 : Nat) : Int)) (rassign h260 rfl rfl) fun a262 h261 => ?_
        have h263 := h261.subs (l' := [(6, _), (13, _), (12, _), (11, _), (10, _), (9, _), (8, _), (7, _), (5, _), (4, _), (0, _), (1, _)]) rfl
        clear h261 h260 a259
        refine wpList_nil ?_
        refine hK70 _ _ ?_
        refine wp_region_lit ?_
        refine sv h263 (wanted_none rfl) rfl rfl rfl (v := .int .i64 (c58 : Int)) (rmove h263 rfl rfl) fun a265 h264 => ?_
        refine sv h264 (wanted_none rfl) rfl rfl rfl (v := .int .i64 ((c58 + 1 : Nat) : Int)) (rbin h264 rfl rfl rfl (bAdd _ _ _ (by omega) (by omega) (by omega))) fun a267 h266 => ?_
        have h268 := h266.subs (l' := [(23, _), (22, _), (6, _), (13, _), (12, _), (11, _), (10, _), (9, _), (7, _), (5, _), (4, _), (0, _), (1, _)]) rfl
        clear h266 h263 h264 a262 a265
        refine sv h268 (wanted_none rfl) rfl rfl rfl (v := .int .i64 ((c58 + 1 : Nat) : Int)) (rassign h268 rfl rfl) fun a270 h269 => ?_
        have h271 := h269.subs (l' := [(8, _), (6, _), (13, _), (12, _), (11, _), (10, _), (9, _), (7, _), (5, _), (4, _), (0, _), (1, _)]) rfl
        clear h269 h268 a267
        refine wpList_nil ?_
        exact hK55 (c58 + 1) (p59 + 1) _ _ ⟨h271.subs rfl, (s217.pick [10, 7, 8, 9, 2, 3, 4, 5, 11] (by decide) rfl), by omega, by rw [hpos57]; exact hp82.symm⟩ (by omega)
      · skip
        have hp273 := posL_no hok hc78
        refine so (wanted_none rfl) fun K280 hK280 => xcall h76 rfl rfl rfl (xs := [.tmp 25, .tmp 26, .tmp 27]) rfl cp_lease_Table_Find_lg2 rfl (vs := [.pointer (some ⟨tg, 0, none⟩), .int .i64 (c58 : Int), .int .i64 (i35 : Int)]) rfl (args := #[.pointer (some ⟨tg, 0, none⟩), .int .i64 (c58 : Int), .int .i64 (i35 : Int)]) rfl (findT_no (tg := tg) (gm := gm) (wm := wm) (R := [ownC 0 36 4 lax9 (allK g).length lcx10 ((allK g).flatMap (encH g)), blkC rg 43 [.slice (some ⟨gb, 0, none⟩) 297 297, .slice (some ⟨wb, 0, none⟩) 33 33, .slice (some ⟨lb, 0, none⟩) 33 33], blkC gb 58 (G.flatMap g3C), blkC wb 3 (W.map iV), blkC lb 3 (L.map iV), Ch.many R]) ((s54.pick [1, 2, 3, 0, 4, 5, 6, 7, 8] (by decide) rfl) : Sep _ [blkC tg 54 [.map (some gm), .map (some wm)], mapC KG gm n g, mapC KW wm m wt, ownC 0 36 4 lax9 (allK g).length lcx10 ((allK g).flatMap (encH g)), blkC rg 43 [.slice (some ⟨gb, 0, none⟩) 297 297, .slice (some ⟨wb, 0, none⟩) 33 33, .slice (some ⟨lb, 0, none⟩) 33 33], blkC gb 58 (G.flatMap g3C), blkC wb 3 (W.map iV), blkC lb 3 (L.map iV), Ch.many R]) ⟨wf_i64 (by omega) (by omega), wf_i64 (by omega) (by omega)⟩ hc78) fun a275 v276 w277 r278 h274 => hK280 _ _ ?_
        clear hK280 K280
        obtain ⟨rfl, s279⟩ := r278
        refine sv h274 (wanted_none rfl) rfl rfl rfl (v := .tuple #[.agg #[.int .i64 0, .int .i64 0, .bool false, .int .i64 0], .bool false]) (rmove h274 rfl rfl) fun a282 h281 => ?_
        refine sv h281 (wanted_none rfl) rfl rfl rfl (v := .agg #[.int .i64 0, .int .i64 0, .bool false, .int .i64 0]) (rext h281 rfl rfl rfl) fun a284 h283 => ?_
        refine sv h283 (wanted_none rfl) rfl rfl rfl (v := .bool false) (rext h283 rfl rfl rfl) fun a286 h285 => ?_
        refine so (wanted_none rfl) fun K294 hK294 => xalloc h285 rfl rfl rfl rfl (z := [.int .i64 0, .int .i64 0, .bool false, .int .i64 0]) (fun _ => rfl) s279 fun a289 g287 w290 h288 s291 b292 e293 => hK294 _ _ ?_
        clear hK294 K294
        clear b292 e293
        refine so (wanted_none rfl) fun K300 hK300 => xstore h288 rfl rfl s291 0 rfl rfl rfl [.int .i64 0, .int .i64 0, .bool false, .int .i64 0] rfl (by kernel_rfl) rfl (by show 0 + 4 ≤ 4; decide) (L' := [.int .i64 0, .int .i64 0, .bool false, .int .i64 0]) rfl (cs' := [blkC g287 36 [.int .i64 0, .int .i64 0, .bool false, .int .i64 0], blkC tg 54 [.map (some gm), .map (some wm)], mapC KG gm n g, mapC KW wm m wt, ownC 0 36 4 lax9 (allK g).length lcx10 ((allK g).flatMap (encH g)), blkC rg 43 [.slice (some ⟨gb, 0, none⟩) 297 297, .slice (some ⟨wb, 0, none⟩) 33 33, .slice (some ⟨lb, 0, none⟩) 33 33], blkC gb 58 (G.flatMap g3C), blkC wb 3 (W.map iV), blkC lb 3 (L.map iV), Ch.many R]) rfl fun a296 w297 h295 s298 t299 => hK300 _ _ ?_
        clear hK300 K300
        clear t299
        refine sv h295 (wanted_none rfl) rfl rfl rfl (v := .bool false) (rassign h295 rfl rfl) fun a302 h301 => ?_
        have h303 := h301.subs (l' := [(10, _), (9, _), (8, _), (7, _), (6, _), (5, _), (4, _), (0, _), (1, _)]) rfl
        clear h301 h69 h72 h74 h76 h274 h281 h283 h285 h288 h295 a65 a73 a75 a77 a275 a282 a284 a286 a289 a296
        refine wpList_nil ?_
        refine hK71 _ _ ?_
        refine wp_seq_k fun K304 hK304 => ?_
        refine wp_region_lit ?_
        refine sv h303 (wanted_none rfl) rfl rfl rfl (v := .pointer (some ⟨rg, 0, none⟩)) (rmove h303 rfl rfl) fun a306 h305 => ?_
        refine sv h305 (wanted_none rfl) rfl rfl rfl (v := .int .i64 (c58 : Int)) (rmove h305 rfl rfl) fun a308 h307 => ?_
        refine sv h307 (wanted_none rfl) rfl rfl rfl (v := .int .i64 (i35 : Int)) (rmove h307 rfl rfl) fun a310 h309 => ?_
        refine so (wanted_none rfl) fun K317 hK317 => xcall h309 rfl rfl rfl (xs := [.tmp 31, .tmp 32, .tmp 33]) rfl cp_commonsref19_Table_Has_lg2 rfl (vs := [.pointer (some ⟨rg, 0, none⟩), .int .i64 (c58 : Int), .int .i64 (i35 : Int)]) rfl (args := #[.pointer (some ⟨rg, 0, none⟩), .int .i64 (c58 : Int), .int .i64 (i35 : Int)]) rfl (hasR_t (R := [blkC g287 36 [.int .i64 0, .int .i64 0, .bool false, .int .i64 0], blkC tg 54 [.map (some gm), .map (some wm)], mapC KG gm n g, mapC KW wm m wt, ownC 0 36 4 lax9 (allK g).length lcx10 ((allK g).flatMap (encH g)), Ch.many R]) ((s298.pick [5, 6, 7, 8, 0, 1, 2, 3, 4, 9] (by decide) rfl) : Sep _ [blkC rg 43 [.slice (some ⟨gb, 0, none⟩) 297 297, .slice (some ⟨wb, 0, none⟩) 33 33, .slice (some ⟨lb, 0, none⟩) 33 33], blkC gb 58 (G.flatMap g3C), blkC wb 3 (W.map iV), blkC lb 3 (L.map iV), blkC g287 36 [.int .i64 0, .int .i64 0, .bool false, .int .i64 0], blkC tg 54 [.map (some gm), .map (some wm)], mapC KG gm n g, mapC KW wm m wt, ownC 0 36 4 lax9 (allK g).length lcx10 ((allK g).flatMap (encH g)), Ch.many R]) hR hok (by omega) (by omega) hc78) fun a312 v313 w314 r315 h311 => hK317 _ _ ?_
        clear hK317 K317
        obtain ⟨rfl, s316⟩ := r315
        refine sv h311 (wanted_none rfl) rfl rfl rfl (v := .bool false) (rassign h311 rfl rfl) fun a319 h318 => ?_
        have h320 := h318.subs (l' := [(11, _), (10, _), (9, _), (8, _), (7, _), (6, _), (5, _), (4, _), (0, _), (1, _)]) rfl
        clear h318 h303 h305 h307 h309 h311 a302 a306 a308 a310 a312
        refine wpList_nil ?_
        refine hK304 _ _ ?_
        refine wp_seq_k fun K321 hK321 => ?_
        refine wp_seq_k fun K322 hK322 => ?_
        refine wp_region_lit ?_
        refine sv h320 (wanted_none rfl) rfl rfl rfl (v := .bool false) (rmove h320 rfl rfl) fun a324 h323 => ?_
        refine sv h323 (wanted_none rfl) rfl rfl rfl (v := .bool false) (rmove h323 rfl rfl) fun a326 h325 => ?_
        refine sv h325 (wanted_none rfl) rfl rfl rfl (v := .bool false) (rbin h325 rfl rfl rfl (bSameN _ Try.underlying4 _ _ _)) fun a328 h327 => ?_
        have h329 := h327.subs (l' := [(37, _), (11, _), (10, _), (9, _), (8, _), (7, _), (6, _), (5, _), (4, _), (0, _), (1, _)]) rfl
        clear h327 h320 h323 h325 a319 a324 a326
        refine wpList_nil ?_
        refine hK322 _ _ ?_
        refine wp_condS h329 rfl rfl ?_
        simp only [Bool.false_eq_true, if_false]
        have h330 := h329.subs (l' := [(11, _), (10, _), (9, _), (8, _), (7, _), (6, _), (5, _), (4, _), (0, _), (1, _)]) rfl
        clear h329
        refine wp_skip ?_
        refine hK321 _ _ ?_
        refine wp_seq_k fun K331 hK331 => ?_
        refine wp_seq_k fun K332 hK332 => ?_
        refine wp_region_lit ?_
        refine sv h330 (wanted_none rfl) rfl rfl rfl (v := .bool false) (rmove h330 rfl rfl) fun a334 h333 => ?_
        refine sv h333 (wanted_none rfl) rfl rfl rfl (v := .bool true) (rnot h333 rfl (b := false) rfl) fun a336 h335 => ?_
        have h337 := h335.subs (l' := [(39, _), (11, _), (10, _), (9, _), (8, _), (7, _), (6, _), (5, _), (4, _), (0, _), (1, _)]) rfl
        clear h335 h330 h333 a328 a334
        refine wpList_nil ?_
        refine hK332 _ _ ?_
        refine wp_condS h337 rfl rfl ?_
        simp only [if_true]
        have h338 := h337.subs (l' := [(11, _), (10, _), (9, _), (8, _), (7, _), (6, _), (5, _), (4, _), (0, _), (1, _)]) rfl
        clear h337
        refine wp_seq_k fun K339 hK339 => ?_
        refine wp_seq_k fun K340 hK340 => ?_
        refine wp_region_lit ?_
        refine sw h338 (wanted_none rfl) rfl rfl rfl (v := .agg #[.int .i64 0, .int .i64 0, .bool false, .int .i64 0]) (rld h338 rfl rfl (ldA Try.underlying36 rfl (n := 4) (by kernel_rfl) (s316.get 4 rfl : Blk _ _ _ _) rfl rfl)) fun a342 h341 => ?_
        refine sv h341 (wanted_none rfl) rfl rfl rfl (v := .agg #[.int .i64 0, .int .i64 0, .bool false, .int .i64 0]) (rbuild h341 (xs := []) rfl (vs := []) rfl (fun w => by kernel_rfl)) fun a344 h343 => ?_
        refine sv h343 (wanted_none rfl) rfl rfl rfl (v := .bool (!((decide (0 = 0)) && ((decide (0 = 0)) && ((false == false) && (decide (0 = 0))))))) (rbin h343 rfl rfl rfl (eqS_lease_Held_lg2_neq _ _ 0 0 false 0 0 0 false 0)) fun a346 h345 => ?_
        have h347 := h345.subs (l' := [(42, _), (11, _), (10, _), (9, _), (8, _), (7, _), (6, _), (5, _), (4, _), (0, _), (1, _)]) rfl
        clear h345 h338 h341 h343 a336 a342 a344
        refine wpList_nil ?_
        refine hK340 _ _ ?_
        refine wp_condS h347 rfl (bNotT (bAnd (decide_eq_true (by omega)) (bAnd (decide_eq_true (by omega)) (bAnd (beq_self_eq_true _) (decide_eq_true (by omega)))))) ?_
        simp only [Bool.false_eq_true, if_false]
        have h348 := h347.subs (l' := [(11, _), (10, _), (9, _), (8, _), (7, _), (6, _), (5, _), (4, _), (0, _), (1, _)]) rfl
        clear h347
        refine wp_skip ?_
        refine hK339 _ _ ?_
        refine wp_exit ?_
        refine hK70 _ _ ?_
        refine wp_region_lit ?_
        refine sv h348 (wanted_none rfl) rfl rfl rfl (v := .int .i64 (c58 : Int)) (rmove h348 rfl rfl) fun a350 h349 => ?_
        refine sv h349 (wanted_none rfl) rfl rfl rfl (v := .int .i64 ((c58 + 1 : Nat) : Int)) (rbin h349 rfl rfl rfl (bAdd _ _ _ (by omega) (by omega) (by omega))) fun a352 h351 => ?_
        have h353 := h351.subs (l' := [(23, _), (22, _), (11, _), (10, _), (9, _), (7, _), (6, _), (5, _), (4, _), (0, _), (1, _)]) rfl
        clear h351 h348 h349 a346 a350
        refine sv h353 (wanted_none rfl) rfl rfl rfl (v := .int .i64 ((c58 + 1 : Nat) : Int)) (rassign h353 rfl rfl) fun a355 h354 => ?_
        have h356 := h354.subs (l' := [(8, _), (11, _), (10, _), (9, _), (7, _), (6, _), (5, _), (4, _), (0, _), (1, _)]) rfl
        clear h354 h353 a352
        refine wpList_nil ?_
        exact hK55 (c58 + 1) p59 _ _ ⟨h356.subs rfl, (s316.pick [8, 5, 6, 7, 0, 1, 2, 3, 9] (by decide) rfl), by omega, by rw [hpos57]; exact hp273.symm⟩ (by omega)
    · skip
      have hp357 : ¬ ((c58 : Int) ≤ 9) := (of_decide_eq_false hc67)
      refine wp_condS h66 rfl hc67 ?_
      simp only [Bool.false_eq_true, if_false]
      have h358 := h66.subs (l' := [(8, _), (7, _), (6, _), (5, _), (4, _), (0, _), (1, _)]) rfl
      clear h66
      refine wp_exit ?_
      refine hK47 _ _ ?_
      refine wp_region_lit ?_
      refine sv h358 (wanted_none rfl) rfl rfl rfl (v := .int .i64 (i35 : Int)) (rmove h358 rfl rfl) fun a360 h359 => ?_
      refine sv h359 (wanted_none rfl) rfl rfl rfl (v := .int .i64 ((i35 + 1 : Nat) : Int)) (rbin h359 rfl rfl rfl (bAdd _ _ _ (by omega) (by omega) (by omega))) fun a362 h361 => ?_
      have h363 := h361.subs (l' := [(19, _), (18, _), (8, _), (6, _), (5, _), (4, _), (0, _), (1, _)]) rfl
      clear h361 h358 h359 a65 a360
      refine sv h363 (wanted_none rfl) rfl rfl rfl (v := .int .i64 ((i35 + 1 : Nat) : Int)) (rassign h363 rfl rfl) fun a365 h364 => ?_
      have h366 := h364.subs (l' := [(7, _), (8, _), (6, _), (5, _), (4, _), (0, _), (1, _)]) rfl
      clear h364 h363 a362
      refine wpList_nil ?_
      exact hK32 (i35 + 1) p59 _ _ ⟨h366.subs rfl, s54, by omega, by rw [hpos57, show ((c58 : Nat) : Int) = 10 by omega]; exact (posL_row hok _).symm⟩ (by omega)
  · skip
    have hp367 : ¬ ((i35 : Int) ≤ 33) := (of_decide_eq_false hc44)
    refine wp_condS h43 rfl hc44 ?_
    simp only [Bool.false_eq_true, if_false]
    have h368 := h43.subs (l' := [(7, _), (6, _), (5, _), (4, _), (0, _), (1, _)]) rfl
    clear h43
    refine wp_exit ?_
    refine hK24 _ _ ?_
    refine wp_seq_k fun K369 hK369 => ?_
    refine wp_region_lit ?_
    refine sv h368 (wanted_none rfl) rfl rfl rfl (v := .int .i64 (p36 : Int)) (rmove h368 rfl rfl) fun a371 h370 => ?_
    refine sv h370 (wanted_none rfl) rfl rfl rfl (v := .slice lax9 ((allK g).length) lcx10) (rmove h370 rfl rfl) fun a373 h372 => ?_
    refine sv h372 (wanted_none rfl) rfl rfl rfl (v := .int .i64 (((allK g).length : Nat) : Int)) (rlenS h372 rfl rfl Try.underlying33) fun a375 h374 => ?_
    refine sv h374 (wanted_none rfl) rfl rfl rfl (v := .bool (decide ((p36 : Int) = (((allK g).length : Nat) : Int)))) (rbin h374 rfl rfl rfl (cEq _ _ _ _ rfl)) fun a377 h376 => ?_
    have h378 := h376.subs (l' := [(82, _), (81, _), (80, _), (79, _), (7, _), (6, _), (5, _), (0, _), (1, _)]) rfl
    clear h376 h368 h370 h372 h374 a42 a371 a373 a375
    refine sv h378 (wanted_none rfl) rfl rfl rfl (v := .bool (decide ((p36 : Int) = (((allK g).length : Nat) : Int)))) (rassign h378 rfl rfl) fun a380 h379 => ?_
    have h381 := h379.subs (l' := [(4, _), (7, _), (6, _), (5, _), (0, _), (1, _)]) rfl
    clear h379 h378 a377
    refine wpList_nil ?_
    refine hK369 _ _ ?_
    refine wp_ret ?_
    try simp only [Exit.then, Exit.inBlock]
    refine retR (v := .bool (decide ((p36 : Int) = (((allK g).length : Nat) : Int)))) (res1 h381 rfl rfl) h381.defs ?_
    have hi34 : i35 = 34 := by omega
    refine ⟨?_, both_close (K := K) (by omega) (by omega) (Sep.tail_un (xs := both7 _ _ _ _ _ _ _ _ _ _ _ _ _ _) ((s31.pick [1, 2, 3, 4, 5, 6, 7, 8] (by decide) rfl) : Sep _ [blkC tg 54 [.map (some gm), .map (some wm)], mapC KG gm n g, mapC KW wm m wt, blkC rg 43 [.slice (some ⟨gb, 0, none⟩) 297 297, .slice (some ⟨wb, 0, none⟩) 33 33, .slice (some ⟨lb, 0, none⟩) 33 33], blkC gb 58 (G.flatMap g3C), blkC wb 3 (W.map iV), blkC lb 3 (L.map iV), Ch.many R])) hR hok hwo⟩
    exact congrArg Value.bool (decide_eq_true (by have := posL_end hok; rw [hpos034, hi34]; exact congrArg Int.ofNat this))

end Go.Proofs.Ytpalgffmdinfpaa
end
section
namespace Go.Proofs.Ytpalgffmdinfpaa
open Go.RowKit
open Go.WideShapes Go.ChangeShapes Go.Deep
set_option linter.unusedSimpArgs false
set_option linter.unusedVariables false
set_option maxRecDepth 100000
/-- n elements of sz cells at a place -/
def ExtC (w : World) (b off sz n : Nat) (f : Nat → List Value) : Prop := b < w.heap.size ∧ ∀ i, i < n → ∀ (j : Nat) v, (f i)[j]? = some v → w.cell? ⟨b, off + i * sz + j, none⟩ = some v
/-- a list that was handed in -/
def ExtA (w : World) (a : Option Addr) (n c sz : Nat) (f : Nat → List Value) : Prop :=
  n ≤ c ∧ c ≤ maxLen ∧ (0 < n → ∃ b off, a = some ⟨b, off, none⟩ ∧ ExtC w b off sz n f)
theorem ExtA.at {w : World} {a : Option Addr} {n c sz : Nat} {f : Nat → List Value} (h : ExtA w a n c sz f) : ∃ b off, 0 < n → a = some ⟨b, off, none⟩ ∧ ExtC w b off sz n f := by
  by_cases hn : 0 < n
  · obtain ⟨b, off, q⟩ := h.2.2 hn
    exact ⟨b, off, fun _ => q⟩
  · exact ⟨0, 0, fun q => absurd q hn⟩
theorem ExtA.lt {w : World} {a : Option Addr} {n c sz : Nat} {f : Nat → List Value} (h : ExtA w a n c sz f) : n ≤ maxLen := Nat.le_trans h.1 h.2.1
theorem ExtC.cell {w0 w : World} {B b off sz n : Nat} {f : Nat → List Value} (h : ExtC w0 b off sz n f) (hB : w0.heap.size ≤ B) (hw : Below B w0 w) {i j : Nat} {v : Value} (hi : i < n) (hv : (f i)[j]? = some v) : w.cell? ⟨b, off + i * sz + j, none⟩ = some v :=
  (hw.cell (p := ⟨b, off + i * sz + j, none⟩) (Nat.lt_of_lt_of_le h.1 hB)).trans (h.2 i hi j v hv)
theorem ldX {T : TypeId} {k : TypeDesc} (hu : Try.prog.underlying T = some k) (hk : k.isRow = true) {sz : Nat} (hn : (Try.prog.info? T).map (·.size) = some sz) {w0 w : World} {B b off n j o : Nat} {f : Nat → List Value} (hl : ∀ i, (f i).length = sz) (h : ExtC w0 b off sz n f) (hB : w0.heap.size ≤ B) (hw : Below B w0 w ∧ B ≤ w0.heap.size) (hj : j < n) (ho : off + j * sz = o) :
    (Instr.loadAt T (.pointer (some ⟨b, o, none⟩))).run Try.prog w = .ok (.agg (f j).toArray) w := by
  subst ho
  exact run_loadAt_mid w b (off + j * sz) T (f j) k (fun i v hi => h.cell hB hw.1 hj hi) hu hk (by rw [hl]; exact hn)
theorem cell_spot {w : World} {x : Addr} {v : Value} (h : w.cell? x = some v) : x.spot = none := by
  unfold World.cell? at h
  cases hs : x.spot with
  | none => rfl
  | some q => simp [hs] at h; split at h <;> simp_all
theorem open_ext {α H : Type} {enc : TypeId × Value → H} {W : World} {base : Nat} {held : Bool} {a : Option Addr} {n c : Nat} {d : DataW H} {p : List MemPlace} {t e : TypeId} {sz : Nat} (z : α) (cells : α → List Value) (good : α → Prop)
    (ht : Try.prog.underlying t = some (.slice e)) (hk : Try.prog.cellsOf e = sz) (hs : 0 < sz)
    (hE : ∀ (fuel : Nat) (cs : List Value) (x : DataW H × List MemPlace), cs.length = sz → DataW.trod enc Try.prog W base (fun _ => true) held fuel e cs = some x → ∃ v, cs = cells v ∧ good v)
    (h : DataW.Trod enc Try.prog W base (fun _ => true) held t (.slice a n c) d p) : ∃ f : Nat → α, ExtA W a n c sz (fun i => cells (f i)) ∧ ∀ i, i < n → good (f i) := by
  obtain ⟨fuel, hf⟩ := h
  rcases open_slice ht hf with ⟨hcs, _⟩ | ⟨x, len, cap, m, q, D, Pl, hcs, _, hl, hm, hmm, _, hi⟩
  · simp [Value.cells] at hcs
    obtain ⟨rfl, rfl, rfl⟩ := hcs
    exact ⟨fun _ => z, ⟨Nat.le_refl _, Nat.zero_le _, fun h => absurd h (by omega)⟩, fun i h => absurd h (by omega)⟩
  · simp [Value.cells] at hcs
    obtain ⟨rfl, rfl, rfl⟩ := hcs
    have hnm : n ≤ m := by rw [hmm]; split <;> omega
    have one : ∀ i, ∃ v : α, i < n → (cells v).length = sz ∧ (∀ (j : Nat) u, (cells v)[j]? = some u → W.cell? ((x.add (i * sz)).add j) = some u) ∧ good v := by
      intro i
      by_cases hlt : i < n
      · obtain ⟨cs', hc, htr⟩ := hi i (by omega)
        rw [hk] at hc
        obtain ⟨_, hlen, hat⟩ := World.cells?_some hc
        obtain ⟨v, e1, hg⟩ := hE q cs' _ hlen htr
        subst e1
        refine ⟨v, fun _ => ⟨hlen, fun j u hj => ?_, hg⟩⟩
        obtain ⟨h1, h2⟩ := List.getElem?_eq_some_iff.1 hj
        have := hat j (by omega)
        rw [this, ← h2]
        exact List.getElem?_eq_getElem h1
      · exact ⟨z, fun h => absurd h hlt⟩
    obtain ⟨f, hf⟩ := Classical.skolem.1 one
    refine ⟨f, ⟨hl, hm, fun hn => ?_⟩, fun i hi => (hf i hi).2.2⟩
    have hl0 := (hf 0 hn).1
    obtain ⟨u, hu⟩ : ∃ u, (cells (f 0))[0]? = some u := ⟨_, List.getElem?_eq_getElem (by omega)⟩
    have hq := (hf 0 hn).2.1 0 u hu
    rw [Nat.zero_mul, show (x.add 0).add 0 = x from by unfold Addr.add; simp] at hq
    have hsp := cell_spot hq
    obtain ⟨b, off, sp⟩ := x
    simp at hsp
    subst hsp
    refine ⟨b, off, rfl, ?_, fun i hi j v hj => ?_⟩
    · exact World.block_lt_of_cell? W _ hq
    · have h0 := (hf i hi).2.1 j v hj
      rw [Addr.add_mid, Addr.add_mid] at h0
      exact h0
end Go.Proofs.Ytpalgffmdinfpaa
end
section
namespace Go.Proofs.Ytpalgffmdinfpaa
open Go.RowKit
open Go.WideShapes Go.ChangeShapes Go.Deep
set_option linter.unusedSimpArgs false
set_option linter.unusedVariables false
set_option maxRecDepth 100000
def deedC (d : DeedV) : List Value := [.int .i64 d.k, .int .i64 d.now, .int .i64 d.c, .int .i64 d.i, .bool d.own]
def DeedsIn (W : World) (a : Option Addr) (n c : Nat) (f : Nat → DeedV) : Prop := ExtA W a n c 5 (fun i => deedC (f i)) ∧ ∀ i, i < n → (f i).wf
theorem open_deeds {H : Type} {enc : TypeId × Value → H} {W : World} {base : Nat} {held : Bool} {a : Option Addr} {n c : Nat} {d : DataW H} {p : List MemPlace}
    (h : DataW.Trod enc Try.prog W base (fun _ => true) held 22 (.slice a n c) d p) : ∃ f, DeedsIn W a n c f := by
  have k1 : Try.prog.cellsOf 3 = 1 := by kernel_rfl
  have k2 : Try.prog.cellsOf 4 = 1 := by kernel_rfl
  refine open_ext ⟨0, 0, 0, 0, false⟩ deedC DeedV.wf Try.underlying22 (by kernel_rfl) (by decide) (fun fuel cs x hlen ht => ?_) h
  obtain ⟨ys, r, _, _, _, hyl, hg⟩ := DataW.trod_struct Try.underlying29 ht
  have hyl' : ys.length = 5 := hyl
  match cs, hlen with
  | [u0, u1, u2, u3, u4], _ =>
    have g0 := hg 0 _ rfl
    have g1 := hg 1 _ rfl
    have g2 := hg 2 _ rfl
    have g3 := hg 3 _ rfl
    have g4 := hg 4 _ rfl
    simp [k1, k2] at g0 g1 g2 g3 g4
    rw [List.getElem?_eq_getElem (by omega)] at g0 g1 g2 g3 g4
    obtain ⟨t0, e0, _, w0⟩ := DataW.trod_int Try.underlying3 g0
    obtain ⟨t1, e1, _, w1⟩ := DataW.trod_int Try.underlying3 g1
    obtain ⟨t2, e2, _, w2⟩ := DataW.trod_int Try.underlying3 g2
    obtain ⟨t3, e3, _, w3⟩ := DataW.trod_int Try.underlying3 g3
    obtain ⟨t4, e4, _⟩ := DataW.trod_bool Try.underlying4 g4
    simp only [List.cons.injEq, and_true] at e0 e1 e2 e3 e4
    subst e0 e1 e2 e3 e4
    exact ⟨⟨t0, t1, t2, t3, t4⟩, rfl, w0, w1, w2, w3⟩
theorem lives_s {w : World} {R : List Ch} (hS : Sep w R) : CallsR Try.prog 12 #[] w fun v w' => v = .bool true ∧ Sep w' R :=
  (lives19_any w).mono fun e w' ⟨e1, hb⟩ => ⟨_, e1, rfl, hS.mono hb⟩
theorem newR_b {w : World} {tg gm wm : Nat} {R : List Ch} (hS : Sep w (tab3 tg gm wm 0 0 (fun _ => none) (fun _ => none) ++ R)) :
    CallsR Try.prog 9 #[] w fun v w' => ∃ rg gb wb lb, v = .pointer (some ⟨rg, 0, none⟩) ∧ Sep w' (bothC tg gm wm rg gb wb lb 0 (fun _ => none) (fun _ => none) :: R) :=
  (newR_s hS).mono fun v w' ⟨rg, gb, wb, lb, G, W, L, e1, h, hR⟩ => ⟨rg, gb, wb, lb, e1, by
    have h0 := Sep.tail_many (xs := [_, _, _, _, _, _, _]) h
    have h' : Sep w' (both7 tg gm wm 0 0 (fun _ => none) (fun _ => none) rg gb wb lb G W L ++ [Ch.many R]) := h0.pick [4, 5, 6, 0, 1, 2, 3, 7] (by decide) rfl
    have h' := Sep.tail_un (xs := both7 tg gm wm 0 0 (fun _ => none) (fun _ => none) rg gb wb lb G W L) h'
    exact both_close (Nat.le_refl _) (Nat.le_refl _) h' hR GrOk.empty WtOk.empty⟩
/-- the tables behind k deeds -/
def runT (f : Nat → DeedV) : Nat → GrF × WtF
  | 0 => (fun _ => none, fun _ => none)
  | k + 1 => (stepG (f k) (runT f k).1 (runT f k).2, stepW (f k) (runT f k).1 (runT f k).2)
end Go.Proofs.Ytpalgffmdinfpaa
end
section
namespace Go.Proofs.Ytpalgffmdinfpaa
open Go.RowKit
set_option linter.unusedSimpArgs false
set_option linter.unusedVariables false
set_option maxRecDepth 100000

end Go.Proofs.Ytpalgffmdinfpaa
end
section
namespace Go.Proofs.Ytpalgffmdinfpaa
open Go.RowKit
set_option linter.unusedSimpArgs false
set_option linter.unusedVariables false
set_option maxRecDepth 100000

/-- grants of an inode go together -/
def Tog (g : GrF) : Prop := ∀ c c' i a b, g (c, i) = some a → g (c', i) = some b → c ≠ c' → a.1 = false ∧ b.1 = false
theorem Tog.empty : Tog (fun _ => none) := fun c c' i a b h => by cases h
theorem Tog.ask {g : GrF} (h : Tog g) (hok : GrOk g) (wt : WtF) (now c i : Int) (own : Bool) : Tog (askG g wt now c i own) := by
  unfold askG
  split
  · split
    · split
      · exact h
      · rename_i h0 _
        have hn : ∀ k, confB g c i own k = false := fun k => by
          cases hq : confB g c i own k with
          | false => rfl
          | true =>
            have := (agL_mem hok).2 hq
            rw [List.eq_nil_of_length_eq_zero h0] at this
            cases this
        have one : ∀ k b, k ≠ c → g (k, i) = some b → own = false ∧ b.1 = false := fun k b hk hb => by
          have z := hn k
          unfold confB at z
          rw [hb] at z
          have z' : (decide (k ≠ c) && (own || b.1)) = false := z
          rw [decide_eq_true hk] at z'
          simpa using z'
        intro x y j a b ha hb hne
        by_cases e1 : (x, j) = (c, i)
        · have e1' := Prod.mk.inj e1
          have e2 : ¬ (y, j) = (c, i) := fun q => hne (e1'.1.trans (Prod.mk.inj q).1.symm)
          rw [e1, updG_same] at ha
          rw [updG_ne _ _ e2] at hb
          cases ha
          rw [e1'.2] at hb
          exact one y b (fun q => hne (e1'.1.trans q.symm)) hb
        · by_cases e2 : (y, j) = (c, i)
          · have e2' := Prod.mk.inj e2
            rw [e2, updG_same] at hb
            rw [updG_ne _ _ e1] at ha
            cases hb
            rw [e2'.2] at ha
            exact (one x a (fun q => hne (q.trans e2'.1.symm)) ha).symm
          · rw [updG_ne _ _ e1] at ha
            rw [updG_ne _ _ e2] at hb
            exact h x y j a b ha hb hne
    · exact h
  · exact h
theorem Tog.give {g : GrF} (h : Tog g) (p : Int × Int) : Tog (updG g p none) := fun x y j a b ha hb hne => by
  by_cases e1 : (x, j) = p
  · rw [e1, updG_same] at ha; cases ha
  · by_cases e2 : (y, j) = p
    · rw [e2, updG_same] at hb; cases hb
    · rw [updG_ne _ _ e1] at ha
      rw [updG_ne _ _ e2] at hb
      exact h x y j a b ha hb hne
theorem Tog.drop {g : GrF} (h : Tog g) (c : Int) : Tog (dropG c g) := fun x y j a b ha hb hne => by
  unfold dropG at ha hb
  split at ha
  · cases ha
  · split at hb
    · cases hb
    · exact h x y j a b ha hb hne
end Go.Proofs.Ytpalgffmdinfpaa
end
