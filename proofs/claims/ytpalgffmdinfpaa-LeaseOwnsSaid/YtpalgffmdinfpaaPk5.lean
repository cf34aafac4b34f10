import Derived.Test.YtpalgffmdinfpaaPk4
section
namespace Go.Proofs.Ytpalgffmdinfpaa
open Go.RowKit
set_option linter.unusedSimpArgs false
set_option linter.unusedVariables false
set_option maxRecDepth 100000

theorem overL_len (g : GrF) (now : Int) : (overL g now).length ≤ 8 := Nat.le_trans (List.length_filter_le ..) (by decide)
theorem askLst_8 (g : GrF) (now c i : Int) (own : Bool) : (askLst g now c i own).length ≤ 8 := by
  unfold askLst; split
  · unfold agL; exact Nat.le_trans (List.length_filter_le ..) (by decide)
  · exact Nat.zero_le _
abbrev H4 := Int × Int × Bool × Int
def h4C (x : H4) : List Value := [.int .i64 x.1, .int .i64 x.2.1, .bool x.2.2.1, .int .i64 x.2.2.2]
theorem h4C_len (x : H4) : (h4C x).length = 4 := rfl
def allH (g : GrF) : List H4 := (allK g).map fun p => (p.1, p.2, ((g p).getD (false, 0)).1, ((g p).getD (false, 0)).2)
theorem allH_cells (g : GrF) : (allH g).flatMap h4C = (allK g).flatMap (encH g) := by unfold allH; rw [List.flatMap_map]; rfl
theorem allH_len (g : GrF) : (allH g).length = (allK g).length := by unfold allH; rw [List.length_map]
theorem allT_h {w : World} {tg gm wm n m : Nat} {g : GrF} {wt : WtF} {R : List Ch} (hS0 : Sep w (tab3 tg gm wm n m g wt ++ R)) (hok : GrOk g) :
    CallsR Try.prog 13 #[.pointer (some ⟨tg, 0, none⟩)] w (fun v w' => ∃ la lc, v = .slice la (allH g).length lc ∧ Sep w' ((ownC 0 36 4 la (allH g).length lc ((allH g).flatMap h4C) :: tab3 tg gm wm n m g wt) ++ R)) :=
  (allT_s hS0 hok).mono fun v w' ⟨la, lc, e1, h⟩ => ⟨la, lc, by rw [e1, allH_len], by rw [allH_cells, allH_len]; exact h⟩

theorem cp_lease_New_ln1 (args : Array Value) (w : World) : (callFunc 8 args).run Try.prog w = .ok (.enter 8 args) w := by
  have h := Try.func8
  go_simp
theorem cp_commonsref19_New_ln1 (args : Array Value) (w : World) : (callFunc 9 args).run Try.prog w = .ok (.enter 9 args) w := by
  have h := Try.func9
  go_simp
theorem fa_commonslaw19_Deed_ln1_0 (g off : Nat) (w : World) : (Instr.fieldAt 29 (.pointer (some ⟨g, off, none⟩)) 0).run Try.prog w = .ok (.pointer (some ⟨g, off + 0, none⟩)) w := rfl
theorem fa_commonslaw19_Deed_ln1_1 (g off : Nat) (w : World) : (Instr.fieldAt 29 (.pointer (some ⟨g, off, none⟩)) 1).run Try.prog w = .ok (.pointer (some ⟨g, off + 1, none⟩)) w := rfl
theorem fa_commonslaw19_Deed_ln1_2 (g off : Nat) (w : World) : (Instr.fieldAt 29 (.pointer (some ⟨g, off, none⟩)) 2).run Try.prog w = .ok (.pointer (some ⟨g, off + 2, none⟩)) w := rfl
theorem fa_commonslaw19_Deed_ln1_3 (g off : Nat) (w : World) : (Instr.fieldAt 29 (.pointer (some ⟨g, off, none⟩)) 3).run Try.prog w = .ok (.pointer (some ⟨g, off + 3, none⟩)) w := rfl
theorem fa_commonslaw19_Deed_ln1_4 (g off : Nat) (w : World) : (Instr.fieldAt 29 (.pointer (some ⟨g, off, none⟩)) 4).run Try.prog w = .ok (.pointer (some ⟨g, off + 4, none⟩)) w := rfl
theorem cp_lease_Table_Ask_ln1 (args : Array Value) (w : World) : (callFunc 17 args).run Try.prog w = .ok (.enter 17 args) w := by
  have h := Try.func17
  go_simp
theorem cp_commonsref19_Table_Ask_ln1 (args : Array Value) (w : World) : (callFunc 20 args).run Try.prog w = .ok (.enter 20 args) w := by
  have h := Try.func20
  go_simp
theorem cp_lease_Table_All_ln1 (args : Array Value) (w : World) : (callFunc 13 args).run Try.prog w = .ok (.enter 13 args) w := by
  have h := Try.func13
  go_simp
theorem cp_lease_Table_Over_ln1 (args : Array Value) (w : World) : (callFunc 15 args).run Try.prog w = .ok (.enter 15 args) w := by
  have h := Try.func15
  go_simp
theorem cp_commonslaw19_does_ln1 (args : Array Value) (w : World) : (callFunc 10 args).run Try.prog w = .ok (.enter 10 args) w := by
  have h := Try.func10
  go_simp
theorem cp_commonslaw19_like_ln1 (args : Array Value) (w : World) : (callFunc 11 args).run Try.prog w = .ok (.enter 11 args) w := by
  have h := Try.func11
  go_simp
theorem cp_commonslaw19_lives_ln1 (args : Array Value) (w : World) : (callFunc 12 args).run Try.prog w = .ok (.enter 12 args) w := by
  have h := Try.func12
  go_simp

set_option maxHeartbeats 4000000 in
theorem LeaseOwns_walk (W : World) (a0 : Option Addr) (n0 c0 : Nat) (f : Nat → DeedV) (rb : DeedsIn W a0 n0 c0 f) :
    Calls Try.prog 7 #[.slice a0 n0 c0] W fun e W' => e = .returned (.bool true) ∧ Below W.heap.size W W' := by
  obtain ⟨hX0, hw⟩ := rb; obtain ⟨bX, oX, hX⟩ := hX0.at; have hS : Sep W [oldC W W.heap.size] := Sep.start W
  suffices hZ : CallsR Try.prog 7 #[.slice a0 n0 c0] W (fun v W' => v = .bool true ∧ Below W.heap.size W W') from Calls.mono hZ fun e W' ⟨v, e1, e2, h⟩ => ⟨by rw [e1, e2], h⟩
  refine enterR Try.func7 rfl (N := 102) Try.ntmps7 (by show 1 ≤ 102; decide) [(0, .slice a0 n0 c0)] rfl fun a2 h1 => ?_
  refine wp_seq_k fun K3 hK3 => ?_
  refine wp_region_lit ?_
  refine sv h1 (wanted_none rfl) rfl rfl rfl (v := .bool false) (rassign h1 rfl rfl) fun a5 h4 => ?_
  refine wpList_nil ?_
  refine hK3 _ _ ?_
  refine wp_seq_k fun K6 hK6 => ?_
  refine wp_region_lit ?_
  refine so (wanted_none rfl) fun K13 hK13 => xcall h4 rfl rfl rfl (xs := []) rfl cp_lease_New_ln1 rfl (vs := []) rfl (args := #[]) rfl (newT_s (R := [oldC W W.heap.size]) (hS : Sep _ [oldC W W.heap.size])) fun a8 v9 w10 r11 h7 => hK13 _ _ ?_
  clear hK13 K13
  obtain ⟨tg, gm, wm, rfl, s12⟩ := r11
  refine sv h7 (wanted_none rfl) rfl rfl rfl (v := .pointer (some ⟨tg, 0, none⟩)) (rassign h7 rfl rfl) fun a15 h14 => ?_
  have h16 := h14.subs (l' := [(3, _), (2, _), (0, _)]) rfl
  clear h14 h1 h4 h7 a2 a5 a8
  refine wpList_nil ?_
  refine hK6 _ _ ?_
  refine wp_seq_k fun K17 hK17 => ?_
  refine wp_region_lit ?_
  refine so (wanted_none rfl) fun K24 hK24 => xcall h16 rfl rfl rfl (xs := []) rfl cp_commonsref19_New_ln1 rfl (vs := []) rfl (args := #[]) rfl (newR_b (R := [oldC W W.heap.size]) (s12 : Sep _ [blkC tg 54 [.map (some gm), .map (some wm)], mapC KG gm 0 (fun _ => none), mapC KW wm 0 (fun _ => none), oldC W W.heap.size])) fun a19 v20 w21 r22 h18 => hK24 _ _ ?_
  clear hK24 K24
  obtain ⟨rg, gb, wb, lb, rfl, s23⟩ := r22
  refine sv h18 (wanted_none rfl) rfl rfl rfl (v := .pointer (some ⟨rg, 0, none⟩)) (rassign h18 rfl rfl) fun a26 h25 => ?_
  have h27 := h25.subs (l' := [(4, _), (3, _), (2, _), (0, _)]) rfl
  clear h25 h16 h18 a15 a19
  refine wpList_nil ?_
  refine hK17 _ _ ?_
  refine wp_seq_k fun K28 hK28 => ?_
  refine wp_seq_k fun K29 hK29 => ?_
  refine wp_region_lit ?_
  refine sv h27 (wanted_none rfl) rfl rfl rfl (v := .pointer (some ⟨tg, 0, none⟩)) (rmove h27 rfl rfl) fun a31 h30 => ?_
  refine sv h30 (wanted_none rfl) rfl rfl rfl (v := .bool false) (rbin h30 rfl rfl rfl (bNil _ Try.underlying23 _ _ _)) fun a33 h32 => ?_
  have h34 := h32.subs (l' := [(18, _), (4, _), (3, _), (2, _), (0, _)]) rfl
  clear h32 h27 h30 a26 a31
  refine wpList_nil ?_
  refine hK29 _ _ ?_
  refine wp_condS h34 rfl rfl ?_
  simp only [Bool.false_eq_true, if_false]
  have h35 := h34.subs (l' := [(4, _), (3, _), (2, _), (0, _)]) rfl
  clear h34
  refine wp_skip ?_
  refine hK28 _ _ ?_
  refine wp_seq_k fun K36 hK36 => ?_
  refine wp_seq_k fun K37 hK37 => ?_
  refine wp_region_lit ?_
  refine sv h35 (wanted_none rfl) rfl rfl rfl (v := .int .i64 0) (rassign h35 rfl rfl) fun a39 h38 => ?_
  refine wpList_nil ?_
  refine hK37 _ _ ?_
  refine wp_block ?_
  refine wp_loop1 (fun (k : Nat) a' w' => Kn 102 [(5, .int .i64 (k : Int)), (4, .pointer (some ⟨rg, 0, none⟩)), (3, .pointer (some ⟨tg, 0, none⟩)), (2, .bool false), (0, .slice a0 n0 c0)] a' ∧ Sep w' [bothC tg gm wm rg gb wb lb k ((runT f k).1) ((runT f k).2), oldC W W.heap.size] ∧ (k ≤ 20)) (fun (k : Nat) => 20 - k) 0 ⟨h38.subs rfl, s23, by omega⟩ ?_
  clear h38 s23
  rintro k46 a40 w41 ⟨h42, s43, hk45⟩ K44 hK44
  refine wp_seq_k fun K47 hK47 => ?_
  refine wp_seq_k fun K48 hK48 => ?_
  refine wp_region_lit ?_
  refine sv h42 (wanted_none rfl) rfl rfl rfl (v := .int .i64 (k46 : Int)) (rmove h42 rfl rfl) fun a50 h49 => ?_
  refine sv h49 (wanted_none rfl) rfl rfl rfl (v := .slice a0 n0 c0) (rmove h49 rfl rfl) fun a52 h51 => ?_
  refine sv h51 (wanted_none rfl) rfl rfl rfl (v := .int .i64 (n0 : Int)) (rlenS h51 rfl rfl Try.underlying22) fun a54 h53 => ?_
  refine sv h53 (wanted_none rfl) rfl rfl rfl (v := .bool (decide ((k46 : Int) < (n0 : Int)))) (rbin h53 rfl rfl rfl (cLt _ _ _ _ rfl)) fun a56 h55 => ?_
  refine sv h55 (wanted_none rfl) rfl rfl rfl (v := .bool (decide ((k46 : Int) < (n0 : Int)))) (rmove h55 rfl rfl) fun a58 h57 => ?_
  refine sg h57 (wT h57 rfl rfl rfl) rfl rfl rfl (v := .int .i64 (k46 : Int)) (fun hC59 => by have hq := (of_decide_eq_true hC59); exact (rmove h57 rfl rfl) _) fun a61 h60 => ?_
  refine sg h60 (wT h60 rfl rfl rfl) rfl rfl rfl (v := .bool (decide ((k46 : Int) < 20))) (fun hC62 => by have hq := (of_decide_eq_true hC62); exact (rbin h60 rfl (opg rfl hC62) rfl (cLt _ _ _ _ rfl)) _) fun a64 h63 => ?_
  refine sv h63 (wanted_none rfl) rfl rfl rfl (v := .bool ((decide ((k46 : Int) < (n0 : Int))) && (decide ((k46 : Int) < 20)))) (rpickA h63 rfl (E := (decide ((k46 : Int) < (n0 : Int)))) (F := (decide ((k46 : Int) < 20))) rfl rfl rfl (fun e => if_pos (by rw [e]; try rfl))) fun a66 h65 => ?_
  have h67 := h65.subs (l' := [(26, _), (5, _), (4, _), (3, _), (2, _), (0, _)]) rfl
  clear h65 h42 h49 h51 h53 h55 h57 h60 h63 a40 a50 a52 a54 a56 a58 a61 a64
  refine wpList_nil ?_
  refine hK48 _ _ ?_
  rcases Bool.eq_false_or_eq_true ((decide ((k46 : Int) < (n0 : Int))) && (decide ((k46 : Int) < 20))) with hc68 | hc68
  · skip
    have hp69 : ((k46 : Int) < (n0 : Int)) ∧ ((k46 : Int) < 20) := (And.intro (of_decide_eq_true (andT hc68).1) (of_decide_eq_true (andT hc68).2))
    refine wp_condS h67 rfl hc68 ?_
    simp only [if_true]
    have h70 := h67.subs (l' := [(5, _), (4, _), (3, _), (2, _), (0, _)]) rfl
    clear h67
    refine wp_skip ?_
    refine hK47 _ _ ?_
    refine wp_seq_k fun K71 hK71 => ?_
    refine wp_block ?_
    refine wp_seq_k fun K72 hK72 => ?_
    refine wp_region_lit ?_
    refine sv h70 (wanted_none rfl) rfl rfl rfl (v := .slice a0 n0 c0) (rmove h70 rfl rfl) fun a74 h73 => ?_
    refine sv h73 (wanted_none rfl) rfl rfl rfl (v := .int .i64 (k46 : Int)) (rmove h73 rfl rfl) fun a76 h75 => ?_
    refine sv h75 (wanted_none rfl) rfl rfl rfl (v := .pointer (some ⟨bX, oX + k46 * 5, none⟩)) (rindexA h75 rfl rfl rfl (fun w => ixO Try.underlying22 (by kernel_rfl) (sz := 5) (hX (by omega)).1 (j := k46) rfl (by omega) rfl w)) fun a78 h77 => ?_
    refine sw h77 (wanted_none rfl) rfl rfl rfl (v := .agg #[.int .i64 ((f k46).k), .int .i64 ((f k46).now), .int .i64 ((f k46).c), .int .i64 ((f k46).i), .bool ((f k46).own)]) (rld h77 rfl rfl (ldX (sz := 5) (n := n0) (f := (fun i => deedC (f i))) Try.underlying29 rfl (by kernel_rfl) (fun _ => rfl) (hX (by omega)).2 (Nat.le_refl _) (s43.get 1 rfl : Below _ _ _ ∧ _) (j := k46) (by omega) rfl)) fun a80 h79 => ?_
    refine so (wanted_none rfl) fun K88 hK88 => xalloc h79 rfl rfl rfl rfl (z := [.int .i64 0, .int .i64 0, .int .i64 0, .int .i64 0, .bool false]) (fun _ => rfl) s43 fun a83 g81 w84 h82 s85 b86 e87 => hK88 _ _ ?_
    clear hK88 K88
    clear b86 e87
    refine so (wanted_none rfl) fun K94 hK94 => xstore h82 rfl rfl s85 0 rfl rfl rfl [.int .i64 ((f k46).k), .int .i64 ((f k46).now), .int .i64 ((f k46).c), .int .i64 ((f k46).i), .bool ((f k46).own)] rfl (by kernel_rfl) rfl (by show 0 + 5 ≤ 5; decide) (L' := [.int .i64 ((f k46).k), .int .i64 ((f k46).now), .int .i64 ((f k46).c), .int .i64 ((f k46).i), .bool ((f k46).own)]) rfl (cs' := [blkC g81 29 [.int .i64 ((f k46).k), .int .i64 ((f k46).now), .int .i64 ((f k46).c), .int .i64 ((f k46).i), .bool ((f k46).own)], bothC tg gm wm rg gb wb lb k46 ((runT f k46).1) ((runT f k46).2), oldC W W.heap.size]) rfl fun a90 w91 h89 s92 t93 => hK94 _ _ ?_
    clear hK94 K94
    clear t93
    have h95 := h89.subs (l' := [(6, _), (5, _), (4, _), (3, _), (2, _), (0, _)]) rfl
    clear h89 h70 h73 h75 h77 h79 h82 a66 a74 a76 a78 a80 a83
    refine wpList_nil ?_
    refine hK72 _ _ ?_
    refine wp_seq_k fun K96 hK96 => ?_
    refine wp_seq_k fun K97 hK97 => ?_
    refine wp_region_lit ?_
    refine sv h95 (wanted_none rfl) rfl rfl rfl (v := .pointer (some ⟨g81, 0, none⟩)) (rfa h95 rfl rfl (fun w => fa_commonslaw19_Deed_ln1_0 g81 0 w)) fun a99 h98 => ?_
    refine sw h98 (wanted_none rfl) rfl rfl rfl (v := .int .i64 ((f k46).k)) (rld h98 rfl rfl (ldB Try.underlying3 rfl (s92.get 0 rfl : Blk _ _ _ _) rfl)) fun a101 h100 => ?_
    refine sv h100 (wanted_none rfl) rfl rfl rfl (v := .bool (decide ((f k46).k = 0))) (rbin h100 rfl rfl rfl (cEq _ _ _ _ rfl)) fun a103 h102 => ?_
    have h104 := h102.subs (l' := [(35, _), (6, _), (5, _), (4, _), (3, _), (2, _), (0, _)]) rfl
    clear h102 h95 h98 h100 a90 a99 a101
    refine wpList_nil ?_
    refine hK97 _ _ ?_
    rcases Bool.eq_false_or_eq_true (decide ((f k46).k = 0)) with hc105 | hc105
    · skip
      have hp106 : (f k46).k = 0 := (of_decide_eq_true hc105)
      refine wp_condS h104 rfl hc105 ?_
      simp only [if_true]
      have h107 := h104.subs (l' := [(6, _), (5, _), (4, _), (3, _), (2, _), (0, _)]) rfl
      clear h104
      refine wp_seq_k fun K108 hK108 => ?_
      refine wp_region_lit ?_
      refine sv h107 (wanted_none rfl) rfl rfl rfl (v := .pointer (some ⟨tg, 0, none⟩)) (rmove h107 rfl rfl) fun a110 h109 => ?_
      refine sv h109 (wanted_none rfl) rfl rfl rfl (v := .pointer (some ⟨g81, 1, none⟩)) (rfa h109 rfl rfl (fun w => fa_commonslaw19_Deed_ln1_1 g81 0 w)) fun a112 h111 => ?_
      refine sw h111 (wanted_none rfl) rfl rfl rfl (v := .int .i64 ((f k46).now)) (rld h111 rfl rfl (ldB Try.underlying3 rfl (s92.get 0 rfl : Blk _ _ _ _) rfl)) fun a114 h113 => ?_
      refine sv h113 (wanted_none rfl) rfl rfl rfl (v := .pointer (some ⟨g81, 2, none⟩)) (rfa h113 rfl rfl (fun w => fa_commonslaw19_Deed_ln1_2 g81 0 w)) fun a116 h115 => ?_
      refine sw h115 (wanted_none rfl) rfl rfl rfl (v := .int .i64 ((f k46).c)) (rld h115 rfl rfl (ldB Try.underlying3 rfl (s92.get 0 rfl : Blk _ _ _ _) rfl)) fun a118 h117 => ?_
      refine sv h117 (wanted_none rfl) rfl rfl rfl (v := .pointer (some ⟨g81, 3, none⟩)) (rfa h117 rfl rfl (fun w => fa_commonslaw19_Deed_ln1_3 g81 0 w)) fun a120 h119 => ?_
      refine sw h119 (wanted_none rfl) rfl rfl rfl (v := .int .i64 ((f k46).i)) (rld h119 rfl rfl (ldB Try.underlying3 rfl (s92.get 0 rfl : Blk _ _ _ _) rfl)) fun a122 h121 => ?_
      refine sv h121 (wanted_none rfl) rfl rfl rfl (v := .pointer (some ⟨g81, 4, none⟩)) (rfa h121 rfl rfl (fun w => fa_commonslaw19_Deed_ln1_4 g81 0 w)) fun a124 h123 => ?_
      refine sw h123 (wanted_none rfl) rfl rfl rfl (v := .bool ((f k46).own)) (rld h123 rfl rfl (ldB Try.underlying4 rfl (s92.get 0 rfl : Blk _ _ _ _) rfl)) fun a126 h125 => ?_
      obtain ⟨n127, m128, G129, W130, L131, hn132, hm133, s134x, hR135, hok136, hwo137⟩ := both_open ((s92.pick [1, 0, 2] (by decide) rfl) : Sep _ [bothC tg gm wm rg gb wb lb k46 ((runT f k46).1) ((runT f k46).2), blkC g81 29 [.int .i64 ((f k46).k), .int .i64 ((f k46).now), .int .i64 ((f k46).c), .int .i64 ((f k46).i), .bool ((f k46).own)], oldC W W.heap.size])
      have s134 : Sep w91 [blkC tg 54 [.map (some gm), .map (some wm)], mapC KG gm n127 ((runT f k46).1), mapC KW wm m128 ((runT f k46).2), blkC rg 43 [.slice (some ⟨gb, 0, none⟩) 297 297, .slice (some ⟨wb, 0, none⟩) 33 33, .slice (some ⟨lb, 0, none⟩) 33 33], blkC gb 58 (G129.flatMap g3C), blkC wb 3 (W130.map iV), blkC lb 3 (L131.map iV), blkC g81 29 [.int .i64 ((f k46).k), .int .i64 ((f k46).now), .int .i64 ((f k46).c), .int .i64 ((f k46).i), .bool ((f k46).own)], oldC W W.heap.size] := s134x; clear s134x; obtain ⟨hG138, hW139, hL140⟩ := hR135.n
      refine so (wanted_none rfl) fun K151 hK151 => xcall h125 rfl rfl rfl (xs := [.tmp 37, .tmp 39, .tmp 41, .tmp 43, .tmp 45]) rfl cp_lease_Table_Ask_ln1 rfl (vs := [.pointer (some ⟨tg, 0, none⟩), .int .i64 ((f k46).now), .int .i64 ((f k46).c), .int .i64 ((f k46).i), .bool ((f k46).own)]) rfl (args := #[.pointer (some ⟨tg, 0, none⟩), .int .i64 ((f k46).now), .int .i64 ((f k46).c), .int .i64 ((f k46).i), .bool ((f k46).own)]) rfl (askT_s (tg := tg) (gm := gm) (wm := wm) (R := [blkC rg 43 [.slice (some ⟨gb, 0, none⟩) 297 297, .slice (some ⟨wb, 0, none⟩) 33 33, .slice (some ⟨lb, 0, none⟩) 33 33], blkC gb 58 (G129.flatMap g3C), blkC wb 3 (W130.map iV), blkC lb 3 (L131.map iV), blkC g81 29 [.int .i64 ((f k46).k), .int .i64 ((f k46).now), .int .i64 ((f k46).c), .int .i64 ((f k46).i), .bool ((f k46).own)], oldC W W.heap.size]) (s134 : Sep _ [blkC tg 54 [.map (some gm), .map (some wm)], mapC KG gm n127 ((runT f k46).1), mapC KW wm m128 ((runT f k46).2), blkC rg 43 [.slice (some ⟨gb, 0, none⟩) 297 297, .slice (some ⟨wb, 0, none⟩) 33 33, .slice (some ⟨lb, 0, none⟩) 33 33], blkC gb 58 (G129.flatMap g3C), blkC wb 3 (W130.map iV), blkC lb 3 (L131.map iV), blkC g81 29 [.int .i64 ((f k46).k), .int .i64 ((f k46).now), .int .i64 ((f k46).c), .int .i64 ((f k46).i), .bool ((f k46).own)], oldC W W.heap.size]) hok136 (by omega) (by omega) ((f k46).now) ((f k46).c) ((f k46).i) ((f k46).own)) fun a146 v147 w148 r149 h145 => hK151 _ _ ?_
      clear hK151 K151
      obtain ⟨lax141, lcx142, nx143, mx144, rfl, s150, hn149, hm149⟩ := r149
      refine sv h145 (wanted_none rfl) rfl rfl rfl (v := .tuple #[.slice lax141 ((askLst ((runT f k46).1) ((f k46).now) ((f k46).c) ((f k46).i) ((f k46).own)).length) lcx142, .int .i64 (askE ((runT f k46).1) ((runT f k46).2) ((f k46).now) ((f k46).c) ((f k46).i) ((f k46).own))]) (rmove h145 rfl rfl) fun a153 h152 => ?_
      refine sv h152 (wanted_none rfl) rfl rfl rfl (v := .slice lax141 ((askLst ((runT f k46).1) ((f k46).now) ((f k46).c) ((f k46).i) ((f k46).own)).length) lcx142) (rext h152 rfl rfl rfl) fun a155 h154 => ?_
      refine sv h154 (wanted_none rfl) rfl rfl rfl (v := .int .i64 (askE ((runT f k46).1) ((runT f k46).2) ((f k46).now) ((f k46).c) ((f k46).i) ((f k46).own))) (rext h154 rfl rfl rfl) fun a157 h156 => ?_
      refine sv h156 (wanted_none rfl) rfl rfl rfl (v := .slice lax141 ((askLst ((runT f k46).1) ((f k46).now) ((f k46).c) ((f k46).i) ((f k46).own)).length) lcx142) (rassign h156 rfl rfl) fun a159 h158 => ?_
      refine sv h158 (wanted_none rfl) rfl rfl rfl (v := .int .i64 (askE ((runT f k46).1) ((runT f k46).2) ((f k46).now) ((f k46).c) ((f k46).i) ((f k46).own))) (rassign h158 rfl rfl) fun a161 h160 => ?_
      have h162 := h160.subs (l' := [(7, _), (6, _), (5, _), (4, _), (3, _), (2, _), (0, _)]) rfl
      clear h160 h107 h109 h111 h113 h115 h117 h119 h121 h123 h125 h145 h152 h154 h156 h158 a103 a110 a112 a114 a116 a118 a120 a122 a124 a126 a146 a153 a155 a157 a159
      refine wpList_nil ?_
      refine hK108 _ _ ?_
      refine wp_seq_k fun K163 hK163 => ?_
      refine wp_region_lit ?_
      refine sv h162 (wanted_none rfl) rfl rfl rfl (v := .pointer (some ⟨rg, 0, none⟩)) (rmove h162 rfl rfl) fun a165 h164 => ?_
      refine sv h164 (wanted_none rfl) rfl rfl rfl (v := .pointer (some ⟨g81, 1, none⟩)) (rfa h164 rfl rfl (fun w => fa_commonslaw19_Deed_ln1_1 g81 0 w)) fun a167 h166 => ?_
      refine sw h166 (wanted_none rfl) rfl rfl rfl (v := .int .i64 ((f k46).now)) (rld h166 rfl rfl (ldB Try.underlying3 rfl (s150.get 8 rfl : Blk _ _ _ _) rfl)) fun a169 h168 => ?_
      refine sv h168 (wanted_none rfl) rfl rfl rfl (v := .pointer (some ⟨g81, 2, none⟩)) (rfa h168 rfl rfl (fun w => fa_commonslaw19_Deed_ln1_2 g81 0 w)) fun a171 h170 => ?_
      refine sw h170 (wanted_none rfl) rfl rfl rfl (v := .int .i64 ((f k46).c)) (rld h170 rfl rfl (ldB Try.underlying3 rfl (s150.get 8 rfl : Blk _ _ _ _) rfl)) fun a173 h172 => ?_
      refine sv h172 (wanted_none rfl) rfl rfl rfl (v := .pointer (some ⟨g81, 3, none⟩)) (rfa h172 rfl rfl (fun w => fa_commonslaw19_Deed_ln1_3 g81 0 w)) fun a175 h174 => ?_
      refine sw h174 (wanted_none rfl) rfl rfl rfl (v := .int .i64 ((f k46).i)) (rld h174 rfl rfl (ldB Try.underlying3 rfl (s150.get 8 rfl : Blk _ _ _ _) rfl)) fun a177 h176 => ?_
      refine sv h176 (wanted_none rfl) rfl rfl rfl (v := .pointer (some ⟨g81, 4, none⟩)) (rfa h176 rfl rfl (fun w => fa_commonslaw19_Deed_ln1_4 g81 0 w)) fun a179 h178 => ?_
      refine sw h178 (wanted_none rfl) rfl rfl rfl (v := .bool ((f k46).own)) (rld h178 rfl rfl (ldB Try.underlying4 rfl (s150.get 8 rfl : Blk _ _ _ _) rfl)) fun a181 h180 => ?_
      refine so (wanted_none rfl) fun K193 hK193 => xcall h180 rfl rfl rfl (xs := [.tmp 49, .tmp 51, .tmp 53, .tmp 55, .tmp 57]) rfl cp_commonsref19_Table_Ask_ln1 rfl (vs := [.pointer (some ⟨rg, 0, none⟩), .int .i64 ((f k46).now), .int .i64 ((f k46).c), .int .i64 ((f k46).i), .bool ((f k46).own)]) rfl (args := #[.pointer (some ⟨rg, 0, none⟩), .int .i64 ((f k46).now), .int .i64 ((f k46).c), .int .i64 ((f k46).i), .bool ((f k46).own)]) rfl (askR_any (R := [ownC 0 3 1 lax141 (askLst ((runT f k46).1) ((f k46).now) ((f k46).c) ((f k46).i) ((f k46).own)).length lcx142 ((askLst ((runT f k46).1) ((f k46).now) ((f k46).c) ((f k46).i) ((f k46).own)).map iV), blkC tg 54 [.map (some gm), .map (some wm)], mapC KG gm nx143 (askG ((runT f k46).1) ((runT f k46).2) ((f k46).now) ((f k46).c) ((f k46).i) ((f k46).own)), mapC KW wm mx144 (askW ((runT f k46).1) ((runT f k46).2) ((f k46).now) ((f k46).c) ((f k46).i) ((f k46).own)), blkC g81 29 [.int .i64 ((f k46).k), .int .i64 ((f k46).now), .int .i64 ((f k46).c), .int .i64 ((f k46).i), .bool ((f k46).own)], oldC W W.heap.size]) ((s150.pick [4, 5, 6, 7, 0, 1, 2, 3, 8, 9] (by decide) rfl) : Sep _ [blkC rg 43 [.slice (some ⟨gb, 0, none⟩) 297 297, .slice (some ⟨wb, 0, none⟩) 33 33, .slice (some ⟨lb, 0, none⟩) 33 33], blkC gb 58 (G129.flatMap g3C), blkC wb 3 (W130.map iV), blkC lb 3 (L131.map iV), ownC 0 3 1 lax141 (askLst ((runT f k46).1) ((f k46).now) ((f k46).c) ((f k46).i) ((f k46).own)).length lcx142 ((askLst ((runT f k46).1) ((f k46).now) ((f k46).c) ((f k46).i) ((f k46).own)).map iV), blkC tg 54 [.map (some gm), .map (some wm)], mapC KG gm nx143 (askG ((runT f k46).1) ((runT f k46).2) ((f k46).now) ((f k46).c) ((f k46).i) ((f k46).own)), mapC KW wm mx144 (askW ((runT f k46).1) ((runT f k46).2) ((f k46).now) ((f k46).c) ((f k46).i) ((f k46).own)), blkC g81 29 [.int .i64 ((f k46).k), .int .i64 ((f k46).now), .int .i64 ((f k46).c), .int .i64 ((f k46).i), .bool ((f k46).own)], oldC W W.heap.size]) hR135 (hw k46 (by omega)).2.1 (hw k46 (by omega)).2.2.1 (hw k46 (by omega)).2.2.2) fun a188 v189 w190 r191 h187 => hK193 _ _ ?_
      clear hK193 K193
      obtain ⟨lax182, lcx183, Gx184, Wx185, Lx186, rfl, s192, hR191⟩ := r191
      have hok194 := hok136.ask ((runT f k46).2) ((f k46).now) ((f k46).c) ((f k46).i) ((f k46).own)
      have hwo195 := hwo137.ask ((runT f k46).1) ((f k46).now) ((f k46).c) ((f k46).i) ((f k46).own)
      have h196 := h187.subs (l' := [(7, _), (6, _), (5, _), (4, _), (3, _), (2, _), (0, _)]) rfl
      clear h187 h162 h164 h166 h168 h170 h172 h174 h176 h178 h180 a161 a165 a167 a169 a171 a173 a175 a177 a179 a181
      refine wpList_nil ?_
      refine hK163 _ _ ?_
      refine wp_seq_k fun K197 hK197 => ?_
      refine wp_region_lit ?_
      refine sv h196 (wanted_none rfl) rfl rfl rfl (v := .int .i64 0) (rassign h196 rfl rfl) fun a199 h198 => ?_
      refine wpList_nil ?_
      refine hK197 _ _ ?_
      refine wp_block ?_
      have hA200 := askLst_8 ((runT f k46).1) ((f k46).now) ((f k46).c) ((f k46).i) ((f k46).own)
      refine wp_loop2 (fun (y : Nat) (M : List Int) a' w' => Kn 102 [(9, .int .i64 (y : Int)), (7, .slice lax141 ((askLst ((runT f k46).1) ((f k46).now) ((f k46).c) ((f k46).i) ((f k46).own)).length) lcx142), (6, .pointer (some ⟨g81, 0, none⟩)), (5, .int .i64 (k46 : Int)), (4, .pointer (some ⟨rg, 0, none⟩)), (3, .pointer (some ⟨tg, 0, none⟩)), (2, .bool false), (0, .slice a0 n0 c0)] a' ∧ Sep w' [ownC 0 3 1 lax182 (askLst ((runT f k46).1) ((f k46).now) ((f k46).c) ((f k46).i) ((f k46).own)).length lcx183 ((askLst ((runT f k46).1) ((f k46).now) ((f k46).c) ((f k46).i) ((f k46).own)).map iV), blkC rg 43 [.slice (some ⟨gb, 0, none⟩) 297 297, .slice (some ⟨wb, 0, none⟩) 33 33, .slice (some ⟨lb, 0, none⟩) 33 33], blkC gb 58 (Gx184.flatMap g3C), blkC wb 3 (Wx185.map iV), blkC lb 3 (Lx186.map iV), ownC 0 3 1 lax141 M.length lcx142 (M.map iV), blkC tg 54 [.map (some gm), .map (some wm)], mapC KG gm nx143 (askG ((runT f k46).1) ((runT f k46).2) ((f k46).now) ((f k46).c) ((f k46).i) ((f k46).own)), mapC KW wm mx144 (askW ((runT f k46).1) ((runT f k46).2) ((f k46).now) ((f k46).c) ((f k46).i) ((f k46).own)), blkC g81 29 [.int .i64 ((f k46).k), .int .i64 ((f k46).now), .int .i64 ((f k46).c), .int .i64 ((f k46).i), .bool ((f k46).own)], oldC W W.heap.size] ∧ (M.length = (askLst ((runT f k46).1) ((f k46).now) ((f k46).c) ((f k46).i) ((f k46).own)).length)) (fun (y : Nat) (M : List Int) => (askLst ((runT f k46).1) ((f k46).now) ((f k46).c) ((f k46).i) ((f k46).own)).length - y) 0 (askLst ((runT f k46).1) ((f k46).now) ((f k46).c) ((f k46).i) ((f k46).own)) ⟨h198.subs rfl, s192, rfl⟩ ?_
      clear h198 s192
      rintro y207 M208 a201 w202 ⟨h203, s204, hM206⟩ K205 hK205
      refine wp_seq_k fun K209 hK209 => ?_
      refine wp_seq_k fun K210 hK210 => ?_
      refine wp_region_lit ?_
      refine sv h203 (wanted_none rfl) rfl rfl rfl (v := .int .i64 (y207 : Int)) (rmove h203 rfl rfl) fun a212 h211 => ?_
      refine sv h211 (wanted_none rfl) rfl rfl rfl (v := .slice lax141 ((askLst ((runT f k46).1) ((f k46).now) ((f k46).c) ((f k46).i) ((f k46).own)).length) lcx142) (rmove h211 rfl rfl) fun a214 h213 => ?_
      refine sv h213 (wanted_none rfl) rfl rfl rfl (v := .int .i64 (((askLst ((runT f k46).1) ((f k46).now) ((f k46).c) ((f k46).i) ((f k46).own)).length : Nat) : Int)) (rlenS h213 rfl rfl Try.underlying38) fun a216 h215 => ?_
      refine sv h215 (wanted_none rfl) rfl rfl rfl (v := .bool (decide ((y207 : Int) < (((askLst ((runT f k46).1) ((f k46).now) ((f k46).c) ((f k46).i) ((f k46).own)).length : Nat) : Int)))) (rbin h215 rfl rfl rfl (cLt _ _ _ _ rfl)) fun a218 h217 => ?_
      have h219 := h217.subs (l' := [(62, _), (9, _), (7, _), (6, _), (5, _), (4, _), (3, _), (2, _), (0, _)]) rfl
      clear h217 h203 h211 h213 h215 a201 a212 a214 a216
      refine wpList_nil ?_
      refine hK210 _ _ ?_
      rcases Bool.eq_false_or_eq_true (decide ((y207 : Int) < (((askLst ((runT f k46).1) ((f k46).now) ((f k46).c) ((f k46).i) ((f k46).own)).length : Nat) : Int))) with hc220 | hc220
      · skip
        have hp221 : (y207 : Int) < (((askLst ((runT f k46).1) ((f k46).now) ((f k46).c) ((f k46).i) ((f k46).own)).length : Nat) : Int) := (of_decide_eq_true hc220)
        refine wp_condS h219 rfl hc220 ?_
        simp only [if_true]
        have h222 := h219.subs (l' := [(9, _), (7, _), (6, _), (5, _), (4, _), (3, _), (2, _), (0, _)]) rfl
        clear h219
        refine wp_skip ?_
        refine hK209 _ _ ?_
        refine wp_seq_k fun K223 hK223 => ?_
        refine wp_block ?_
        refine wp_region_lit ?_
        refine sv h222 (wanted_none rfl) rfl rfl rfl (v := .slice lax141 ((askLst ((runT f k46).1) ((f k46).now) ((f k46).c) ((f k46).i) ((f k46).own)).length) lcx142) (rmove h222 rfl rfl) fun a225 h224 => ?_
        refine sv h224 (wanted_none rfl) rfl rfl rfl (v := .int .i64 (y207 : Int)) (rmove h224 rfl rfl) fun a227 h226 => ?_
        obtain ⟨q228, hq229⟩ := own_addr (s204.get 5 rfl : Own _ _ _ _ _ _ _ _)
        refine sv h226 (wanted_none rfl) rfl rfl rfl (v := .pointer (some ⟨q228, y207, none⟩)) (rindexA h226 rfl rfl rfl (fun w => ixO Try.underlying38 (by kernel_rfl) (sz := 1) (hq229 (by omega)) (j := y207) rfl (by omega) (by omega) w)) fun a231 h230 => ?_
        refine so (wanted_none rfl) fun K236 hK236 => xstoreOI h230 rfl rfl s204 5 rfl (hq229 (by omega)) rfl rfl (by kernel_rfl) (by omega) (n' := (M208.set y207 77).length) (by rw [List.length_set]) fun a233 w234 h232 s235 => hK236 _ _ ?_
        clear hK236 K236
        have s237 : Sep w234 [ownC 0 3 1 lax182 (askLst ((runT f k46).1) ((f k46).now) ((f k46).c) ((f k46).i) ((f k46).own)).length lcx183 ((askLst ((runT f k46).1) ((f k46).now) ((f k46).c) ((f k46).i) ((f k46).own)).map iV), blkC rg 43 [.slice (some ⟨gb, 0, none⟩) 297 297, .slice (some ⟨wb, 0, none⟩) 33 33, .slice (some ⟨lb, 0, none⟩) 33 33], blkC gb 58 (Gx184.flatMap g3C), blkC wb 3 (Wx185.map iV), blkC lb 3 (Lx186.map iV), ownC 0 3 1 lax141 (M208.set y207 77).length lcx142 ((M208.set y207 77).map iV), blkC tg 54 [.map (some gm), .map (some wm)], mapC KG gm nx143 (askG ((runT f k46).1) ((runT f k46).2) ((f k46).now) ((f k46).c) ((f k46).i) ((f k46).own)), mapC KW wm mx144 (askW ((runT f k46).1) ((runT f k46).2) ((f k46).now) ((f k46).c) ((f k46).i) ((f k46).own)), blkC g81 29 [.int .i64 ((f k46).k), .int .i64 ((f k46).now), .int .i64 ((f k46).c), .int .i64 ((f k46).i), .bool ((f k46).own)], oldC W W.heap.size] := s235; clear s235
        have h238 := h232.subs (l' := [(9, _), (7, _), (6, _), (5, _), (4, _), (3, _), (2, _), (0, _)]) rfl
        clear h232 h222 h224 h226 h230 a218 a225 a227 a231
        refine wpList_nil ?_
        refine hK223 _ _ ?_
        refine wp_region_lit ?_
        refine sv h238 (wanted_none rfl) rfl rfl rfl (v := .int .i64 (y207 : Int)) (rmove h238 rfl rfl) fun a240 h239 => ?_
        refine sv h239 (wanted_none rfl) rfl rfl rfl (v := .int .i64 ((y207 + 1 : Nat) : Int)) (rbin h239 rfl rfl rfl (bAdd _ _ _ (by omega) (by omega) (by omega))) fun a242 h241 => ?_
        have h243 := h241.subs (l' := [(64, _), (63, _), (7, _), (6, _), (5, _), (4, _), (3, _), (2, _), (0, _)]) rfl
        clear h241 h238 h239 a233 a240
        refine sv h243 (wanted_none rfl) rfl rfl rfl (v := .int .i64 ((y207 + 1 : Nat) : Int)) (rassign h243 rfl rfl) fun a245 h244 => ?_
        have h246 := h244.subs (l' := [(9, _), (7, _), (6, _), (5, _), (4, _), (3, _), (2, _), (0, _)]) rfl
        clear h244 h243 a242
        refine wpList_nil ?_
        exact hK205 (y207 + 1) (M208.set y207 77) _ _ ⟨h246.subs rfl, s237, by rw [List.length_set]; exact hM206⟩ (by omega)
      · skip
        have hp247 : ¬ ((y207 : Int) < (((askLst ((runT f k46).1) ((f k46).now) ((f k46).c) ((f k46).i) ((f k46).own)).length : Nat) : Int)) := (of_decide_eq_false hc220)
        refine wp_condS h219 rfl hc220 ?_
        simp only [Bool.false_eq_true, if_false]
        have h248 := h219.subs (l' := [(9, _), (7, _), (6, _), (5, _), (4, _), (3, _), (2, _), (0, _)]) rfl
        clear h219
        refine wp_exit ?_
        refine hK96 _ _ ?_
        refine wp_seq_k fun K249 hK249 => ?_
        refine wp_region_lit ?_
        refine sv h248 (wanted_none rfl) rfl rfl rfl (v := .pointer (some ⟨tg, 0, none⟩)) (rmove h248 rfl rfl) fun a251 h250 => ?_
        refine so (wanted_none rfl) fun K260 hK260 => xcall h250 rfl rfl rfl (xs := [.tmp 72]) rfl cp_lease_Table_All_ln1 rfl (vs := [.pointer (some ⟨tg, 0, none⟩)]) rfl (args := #[.pointer (some ⟨tg, 0, none⟩)]) rfl (allT_h (tg := tg) (gm := gm) (wm := wm) (R := [ownC 0 3 1 lax182 (askLst ((runT f k46).1) ((f k46).now) ((f k46).c) ((f k46).i) ((f k46).own)).length lcx183 ((askLst ((runT f k46).1) ((f k46).now) ((f k46).c) ((f k46).i) ((f k46).own)).map iV), blkC rg 43 [.slice (some ⟨gb, 0, none⟩) 297 297, .slice (some ⟨wb, 0, none⟩) 33 33, .slice (some ⟨lb, 0, none⟩) 33 33], blkC gb 58 (Gx184.flatMap g3C), blkC wb 3 (Wx185.map iV), blkC lb 3 (Lx186.map iV), ownC 0 3 1 lax141 M208.length lcx142 (M208.map iV), blkC g81 29 [.int .i64 ((f k46).k), .int .i64 ((f k46).now), .int .i64 ((f k46).c), .int .i64 ((f k46).i), .bool ((f k46).own)], oldC W W.heap.size]) ((s204.pick [6, 7, 8, 0, 1, 2, 3, 4, 5, 9, 10] (by decide) rfl) : Sep _ [blkC tg 54 [.map (some gm), .map (some wm)], mapC KG gm nx143 (askG ((runT f k46).1) ((runT f k46).2) ((f k46).now) ((f k46).c) ((f k46).i) ((f k46).own)), mapC KW wm mx144 (askW ((runT f k46).1) ((runT f k46).2) ((f k46).now) ((f k46).c) ((f k46).i) ((f k46).own)), ownC 0 3 1 lax182 (askLst ((runT f k46).1) ((f k46).now) ((f k46).c) ((f k46).i) ((f k46).own)).length lcx183 ((askLst ((runT f k46).1) ((f k46).now) ((f k46).c) ((f k46).i) ((f k46).own)).map iV), blkC rg 43 [.slice (some ⟨gb, 0, none⟩) 297 297, .slice (some ⟨wb, 0, none⟩) 33 33, .slice (some ⟨lb, 0, none⟩) 33 33], blkC gb 58 (Gx184.flatMap g3C), blkC wb 3 (Wx185.map iV), blkC lb 3 (Lx186.map iV), ownC 0 3 1 lax141 M208.length lcx142 (M208.map iV), blkC g81 29 [.int .i64 ((f k46).k), .int .i64 ((f k46).now), .int .i64 ((f k46).c), .int .i64 ((f k46).i), .bool ((f k46).own)], oldC W W.heap.size]) hok194) fun a255 v256 w257 r258 h254 => hK260 _ _ ?_
        clear hK260 K260
        obtain ⟨lax252, lcx253, rfl, s259⟩ := r258
        have hA261 := allK_256 (askG ((runT f k46).1) ((runT f k46).2) ((f k46).now) ((f k46).c) ((f k46).i) ((f k46).own)); have hA262 := allH_len (askG ((runT f k46).1) ((runT f k46).2) ((f k46).now) ((f k46).c) ((f k46).i) ((f k46).own))
        refine sv h254 (wanted_none rfl) rfl rfl rfl (v := .slice lax252 ((allH (askG ((runT f k46).1) ((runT f k46).2) ((f k46).now) ((f k46).c) ((f k46).i) ((f k46).own))).length) lcx253) (rassign h254 rfl rfl) fun a264 h263 => ?_
        have h265 := h263.subs (l' := [(10, _), (9, _), (7, _), (6, _), (5, _), (4, _), (3, _), (2, _), (0, _)]) rfl
        clear h263 h248 h250 h254 a218 a251 a255
        refine wpList_nil ?_
        refine hK249 _ _ ?_
        refine wp_seq_k fun K266 hK266 => ?_
        refine wp_seq_k fun K267 hK267 => ?_
        refine wp_region_lit ?_
        refine sv h265 (wanted_none rfl) rfl rfl rfl (v := .int .i64 0) (rassign h265 rfl rfl) fun a269 h268 => ?_
        refine wpList_nil ?_
        refine hK267 _ _ ?_
        refine wp_block ?_
        refine wp_loop2 (fun (y : Nat) (M : List H4) a' w' => Kn 102 [(11, .int .i64 (y : Int)), (10, .slice lax252 ((allH (askG ((runT f k46).1) ((runT f k46).2) ((f k46).now) ((f k46).c) ((f k46).i) ((f k46).own))).length) lcx253), (9, .int .i64 (y207 : Int)), (7, .slice lax141 ((askLst ((runT f k46).1) ((f k46).now) ((f k46).c) ((f k46).i) ((f k46).own)).length) lcx142), (6, .pointer (some ⟨g81, 0, none⟩)), (5, .int .i64 (k46 : Int)), (4, .pointer (some ⟨rg, 0, none⟩)), (3, .pointer (some ⟨tg, 0, none⟩)), (2, .bool false), (0, .slice a0 n0 c0)] a' ∧ Sep w' [ownC 0 36 4 lax252 M.length lcx253 (M.flatMap h4C), blkC tg 54 [.map (some gm), .map (some wm)], mapC KG gm nx143 (askG ((runT f k46).1) ((runT f k46).2) ((f k46).now) ((f k46).c) ((f k46).i) ((f k46).own)), mapC KW wm mx144 (askW ((runT f k46).1) ((runT f k46).2) ((f k46).now) ((f k46).c) ((f k46).i) ((f k46).own)), ownC 0 3 1 lax182 (askLst ((runT f k46).1) ((f k46).now) ((f k46).c) ((f k46).i) ((f k46).own)).length lcx183 ((askLst ((runT f k46).1) ((f k46).now) ((f k46).c) ((f k46).i) ((f k46).own)).map iV), blkC rg 43 [.slice (some ⟨gb, 0, none⟩) 297 297, .slice (some ⟨wb, 0, none⟩) 33 33, .slice (some ⟨lb, 0, none⟩) 33 33], blkC gb 58 (Gx184.flatMap g3C), blkC wb 3 (Wx185.map iV), blkC lb 3 (Lx186.map iV), ownC 0 3 1 lax141 M208.length lcx142 (M208.map iV), blkC g81 29 [.int .i64 ((f k46).k), .int .i64 ((f k46).now), .int .i64 ((f k46).c), .int .i64 ((f k46).i), .bool ((f k46).own)], oldC W W.heap.size] ∧ (M.length = (allH (askG ((runT f k46).1) ((runT f k46).2) ((f k46).now) ((f k46).c) ((f k46).i) ((f k46).own))).length)) (fun (y : Nat) (M : List H4) => (allH (askG ((runT f k46).1) ((runT f k46).2) ((f k46).now) ((f k46).c) ((f k46).i) ((f k46).own))).length - y) 0 (allH (askG ((runT f k46).1) ((runT f k46).2) ((f k46).now) ((f k46).c) ((f k46).i) ((f k46).own))) ⟨h268.subs rfl, s259, rfl⟩ ?_
        clear h268 s259
        rintro y276 M277 a270 w271 ⟨h272, s273, hM275⟩ K274 hK274
        refine wp_seq_k fun K278 hK278 => ?_
        refine wp_seq_k fun K279 hK279 => ?_
        refine wp_region_lit ?_
        refine sv h272 (wanted_none rfl) rfl rfl rfl (v := .int .i64 (y276 : Int)) (rmove h272 rfl rfl) fun a281 h280 => ?_
        refine sv h280 (wanted_none rfl) rfl rfl rfl (v := .slice lax252 ((allH (askG ((runT f k46).1) ((runT f k46).2) ((f k46).now) ((f k46).c) ((f k46).i) ((f k46).own))).length) lcx253) (rmove h280 rfl rfl) fun a283 h282 => ?_
        refine sv h282 (wanted_none rfl) rfl rfl rfl (v := .int .i64 (((allH (askG ((runT f k46).1) ((runT f k46).2) ((f k46).now) ((f k46).c) ((f k46).i) ((f k46).own))).length : Nat) : Int)) (rlenS h282 rfl rfl Try.underlying33) fun a285 h284 => ?_
        refine sv h284 (wanted_none rfl) rfl rfl rfl (v := .bool (decide ((y276 : Int) < (((allH (askG ((runT f k46).1) ((runT f k46).2) ((f k46).now) ((f k46).c) ((f k46).i) ((f k46).own))).length : Nat) : Int)))) (rbin h284 rfl rfl rfl (cLt _ _ _ _ rfl)) fun a287 h286 => ?_
        have h288 := h286.subs (l' := [(77, _), (11, _), (10, _), (9, _), (7, _), (6, _), (5, _), (4, _), (3, _), (2, _), (0, _)]) rfl
        clear h286 h272 h280 h282 h284 a270 a281 a283 a285
        refine wpList_nil ?_
        refine hK279 _ _ ?_
        rcases Bool.eq_false_or_eq_true (decide ((y276 : Int) < (((allH (askG ((runT f k46).1) ((runT f k46).2) ((f k46).now) ((f k46).c) ((f k46).i) ((f k46).own))).length : Nat) : Int))) with hc289 | hc289
        · skip
          have hp290 : (y276 : Int) < (((allH (askG ((runT f k46).1) ((runT f k46).2) ((f k46).now) ((f k46).c) ((f k46).i) ((f k46).own))).length : Nat) : Int) := (of_decide_eq_true hc289)
          refine wp_condS h288 rfl hc289 ?_
          simp only [if_true]
          have h291 := h288.subs (l' := [(11, _), (10, _), (9, _), (7, _), (6, _), (5, _), (4, _), (3, _), (2, _), (0, _)]) rfl
          clear h288
          refine wp_skip ?_
          refine hK278 _ _ ?_
          refine wp_seq_k fun K292 hK292 => ?_
          refine wp_block ?_
          refine wp_region_lit ?_
          refine sv h291 (wanted_none rfl) rfl rfl rfl (v := .slice lax252 ((allH (askG ((runT f k46).1) ((runT f k46).2) ((f k46).now) ((f k46).c) ((f k46).i) ((f k46).own))).length) lcx253) (rmove h291 rfl rfl) fun a294 h293 => ?_
          refine sv h293 (wanted_none rfl) rfl rfl rfl (v := .int .i64 (y276 : Int)) (rmove h293 rfl rfl) fun a296 h295 => ?_
          refine sv h295 (wanted_none rfl) rfl rfl rfl (v := .agg #[.int .i64 0, .int .i64 0, .bool false, .int .i64 0]) (rbuild h295 (xs := []) rfl (vs := []) rfl (fun w => by kernel_rfl)) fun a298 h297 => ?_
          obtain ⟨q299, hq300⟩ := own_addr (s273.get 0 rfl : Own _ _ _ _ _ _ _ _)
          refine sv h297 (wanted_none rfl) rfl rfl rfl (v := .pointer (some ⟨q299, y276 * 4, none⟩)) (rindexA h297 rfl rfl rfl (fun w => ixO Try.underlying33 (by kernel_rfl) (sz := 4) (hq300 (by omega)) (j := y276) rfl (by omega) (by omega) w)) fun a302 h301 => ?_
          refine so (wanted_none rfl) fun K307 hK307 => xstoreO h4C_len h301 rfl rfl s273 0 rfl (hq300 (by omega)) rfl rfl (0, 0, false, 0) rfl (by kernel_rfl) rfl (by omega) rfl (n' := (M277.set y276 (0, 0, false, 0)).length) (by rw [List.length_set]) fun a304 w305 h303 s306 => hK307 _ _ ?_
          clear hK307 K307
          have s308 : Sep w305 [ownC 0 36 4 lax252 (M277.set y276 (0, 0, false, 0)).length lcx253 ((M277.set y276 (0, 0, false, 0)).flatMap h4C), blkC tg 54 [.map (some gm), .map (some wm)], mapC KG gm nx143 (askG ((runT f k46).1) ((runT f k46).2) ((f k46).now) ((f k46).c) ((f k46).i) ((f k46).own)), mapC KW wm mx144 (askW ((runT f k46).1) ((runT f k46).2) ((f k46).now) ((f k46).c) ((f k46).i) ((f k46).own)), ownC 0 3 1 lax182 (askLst ((runT f k46).1) ((f k46).now) ((f k46).c) ((f k46).i) ((f k46).own)).length lcx183 ((askLst ((runT f k46).1) ((f k46).now) ((f k46).c) ((f k46).i) ((f k46).own)).map iV), blkC rg 43 [.slice (some ⟨gb, 0, none⟩) 297 297, .slice (some ⟨wb, 0, none⟩) 33 33, .slice (some ⟨lb, 0, none⟩) 33 33], blkC gb 58 (Gx184.flatMap g3C), blkC wb 3 (Wx185.map iV), blkC lb 3 (Lx186.map iV), ownC 0 3 1 lax141 M208.length lcx142 (M208.map iV), blkC g81 29 [.int .i64 ((f k46).k), .int .i64 ((f k46).now), .int .i64 ((f k46).c), .int .i64 ((f k46).i), .bool ((f k46).own)], oldC W W.heap.size] := s306; clear s306
          have h309 := h303.subs (l' := [(11, _), (10, _), (9, _), (7, _), (6, _), (5, _), (4, _), (3, _), (2, _), (0, _)]) rfl
          clear h303 h291 h293 h295 h297 h301 a287 a294 a296 a298 a302
          refine wpList_nil ?_
          refine hK292 _ _ ?_
          refine wp_region_lit ?_
          refine sv h309 (wanted_none rfl) rfl rfl rfl (v := .int .i64 (y276 : Int)) (rmove h309 rfl rfl) fun a311 h310 => ?_
          refine sv h310 (wanted_none rfl) rfl rfl rfl (v := .int .i64 ((y276 + 1 : Nat) : Int)) (rbin h310 rfl rfl rfl (bAdd _ _ _ (by omega) (by omega) (by omega))) fun a313 h312 => ?_
          have h314 := h312.subs (l' := [(79, _), (78, _), (10, _), (9, _), (7, _), (6, _), (5, _), (4, _), (3, _), (2, _), (0, _)]) rfl
          clear h312 h309 h310 a304 a311
          refine sv h314 (wanted_none rfl) rfl rfl rfl (v := .int .i64 ((y276 + 1 : Nat) : Int)) (rassign h314 rfl rfl) fun a316 h315 => ?_
          have h317 := h315.subs (l' := [(11, _), (10, _), (9, _), (7, _), (6, _), (5, _), (4, _), (3, _), (2, _), (0, _)]) rfl
          clear h315 h314 a313
          refine wpList_nil ?_
          exact hK274 (y276 + 1) (M277.set y276 (0, 0, false, 0)) _ _ ⟨h317.subs rfl, s308, by rw [List.length_set]; exact hM275⟩ (by omega)
        · skip
          have hp318 : ¬ ((y276 : Int) < (((allH (askG ((runT f k46).1) ((runT f k46).2) ((f k46).now) ((f k46).c) ((f k46).i) ((f k46).own))).length : Nat) : Int)) := (of_decide_eq_false hc289)
          refine wp_condS h288 rfl hc289 ?_
          simp only [Bool.false_eq_true, if_false]
          have h319 := h288.subs (l' := [(11, _), (10, _), (9, _), (7, _), (6, _), (5, _), (4, _), (3, _), (2, _), (0, _)]) rfl
          clear h288
          refine wp_exit ?_
          refine hK266 _ _ ?_
          refine wp_seq_k fun K320 hK320 => ?_
          refine wp_region_lit ?_
          refine sv h319 (wanted_none rfl) rfl rfl rfl (v := .pointer (some ⟨tg, 0, none⟩)) (rmove h319 rfl rfl) fun a322 h321 => ?_
          refine so (wanted_none rfl) fun K331 hK331 => xcall h321 rfl rfl rfl (xs := [.tmp 84, .const (.int .i64 99)]) rfl cp_lease_Table_Over_ln1 rfl (vs := [.pointer (some ⟨tg, 0, none⟩), .int .i64 99]) rfl (args := #[.pointer (some ⟨tg, 0, none⟩), .int .i64 99]) rfl (overT_s (tg := tg) (gm := gm) (wm := wm) (R := [ownC 0 36 4 lax252 M277.length lcx253 (M277.flatMap h4C), ownC 0 3 1 lax182 (askLst ((runT f k46).1) ((f k46).now) ((f k46).c) ((f k46).i) ((f k46).own)).length lcx183 ((askLst ((runT f k46).1) ((f k46).now) ((f k46).c) ((f k46).i) ((f k46).own)).map iV), blkC rg 43 [.slice (some ⟨gb, 0, none⟩) 297 297, .slice (some ⟨wb, 0, none⟩) 33 33, .slice (some ⟨lb, 0, none⟩) 33 33], blkC gb 58 (Gx184.flatMap g3C), blkC wb 3 (Wx185.map iV), blkC lb 3 (Lx186.map iV), ownC 0 3 1 lax141 M208.length lcx142 (M208.map iV), blkC g81 29 [.int .i64 ((f k46).k), .int .i64 ((f k46).now), .int .i64 ((f k46).c), .int .i64 ((f k46).i), .bool ((f k46).own)], oldC W W.heap.size]) ((s273.pick [1, 2, 3, 0, 4, 5, 6, 7, 8, 9, 10, 11] (by decide) rfl) : Sep _ [blkC tg 54 [.map (some gm), .map (some wm)], mapC KG gm nx143 (askG ((runT f k46).1) ((runT f k46).2) ((f k46).now) ((f k46).c) ((f k46).i) ((f k46).own)), mapC KW wm mx144 (askW ((runT f k46).1) ((runT f k46).2) ((f k46).now) ((f k46).c) ((f k46).i) ((f k46).own)), ownC 0 36 4 lax252 M277.length lcx253 (M277.flatMap h4C), ownC 0 3 1 lax182 (askLst ((runT f k46).1) ((f k46).now) ((f k46).c) ((f k46).i) ((f k46).own)).length lcx183 ((askLst ((runT f k46).1) ((f k46).now) ((f k46).c) ((f k46).i) ((f k46).own)).map iV), blkC rg 43 [.slice (some ⟨gb, 0, none⟩) 297 297, .slice (some ⟨wb, 0, none⟩) 33 33, .slice (some ⟨lb, 0, none⟩) 33 33], blkC gb 58 (Gx184.flatMap g3C), blkC wb 3 (Wx185.map iV), blkC lb 3 (Lx186.map iV), ownC 0 3 1 lax141 M208.length lcx142 (M208.map iV), blkC g81 29 [.int .i64 ((f k46).k), .int .i64 ((f k46).now), .int .i64 ((f k46).c), .int .i64 ((f k46).i), .bool ((f k46).own)], oldC W W.heap.size]) hok194 99) fun a326 v327 w328 r329 h325 => hK331 _ _ ?_
          clear hK331 K331
          obtain ⟨lax323, lcx324, rfl, s330⟩ := r329
          have hA332 := overL_len (askG ((runT f k46).1) ((runT f k46).2) ((f k46).now) ((f k46).c) ((f k46).i) ((f k46).own)) 99
          refine sv h325 (wanted_none rfl) rfl rfl rfl (v := .slice lax323 ((overL (askG ((runT f k46).1) ((runT f k46).2) ((f k46).now) ((f k46).c) ((f k46).i) ((f k46).own)) 99).length) lcx324) (rassign h325 rfl rfl) fun a334 h333 => ?_
          have h335 := h333.subs (l' := [(12, _), (11, _), (10, _), (9, _), (7, _), (6, _), (5, _), (4, _), (3, _), (2, _), (0, _)]) rfl
          clear h333 h319 h321 h325 a287 a322 a326
          refine wpList_nil ?_
          refine hK320 _ _ ?_
          refine wp_seq_k fun K336 hK336 => ?_
          refine wp_region_lit ?_
          refine sv h335 (wanted_none rfl) rfl rfl rfl (v := .int .i64 0) (rassign h335 rfl rfl) fun a338 h337 => ?_
          refine wpList_nil ?_
          refine hK336 _ _ ?_
          refine wp_block ?_
          refine wp_loop2 (fun (y : Nat) (M : List Int) a' w' => Kn 102 [(13, .int .i64 (y : Int)), (12, .slice lax323 ((overL (askG ((runT f k46).1) ((runT f k46).2) ((f k46).now) ((f k46).c) ((f k46).i) ((f k46).own)) 99).length) lcx324), (11, .int .i64 (y276 : Int)), (10, .slice lax252 ((allH (askG ((runT f k46).1) ((runT f k46).2) ((f k46).now) ((f k46).c) ((f k46).i) ((f k46).own))).length) lcx253), (9, .int .i64 (y207 : Int)), (7, .slice lax141 ((askLst ((runT f k46).1) ((f k46).now) ((f k46).c) ((f k46).i) ((f k46).own)).length) lcx142), (6, .pointer (some ⟨g81, 0, none⟩)), (5, .int .i64 (k46 : Int)), (4, .pointer (some ⟨rg, 0, none⟩)), (3, .pointer (some ⟨tg, 0, none⟩)), (2, .bool false), (0, .slice a0 n0 c0)] a' ∧ Sep w' [ownC 0 3 1 lax323 M.length lcx324 (M.map iV), blkC tg 54 [.map (some gm), .map (some wm)], mapC KG gm nx143 (askG ((runT f k46).1) ((runT f k46).2) ((f k46).now) ((f k46).c) ((f k46).i) ((f k46).own)), mapC KW wm mx144 (askW ((runT f k46).1) ((runT f k46).2) ((f k46).now) ((f k46).c) ((f k46).i) ((f k46).own)), ownC 0 36 4 lax252 M277.length lcx253 (M277.flatMap h4C), ownC 0 3 1 lax182 (askLst ((runT f k46).1) ((f k46).now) ((f k46).c) ((f k46).i) ((f k46).own)).length lcx183 ((askLst ((runT f k46).1) ((f k46).now) ((f k46).c) ((f k46).i) ((f k46).own)).map iV), blkC rg 43 [.slice (some ⟨gb, 0, none⟩) 297 297, .slice (some ⟨wb, 0, none⟩) 33 33, .slice (some ⟨lb, 0, none⟩) 33 33], blkC gb 58 (Gx184.flatMap g3C), blkC wb 3 (Wx185.map iV), blkC lb 3 (Lx186.map iV), ownC 0 3 1 lax141 M208.length lcx142 (M208.map iV), blkC g81 29 [.int .i64 ((f k46).k), .int .i64 ((f k46).now), .int .i64 ((f k46).c), .int .i64 ((f k46).i), .bool ((f k46).own)], oldC W W.heap.size] ∧ (M.length = (overL (askG ((runT f k46).1) ((runT f k46).2) ((f k46).now) ((f k46).c) ((f k46).i) ((f k46).own)) 99).length)) (fun (y : Nat) (M : List Int) => (overL (askG ((runT f k46).1) ((runT f k46).2) ((f k46).now) ((f k46).c) ((f k46).i) ((f k46).own)) 99).length - y) 0 (overL (askG ((runT f k46).1) ((runT f k46).2) ((f k46).now) ((f k46).c) ((f k46).i) ((f k46).own)) 99) ⟨h337.subs rfl, s330, rfl⟩ ?_
          clear h337 s330
          rintro y345 M346 a339 w340 ⟨h341, s342, hM344⟩ K343 hK343
          refine wp_seq_k fun K347 hK347 => ?_
          refine wp_seq_k fun K348 hK348 => ?_
          refine wp_region_lit ?_
          refine sv h341 (wanted_none rfl) rfl rfl rfl (v := .int .i64 (y345 : Int)) (rmove h341 rfl rfl) fun a350 h349 => ?_
          refine sv h349 (wanted_none rfl) rfl rfl rfl (v := .slice lax323 ((overL (askG ((runT f k46).1) ((runT f k46).2) ((f k46).now) ((f k46).c) ((f k46).i) ((f k46).own)) 99).length) lcx324) (rmove h349 rfl rfl) fun a352 h351 => ?_
          refine sv h351 (wanted_none rfl) rfl rfl rfl (v := .int .i64 (((overL (askG ((runT f k46).1) ((runT f k46).2) ((f k46).now) ((f k46).c) ((f k46).i) ((f k46).own)) 99).length : Nat) : Int)) (rlenS h351 rfl rfl Try.underlying38) fun a354 h353 => ?_
          refine sv h353 (wanted_none rfl) rfl rfl rfl (v := .bool (decide ((y345 : Int) < (((overL (askG ((runT f k46).1) ((runT f k46).2) ((f k46).now) ((f k46).c) ((f k46).i) ((f k46).own)) 99).length : Nat) : Int)))) (rbin h353 rfl rfl rfl (cLt _ _ _ _ rfl)) fun a356 h355 => ?_
          have h357 := h355.subs (l' := [(89, _), (13, _), (12, _), (11, _), (10, _), (9, _), (7, _), (6, _), (5, _), (4, _), (3, _), (2, _), (0, _)]) rfl
          clear h355 h341 h349 h351 h353 a339 a350 a352 a354
          refine wpList_nil ?_
          refine hK348 _ _ ?_
          rcases Bool.eq_false_or_eq_true (decide ((y345 : Int) < (((overL (askG ((runT f k46).1) ((runT f k46).2) ((f k46).now) ((f k46).c) ((f k46).i) ((f k46).own)) 99).length : Nat) : Int))) with hc358 | hc358
          · skip
            have hp359 : (y345 : Int) < (((overL (askG ((runT f k46).1) ((runT f k46).2) ((f k46).now) ((f k46).c) ((f k46).i) ((f k46).own)) 99).length : Nat) : Int) := (of_decide_eq_true hc358)
            refine wp_condS h357 rfl hc358 ?_
            simp only [if_true]
            have h360 := h357.subs (l' := [(13, _), (12, _), (11, _), (10, _), (9, _), (7, _), (6, _), (5, _), (4, _), (3, _), (2, _), (0, _)]) rfl
            clear h357
            refine wp_skip ?_
            refine hK347 _ _ ?_
            refine wp_seq_k fun K361 hK361 => ?_
            refine wp_block ?_
            refine wp_region_lit ?_
            refine sv h360 (wanted_none rfl) rfl rfl rfl (v := .slice lax323 ((overL (askG ((runT f k46).1) ((runT f k46).2) ((f k46).now) ((f k46).c) ((f k46).i) ((f k46).own)) 99).length) lcx324) (rmove h360 rfl rfl) fun a363 h362 => ?_
            refine sv h362 (wanted_none rfl) rfl rfl rfl (v := .int .i64 (y345 : Int)) (rmove h362 rfl rfl) fun a365 h364 => ?_
            obtain ⟨q366, hq367⟩ := own_addr (s342.get 0 rfl : Own _ _ _ _ _ _ _ _)
            refine sv h364 (wanted_none rfl) rfl rfl rfl (v := .pointer (some ⟨q366, y345, none⟩)) (rindexA h364 rfl rfl rfl (fun w => ixO Try.underlying38 (by kernel_rfl) (sz := 1) (hq367 (by omega)) (j := y345) rfl (by omega) (by omega) w)) fun a369 h368 => ?_
            refine so (wanted_none rfl) fun K374 hK374 => xstoreOI h368 rfl rfl s342 0 rfl (hq367 (by omega)) rfl rfl (by kernel_rfl) (by omega) (n' := (M346.set y345 9).length) (by rw [List.length_set]) fun a371 w372 h370 s373 => hK374 _ _ ?_
            clear hK374 K374
            have s375 : Sep w372 [ownC 0 3 1 lax323 (M346.set y345 9).length lcx324 ((M346.set y345 9).map iV), blkC tg 54 [.map (some gm), .map (some wm)], mapC KG gm nx143 (askG ((runT f k46).1) ((runT f k46).2) ((f k46).now) ((f k46).c) ((f k46).i) ((f k46).own)), mapC KW wm mx144 (askW ((runT f k46).1) ((runT f k46).2) ((f k46).now) ((f k46).c) ((f k46).i) ((f k46).own)), ownC 0 36 4 lax252 M277.length lcx253 (M277.flatMap h4C), ownC 0 3 1 lax182 (askLst ((runT f k46).1) ((f k46).now) ((f k46).c) ((f k46).i) ((f k46).own)).length lcx183 ((askLst ((runT f k46).1) ((f k46).now) ((f k46).c) ((f k46).i) ((f k46).own)).map iV), blkC rg 43 [.slice (some ⟨gb, 0, none⟩) 297 297, .slice (some ⟨wb, 0, none⟩) 33 33, .slice (some ⟨lb, 0, none⟩) 33 33], blkC gb 58 (Gx184.flatMap g3C), blkC wb 3 (Wx185.map iV), blkC lb 3 (Lx186.map iV), ownC 0 3 1 lax141 M208.length lcx142 (M208.map iV), blkC g81 29 [.int .i64 ((f k46).k), .int .i64 ((f k46).now), .int .i64 ((f k46).c), .int .i64 ((f k46).i), .bool ((f k46).own)], oldC W W.heap.size] := s373; clear s373
            have h376 := h370.subs (l' := [(13, _), (12, _), (11, _), (10, _), (9, _), (7, _), (6, _), (5, _), (4, _), (3, _), (2, _), (0, _)]) rfl
            clear h370 h360 h362 h364 h368 a356 a363 a365 a369
            refine wpList_nil ?_
            refine hK361 _ _ ?_
            refine wp_region_lit ?_
            refine sv h376 (wanted_none rfl) rfl rfl rfl (v := .int .i64 (y345 : Int)) (rmove h376 rfl rfl) fun a378 h377 => ?_
            refine sv h377 (wanted_none rfl) rfl rfl rfl (v := .int .i64 ((y345 + 1 : Nat) : Int)) (rbin h377 rfl rfl rfl (bAdd _ _ _ (by omega) (by omega) (by omega))) fun a380 h379 => ?_
            have h381 := h379.subs (l' := [(91, _), (90, _), (12, _), (11, _), (10, _), (9, _), (7, _), (6, _), (5, _), (4, _), (3, _), (2, _), (0, _)]) rfl
            clear h379 h376 h377 a371 a378
            refine sv h381 (wanted_none rfl) rfl rfl rfl (v := .int .i64 ((y345 + 1 : Nat) : Int)) (rassign h381 rfl rfl) fun a383 h382 => ?_
            have h384 := h382.subs (l' := [(13, _), (12, _), (11, _), (10, _), (9, _), (7, _), (6, _), (5, _), (4, _), (3, _), (2, _), (0, _)]) rfl
            clear h382 h381 a380
            refine wpList_nil ?_
            exact hK343 (y345 + 1) (M346.set y345 9) _ _ ⟨h384.subs rfl, s375, by rw [List.length_set]; exact hM344⟩ (by omega)
          · skip
            have hp385 : ¬ ((y345 : Int) < (((overL (askG ((runT f k46).1) ((runT f k46).2) ((f k46).now) ((f k46).c) ((f k46).i) ((f k46).own)) 99).length : Nat) : Int)) := (of_decide_eq_false hc358)
            refine wp_condS h357 rfl hc358 ?_
            simp only [Bool.false_eq_true, if_false]
            have h386 := h357.subs (l' := [(13, _), (12, _), (11, _), (10, _), (9, _), (7, _), (6, _), (5, _), (4, _), (3, _), (2, _), (0, _)]) rfl
            clear h357
            refine wp_exit ?_
            refine hK71 _ _ ?_
            refine wp_region_lit ?_
            refine sv h386 (wanted_none rfl) rfl rfl rfl (v := .int .i64 (k46 : Int)) (rmove h386 rfl rfl) fun a388 h387 => ?_
            refine sv h387 (wanted_none rfl) rfl rfl rfl (v := .int .i64 ((k46 + 1 : Nat) : Int)) (rbin h387 rfl rfl rfl (bAdd _ _ _ (by omega) (by omega) (by omega))) fun a390 h389 => ?_
            have h391 := h389.subs (l' := [(28, _), (27, _), (13, _), (12, _), (11, _), (10, _), (9, _), (7, _), (6, _), (4, _), (3, _), (2, _), (0, _)]) rfl
            clear h389 h386 h387 a356 a388
            refine sv h391 (wanted_none rfl) rfl rfl rfl (v := .int .i64 ((k46 + 1 : Nat) : Int)) (rassign h391 rfl rfl) fun a393 h392 => ?_
            have h394 := h392.subs (l' := [(5, _), (13, _), (12, _), (11, _), (10, _), (9, _), (7, _), (6, _), (4, _), (3, _), (2, _), (0, _)]) rfl
            clear h392 h391 a390
            refine wpList_nil ?_
            exact hK44 (k46 + 1) _ _ ⟨h394.subs rfl, (by rw [show (runT f (k46 + 1)).1 = askG ((runT f k46).1) ((runT f k46).2) ((f k46).now) ((f k46).c) ((f k46).i) ((f k46).own) from step_askG (of_decide_eq_true hc105), show (runT f (k46 + 1)).2 = askW ((runT f k46).1) ((runT f k46).2) ((f k46).now) ((f k46).c) ((f k46).i) ((f k46).own) from step_askW (of_decide_eq_true hc105)]; exact (both_close (K := k46 + 1) (by omega) (by omega) ((s342.pick [1, 2, 3, 6, 7, 8, 9, 12] (by decide) rfl) : Sep _ [blkC tg 54 [.map (some gm), .map (some wm)], mapC KG gm nx143 (askG ((runT f k46).1) ((runT f k46).2) ((f k46).now) ((f k46).c) ((f k46).i) ((f k46).own)), mapC KW wm mx144 (askW ((runT f k46).1) ((runT f k46).2) ((f k46).now) ((f k46).c) ((f k46).i) ((f k46).own)), blkC rg 43 [.slice (some ⟨gb, 0, none⟩) 297 297, .slice (some ⟨wb, 0, none⟩) 33 33, .slice (some ⟨lb, 0, none⟩) 33 33], blkC gb 58 (Gx184.flatMap g3C), blkC wb 3 (Wx185.map iV), blkC lb 3 (Lx186.map iV), oldC W W.heap.size]) hR191 hok194 hwo195)), by omega⟩ (by omega)
    · skip
      have hp395 : ¬ ((f k46).k = 0) := (of_decide_eq_false hc105)
      refine wp_condS h104 rfl hc105 ?_
      simp only [Bool.false_eq_true, if_false]
      have h396 := h104.subs (l' := [(6, _), (5, _), (4, _), (3, _), (2, _), (0, _)]) rfl
      clear h104
      refine wp_region_lit ?_
      refine sv h396 (wanted_none rfl) rfl rfl rfl (v := .pointer (some ⟨tg, 0, none⟩)) (rmove h396 rfl rfl) fun a398 h397 => ?_
      refine sv h397 (wanted_none rfl) rfl rfl rfl (v := .pointer (some ⟨rg, 0, none⟩)) (rmove h397 rfl rfl) fun a400 h399 => ?_
      refine sw h399 (wanted_none rfl) rfl rfl rfl (v := .agg #[.int .i64 ((f k46).k), .int .i64 ((f k46).now), .int .i64 ((f k46).c), .int .i64 ((f k46).i), .bool ((f k46).own)]) (rld h399 rfl rfl (ldA Try.underlying29 rfl (n := 5) (by kernel_rfl) (s92.get 0 rfl : Blk _ _ _ _) rfl rfl)) fun a402 h401 => ?_
      refine so (wanted_none rfl) fun K409 hK409 => xcall h401 rfl rfl rfl (xs := [.tmp 68, .tmp 69, .tmp 70]) rfl cp_commonslaw19_does_ln1 rfl (vs := [.pointer (some ⟨tg, 0, none⟩), .pointer (some ⟨rg, 0, none⟩), .agg #[.int .i64 ((f k46).k), .int .i64 ((f k46).now), .int .i64 ((f k46).c), .int .i64 ((f k46).i), .bool ((f k46).own)]]) rfl (args := #[.pointer (some ⟨tg, 0, none⟩), .pointer (some ⟨rg, 0, none⟩), .agg #[.int .i64 ((f k46).k), .int .i64 ((f k46).now), .int .i64 ((f k46).c), .int .i64 ((f k46).i), .bool ((f k46).own)]]) rfl (does_s (R := [blkC g81 29 [.int .i64 ((f k46).k), .int .i64 ((f k46).now), .int .i64 ((f k46).c), .int .i64 ((f k46).i), .bool ((f k46).own)], oldC W W.heap.size]) ((s92.pick [1, 0, 2] (by decide) rfl) : Sep _ [bothC tg gm wm rg gb wb lb k46 ((runT f k46).1) ((runT f k46).2), blkC g81 29 [.int .i64 ((f k46).k), .int .i64 ((f k46).now), .int .i64 ((f k46).c), .int .i64 ((f k46).i), .bool ((f k46).own)], oldC W W.heap.size]) (by omega) (f k46) (hw _ (by omega))) fun a404 v405 w406 r407 h403 => hK409 _ _ ?_
      clear hK409 K409
      obtain ⟨rfl, s408⟩ := r407
      have h410 := h403.subs (l' := [(6, _), (5, _), (4, _), (3, _), (2, _), (0, _)]) rfl
      clear h403 h396 h397 h399 h401 a103 a398 a400 a402
      refine wpList_nil ?_
      refine hK96 _ _ ?_
      refine wp_seq_k fun K411 hK411 => ?_
      refine wp_region_lit ?_
      refine sv h410 (wanted_none rfl) rfl rfl rfl (v := .pointer (some ⟨tg, 0, none⟩)) (rmove h410 rfl rfl) fun a413 h412 => ?_
      obtain ⟨n414, m415, G416, W417, L418, hn419, hm420, s421x, hR422, hok423, hwo424⟩ := both_open (s408 : Sep _ [bothC tg gm wm rg gb wb lb (k46 + 1) (stepG (f k46) ((runT f k46).1) ((runT f k46).2)) (stepW (f k46) ((runT f k46).1) ((runT f k46).2)), blkC g81 29 [.int .i64 ((f k46).k), .int .i64 ((f k46).now), .int .i64 ((f k46).c), .int .i64 ((f k46).i), .bool ((f k46).own)], oldC W W.heap.size])
      have s421 : Sep w406 [blkC tg 54 [.map (some gm), .map (some wm)], mapC KG gm n414 (stepG (f k46) ((runT f k46).1) ((runT f k46).2)), mapC KW wm m415 (stepW (f k46) ((runT f k46).1) ((runT f k46).2)), blkC rg 43 [.slice (some ⟨gb, 0, none⟩) 297 297, .slice (some ⟨wb, 0, none⟩) 33 33, .slice (some ⟨lb, 0, none⟩) 33 33], blkC gb 58 (G416.flatMap g3C), blkC wb 3 (W417.map iV), blkC lb 3 (L418.map iV), blkC g81 29 [.int .i64 ((f k46).k), .int .i64 ((f k46).now), .int .i64 ((f k46).c), .int .i64 ((f k46).i), .bool ((f k46).own)], oldC W W.heap.size] := s421x; clear s421x; obtain ⟨hG425, hW426, hL427⟩ := hR422.n
      refine so (wanted_none rfl) fun K436 hK436 => xcall h412 rfl rfl rfl (xs := [.tmp 72]) rfl cp_lease_Table_All_ln1 rfl (vs := [.pointer (some ⟨tg, 0, none⟩)]) rfl (args := #[.pointer (some ⟨tg, 0, none⟩)]) rfl (allT_h (tg := tg) (gm := gm) (wm := wm) (R := [blkC rg 43 [.slice (some ⟨gb, 0, none⟩) 297 297, .slice (some ⟨wb, 0, none⟩) 33 33, .slice (some ⟨lb, 0, none⟩) 33 33], blkC gb 58 (G416.flatMap g3C), blkC wb 3 (W417.map iV), blkC lb 3 (L418.map iV), blkC g81 29 [.int .i64 ((f k46).k), .int .i64 ((f k46).now), .int .i64 ((f k46).c), .int .i64 ((f k46).i), .bool ((f k46).own)], oldC W W.heap.size]) (s421 : Sep _ [blkC tg 54 [.map (some gm), .map (some wm)], mapC KG gm n414 (stepG (f k46) ((runT f k46).1) ((runT f k46).2)), mapC KW wm m415 (stepW (f k46) ((runT f k46).1) ((runT f k46).2)), blkC rg 43 [.slice (some ⟨gb, 0, none⟩) 297 297, .slice (some ⟨wb, 0, none⟩) 33 33, .slice (some ⟨lb, 0, none⟩) 33 33], blkC gb 58 (G416.flatMap g3C), blkC wb 3 (W417.map iV), blkC lb 3 (L418.map iV), blkC g81 29 [.int .i64 ((f k46).k), .int .i64 ((f k46).now), .int .i64 ((f k46).c), .int .i64 ((f k46).i), .bool ((f k46).own)], oldC W W.heap.size]) hok423) fun a431 v432 w433 r434 h430 => hK436 _ _ ?_
      clear hK436 K436
      obtain ⟨lax428, lcx429, rfl, s435⟩ := r434
      have hA437 := allK_256 (stepG (f k46) ((runT f k46).1) ((runT f k46).2)); have hA438 := allH_len (stepG (f k46) ((runT f k46).1) ((runT f k46).2))
      refine sv h430 (wanted_none rfl) rfl rfl rfl (v := .slice lax428 ((allH (stepG (f k46) ((runT f k46).1) ((runT f k46).2))).length) lcx429) (rassign h430 rfl rfl) fun a440 h439 => ?_
      have h441 := h439.subs (l' := [(10, _), (6, _), (5, _), (4, _), (3, _), (2, _), (0, _)]) rfl
      clear h439 h410 h412 h430 a404 a413 a431
      refine wpList_nil ?_
      refine hK411 _ _ ?_
      refine wp_seq_k fun K442 hK442 => ?_
      refine wp_seq_k fun K443 hK443 => ?_
      refine wp_region_lit ?_
      refine sv h441 (wanted_none rfl) rfl rfl rfl (v := .int .i64 0) (rassign h441 rfl rfl) fun a445 h444 => ?_
      refine wpList_nil ?_
      refine hK443 _ _ ?_
      refine wp_block ?_
      refine wp_loop2 (fun (y : Nat) (M : List H4) a' w' => Kn 102 [(11, .int .i64 (y : Int)), (10, .slice lax428 ((allH (stepG (f k46) ((runT f k46).1) ((runT f k46).2))).length) lcx429), (6, .pointer (some ⟨g81, 0, none⟩)), (5, .int .i64 (k46 : Int)), (4, .pointer (some ⟨rg, 0, none⟩)), (3, .pointer (some ⟨tg, 0, none⟩)), (2, .bool false), (0, .slice a0 n0 c0)] a' ∧ Sep w' [ownC 0 36 4 lax428 M.length lcx429 (M.flatMap h4C), blkC tg 54 [.map (some gm), .map (some wm)], mapC KG gm n414 (stepG (f k46) ((runT f k46).1) ((runT f k46).2)), mapC KW wm m415 (stepW (f k46) ((runT f k46).1) ((runT f k46).2)), blkC rg 43 [.slice (some ⟨gb, 0, none⟩) 297 297, .slice (some ⟨wb, 0, none⟩) 33 33, .slice (some ⟨lb, 0, none⟩) 33 33], blkC gb 58 (G416.flatMap g3C), blkC wb 3 (W417.map iV), blkC lb 3 (L418.map iV), blkC g81 29 [.int .i64 ((f k46).k), .int .i64 ((f k46).now), .int .i64 ((f k46).c), .int .i64 ((f k46).i), .bool ((f k46).own)], oldC W W.heap.size] ∧ (M.length = (allH (stepG (f k46) ((runT f k46).1) ((runT f k46).2))).length)) (fun (y : Nat) (M : List H4) => (allH (stepG (f k46) ((runT f k46).1) ((runT f k46).2))).length - y) 0 (allH (stepG (f k46) ((runT f k46).1) ((runT f k46).2))) ⟨h444.subs rfl, s435, rfl⟩ ?_
      clear h444 s435
      rintro y452 M453 a446 w447 ⟨h448, s449, hM451⟩ K450 hK450
      refine wp_seq_k fun K454 hK454 => ?_
      refine wp_seq_k fun K455 hK455 => ?_
      refine wp_region_lit ?_
      refine sv h448 (wanted_none rfl) rfl rfl rfl (v := .int .i64 (y452 : Int)) (rmove h448 rfl rfl) fun a457 h456 => ?_
      refine sv h456 (wanted_none rfl) rfl rfl rfl (v := .slice lax428 ((allH (stepG (f k46) ((runT f k46).1) ((runT f k46).2))).length) lcx429) (rmove h456 rfl rfl) fun a459 h458 => ?_
      refine sv h458 (wanted_none rfl) rfl rfl rfl (v := .int .i64 (((allH (stepG (f k46) ((runT f k46).1) ((runT f k46).2))).length : Nat) : Int)) (rlenS h458 rfl rfl Try.underlying33) fun a461 h460 => ?_
      refine sv h460 (wanted_none rfl) rfl rfl rfl (v := .bool (decide ((y452 : Int) < (((allH (stepG (f k46) ((runT f k46).1) ((runT f k46).2))).length : Nat) : Int)))) (rbin h460 rfl rfl rfl (cLt _ _ _ _ rfl)) fun a463 h462 => ?_
      have h464 := h462.subs (l' := [(77, _), (11, _), (10, _), (6, _), (5, _), (4, _), (3, _), (2, _), (0, _)]) rfl
      clear h462 h448 h456 h458 h460 a446 a457 a459 a461
      refine wpList_nil ?_
      refine hK455 _ _ ?_
      rcases Bool.eq_false_or_eq_true (decide ((y452 : Int) < (((allH (stepG (f k46) ((runT f k46).1) ((runT f k46).2))).length : Nat) : Int))) with hc465 | hc465
      · skip
        have hp466 : (y452 : Int) < (((allH (stepG (f k46) ((runT f k46).1) ((runT f k46).2))).length : Nat) : Int) := (of_decide_eq_true hc465)
        refine wp_condS h464 rfl hc465 ?_
        simp only [if_true]
        have h467 := h464.subs (l' := [(11, _), (10, _), (6, _), (5, _), (4, _), (3, _), (2, _), (0, _)]) rfl
        clear h464
        refine wp_skip ?_
        refine hK454 _ _ ?_
        refine wp_seq_k fun K468 hK468 => ?_
        refine wp_block ?_
        refine wp_region_lit ?_
        refine sv h467 (wanted_none rfl) rfl rfl rfl (v := .slice lax428 ((allH (stepG (f k46) ((runT f k46).1) ((runT f k46).2))).length) lcx429) (rmove h467 rfl rfl) fun a470 h469 => ?_
        refine sv h469 (wanted_none rfl) rfl rfl rfl (v := .int .i64 (y452 : Int)) (rmove h469 rfl rfl) fun a472 h471 => ?_
        refine sv h471 (wanted_none rfl) rfl rfl rfl (v := .agg #[.int .i64 0, .int .i64 0, .bool false, .int .i64 0]) (rbuild h471 (xs := []) rfl (vs := []) rfl (fun w => by kernel_rfl)) fun a474 h473 => ?_
        obtain ⟨q475, hq476⟩ := own_addr (s449.get 0 rfl : Own _ _ _ _ _ _ _ _)
        refine sv h473 (wanted_none rfl) rfl rfl rfl (v := .pointer (some ⟨q475, y452 * 4, none⟩)) (rindexA h473 rfl rfl rfl (fun w => ixO Try.underlying33 (by kernel_rfl) (sz := 4) (hq476 (by omega)) (j := y452) rfl (by omega) (by omega) w)) fun a478 h477 => ?_
        refine so (wanted_none rfl) fun K483 hK483 => xstoreO h4C_len h477 rfl rfl s449 0 rfl (hq476 (by omega)) rfl rfl (0, 0, false, 0) rfl (by kernel_rfl) rfl (by omega) rfl (n' := (M453.set y452 (0, 0, false, 0)).length) (by rw [List.length_set]) fun a480 w481 h479 s482 => hK483 _ _ ?_
        clear hK483 K483
        have s484 : Sep w481 [ownC 0 36 4 lax428 (M453.set y452 (0, 0, false, 0)).length lcx429 ((M453.set y452 (0, 0, false, 0)).flatMap h4C), blkC tg 54 [.map (some gm), .map (some wm)], mapC KG gm n414 (stepG (f k46) ((runT f k46).1) ((runT f k46).2)), mapC KW wm m415 (stepW (f k46) ((runT f k46).1) ((runT f k46).2)), blkC rg 43 [.slice (some ⟨gb, 0, none⟩) 297 297, .slice (some ⟨wb, 0, none⟩) 33 33, .slice (some ⟨lb, 0, none⟩) 33 33], blkC gb 58 (G416.flatMap g3C), blkC wb 3 (W417.map iV), blkC lb 3 (L418.map iV), blkC g81 29 [.int .i64 ((f k46).k), .int .i64 ((f k46).now), .int .i64 ((f k46).c), .int .i64 ((f k46).i), .bool ((f k46).own)], oldC W W.heap.size] := s482; clear s482
        have h485 := h479.subs (l' := [(11, _), (10, _), (6, _), (5, _), (4, _), (3, _), (2, _), (0, _)]) rfl
        clear h479 h467 h469 h471 h473 h477 a463 a470 a472 a474 a478
        refine wpList_nil ?_
        refine hK468 _ _ ?_
        refine wp_region_lit ?_
        refine sv h485 (wanted_none rfl) rfl rfl rfl (v := .int .i64 (y452 : Int)) (rmove h485 rfl rfl) fun a487 h486 => ?_
        refine sv h486 (wanted_none rfl) rfl rfl rfl (v := .int .i64 ((y452 + 1 : Nat) : Int)) (rbin h486 rfl rfl rfl (bAdd _ _ _ (by omega) (by omega) (by omega))) fun a489 h488 => ?_
        have h490 := h488.subs (l' := [(79, _), (78, _), (10, _), (6, _), (5, _), (4, _), (3, _), (2, _), (0, _)]) rfl
        clear h488 h485 h486 a480 a487
        refine sv h490 (wanted_none rfl) rfl rfl rfl (v := .int .i64 ((y452 + 1 : Nat) : Int)) (rassign h490 rfl rfl) fun a492 h491 => ?_
        have h493 := h491.subs (l' := [(11, _), (10, _), (6, _), (5, _), (4, _), (3, _), (2, _), (0, _)]) rfl
        clear h491 h490 a489
        refine wpList_nil ?_
        exact hK450 (y452 + 1) (M453.set y452 (0, 0, false, 0)) _ _ ⟨h493.subs rfl, s484, by rw [List.length_set]; exact hM451⟩ (by omega)
      · skip
        have hp494 : ¬ ((y452 : Int) < (((allH (stepG (f k46) ((runT f k46).1) ((runT f k46).2))).length : Nat) : Int)) := (of_decide_eq_false hc465)
        refine wp_condS h464 rfl hc465 ?_
        simp only [Bool.false_eq_true, if_false]
        have h495 := h464.subs (l' := [(11, _), (10, _), (6, _), (5, _), (4, _), (3, _), (2, _), (0, _)]) rfl
        clear h464
        refine wp_exit ?_
        refine hK442 _ _ ?_
        refine wp_seq_k fun K496 hK496 => ?_
        refine wp_region_lit ?_
        refine sv h495 (wanted_none rfl) rfl rfl rfl (v := .pointer (some ⟨tg, 0, none⟩)) (rmove h495 rfl rfl) fun a498 h497 => ?_
        refine so (wanted_none rfl) fun K507 hK507 => xcall h497 rfl rfl rfl (xs := [.tmp 84, .const (.int .i64 99)]) rfl cp_lease_Table_Over_ln1 rfl (vs := [.pointer (some ⟨tg, 0, none⟩), .int .i64 99]) rfl (args := #[.pointer (some ⟨tg, 0, none⟩), .int .i64 99]) rfl (overT_s (tg := tg) (gm := gm) (wm := wm) (R := [ownC 0 36 4 lax428 M453.length lcx429 (M453.flatMap h4C), blkC rg 43 [.slice (some ⟨gb, 0, none⟩) 297 297, .slice (some ⟨wb, 0, none⟩) 33 33, .slice (some ⟨lb, 0, none⟩) 33 33], blkC gb 58 (G416.flatMap g3C), blkC wb 3 (W417.map iV), blkC lb 3 (L418.map iV), blkC g81 29 [.int .i64 ((f k46).k), .int .i64 ((f k46).now), .int .i64 ((f k46).c), .int .i64 ((f k46).i), .bool ((f k46).own)], oldC W W.heap.size]) ((s449.pick [1, 2, 3, 0, 4, 5, 6, 7, 8, 9] (by decide) rfl) : Sep _ [blkC tg 54 [.map (some gm), .map (some wm)], mapC KG gm n414 (stepG (f k46) ((runT f k46).1) ((runT f k46).2)), mapC KW wm m415 (stepW (f k46) ((runT f k46).1) ((runT f k46).2)), ownC 0 36 4 lax428 M453.length lcx429 (M453.flatMap h4C), blkC rg 43 [.slice (some ⟨gb, 0, none⟩) 297 297, .slice (some ⟨wb, 0, none⟩) 33 33, .slice (some ⟨lb, 0, none⟩) 33 33], blkC gb 58 (G416.flatMap g3C), blkC wb 3 (W417.map iV), blkC lb 3 (L418.map iV), blkC g81 29 [.int .i64 ((f k46).k), .int .i64 ((f k46).now), .int .i64 ((f k46).c), .int .i64 ((f k46).i), .bool ((f k46).own)], oldC W W.heap.size]) hok423 99) fun a502 v503 w504 r505 h501 => hK507 _ _ ?_
        clear hK507 K507
        obtain ⟨lax499, lcx500, rfl, s506⟩ := r505
        have hA508 := overL_len (stepG (f k46) ((runT f k46).1) ((runT f k46).2)) 99
        refine sv h501 (wanted_none rfl) rfl rfl rfl (v := .slice lax499 ((overL (stepG (f k46) ((runT f k46).1) ((runT f k46).2)) 99).length) lcx500) (rassign h501 rfl rfl) fun a510 h509 => ?_
        have h511 := h509.subs (l' := [(12, _), (11, _), (10, _), (6, _), (5, _), (4, _), (3, _), (2, _), (0, _)]) rfl
        clear h509 h495 h497 h501 a463 a498 a502
        refine wpList_nil ?_
        refine hK496 _ _ ?_
        refine wp_seq_k fun K512 hK512 => ?_
        refine wp_region_lit ?_
        refine sv h511 (wanted_none rfl) rfl rfl rfl (v := .int .i64 0) (rassign h511 rfl rfl) fun a514 h513 => ?_
        refine wpList_nil ?_
        refine hK512 _ _ ?_
        refine wp_block ?_
        refine wp_loop2 (fun (y : Nat) (M : List Int) a' w' => Kn 102 [(13, .int .i64 (y : Int)), (12, .slice lax499 ((overL (stepG (f k46) ((runT f k46).1) ((runT f k46).2)) 99).length) lcx500), (11, .int .i64 (y452 : Int)), (10, .slice lax428 ((allH (stepG (f k46) ((runT f k46).1) ((runT f k46).2))).length) lcx429), (6, .pointer (some ⟨g81, 0, none⟩)), (5, .int .i64 (k46 : Int)), (4, .pointer (some ⟨rg, 0, none⟩)), (3, .pointer (some ⟨tg, 0, none⟩)), (2, .bool false), (0, .slice a0 n0 c0)] a' ∧ Sep w' [ownC 0 3 1 lax499 M.length lcx500 (M.map iV), blkC tg 54 [.map (some gm), .map (some wm)], mapC KG gm n414 (stepG (f k46) ((runT f k46).1) ((runT f k46).2)), mapC KW wm m415 (stepW (f k46) ((runT f k46).1) ((runT f k46).2)), ownC 0 36 4 lax428 M453.length lcx429 (M453.flatMap h4C), blkC rg 43 [.slice (some ⟨gb, 0, none⟩) 297 297, .slice (some ⟨wb, 0, none⟩) 33 33, .slice (some ⟨lb, 0, none⟩) 33 33], blkC gb 58 (G416.flatMap g3C), blkC wb 3 (W417.map iV), blkC lb 3 (L418.map iV), blkC g81 29 [.int .i64 ((f k46).k), .int .i64 ((f k46).now), .int .i64 ((f k46).c), .int .i64 ((f k46).i), .bool ((f k46).own)], oldC W W.heap.size] ∧ (M.length = (overL (stepG (f k46) ((runT f k46).1) ((runT f k46).2)) 99).length)) (fun (y : Nat) (M : List Int) => (overL (stepG (f k46) ((runT f k46).1) ((runT f k46).2)) 99).length - y) 0 (overL (stepG (f k46) ((runT f k46).1) ((runT f k46).2)) 99) ⟨h513.subs rfl, s506, rfl⟩ ?_
        clear h513 s506
        rintro y521 M522 a515 w516 ⟨h517, s518, hM520⟩ K519 hK519
        refine wp_seq_k fun K523 hK523 => ?_
        refine wp_seq_k fun K524 hK524 => ?_
        refine wp_region_lit ?_
        refine sv h517 (wanted_none rfl) rfl rfl rfl (v := .int .i64 (y521 : Int)) (rmove h517 rfl rfl) fun a526 h525 => ?_
        refine sv h525 (wanted_none rfl) rfl rfl rfl (v := .slice lax499 ((overL (stepG (f k46) ((runT f k46).1) ((runT f k46).2)) 99).length) lcx500) (rmove h525 rfl rfl) fun a528 h527 => ?_
        refine sv h527 (wanted_none rfl) rfl rfl rfl (v := .int .i64 (((overL (stepG (f k46) ((runT f k46).1) ((runT f k46).2)) 99).length : Nat) : Int)) (rlenS h527 rfl rfl Try.underlying38) fun a530 h529 => ?_
        refine sv h529 (wanted_none rfl) rfl rfl rfl (v := .bool (decide ((y521 : Int) < (((overL (stepG (f k46) ((runT f k46).1) ((runT f k46).2)) 99).length : Nat) : Int)))) (rbin h529 rfl rfl rfl (cLt _ _ _ _ rfl)) fun a532 h531 => ?_
        have h533 := h531.subs (l' := [(89, _), (13, _), (12, _), (11, _), (10, _), (6, _), (5, _), (4, _), (3, _), (2, _), (0, _)]) rfl
        clear h531 h517 h525 h527 h529 a515 a526 a528 a530
        refine wpList_nil ?_
        refine hK524 _ _ ?_
        rcases Bool.eq_false_or_eq_true (decide ((y521 : Int) < (((overL (stepG (f k46) ((runT f k46).1) ((runT f k46).2)) 99).length : Nat) : Int))) with hc534 | hc534
        · skip
          have hp535 : (y521 : Int) < (((overL (stepG (f k46) ((runT f k46).1) ((runT f k46).2)) 99).length : Nat) : Int) := (of_decide_eq_true hc534)
          refine wp_condS h533 rfl hc534 ?_
          simp only [if_true]
          have h536 := h533.subs (l' := [(13, _), (12, _), (11, _), (10, _), (6, _), (5, _), (4, _), (3, _), (2, _), (0, _)]) rfl
          clear h533
          refine wp_skip ?_
          refine hK523 _ _ ?_
          refine wp_seq_k fun K537 hK537 => ?_
          refine wp_block ?_
          refine wp_region_lit ?_
          refine sv h536 (wanted_none rfl) rfl rfl rfl (v := .slice lax499 ((overL (stepG (f k46) ((runT f k46).1) ((runT f k46).2)) 99).length) lcx500) (rmove h536 rfl rfl) fun a539 h538 => ?_
          refine sv h538 (wanted_none rfl) rfl rfl rfl (v := .int .i64 (y521 : Int)) (rmove h538 rfl rfl) fun a541 h540 => ?_
          obtain ⟨q542, hq543⟩ := own_addr (s518.get 0 rfl : Own _ _ _ _ _ _ _ _)
          refine sv h540 (wanted_none rfl) rfl rfl rfl (v := .pointer (some ⟨q542, y521, none⟩)) (rindexA h540 rfl rfl rfl (fun w => ixO Try.underlying38 (by kernel_rfl) (sz := 1) (hq543 (by omega)) (j := y521) rfl (by omega) (by omega) w)) fun a545 h544 => ?_
          refine so (wanted_none rfl) fun K550 hK550 => xstoreOI h544 rfl rfl s518 0 rfl (hq543 (by omega)) rfl rfl (by kernel_rfl) (by omega) (n' := (M522.set y521 9).length) (by rw [List.length_set]) fun a547 w548 h546 s549 => hK550 _ _ ?_
          clear hK550 K550
          have s551 : Sep w548 [ownC 0 3 1 lax499 (M522.set y521 9).length lcx500 ((M522.set y521 9).map iV), blkC tg 54 [.map (some gm), .map (some wm)], mapC KG gm n414 (stepG (f k46) ((runT f k46).1) ((runT f k46).2)), mapC KW wm m415 (stepW (f k46) ((runT f k46).1) ((runT f k46).2)), ownC 0 36 4 lax428 M453.length lcx429 (M453.flatMap h4C), blkC rg 43 [.slice (some ⟨gb, 0, none⟩) 297 297, .slice (some ⟨wb, 0, none⟩) 33 33, .slice (some ⟨lb, 0, none⟩) 33 33], blkC gb 58 (G416.flatMap g3C), blkC wb 3 (W417.map iV), blkC lb 3 (L418.map iV), blkC g81 29 [.int .i64 ((f k46).k), .int .i64 ((f k46).now), .int .i64 ((f k46).c), .int .i64 ((f k46).i), .bool ((f k46).own)], oldC W W.heap.size] := s549; clear s549
          have h552 := h546.subs (l' := [(13, _), (12, _), (11, _), (10, _), (6, _), (5, _), (4, _), (3, _), (2, _), (0, _)]) rfl
          clear h546 h536 h538 h540 h544 a532 a539 a541 a545
          refine wpList_nil ?_
          refine hK537 _ _ ?_
          refine wp_region_lit ?_
          refine sv h552 (wanted_none rfl) rfl rfl rfl (v := .int .i64 (y521 : Int)) (rmove h552 rfl rfl) fun a554 h553 => ?_
          refine sv h553 (wanted_none rfl) rfl rfl rfl (v := .int .i64 ((y521 + 1 : Nat) : Int)) (rbin h553 rfl rfl rfl (bAdd _ _ _ (by omega) (by omega) (by omega))) fun a556 h555 => ?_
          have h557 := h555.subs (l' := [(91, _), (90, _), (12, _), (11, _), (10, _), (6, _), (5, _), (4, _), (3, _), (2, _), (0, _)]) rfl
          clear h555 h552 h553 a547 a554
          refine sv h557 (wanted_none rfl) rfl rfl rfl (v := .int .i64 ((y521 + 1 : Nat) : Int)) (rassign h557 rfl rfl) fun a559 h558 => ?_
          have h560 := h558.subs (l' := [(13, _), (12, _), (11, _), (10, _), (6, _), (5, _), (4, _), (3, _), (2, _), (0, _)]) rfl
          clear h558 h557 a556
          refine wpList_nil ?_
          exact hK519 (y521 + 1) (M522.set y521 9) _ _ ⟨h560.subs rfl, s551, by rw [List.length_set]; exact hM520⟩ (by omega)
        · skip
          have hp561 : ¬ ((y521 : Int) < (((overL (stepG (f k46) ((runT f k46).1) ((runT f k46).2)) 99).length : Nat) : Int)) := (of_decide_eq_false hc534)
          refine wp_condS h533 rfl hc534 ?_
          simp only [Bool.false_eq_true, if_false]
          have h562 := h533.subs (l' := [(13, _), (12, _), (11, _), (10, _), (6, _), (5, _), (4, _), (3, _), (2, _), (0, _)]) rfl
          clear h533
          refine wp_exit ?_
          refine hK71 _ _ ?_
          refine wp_region_lit ?_
          refine sv h562 (wanted_none rfl) rfl rfl rfl (v := .int .i64 (k46 : Int)) (rmove h562 rfl rfl) fun a564 h563 => ?_
          refine sv h563 (wanted_none rfl) rfl rfl rfl (v := .int .i64 ((k46 + 1 : Nat) : Int)) (rbin h563 rfl rfl rfl (bAdd _ _ _ (by omega) (by omega) (by omega))) fun a566 h565 => ?_
          have h567 := h565.subs (l' := [(28, _), (27, _), (13, _), (12, _), (11, _), (10, _), (6, _), (4, _), (3, _), (2, _), (0, _)]) rfl
          clear h565 h562 h563 a532 a564
          refine sv h567 (wanted_none rfl) rfl rfl rfl (v := .int .i64 ((k46 + 1 : Nat) : Int)) (rassign h567 rfl rfl) fun a569 h568 => ?_
          have h570 := h568.subs (l' := [(5, _), (13, _), (12, _), (11, _), (10, _), (6, _), (4, _), (3, _), (2, _), (0, _)]) rfl
          clear h568 h567 a566
          refine wpList_nil ?_
          exact hK44 (k46 + 1) _ _ ⟨h570.subs rfl, (both_close (K := k46 + 1) (by omega) (by omega) ((s518.pick [1, 2, 3, 5, 6, 7, 8, 10] (by decide) rfl) : Sep _ [blkC tg 54 [.map (some gm), .map (some wm)], mapC KG gm n414 (stepG (f k46) ((runT f k46).1) ((runT f k46).2)), mapC KW wm m415 (stepW (f k46) ((runT f k46).1) ((runT f k46).2)), blkC rg 43 [.slice (some ⟨gb, 0, none⟩) 297 297, .slice (some ⟨wb, 0, none⟩) 33 33, .slice (some ⟨lb, 0, none⟩) 33 33], blkC gb 58 (G416.flatMap g3C), blkC wb 3 (W417.map iV), blkC lb 3 (L418.map iV), oldC W W.heap.size]) hR422 hok423 hwo424), by omega⟩ (by omega)
  · skip
    have hp571 : (¬ ((k46 : Int) < (n0 : Int))) ∨ (¬ ((k46 : Int) < 20)) := ((andF hc68).imp (fun q => (of_decide_eq_false q)) (fun q => (of_decide_eq_false q)))
    refine wp_condS h67 rfl hc68 ?_
    simp only [Bool.false_eq_true, if_false]
    have h572 := h67.subs (l' := [(5, _), (4, _), (3, _), (2, _), (0, _)]) rfl
    clear h67
    refine wp_exit ?_
    refine hK36 _ _ ?_
    refine wp_seq_k fun K573 hK573 => ?_
    refine wp_region_lit ?_
    refine sv h572 (wanted_none rfl) rfl rfl rfl (v := .pointer (some ⟨tg, 0, none⟩)) (rmove h572 rfl rfl) fun a575 h574 => ?_
    refine sv h574 (wanted_none rfl) rfl rfl rfl (v := .pointer (some ⟨rg, 0, none⟩)) (rmove h574 rfl rfl) fun a577 h576 => ?_
    refine so (wanted_none rfl) fun K584 hK584 => xcall h576 rfl rfl rfl (xs := [.tmp 95, .tmp 96]) rfl cp_commonslaw19_like_ln1 rfl (vs := [.pointer (some ⟨tg, 0, none⟩), .pointer (some ⟨rg, 0, none⟩)]) rfl (args := #[.pointer (some ⟨tg, 0, none⟩), .pointer (some ⟨rg, 0, none⟩)]) rfl (like_s (R := [oldC W W.heap.size]) (s43 : Sep _ [bothC tg gm wm rg gb wb lb k46 ((runT f k46).1) ((runT f k46).2), oldC W W.heap.size]) (by omega)) fun a579 v580 w581 r582 h578 => hK584 _ _ ?_
    clear hK584 K584
    obtain ⟨rfl, s583⟩ := r582
    refine sv h578 (wanted_none rfl) rfl rfl rfl (v := .bool true) (rassign h578 rfl rfl) fun a586 h585 => ?_
    have h587 := h585.subs (l' := [(14, _), (5, _), (4, _), (3, _), (2, _), (0, _)]) rfl
    clear h585 h572 h574 h576 h578 a66 a575 a577 a579
    refine wpList_nil ?_
    refine hK573 _ _ ?_
    refine wp_seq_k fun K588 hK588 => ?_
    refine wp_region_lit ?_
    refine sv h587 (wanted_none rfl) rfl rfl rfl (v := .bool true) (rmove h587 rfl rfl) fun a590 h589 => ?_
    refine sv h589 (wanted_none rfl) rfl rfl rfl (v := .bool true) (rmove h589 rfl rfl) fun a592 h591 => ?_
    refine so (wT h591 (E := true) rfl rfl rfl) fun K599 hK599 => xcall h591 rfl rfl rfl (xs := []) rfl cp_commonslaw19_lives_ln1 rfl (vs := []) rfl (args := #[]) rfl (lives_s (R := [bothC tg gm wm rg gb wb lb k46 ((runT f k46).1) ((runT f k46).2), oldC W W.heap.size]) (s583 : Sep _ [bothC tg gm wm rg gb wb lb k46 ((runT f k46).1) ((runT f k46).2), oldC W W.heap.size])) fun a594 v595 w596 r597 h593 => hK599 _ _ ?_
    clear hK599 K599
    obtain ⟨rfl, s598⟩ := r597
    refine sv h593 (wanted_none rfl) rfl rfl rfl (v := .bool true) (rpick h593 rfl rfl rfl) fun a601 h600 => ?_
    have h602 := h600.subs (l' := [(101, _), (100, _), (99, _), (98, _), (14, _), (5, _), (4, _), (3, _), (0, _)]) rfl
    clear h600 h587 h589 h591 h593 a586 a590 a592 a594
    refine sv h602 (wanted_none rfl) rfl rfl rfl (v := .bool true) (rassign h602 rfl rfl) fun a604 h603 => ?_
    have h605 := h603.subs (l' := [(2, _), (14, _), (5, _), (4, _), (3, _), (0, _)]) rfl
    clear h603 h602 a601
    refine wpList_nil ?_
    refine hK588 _ _ ?_
    refine wp_ret ?_
    try simp only [Exit.then, Exit.inBlock]
    refine retR (v := .bool true) (res1 h605 rfl rfl) h605.defs ?_
    exact ⟨rfl, (s598.get 1 rfl : Below _ _ _ ∧ _).1⟩

end Go.Proofs.Ytpalgffmdinfpaa
end
