/- PosixRenames (sx/ptL.py) -/
import Derived.Test.YtcanemamnmmbcaaGreatDoorPyO
import Derived.Test.YtcanemamnmmbcaaGreatDoorPxZ
import Derived.Test.YtcanemamnmmbcaaGreatDoorSxU
namespace Go.Proofs.YtcanemamnmmbcaaGreatDoor
open Go.RowKit
set_option linter.unusedSimpArgs false
set_option linter.unusedVariables false
set_option maxRecDepth 100000

theorem fa_api_Info_yl2_0 (g off : Nat) (w : World) : (Instr.fieldAt 35 (.pointer (some ⟨g, off, none⟩)) 0).run Tryz.prog w = .ok (.pointer (some ⟨g, off + 0, none⟩)) w := rfl
theorem fa_api_Info_yl2_2 (g off : Nat) (w : World) : (Instr.fieldAt 35 (.pointer (some ⟨g, off, none⟩)) 2).run Tryz.prog w = .ok (.pointer (some ⟨g, off + 2, none⟩)) w := rfl
set_option maxHeartbeats 4000000 in
theorem eqS_api_Info_yl2_in (x0 : Int) (x1 : Int) (x2 : Int) (y0 : Int) (y1 : Int) (y2 : Int) (w : World) : (Op.equalIn 10000 35 (.agg #[.int .i64 x0, .int .i64 x1, .int .i64 x2]) (.agg #[.int .i64 y0, .int .i64 y1, .int .i64 y2])).run Tryz.prog w = .ok (decide (x0 = y0) && (decide (x1 = y1) && decide (x2 = y2))) w := by
 have u3 := Tryz.underlying3
 have a3 := Tryz.isAgg3
 have z3 := Tryz.sizeOf3
 have hS : Tryz.prog.underlying 35 = some (.struct (Tryz.prog.fieldsOf 35)) := by kernel_rfl
 have hp : Tryz.prog.stoodInHeld 35 = false := by kernel_rfl
 rw [show (10000 : Nat) = 9999 + 1 from rfl, run_equalIn_agg w 9999 35 _ _ hS hp]
 simp only [Program.fieldsOf, Tryz.underlying35]
 go_simp
 by_cases h0 : x0 = y0
 case neg => simp [h0]
 by_cases h1 : x1 = y1
 case neg => simp [h0, h1]
 by_cases h2 : x2 = y2
 case neg => simp [h0, h1, h2]
 simp [h0, h1, h2]
theorem eqS_api_Info_yl2_eql (o p : Operand) (x0 : Int) (x1 : Int) (x2 : Int) (y0 : Int) (y1 : Int) (y2 : Int) (w : World) : (do eqGuard .eql 35 o p (.agg #[.int .i64 x0, .int .i64 x1, .int .i64 x2]) (.agg #[.int .i64 y0, .int .i64 y1, .int .i64 y2]); binOp .eql 35 (.agg #[.int .i64 x0, .int .i64 x1, .int .i64 x2]) (.agg #[.int .i64 y0, .int .i64 y1, .int .i64 y2]) : Sem Value).run Tryz.prog w = .ok (.bool ((decide (x0 = y0) && (decide (x1 = y1) && decide (x2 = y2))))) w := by
 have e : (Op.equal 35 (.agg #[.int .i64 x0, .int .i64 x1, .int .i64 x2]) (.agg #[.int .i64 y0, .int .i64 y1, .int .i64 y2])).run Tryz.prog w = .ok (decide (x0 = y0) && (decide (x1 = y1) && decide (x2 = y2))) w := eqS_api_Info_yl2_in x0 x1 x2 y0 y1 y2 w
 rw [Sem.run_bind, run_eqGuard_agg (P := Tryz.prog) w .eql 35 o p _ _ (by kernel_rfl)]
 show (binOp .eql 35 _ _).run Tryz.prog w = _
 simp only [binOp, Sem.run_bind, e]
 rfl
set_option maxHeartbeats 4000000 in
theorem PosixRenames_walkL (W : World) (a0 : Option Addr) (n0 c0 : Nat) (f : Nat → AskV) (rb : AsksIn W a0 n0 c0 f) (s t : List UInt8) :
  Calls Tryz.prog 10 #[.slice a0 n0 c0, .string (strB s), .string (strB t)] W fun e W' => e = .returned (.bool true) ∧ Below W.heap.size W W' := by
 have hS : Sep W [oldC W W.heap.size] := Sep.start W
 suffices hZ : CallsR Tryz.prog 10 #[.slice a0 n0 c0, .string (strB s), .string (strB t)] W (fun v W' => v = .bool true ∧ Below W.heap.size W W') from Calls.mono hZ fun e W' ⟨v, e1, e2, h⟩ => ⟨by rw [e1, e2], h⟩
 refine enterR Tryz.func10 rfl (N := 118) Tryz.ntmps10 (by show 3 ≤ 118; decide) [(0, .slice a0 n0 c0), (1, .string (strB s)), (2, .string (strB t))] rfl fun _ h1 => sqr fun _ hK3 => mv h1 rfl fun _ h4 => wpList_nil <| hK3 _ _ <| sqr fun _ hK6 => mv h4 rfl fun _ h7 => cl h7 rfl cz_commonslaw06_played (playedF_s (most := 40) hS rb (by decide)) fun _ v1 w1 r1 h2 => ?_
 obtain ⟨cf, ob, F, Ax9, df, nax10, ncx11, eax12, ecx13, oax14, ocx15, rfl, s1, hA20⟩ := r1
 have hok0 : FsOk F := hA20.ok
 refine mvs 7 h2 rfl fun _ h3 => h3.sn [9,7,6,0,1,2] rfl fun h5 => hK6 _ _ <| sq fun _ hK1 => sqr fun _ hK2 => mvs 2 h5 rfl fun _ h6 => h6.sn [23,9,7,6,0,1,2] rfl fun h8 => hK2 _ _ <| wcF h8 rfl rfl <| h8.sk [9,7,6,0,1,2] rfl fun h9 => wp_skip <| hK1 _ _ ?_
 refine sq fun K1 hK4 => ?_
 have hJ47 : ∀ (X : List UInt8) a' w', Kn 118 [(9, .bool true), (7, .pointer (some ⟨cf, 0, none⟩)), (6, .bool false), (0, .slice a0 n0 c0), (1, .string (strB X)), (2, .string (strB t))] a' → Sep w' [blkC cf 65 [.pointer (some ⟨(Ax9.ad 0), 0, none⟩), .map (some ob)], nodX F Ax9, mapC KO ob Ax9.C (opG F Ax9), blkC df 51 [.slice nax10 F.N.length ncx11, .slice eax12 F.E.length ecx13, .slice oax14 F.O.length ocx15], ownC 0 88 3 nax10 F.N.length ncx11 (F.N.flatMap nodC), ownC 0 114 3 eax12 F.E.length ecx13 (F.E.flatMap entC), ownC 0 93 3 oax14 F.O.length ocx15 (F.O.flatMap opnC), oldC W W.heap.size] → (X.length ≤ 60) → K1 a' w' := by
  intro X a1 w2 h10 s2 hX
  refine hK4 _ _ ?_
  refine sq fun K2 hK5 => ?_
  have hJ53 : ∀ (Y : List UInt8) a' w', Kn 118 [(9, .bool true), (7, .pointer (some ⟨cf, 0, none⟩)), (6, .bool false), (0, .slice a0 n0 c0), (1, .string (strB X)), (2, .string (strB Y))] a' → Sep w' [blkC cf 65 [.pointer (some ⟨(Ax9.ad 0), 0, none⟩), .map (some ob)], nodX F Ax9, mapC KO ob Ax9.C (opG F Ax9), blkC df 51 [.slice nax10 F.N.length ncx11, .slice eax12 F.E.length ecx13, .slice oax14 F.O.length ocx15], ownC 0 88 3 nax10 F.N.length ncx11 (F.N.flatMap nodC), ownC 0 114 3 eax12 F.E.length ecx13 (F.E.flatMap entC), ownC 0 93 3 oax14 F.O.length ocx15 (F.O.flatMap opnC), oldC W W.heap.size] → (Y.length ≤ 60) → K2 a' w' := by
   intro Y a2 w3 h11 s3 hY
   refine hK5 _ _ ?_
   refine sqr fun _ hK7 => mvs 2 h11 rfl fun _ h12 => bu h12 (v := .agg #[.int .i64 13, .string (strB X), .string (strB []), .int .i64 0, .int .i64 0, .int .i64 0, .int .i64 0, .string (strB [])]) rfl (fun w => by kernel_rfl) fun _ h13 => ?_
   obtain ⟨ru, hru⟩ : ∃ r, (statF F X).2 = r := ⟨_, rfl⟩
   refine cl h13 rfl cz_posix_Fs_Do (doQ_c (cf := cf) (A := Ax9) (F := F) (n := 40) (x := (⟨13, X, [], 0, 0, 0, 0, []⟩ : CallM)) (G := F) (r := ru) s3 hA20 (by omega) (Nat.le_trans hX (by decide)) (Nat.zero_le _) (Nat.zero_le _) wf0 (by rw [← hru]; exact doStat F X)) fun _ v2 w4 r2 h14 => ?_
   obtain ⟨Ax65, sax66, scx67, rfl, s4, hA72⟩ := r2
   refine so (wanted_none rfl) fun _ hK8 => xalloc h14 rfl rfl rfl rfl (z := zL) (fun _ => rfl) s4 fun _ g1 w5 h15 s5 _ _ => hK8 _ _ ?_
   refine stA h15 s5 0 rfl rfl rfl (by kernel_rfl) rfl rfl rfl rfl fun _ w6 h16 s6 _ => h16.sn [10,9,7,6,0,1,2] rfl fun h17 => hK7 _ _ <| sqr fun _ hK9 => mvs 2 h17 rfl fun _ h18 => bu h18 (v := .agg #[.int .i64 13, .string (strB Y), .string (strB []), .int .i64 0, .int .i64 0, .int .i64 0, .int .i64 0, .string (strB [])]) rfl (fun w => by kernel_rfl) fun _ h19 => ?_
   obtain ⟨rt, hrt⟩ : ∃ r, (statF F Y).2 = r := ⟨_, rfl⟩
   refine cl h19 rfl cz_posix_Fs_Do (doQ_c (cf := cf) (A := Ax65) (F := F) (n := 41) (x := (⟨13, Y, [], 0, 0, 0, 0, []⟩ : CallM)) (G := F) (r := rt) (s6.pk [2,3,4,0,1,5,6,7,8,9] rfl) hA72 (by omega) (Nat.le_trans hY (by decide)) (Nat.zero_le _) (Nat.zero_le _) wf0 (by rw [← hrt]; exact doStat F Y)) fun _ v3 w7 r3 h20 => ?_
   obtain ⟨Ax97, sax98, scx99, rfl, s7, hA104⟩ := r3
   refine so (wanted_none rfl) fun _ hK10 => xalloc h20 rfl rfl rfl rfl (z := zL) (fun _ => rfl) s7 fun _ g2 w8 h21 s8 _ _ => hK10 _ _ ?_
   refine stA h21 s8 0 rfl rfl rfl (by kernel_rfl) rfl rfl rfl rfl fun _ w9 h22 s9 _ => h22.sn [11,10,9,7,6,0,1,2] rfl fun h23 => hK9 _ _ <| sqr fun _ hK11 => mvs 3 h23 rfl fun _ h24 => bu h24 (v := .agg #[.int .i64 11, .string (strB X), .string (strB Y), .int .i64 0, .int .i64 0, .int .i64 0, .int .i64 0, .string (strB [])]) rfl (fun w => by kernel_rfl) fun _ h25 => ?_
   obtain ⟨G, ra, hra⟩ : ∃ G r, doF F 1 (renX X Y) = (G, r) := ⟨_, _, rfl⟩
   refine cl h25 rfl cz_posix_Fs_Do (doQ_c (cf := cf) (A := Ax97) (F := F) (n := 42) (x := (⟨11, X, Y, 0, 0, 0, 0, []⟩ : CallM)) (G := G) (r := ra) (s9.pk [2,3,4,0,1,5,6,7,8,9,10,11] rfl) hA104 (by omega) (Nat.le_trans hX (by decide)) (Nat.le_trans hY (by decide)) (Nat.zero_le _) wf0 hra) fun _ v4 w10 r4 h26 => ?_
   obtain ⟨Ax131, sax132, scx133, rfl, s10, hA138⟩ := r4
   refine so (wanted_none rfl) fun _ hK12 => xalloc h26 rfl rfl rfl rfl (z := zL) (fun _ => rfl) s10 fun _ g3 w11 h27 s11 _ _ => hK12 _ _ ?_
   refine stA h27 s11 0 rfl rfl rfl (by kernel_rfl) rfl rfl rfl rfl fun _ w12 h28 s12 _ => h28.sn [12,11,10,9,7,6,0,1,2] rfl fun h29 => hK11 _ _ <| sq fun _ hK13 => sqr fun _ hK14 => fav h29 rfl (fz_api_Reply_0 _ _) fun _ h30 => ldv h30 (v := .int .i64 ra.e) s12 0 Tryz.underlying32 rfl rfl rfl rfl fun _ h31 => bv h31 (z := .bool (decide (ra.e ≠ 0))) rfl (cNe _ _ _ _ rfl) fun _ h32 => h32.sn [49,12,11,10,9,7,6,0,1,2] rfl fun h33 => hK14 _ _ ?_
   rcases bC (decide (ra.e ≠ 0)) with hc1 | hc1
   ·skip
    have hp1 : ra.e ≠ 0 := (dT hc1)
    refine wcT h33 rfl hc1 <| h33.sk [12,11,10,9,7,6,0,1,2] rfl fun h34 => sqr fun _ hK15 => cl h34 rfl cz_commonslaw06_lives (lives_s s12) fun _ v5 w13 r5 h35 => ?_
    obtain ⟨rfl, s13⟩ := r5
    refine h35.sk [50,12,11,10,9,7,0,1,2] rfl fun h36 => mv h36 rfl fun _ h37 => h37.sn [6,12,11,10,9,7,0,1,2] rfl fun h38 => hK15 _ _ <| wp_ret ?_
    try simp only [Exit.then, Exit.inBlock]
    refine retR (v := .bool true) (res1 h38 rfl rfl) h38.defs ?_
    exact ⟨rfl, (s13.get 13 rfl : Below _ _ _ ∧ _).1⟩
   ·skip
    have hp2 : ¬ (ra.e ≠ 0) := (dF hc1)
    refine wcF h33 rfl hc1 <| h33.sk [12,11,10,9,7,6,0,1,2] rfl fun h39 => wp_skip <| hK13 _ _ <| sqr fun _ hK16 => mvs 2 h39 rfl fun _ h40 => bu h40 (v := .agg #[.int .i64 13, .string (strB Y), .string (strB []), .int .i64 0, .int .i64 0, .int .i64 0, .int .i64 0, .string (strB [])]) rfl (fun w => by kernel_rfl) fun _ h41 => ?_
    obtain ⟨rn, hrn⟩ : ∃ r, (statF G Y).2 = r := ⟨_, rfl⟩
    refine cl h41 rfl cz_posix_Fs_Do (doQ_c (cf := cf) (A := Ax131) (F := G) (n := 43) (x := (⟨13, Y, [], 0, 0, 0, 0, []⟩ : CallM)) (G := G) (r := rn) (s12.pk [2,3,4,0,1,5,6,7,8,9,10,11,12,13] rfl) hA138 (by omega) (Nat.le_trans hY (by decide)) (Nat.zero_le _) (Nat.zero_le _) wf0 (by rw [← hrn]; exact doStat G Y)) fun _ v6 w14 r6 h42 => ?_
    obtain ⟨Ax189, sax190, scx191, rfl, s14, hA196⟩ := r6
    refine so (wanted_none rfl) fun _ hK17 => xalloc h42 rfl rfl rfl rfl (z := zL) (fun _ => rfl) s14 fun _ g4 w15 h43 s15 _ _ => hK17 _ _ ?_
    refine stA h43 s15 0 rfl rfl rfl (by kernel_rfl) rfl rfl rfl rfl fun _ w16 h44 s16 _ => h44.sn [13,12,11,10,9,7,6,0,1,2] rfl fun h45 => hK16 _ _ <| sqr fun _ hK18 => mvs 2 h45 rfl fun _ h46 => bu h46 (v := .agg #[.int .i64 13, .string (strB X), .string (strB []), .int .i64 0, .int .i64 0, .int .i64 0, .int .i64 0, .string (strB [])]) rfl (fun w => by kernel_rfl) fun _ h47 => ?_
    obtain ⟨ro, hro⟩ : ∃ r, (statF G X).2 = r := ⟨_, rfl⟩
    refine cl h47 rfl cz_posix_Fs_Do (doQ_c (cf := cf) (A := Ax189) (F := G) (n := 44) (x := (⟨13, X, [], 0, 0, 0, 0, []⟩ : CallM)) (G := G) (r := ro) (s16.pk [2,3,4,0,1,5,6,7,8,9,10,11,12,13,14,15] rfl) hA196 (by omega) (Nat.le_trans hX (by decide)) (Nat.zero_le _) (Nat.zero_le _) wf0 (by rw [← hro]; exact doStat G X)) fun _ v7 w17 r7 h48 => ?_
    obtain ⟨Ax221, sax222, scx223, rfl, s17, hA228⟩ := r7
    refine so (wanted_none rfl) fun _ hK19 => xalloc h48 rfl rfl rfl rfl (z := zL) (fun _ => rfl) s17 fun _ g5 w18 h49 s18 _ _ => hK19 _ _ ?_
    refine stA h49 s18 0 rfl rfl rfl (by kernel_rfl) rfl rfl rfl rfl fun _ w19 h50 s19 _ => h50.sn [14,13,12,11,10,9,7,6,0,1,2] rfl fun h51 => hK18 _ _ <| sq fun _ hK20 => sq fun _ hK21 => ?_
    have hre : renameF F X Y = (G, ra) := hra
    obtain ⟨⟨q1, q2, q3, q4⟩, q5, q6⟩ := renamed_stat hok0 (X := X) (Y := Y) (by rw [hre]; show ra.e = 0; omega)
    rw [hre] at q2 q3 q4 q5 q6; rw [hru] at q1 q3 q4 q6; rw [hrn] at q2 q3 q4; rw [hro] at q5 q6; rw [hrt] at q6
    refine wp_region_lit <| fav h51 rfl (fz_api_Reply_0 _ _) fun _ h52 => ldv h52 (v := .int .i64 ru.e) s19 11 Tryz.underlying32 rfl rfl rfl rfl fun _ h53 => bv h53 rfl (cNe _ _ _ _ (decide_eq_false (by omega))) fun _ h54 => mv h54 rfl fun _ h55 => sv h55 (wF h55 (E := false) rfl rfl rfl) rfl rfl rfl (v := .pointer (some ⟨g4, 0, none⟩)) (rfa h55 rfl rfl (fun w => fz_api_Reply_0 g4 0 w)) fun _ h56 => sw h56 (wF h56 (E := false) rfl rfl rfl) rfl rfl rfl (v := .int .i64 rn.e) (rld h56 rfl rfl (ldB Tryz.underlying32 rfl (s19.get 5 rfl : Blk _ _ _ _) rfl)) fun _ h57 => sv h57 (wF h57 (E := false) rfl rfl rfl) rfl rfl rfl (v := .bool false) (rbin h57 rfl rfl rfl (cNe _ _ _ _ (decide_eq_false (by omega)))) fun _ h58 => sv1 h58 rfl (v := .bool false) (rpick h58 rfl rfl rfl) fun _ h59 => mv h59 rfl fun _ h60 => ?_
    refine sv h60 (wF h60 (E := false) rfl rfl rfl) rfl rfl rfl (v := .pointer (some ⟨g4, 4, none⟩)) (rfa h60 rfl rfl (fun w => fz_api_Reply_4 g4 0 w)) fun _ h61 => sv h61 (wF h61 (E := false) rfl rfl rfl) rfl rfl rfl (v := .pointer (some ⟨g4, 4, none⟩)) (rfa h61 rfl rfl (fun w => fa_api_Info_yl2_0 g4 4 w)) fun _ h62 => sw h62 (wF h62 (E := false) rfl rfl rfl) rfl rfl rfl (v := .int .i64 rn.kind) (rld h62 rfl rfl (ldB Tryz.underlying3 rfl (s19.get 5 rfl : Blk _ _ _ _) rfl)) fun _ h63 => sv h63 (wF h63 (E := false) rfl rfl rfl) rfl rfl rfl (v := .pointer (some ⟨g1, 4, none⟩)) (rfa h63 rfl rfl (fun w => fz_api_Reply_4 g1 0 w)) fun _ h64 => sv h64 (wF h64 (E := false) rfl rfl rfl) rfl rfl rfl (v := .pointer (some ⟨g1, 4, none⟩)) (rfa h64 rfl rfl (fun w => fa_api_Info_yl2_0 g1 4 w)) fun _ h65 => sw h65 (wF h65 (E := false) rfl rfl rfl) rfl rfl rfl (v := .int .i64 ru.kind) (rld h65 rfl rfl (ldB Tryz.underlying3 rfl (s19.get 11 rfl : Blk _ _ _ _) rfl)) fun _ h66 => sv h66 (wF h66 (E := false) rfl rfl rfl) rfl rfl rfl (v := .bool false) (rbin h66 rfl rfl rfl (cNe _ _ _ _ (decide_eq_false (by omega)))) fun _ h67 => sv1 h67 rfl (v := .bool false) (rpick h67 rfl rfl rfl) fun _ h68 => mv h68 rfl fun _ h69 => sv h69 (wF h69 (E := false) rfl rfl rfl) rfl rfl rfl (v := .pointer (some ⟨g4, 4, none⟩)) (rfa h69 rfl rfl (fun w => fz_api_Reply_4 g4 0 w)) fun _ h70 => ?_
    refine sv h70 (wF h70 (E := false) rfl rfl rfl) rfl rfl rfl (v := .pointer (some ⟨g4, 6, none⟩)) (rfa h70 rfl rfl (fun w => fa_api_Info_yl2_2 g4 4 w)) fun _ h71 => sw h71 (wF h71 (E := false) rfl rfl rfl) rfl rfl rfl (v := .int .i64 rn.size) (rld h71 rfl rfl (ldB Tryz.underlying3 rfl (s19.get 5 rfl : Blk _ _ _ _) rfl)) fun _ h72 => sv h72 (wF h72 (E := false) rfl rfl rfl) rfl rfl rfl (v := .pointer (some ⟨g1, 4, none⟩)) (rfa h72 rfl rfl (fun w => fz_api_Reply_4 g1 0 w)) fun _ h73 => sv h73 (wF h73 (E := false) rfl rfl rfl) rfl rfl rfl (v := .pointer (some ⟨g1, 6, none⟩)) (rfa h73 rfl rfl (fun w => fa_api_Info_yl2_2 g1 4 w)) fun _ h74 => sw h74 (wF h74 (E := false) rfl rfl rfl) rfl rfl rfl (v := .int .i64 ru.size) (rld h74 rfl rfl (ldB Tryz.underlying3 rfl (s19.get 11 rfl : Blk _ _ _ _) rfl)) fun _ h75 => sv h75 (wF h75 (E := false) rfl rfl rfl) rfl rfl rfl (v := .bool false) (rbin h75 rfl rfl rfl (cNe _ _ _ _ (decide_eq_false (by omega)))) fun _ h76 => sv1 h76 rfl (v := .bool false) (rpick h76 rfl rfl rfl) fun _ h77 => h77.sn [84,14,13,12,11,10,9,7,6,0,1,2] rfl fun h78 => hK21 _ _ <| wcF h78 rfl rfl ?_
    refine h78.sk [14,13,12,11,10,9,7,6,0,1,2] rfl fun h79 => wp_skip <| hK20 _ _ <| sq fun _ hK22 => sqr fun _ hK23 => mvs 2 h79 rfl fun _ h80 => bv h80 (z := .bool (decide (X = Y))) rfl (bStrEqL _ _ _ X Y rfl) fun _ h81 => h81.sn [87,14,13,12,11,10,9,7,6,0,1,2] rfl fun h82 => hK23 _ _ ?_
    rcases bC (decide (X = Y)) with hc2 | hc2
    ·skip
     have hp3 : X = Y := (dT hc2)
     have q7 : ro.e = 0 := q5 (dT hc2)
     refine wcT h82 rfl hc2 <| h82.sk [14,13,12,11,10,9,7,6,0,1,2] rfl fun h83 => sqr fun _ hK24 => fav h83 rfl (fz_api_Reply_0 _ _) fun _ h84 => ldv h84 (v := .int .i64 ro.e) s19 0 Tryz.underlying32 rfl rfl rfl rfl fun _ h85 => bv h85 rfl (cEq _ _ _ _ (decide_eq_true (by omega))) fun _ h86 => mv h86 rfl fun _ h87 => so (wT h87 (E := true) rfl rfl rfl) fun _ hK25 => xcall h87 rfl rfl rfl (xs := []) rfl cz_commonslaw06_lives rfl (vs := []) rfl (args := #[]) rfl (lives_s s19) fun _ v8 w20 r8 h88 => hK25 _ _ ?_
     obtain ⟨rfl, s20⟩ := r8
     refine sv1 h88 rfl (v := .bool true) (rpick h88 rfl rfl rfl) fun _ h89 => h89.sk [93,92,91,90,89,88,14,13,12,11,10,9,7,0,1,2] rfl fun h90 => mv h90 rfl fun _ h91 => h91.sn [6,14,13,12,11,10,9,7,0,1,2] rfl fun h92 => hK24 _ _ <| wp_ret ?_
     try simp only [Exit.then, Exit.inBlock]
     refine retR (v := .bool true) (res1 h92 rfl rfl) h92.defs ?_
     exact ⟨rfl, (s20.get 17 rfl : Below _ _ _ ∧ _).1⟩
    ·skip
     have hp4 : ¬ (X = Y) := (dF hc2)
     refine wcF h82 rfl hc2 <| h82.sk [14,13,12,11,10,9,7,6,0,1,2] rfl fun h93 => wp_skip <| hK22 _ _ <| sqr fun _ hK26 => fav h93 rfl (fz_api_Reply_0 _ _) fun _ h94 => ldv h94 (v := .int .i64 ro.e) s19 0 Tryz.underlying32 rfl rfl rfl rfl fun _ h95 => bv h95 (z := .bool (decide (ro.e = 10))) rfl (cEq _ _ _ _ rfl) fun _ h96 => mv h96 rfl fun _ h97 => ?_
     rcases bC (decide (ro.e = 10)) with hc3 | hc3
     ·skip
      have hp5 : ro.e = 10 := (dT hc3)
      refine su h97 ((wF h97 rfl rfl rfl).trans (bNotT hc3)) rfl rfl rfl fun _ h98 => su h98 ((wF h98 rfl rfl rfl).trans (bNotT hc3)) rfl rfl rfl fun _ h99 => su h99 ((wF h99 rfl rfl rfl).trans (bNotT hc3)) rfl rfl rfl fun _ h100 => sv1 h100 rfl (v := .bool true) (rpickE h100 rfl (E := (decide (ro.e = 10))) (b := true) rfl hc3 rfl) fun _ h101 => mv h101 rfl fun _ h102 => h102.sn [15,14,13,12,11,10,9,7,6,0,1,2] rfl fun h103 => hK26 _ _ <| sqr fun _ hK27 => mvs 2 h103 rfl fun _ h104 => su h104 (wF h104 (E := true) rfl rfl rfl) rfl rfl rfl fun _ h105 => ?_
      refine su h105 (wF h105 (E := true) rfl rfl rfl) rfl rfl rfl fun _ h106 => su h106 (wF h106 (E := true) rfl rfl rfl) rfl rfl rfl fun _ h107 => su h107 (wF h107 (E := true) rfl rfl rfl) rfl rfl rfl fun _ h108 => su h108 (wgu h108 rfl rfl rfl) rfl rfl rfl fun _ h109 => su h109 (wgu h109 rfl rfl rfl) rfl rfl rfl fun _ h110 => su h110 (wgu h110 rfl rfl rfl) rfl rfl rfl fun _ h111 => su h111 (wgu h111 rfl rfl rfl) rfl rfl rfl fun _ h112 => su h112 (wgu h112 rfl rfl rfl) rfl rfl rfl fun _ h113 => su h113 (wF h113 (E := true) rfl rfl rfl) rfl rfl rfl fun _ h114 => sv1 h114 rfl (v := .bool true) (rpick h114 rfl rfl rfl) fun _ h115 => ?_
      refine mv h115 rfl fun _ h116 => so (wT h116 (E := true) rfl rfl rfl) fun _ hK28 => xcall h116 rfl rfl rfl (xs := []) rfl cz_commonslaw06_lives rfl (vs := []) rfl (args := #[]) rfl (lives_s s19) fun _ v9 w21 r9 h117 => hK28 _ _ ?_
      obtain ⟨rfl, s21⟩ := r9
      refine sv1 h117 rfl (v := .bool true) (rpick h117 rfl rfl rfl) fun _ h118 => h118.sk [117,116,115,114,113,112,111,110,109,108,107,106,105,104,103,102,15,14,13,12,11,10,9,7,0,1,2] rfl fun h119 => mv h119 rfl fun _ h120 => h120.sn [6,15,14,13,12,11,10,9,7,0,1,2] rfl fun h121 => hK27 _ _ <| wp_ret ?_
      try simp only [Exit.then, Exit.inBlock]
      refine retR (v := .bool true) (res1 h121 rfl rfl) h121.defs ?_
      exact ⟨rfl, (s21.get 17 rfl : Below _ _ _ ∧ _).1⟩
     ·skip
      have hp6 : ¬ (ro.e = 10) := (dF hc3)
      obtain ⟨q8, q9, q10, q11⟩ := q6.resolve_left (dF hc3)
      refine sv h97 ((wF h97 rfl rfl rfl).trans (bNotF hc3)) rfl rfl rfl (v := .pointer (some ⟨g5, 0, none⟩)) (rfa h97 rfl rfl (fun w => fz_api_Reply_0 g5 0 w)) fun _ h122 => sw h122 ((wF h122 rfl rfl rfl).trans (bNotF hc3)) rfl rfl rfl (v := .int .i64 ro.e) (rld h122 rfl rfl (ldB Tryz.underlying32 rfl (s19.get 0 rfl : Blk _ _ _ _) rfl)) fun _ h123 => sv h123 ((wF h123 rfl rfl rfl).trans (bNotF hc3)) rfl rfl rfl (v := .bool (decide (ro.e = 12))) (rbin h123 rfl rfl rfl (cEq _ _ _ _ rfl)) fun _ h124 => sv1 h124 rfl (v := .bool (decide (ro.e = 12))) (rpickE h124 rfl (E := (decide (ro.e = 10))) (b := false) rfl hc3 rfl) fun _ h125 => mv h125 rfl fun _ h126 => h126.sn [15,14,13,12,11,10,9,7,6,0,1,2] rfl fun h127 => hK26 _ _ <| sqr fun _ hK29 => mvs 2 h127 rfl fun _ h128 => ?_
      rcases bC (decide (ro.e = 12)) with hc4 | hc4
      ·skip
       have hp7 : ro.e = 12 := (dT hc4)
       refine su h128 ((wF h128 rfl rfl rfl).trans (bNotT hc4)) rfl rfl rfl fun _ h129 => su h129 ((wF h129 rfl rfl rfl).trans (bNotT hc4)) rfl rfl rfl fun _ h130 => su h130 ((wF h130 rfl rfl rfl).trans (bNotT hc4)) rfl rfl rfl fun _ h131 => su h131 ((wF h131 rfl rfl rfl).trans (bNotT hc4)) rfl rfl rfl fun _ h132 => su h132 (wgu h132 rfl rfl rfl) rfl rfl rfl fun _ h133 => su h133 (wgu h133 rfl rfl rfl) rfl rfl rfl fun _ h134 => su h134 (wgu h134 rfl rfl rfl) rfl rfl rfl fun _ h135 => su h135 (wgu h135 rfl rfl rfl) rfl rfl rfl fun _ h136 => su h136 (wgu h136 rfl rfl rfl) rfl rfl rfl fun _ h137 => su h137 ((wF h137 rfl rfl rfl).trans (bNotT hc4)) rfl rfl rfl fun _ h138 => ?_
       refine sv1 h138 rfl (v := .bool true) (rpickE h138 rfl (E := (decide (ro.e = 12))) (b := true) rfl hc4 rfl) fun _ h139 => mv h139 rfl fun _ h140 => so (wT h140 (E := true) rfl rfl rfl) fun _ hK30 => xcall h140 rfl rfl rfl (xs := []) rfl cz_commonslaw06_lives rfl (vs := []) rfl (args := #[]) rfl (lives_s s19) fun _ v10 w22 r10 h141 => hK30 _ _ ?_
       obtain ⟨rfl, s22⟩ := r10
       refine sv1 h141 rfl (v := .bool true) (rpick h141 rfl rfl rfl) fun _ h142 => h142.sk [117,116,115,114,113,112,111,110,109,108,107,106,105,104,103,102,15,14,13,12,11,10,9,7,0,1,2] rfl fun h143 => mv h143 rfl fun _ h144 => h144.sn [6,15,14,13,12,11,10,9,7,0,1,2] rfl fun h145 => hK29 _ _ <| wp_ret ?_
       try simp only [Exit.then, Exit.inBlock]
       refine retR (v := .bool true) (res1 h145 rfl rfl) h145.defs ?_
       exact ⟨rfl, (s22.get 17 rfl : Below _ _ _ ∧ _).1⟩
      ·skip
       have hp8 : ¬ (ro.e = 12) := (dF hc4)
       refine sv h128 ((wF h128 rfl rfl rfl).trans (bNotF hc4)) rfl rfl rfl (v := .pointer (some ⟨g2, 0, none⟩)) (rfa h128 rfl rfl (fun w => fz_api_Reply_0 g2 0 w)) fun _ h146 => sw h146 ((wF h146 rfl rfl rfl).trans (bNotF hc4)) rfl rfl rfl (v := .int .i64 rt.e) (rld h146 rfl rfl (ldB Tryz.underlying32 rfl (s19.get 9 rfl : Blk _ _ _ _) rfl)) fun _ h147 => sv h147 ((wF h147 rfl rfl rfl).trans (bNotF hc4)) rfl rfl rfl (v := .bool true) (rbin h147 rfl rfl rfl (cEq _ _ _ _ (decide_eq_true (by omega)))) fun _ h148 => sv h148 ((wF h148 rfl rfl rfl).trans (bNotF hc4)) rfl rfl rfl (v := .bool true) (rmove h148 rfl rfl) fun _ h149 => sv h149 (wT h149 (E := true) rfl rfl rfl) rfl rfl rfl (v := .pointer (some ⟨g2, 4, none⟩)) (rfa h149 rfl rfl (fun w => fz_api_Reply_4 g2 0 w)) fun _ h150 => sw h150 (wT h150 (E := true) rfl rfl rfl) rfl rfl rfl (v := .agg #[.int .i64 rt.kind, .int .i64 rt.links, .int .i64 rt.size]) (rld h150 rfl rfl (ldA Tryz.underlying35 rfl (n := 3) (by kernel_rfl) (s19.get 9 rfl : Blk _ _ _ _) rfl rfl)) fun _ h151 => sv h151 (wT h151 (E := true) rfl rfl rfl) rfl rfl rfl (v := .pointer (some ⟨g1, 4, none⟩)) (rfa h151 rfl rfl (fun w => fz_api_Reply_4 g1 0 w)) fun _ h152 => sw h152 (wT h152 (E := true) rfl rfl rfl) rfl rfl rfl (v := .agg #[.int .i64 ru.kind, .int .i64 ru.links, .int .i64 ru.size]) (rld h152 rfl rfl (ldA Tryz.underlying35 rfl (n := 3) (by kernel_rfl) (s19.get 11 rfl : Blk _ _ _ _) rfl rfl)) fun _ h153 => sv h153 (wT h153 (E := true) rfl rfl rfl) rfl rfl rfl (v := .bool ((decide (rt.kind = ru.kind)) && ((decide (rt.links = ru.links)) && (decide (rt.size = ru.size))))) (rbin h153 rfl rfl rfl (eqS_api_Info_yl2_eql _ _ rt.kind rt.links rt.size ru.kind ru.links ru.size)) fun _ h154 => sv h154 ((wF h154 rfl rfl rfl).trans (bNotF hc4)) rfl rfl rfl (v := .bool ((decide (rt.kind = ru.kind)) && ((decide (rt.links = ru.links)) && (decide (rt.size = ru.size))))) (rpick h154 rfl rfl rfl) fun _ h155 => ?_
       refine sv1 h155 rfl (v := .bool ((decide (rt.kind = ru.kind)) && ((decide (rt.links = ru.links)) && (decide (rt.size = ru.size))))) (rpickE h155 rfl (E := (decide (ro.e = 12))) (b := false) rfl hc4 rfl) fun _ h156 => mv h156 rfl fun _ h157 => so ((wT h157 rfl rfl rfl).trans (bAnd (decide_eq_true (by omega)) (bAnd (decide_eq_true (by omega)) (decide_eq_true (by omega))))) fun _ hK31 => xcall h157 rfl rfl rfl (xs := []) rfl cz_commonslaw06_lives rfl (vs := []) rfl (args := #[]) rfl (lives_s s19) fun _ v11 w23 r11 h158 => hK31 _ _ ?_
       obtain ⟨rfl, s23⟩ := r11
       refine sv1 h158 rfl (v := .bool true) (rpickE h158 rfl (E := ((decide (rt.kind = ru.kind)) && ((decide (rt.links = ru.links)) && (decide (rt.size = ru.size))))) (b := true) rfl (bAnd (decide_eq_true (by omega)) (bAnd (decide_eq_true (by omega)) (decide_eq_true (by omega)))) rfl) fun _ h159 => h159.sk [117,116,115,114,113,112,111,110,109,108,107,106,105,104,103,102,15,14,13,12,11,10,9,7,0,1,2] rfl fun h160 => mv h160 rfl fun _ h161 => h161.sn [6,15,14,13,12,11,10,9,7,0,1,2] rfl fun h162 => hK29 _ _ <| wp_ret ?_
       try simp only [Exit.then, Exit.inBlock]
       refine retR (v := .bool true) (res1 h162 rfl rfl) h162.defs ?_
       exact ⟨rfl, (s23.get 17 rfl : Below _ _ _ ∧ _).1⟩
  refine sqr fun _ hK32 => mv h10 rfl fun _ h163 => sv1 h163 rfl (v := .int .i64 (t.length : Int)) (rlenT h163 rfl rfl Tryz.underlying9) fun _ h164 => bv h164 (z := .bool (decide ((t.length : Int) > 60))) rfl (cGt _ _ _ _ rfl) fun _ h165 => h165.sn [31,9,7,6,0,1,2] rfl fun h166 => hK32 _ _ ?_
  rcases bC (decide ((t.length : Int) > 60)) with hc5 | hc5
  ·skip
   have hp9 : (t.length : Int) > 60 := (dT hc5)
   refine wcT h166 rfl hc5 <| h166.sk [9,7,6,0,1,2] rfl fun h167 => wp_region_lit <| mv h167 rfl fun _ h168 => sv1 h168 rfl (v := .string (strB (t.take 60))) (rslT h168 rfl rfl (vl := none) (vh := (some (.int .i64 60))) rfl rfl (fun w => (fun w => ((slT 9 Tryz.underlying9 t (a := 0) (b := 60) (.inl ⟨rfl, rfl⟩) (.inr ⟨_, rfl, rfl⟩) (by omega) (by omega)) w).trans (by rw [List.drop_zero])) w)) fun _ h169 => h169.sk [33,32,9,7,6,0,1] rfl fun h170 => mv h170 rfl fun _ h171 => h171.sk [2,9,7,6,0,1] rfl fun h172 => wpList_nil ?_
   exact hJ53 (t.take 60) _ _ (h172.subs rfl) s2 (by show (List.take 60 t).length ≤ 60; rw [List.length_take]; omega)
  ·skip
   have hp10 : ¬ ((t.length : Int) > 60) := (dF hc5)
   refine wcF h166 rfl hc5 <| h166.sk [9,7,6,0,1,2] rfl fun h173 => wp_skip ?_
   exact hJ53 t _ _ (h173.subs rfl) s2 (by omega)
 refine sqr fun _ hK33 => mv h9 rfl fun _ h174 => sv1 h174 rfl (v := .int .i64 (s.length : Int)) (rlenT h174 rfl rfl Tryz.underlying9) fun _ h175 => bv h175 (z := .bool (decide ((s.length : Int) > 60))) rfl (cGt _ _ _ _ rfl) fun _ h176 => h176.sn [26,9,7,6,0,1,2] rfl fun h177 => hK33 _ _ ?_
 rcases bC (decide ((s.length : Int) > 60)) with hc6 | hc6
 ·skip
  have hp11 : (s.length : Int) > 60 := (dT hc6)
  refine wcT h177 rfl hc6 <| h177.sk [9,7,6,0,1,2] rfl fun h178 => wp_region_lit <| mv h178 rfl fun _ h179 => sv1 h179 rfl (v := .string (strB (s.take 60))) (rslT h179 rfl rfl (vl := none) (vh := (some (.int .i64 60))) rfl rfl (fun w => (fun w => ((slT 9 Tryz.underlying9 s (a := 0) (b := 60) (.inl ⟨rfl, rfl⟩) (.inr ⟨_, rfl, rfl⟩) (by omega) (by omega)) w).trans (by rw [List.drop_zero])) w)) fun _ h180 => h180.sk [28,27,9,7,6,0,2] rfl fun h181 => mv h181 rfl fun _ h182 => h182.sk [1,9,7,6,0,2] rfl fun h183 => wpList_nil ?_
  exact hJ47 (s.take 60) _ _ (h183.subs rfl) s1 (by show (List.take 60 s).length ≤ 60; rw [List.length_take]; omega)
 ·skip
  have hp12 : ¬ ((s.length : Int) > 60) := (dF hc6)
  refine wcF h177 rfl hc6 <| h177.sk [9,7,6,0,1,2] rfl fun h184 => wp_skip ?_
  exact hJ47 s _ _ (h184.subs rfl) s1 (by omega)

theorem PosixRenames_walk (W : World) (a0 : Option Addr) (n0 c0 : Nat) (f : Nat → AskV) (rb : AsksIn W a0 n0 c0 f) (s : ByteArray) (hs : s.size ≤ maxLen) (t : ByteArray) (ht : t.size ≤ maxLen) : Calls Tryz.prog 10 #[.slice a0 n0 c0, .string s, .string t] W fun e W' => e = .returned (.bool true) ∧ Below W.heap.size W W' := PosixRenames_walkL W a0 n0 c0 f rb s.data.toList t.data.toList

end Go.Proofs.YtcanemamnmmbcaaGreatDoor
