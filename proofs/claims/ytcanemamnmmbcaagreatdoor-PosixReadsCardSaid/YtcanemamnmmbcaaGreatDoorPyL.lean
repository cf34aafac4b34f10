/- the document's examples (sx/ptI.py) -/
import Derived.Test.YtcanemamnmmbcaaGreatDoorPyMd
import Derived.Test.YtcanemamnmmbcaaGreatDoorSxU
import Derived.Test.YtcanemamnmmbcaaGreatDoorPxZ
namespace Go.Proofs.YtcanemamnmmbcaaGreatDoor
open Go.RowKit
set_option linter.unusedSimpArgs false
set_option linter.unusedVariables false
set_option maxRecDepth 100000
def lc0 : CallM := ⟨1, [47, 97], [], 1, 0, 0, 0, []⟩
def lc1 : CallM := ⟨4, [], [], 0, 0, 2, 0, [120]⟩
def lc2 : CallM := ⟨3, [], [], 0, 0, 0, 9, []⟩
def lc3 : CallM := ⟨10, [47, 97], [], 0, 0, 0, 0, []⟩
def lc4 : CallM := ⟨3, [], [], 0, 0, 0, 9, []⟩
def lc5 : CallM := ⟨7, [47, 100], [], 0, 0, 0, 0, []⟩
def lc6 : CallM := ⟨11, [47, 100], [47, 100, 47, 101], 0, 0, 0, 0, []⟩
def lF0 : FsM := fs0
def lF1 : FsM := (doF lF0 1 lc0).1
def lr1 : RepM := (doF lF0 1 lc0).2
def lF2 : FsM := (doF lF1 1 lc1).1
def lr2 : RepM := (doF lF1 1 lc1).2
def lF3 : FsM := (doF lF2 1 lc2).1
def lr3 : RepM := (doF lF2 1 lc2).2
def lF4 : FsM := (doF lF3 2 lc3).1
def lr4 : RepM := (doF lF3 2 lc3).2
def lF5 : FsM := (doF lF4 1 lc4).1
def lr5 : RepM := (doF lF4 1 lc4).2
def lF6 : FsM := (doF lF5 1 lc5).1
def lr6 : RepM := (doF lF5 1 lc5).2
def lF7 : FsM := (doF lF6 1 lc6).1
def lr7 : RepM := (doF lF6 1 lc6).2
def lFn : Nat → FsM | 0 => lF0 | 1 => lF1 | 2 => lF2 | 3 => lF3 | 4 => lF4 | 5 => lF5 | 6 => lF6 | _ => lF7
theorem lF_both : (FsOk lF0 ∧ SzF lF0 0) ∧ (FsOk lF1 ∧ SzF lF1 1) ∧ (FsOk lF2 ∧ SzF lF2 2) ∧ (FsOk lF3 ∧ SzF lF3 3) ∧ (FsOk lF4 ∧ SzF lF4 4) ∧ (FsOk lF5 ∧ SzF lF5 5) ∧ (FsOk lF6 ∧ SzF lF6 6) := by
 have h0 : FsOk lF0 ∧ SzF lF0 0 := ⟨fs0_ok, fs0_sz⟩
 have h1 : FsOk lF1 ∧ SzF lF1 1 := ⟨h0.1.do_ _ _, h0.2.do_ _ _⟩
 have h2 : FsOk lF2 ∧ SzF lF2 2 := ⟨h1.1.do_ _ _, h1.2.do_ _ _⟩
 have h3 : FsOk lF3 ∧ SzF lF3 3 := ⟨h2.1.do_ _ _, h2.2.do_ _ _⟩
 have h4 : FsOk lF4 ∧ SzF lF4 4 := ⟨h3.1.do_ _ _, h3.2.do_ _ _⟩
 have h5 : FsOk lF5 ∧ SzF lF5 5 := ⟨h4.1.do_ _ _, h4.2.do_ _ _⟩
 have h6 : FsOk lF6 ∧ SzF lF6 6 := ⟨h5.1.do_ _ _, h5.2.do_ _ _⟩
 exact ⟨h0, h1, h2, h3, h4, h5, h6⟩
theorem lF_all : ∀ i, i < 7 → FsOk (lFn i) ∧ SzF (lFn i) i := by
 obtain ⟨h0, h1, h2, h3, h4, h5, h6⟩ := lF_both
 intro i hi
 match i, hi with
 | 0, _ => exact h0
 | 1, _ => exact h1
 | 2, _ => exact h2
 | 3, _ => exact h3
 | 4, _ => exact h4
 | 5, _ => exact h5
 | 6, _ => exact h6
theorem lF_ok (i : Nat) (hi : i < 7 := by decide) : FsOk (lFn i) := (lF_all i hi).1
theorem lF_ss (i : Nat) (hi : i < 7) : SmS (lFn i) := (lF_all i hi).2.ss (by omega)
theorem lz1 : lr1.e = 0 := by decide +kernel
theorem lz2 : lr1.fd = 0 := by decide +kernel
theorem lz3 : lr2.e = 0 := by decide +kernel
theorem lz4 : lr3.data = [0, 0, 120] := by decide +kernel
theorem lz5 : lr4.e = 0 := by decide +kernel
theorem lz6 : lr5.data = lr3.data := by decide +kernel
theorem lz7 : lr6.e = 0 := by decide +kernel
theorem lz8 : lr7.e = 15 := by decide +kernel


set_option maxHeartbeats 4000000 in
theorem lives_s {w : World} {R : List Ch} (hS0 : Sep w R) :
  CallsR Tryz.prog 12 #[] w (fun v w' => v = .bool true ∧ Sep w' R) := by
 have hS : Sep w [Ch.many R] := Sep.tail_many (xs := []) hS0; clear hS0
 refine enterR Tryz.func12 rfl (N := 73) Tryz.ntmps12 (by show 0 ≤ 73; decide) [] rfl fun _ h1 => sqr fun _ hK3 => mv h1 rfl fun _ h4 => wpList_nil <| hK3 _ _ <| sqr fun _ hK6 => cl h4 rfl cz_posix_New (new_c hS) fun _ v1 w1 r1 h8 => ?_
 obtain ⟨cf, ob, Ax7, rfl, s1, hA12⟩ := r1
 refine mv h8 rfl fun _ h2 => h2.sn [1,0] rfl fun h3 => hK6 _ _ <| sq fun _ hK1 => sqr fun _ hK2 => mv h3 rfl fun _ h5 => bv h5 rfl (bNil _ Tryz.underlying23 _ _ _) fun _ h6 => h6.sn [11,1,0] rfl fun h7 => hK2 _ _ <| wcF h7 rfl rfl <| h7.sk [1,0] rfl fun h9 => ?_
 refine wp_skip <| hK1 _ _ <| sqr fun _ hK4 => mv h9 rfl fun _ h10 => bu h10 (v := .agg #[.int .i64 1, .string (strB [47, 97]), .string (strB []), .int .i64 1, .int .i64 0, .int .i64 0, .int .i64 0, .string (strB [])]) rfl (fun w => by kernel_rfl) fun _ h11 => cl h11 rfl cz_posix_Fs_Do (do_c (A := Ax7) (F := lF0) (n := 0) (c := 1) (x := lc0) s1 (lF_ok 0) hA12 (by omega) (lF_ss 0 (by omega)) (by decide) (by decide) (by decide) (by decide)) fun _ v2 w2 r2 h12 => ?_
 obtain ⟨Ax31, sax32, scx33, rfl, s2, hA38⟩ := r2
 refine so (wanted_none rfl) fun _ hK5 => xalloc h12 rfl rfl rfl rfl (z := zL) (fun _ => rfl) s2 fun _ g1 w3 h13 s3 _ _ => hK5 _ _ ?_
 refine stA h13 s3 0 rfl rfl rfl (by kernel_rfl) rfl rfl rfl rfl fun _ w4 h14 s4 _ => h14.sn [2,1,0] rfl fun h15 => hK4 _ _ <| sqr fun _ hK7 => mv h15 rfl fun _ h16 => bu h16 (v := .agg #[.int .i64 4, .string (strB []), .string (strB []), .int .i64 0, .int .i64 0, .int .i64 2, .int .i64 0, .string (strB [120])]) rfl (fun w => by kernel_rfl) fun _ h17 => cl h17 rfl cz_posix_Fs_Do (do_c (A := Ax31) (F := lF1) (n := 1) (c := 1) (x := lc1) (s4.pk [2,3,4,0,1,5] rfl) (lF_ok 1) hA38 (by omega) (lF_ss 1 (by omega)) (by decide) (by decide) (by decide) (by decide)) fun _ v3 w5 r3 h18 => ?_
 obtain ⟨Ax61, sax62, scx63, rfl, s5, hA68⟩ := r3
 refine so (wanted_none rfl) fun _ hK8 => xalloc h18 rfl rfl rfl rfl (z := zL) (fun _ => rfl) s5 fun _ g2 w6 h19 s6 _ _ => hK8 _ _ ?_
 refine stA h19 s6 0 rfl rfl rfl (by kernel_rfl) rfl rfl rfl rfl fun _ w7 h20 s7 _ => h20.sn [3,2,1,0] rfl fun h21 => hK7 _ _ <| sqr fun _ hK9 => mv h21 rfl fun _ h22 => bu h22 (v := .agg #[.int .i64 3, .string (strB []), .string (strB []), .int .i64 0, .int .i64 0, .int .i64 0, .int .i64 9, .string (strB [])]) rfl (fun w => by kernel_rfl) fun _ h23 => cl h23 rfl cz_posix_Fs_Do (do_c (A := Ax61) (F := lF2) (n := 2) (c := 1) (x := lc2) (s7.pk [2,3,4,0,1,5,6,7] rfl) (lF_ok 2) hA68 (by omega) (lF_ss 2 (by omega)) (by decide) (by decide) (by decide) (by decide)) fun _ v4 w8 r4 h24 => ?_
 obtain ⟨Ax91, sax92, scx93, rfl, s8, hA98⟩ := r4
 refine so (wanted_none rfl) fun _ hK10 => xalloc h24 rfl rfl rfl rfl (z := zL) (fun _ => rfl) s8 fun _ g3 w9 h25 s9 _ _ => hK10 _ _ ?_
 refine stA h25 s9 0 rfl rfl rfl (by kernel_rfl) rfl rfl rfl rfl fun _ w10 h26 s10 _ => h26.sn [4,3,2,1,0] rfl fun h27 => hK9 _ _ <| sqr fun _ hK11 => mv h27 rfl fun _ h28 => bu h28 (v := .agg #[.int .i64 10, .string (strB [47, 97]), .string (strB []), .int .i64 0, .int .i64 0, .int .i64 0, .int .i64 0, .string (strB [])]) rfl (fun w => by kernel_rfl) fun _ h29 => cl h29 rfl cz_posix_Fs_Do (do_c (A := Ax91) (F := lF3) (n := 3) (c := 2) (x := lc3) (s10.pk [2,3,4,0,1,5,6,7,8,9] rfl) (lF_ok 3) hA98 (by omega) (lF_ss 3 (by omega)) (by decide) (by decide) (by decide) (by decide)) fun _ v5 w11 r5 h30 => ?_
 obtain ⟨Ax121, sax122, scx123, rfl, s11, hA128⟩ := r5
 refine so (wanted_none rfl) fun _ hK12 => xalloc h30 rfl rfl rfl rfl (z := zL) (fun _ => rfl) s11 fun _ g4 w12 h31 s12 _ _ => hK12 _ _ ?_
 refine stA h31 s12 0 rfl rfl rfl (by kernel_rfl) rfl rfl rfl rfl fun _ w13 h32 s13 _ => h32.sn [5,4,3,2,1,0] rfl fun h33 => hK11 _ _ <| sqr fun _ hK13 => mv h33 rfl fun _ h34 => bu h34 (v := .agg #[.int .i64 3, .string (strB []), .string (strB []), .int .i64 0, .int .i64 0, .int .i64 0, .int .i64 9, .string (strB [])]) rfl (fun w => by kernel_rfl) fun _ h35 => cl h35 rfl cz_posix_Fs_Do (do_c (A := Ax121) (F := lF4) (n := 4) (c := 1) (x := lc4) (s13.pk [2,3,4,0,1,5,6,7,8,9,10,11] rfl) (lF_ok 4) hA128 (by omega) (lF_ss 4 (by omega)) (by decide) (by decide) (by decide) (by decide)) fun _ v6 w14 r6 h36 => ?_
 obtain ⟨Ax151, sax152, scx153, rfl, s14, hA158⟩ := r6
 refine so (wanted_none rfl) fun _ hK14 => xalloc h36 rfl rfl rfl rfl (z := zL) (fun _ => rfl) s14 fun _ g5 w15 h37 s15 _ _ => hK14 _ _ ?_
 refine stA h37 s15 0 rfl rfl rfl (by kernel_rfl) rfl rfl rfl rfl fun _ w16 h38 s16 _ => h38.sn [6,5,4,3,2,1,0] rfl fun h39 => hK13 _ _ <| sqr fun _ hK15 => mv h39 rfl fun _ h40 => bu h40 (v := .agg #[.int .i64 7, .string (strB [47, 100]), .string (strB []), .int .i64 0, .int .i64 0, .int .i64 0, .int .i64 0, .string (strB [])]) rfl (fun w => by kernel_rfl) fun _ h41 => cl h41 rfl cz_posix_Fs_Do (do_c (A := Ax151) (F := lF5) (n := 5) (c := 1) (x := lc5) (s16.pk [2,3,4,0,1,5,6,7,8,9,10,11,12,13] rfl) (lF_ok 5) hA158 (by omega) (lF_ss 5 (by omega)) (by decide) (by decide) (by decide) (by decide)) fun _ v7 w17 r7 h42 => ?_
 obtain ⟨Ax181, sax182, scx183, rfl, s17, hA188⟩ := r7
 refine so (wanted_none rfl) fun _ hK16 => xalloc h42 rfl rfl rfl rfl (z := zL) (fun _ => rfl) s17 fun _ g6 w18 h43 s18 _ _ => hK16 _ _ ?_
 refine stA h43 s18 0 rfl rfl rfl (by kernel_rfl) rfl rfl rfl rfl fun _ w19 h44 s19 _ => h44.sn [7,6,5,4,3,2,1,0] rfl fun h45 => hK15 _ _ <| sqr fun _ hK17 => mv h45 rfl fun _ h46 => bu h46 (v := .agg #[.int .i64 11, .string (strB [47, 100]), .string (strB [47, 100, 47, 101]), .int .i64 0, .int .i64 0, .int .i64 0, .int .i64 0, .string (strB [])]) rfl (fun w => by kernel_rfl) fun _ h47 => cl h47 rfl cz_posix_Fs_Do (do_c (A := Ax181) (F := lF6) (n := 6) (c := 1) (x := lc6) (s19.pk [2,3,4,0,1,5,6,7,8,9,10,11,12,13,14,15] rfl) (lF_ok 6) hA188 (by omega) (lF_ss 6 (by omega)) (by decide) (by decide) (by decide) (by decide)) fun _ v8 w20 r8 h48 => ?_
 obtain ⟨Ax211, sax212, scx213, rfl, s20, hA218⟩ := r8
 refine so (wanted_none rfl) fun _ hK18 => xalloc h48 rfl rfl rfl rfl (z := zL) (fun _ => rfl) s20 fun _ g7 w21 h49 s21 _ _ => hK18 _ _ ?_
 refine stA h49 s21 0 rfl rfl rfl (by kernel_rfl) rfl rfl rfl rfl fun _ w22 h50 s22 _ => h50.sn [8,7,6,5,4,3,2,1,0] rfl fun h51 => hK17 _ _ <| sq fun _ hK19 => ?_
 have hl237 : lr1.e = 0 := lz1
 have hl238 : lr1.fd = 0 := lz2
 have hl239 : lr2.e = 0 := lz3
 have hl240 : lr4.e = 0 := lz5
 have hl241 : lr6.e = 0 := lz7
 have hl242 : lr7.e = 15 := lz8
 refine wp_region_lit <| fav h51 rfl (fz_api_Reply_0 _ _) fun _ h52 => ldv h52 (v := .int .i64 lr1.e) s22 15 Tryz.underlying32 rfl rfl rfl rfl fun _ h53 => bv h53 rfl (cEq _ _ _ _ (decide_eq_true (by omega))) fun _ h54 => mv h54 rfl fun _ h55 => sv h55 (wT h55 (E := true) rfl rfl rfl) rfl rfl rfl (v := .pointer (some ⟨g1, 1, none⟩)) (rfa h55 rfl rfl (fun w => fz_api_Reply_1 g1 0 w)) fun _ h56 => sw h56 (wT h56 (E := true) rfl rfl rfl) rfl rfl rfl (v := .int .i64 lr1.fd) (rld h56 rfl rfl (ldB Tryz.underlying3 rfl (s22.get 15 rfl : Blk _ _ _ _) rfl)) fun _ h57 => sv h57 (wT h57 (E := true) rfl rfl rfl) rfl rfl rfl (v := .bool true) (rbin h57 rfl rfl rfl (cEq _ _ _ _ (decide_eq_true (by omega)))) fun _ h58 => sv1 h58 rfl (v := .bool true) (rpick h58 rfl rfl rfl) fun _ h59 => mv h59 rfl fun _ h60 => ?_
 refine sv h60 (wT h60 (E := true) rfl rfl rfl) rfl rfl rfl (v := .pointer (some ⟨g2, 0, none⟩)) (rfa h60 rfl rfl (fun w => fz_api_Reply_0 g2 0 w)) fun _ h61 => sw h61 (wT h61 (E := true) rfl rfl rfl) rfl rfl rfl (v := .int .i64 lr2.e) (rld h61 rfl rfl (ldB Tryz.underlying32 rfl (s22.get 13 rfl : Blk _ _ _ _) rfl)) fun _ h62 => sv h62 (wT h62 (E := true) rfl rfl rfl) rfl rfl rfl (v := .bool true) (rbin h62 rfl rfl rfl (cEq _ _ _ _ (decide_eq_true (by omega)))) fun _ h63 => sv1 h63 rfl (v := .bool true) (rpick h63 rfl rfl rfl) fun _ h64 => mv h64 rfl fun _ h65 => sv h65 (wT h65 (E := true) rfl rfl rfl) rfl rfl rfl (v := .pointer (some ⟨g3, 2, none⟩)) (rfa h65 rfl rfl (fun w => fz_api_Reply_2 g3 0 w)) fun _ h66 => sw h66 (wT h66 (E := true) rfl rfl rfl) rfl rfl rfl (v := .string (strB lr3.data)) (rld h66 rfl rfl (ldB Tryz.underlying9 rfl (s22.get 11 rfl : Blk _ _ _ _) rfl)) fun _ h67 => sv h67 (wT h67 (E := true) rfl rfl rfl) rfl rfl rfl (v := .bool (decide (lr3.data = [0, 0, 120]))) (rbin h67 rfl rfl rfl (bStrEqL _ _ _ lr3.data [0, 0, 120] rfl)) fun _ h68 => sv1 h68 rfl (v := .bool (decide (lr3.data = [0, 0, 120]))) (rpick h68 rfl rfl rfl) fun _ h69 => mv h69 rfl fun _ h70 => ?_
 refine sv h70 ((wT h70 rfl rfl rfl).trans (decide_eq_true lz4)) rfl rfl rfl (v := .pointer (some ⟨g4, 0, none⟩)) (rfa h70 rfl rfl (fun w => fz_api_Reply_0 g4 0 w)) fun _ h71 => sw h71 ((wT h71 rfl rfl rfl).trans (decide_eq_true lz4)) rfl rfl rfl (v := .int .i64 lr4.e) (rld h71 rfl rfl (ldB Tryz.underlying32 rfl (s22.get 9 rfl : Blk _ _ _ _) rfl)) fun _ h72 => sv h72 ((wT h72 rfl rfl rfl).trans (decide_eq_true lz4)) rfl rfl rfl (v := .bool true) (rbin h72 rfl rfl rfl (cEq _ _ _ _ (decide_eq_true (by omega)))) fun _ h73 => sv1 h73 rfl (v := .bool true) (rpickE h73 rfl (E := (decide (lr3.data = [0, 0, 120]))) (b := true) rfl (decide_eq_true lz4) rfl) fun _ h74 => mv h74 rfl fun _ h75 => sv h75 (wT h75 (E := true) rfl rfl rfl) rfl rfl rfl (v := .pointer (some ⟨g5, 2, none⟩)) (rfa h75 rfl rfl (fun w => fz_api_Reply_2 g5 0 w)) fun _ h76 => sw h76 (wT h76 (E := true) rfl rfl rfl) rfl rfl rfl (v := .string (strB lr5.data)) (rld h76 rfl rfl (ldB Tryz.underlying9 rfl (s22.get 7 rfl : Blk _ _ _ _) rfl)) fun _ h77 => sv h77 (wT h77 (E := true) rfl rfl rfl) rfl rfl rfl (v := .pointer (some ⟨g3, 2, none⟩)) (rfa h77 rfl rfl (fun w => fz_api_Reply_2 g3 0 w)) fun _ h78 => sw h78 (wT h78 (E := true) rfl rfl rfl) rfl rfl rfl (v := .string (strB lr3.data)) (rld h78 rfl rfl (ldB Tryz.underlying9 rfl (s22.get 11 rfl : Blk _ _ _ _) rfl)) fun _ h79 => sv h79 (wT h79 (E := true) rfl rfl rfl) rfl rfl rfl (v := .bool (decide (lr5.data = lr3.data))) (rbin h79 rfl rfl rfl (bStrEqL _ _ _ lr5.data lr3.data rfl)) fun _ h80 => ?_
 refine sv1 h80 rfl (v := .bool (decide (lr5.data = lr3.data))) (rpick h80 rfl rfl rfl) fun _ h81 => mv h81 rfl fun _ h82 => sv h82 ((wT h82 rfl rfl rfl).trans (decide_eq_true lz6)) rfl rfl rfl (v := .pointer (some ⟨g6, 0, none⟩)) (rfa h82 rfl rfl (fun w => fz_api_Reply_0 g6 0 w)) fun _ h83 => sw h83 ((wT h83 rfl rfl rfl).trans (decide_eq_true lz6)) rfl rfl rfl (v := .int .i64 lr6.e) (rld h83 rfl rfl (ldB Tryz.underlying32 rfl (s22.get 5 rfl : Blk _ _ _ _) rfl)) fun _ h84 => sv h84 ((wT h84 rfl rfl rfl).trans (decide_eq_true lz6)) rfl rfl rfl (v := .bool true) (rbin h84 rfl rfl rfl (cEq _ _ _ _ (decide_eq_true (by omega)))) fun _ h85 => sv1 h85 rfl (v := .bool true) (rpickE h85 rfl (E := (decide (lr5.data = lr3.data))) (b := true) rfl (decide_eq_true lz6) rfl) fun _ h86 => mv h86 rfl fun _ h87 => sv h87 (wT h87 (E := true) rfl rfl rfl) rfl rfl rfl (v := .pointer (some ⟨g7, 0, none⟩)) (rfa h87 rfl rfl (fun w => fz_api_Reply_0 g7 0 w)) fun _ h88 => sw h88 (wT h88 (E := true) rfl rfl rfl) rfl rfl rfl (v := .int .i64 lr7.e) (rld h88 rfl rfl (ldB Tryz.underlying32 rfl (s22.get 0 rfl : Blk _ _ _ _) rfl)) fun _ h89 => sv h89 (wT h89 (E := true) rfl rfl rfl) rfl rfl rfl (v := .bool true) (rbin h89 rfl rfl rfl (cEq _ _ _ _ (decide_eq_true (by omega)))) fun _ h90 => ?_
 refine sv1 h90 rfl (v := .bool true) (rpick h90 rfl rfl rfl) fun _ h91 => h91.sk [72,71,70,69,68,67,66,65,64,63,62,61,60,59,58,57,56,55,54,53,52,51,50,49,48,47,46,45,44,43,42,41,40,39,38,37,36,35,34,33,8,7,6,5,4,3,2,1] rfl fun h92 => mv h92 rfl fun _ h93 => h93.sn [0,8,7,6,5,4,3,2,1] rfl fun h94 => hK19 _ _ <| wp_ret ?_
 try simp only [Exit.then, Exit.inBlock]
 refine retR (v := .bool true) (res1 h94 rfl rfl) h94.defs ?_
 exact ⟨congrArg Value.bool (by simp only [lz1, lz2, lz3, lz4, lz5, lz6, lz7, lz8, decide_true, Bool.and_self]), Sep.tail_un (xs := []) (s22.pk [17] rfl)⟩

end Go.Proofs.YtcanemamnmmbcaaGreatDoor
