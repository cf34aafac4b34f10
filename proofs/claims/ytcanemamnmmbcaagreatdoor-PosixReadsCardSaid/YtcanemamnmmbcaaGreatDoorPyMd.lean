/- Merged: PyI PyJ PyK. -/
import Derived.Test.YtcanemamnmmbcaaGreatDoorPyMc
import Derived.Test.YtcanemamnmmbcaaGreatDoorSxU
import Derived.Test.YtcanemamnmmbcaaGreatDoorPxZ
/- the code's List, method (sx/ptF.py) -/
namespace Go.Proofs.YtcanemamnmmbcaaGreatDoor
open Go.RowKit
set_option linter.unusedSimpArgs false
set_option linter.unusedVariables false
set_option maxRecDepth 100000


set_option maxHeartbeats 4000000 in
theorem sortedC_c {w : World} {cf ob : Nat} {F : FsM} {A : AdM} {R : List Ch} {δ : Nat → Int} {k0 : Nat} (hS0 : Sep w ((cP cf ob F A) ++ R)) (hok : FsC F δ) (hz : SmF F) (hk0 : k0 < F.N.length) (hd0 : F.dir k0 = true) :
  CallsR Tryz.prog 80 #[.pointer (some ⟨A.ad k0, 0, none⟩)] w (fun v w' => ∃ sa sc, v = .slice sa (sortN (namesOf F.E k0)).length sc ∧ Sep w' (ownC 0 9 1 sa (sortN (namesOf F.E k0)).length sc ((sortN (namesOf F.E k0)).flatMap sE) :: (cP cf ob F A) ++ R)) := by
 have hS := Sep.tail_many (xs := cP cf ob F A) hS0; clear hS0
 have hz0 := hz; obtain ⟨hz1, hz2, hz3⟩ : F.N.length ≤ 1000 ∧ F.E.length ≤ 1000 ∧ F.O.length ≤ 1000 := hz
 refine enterR Tryz.func80 rfl (N := 9) Tryz.ntmps80 (by show 1 ≤ 9; decide) [(0, .pointer (some ⟨(A.ad k0), 0, none⟩))] rfl fun _ h1 => sqr fun _ hK3 => mv h1 rfl fun _ h4 => wpList_nil <| hK3 _ _ <| sqr fun _ hK6 => mvs 2 h4 rfl fun _ h9 => sv1 h9 rfl (v := .pointer (some ⟨(A.ad k0), 3, none⟩)) (rfa h9 rfl rfl (fun w => fz_posix_node_3 (A.ad k0) 0 w)) fun _ h2 => sw1 h2 rfl (v := .map (some (A.mb k0))) (rld h2 rfl rfl (NdP.c3 (F := FsM.nE F) (A := AdM.nC A) (k := k0) (hS.get 1 rfl : NdP _ _ _) (show k0 < F.N.length from by omega) hd0 Tryz.underlying95 rfl)) fun _ h3 => cl h3 rfl cz_maps_Keys_map_string_posix_node_string_posix_node (keys_s (F := F) (A := A) (k := k0) (hS.pk [1,0,2,3] rfl) (by omega) hd0) fun _ v1 w1 r1 h5 => ?_
 obtain ⟨s1, hky21⟩ := r1
 refine cl h5 rfl cz_slices_Sorted_string (sorted_s (L := namesOf F.E k0) s1 hky21 (names_nd hok.ed k0) (names_all hok A k0) (by rw [← cnt_names]; exact Nat.le_trans (cntE_le _ _) hz2)) fun _ v2 w2 r2 h6 => ?_
 obtain ⟨sa29, sc30, rfl, s2⟩ := r2
 refine h6.sk [8,7,6,5,4,3,0] rfl fun h7 => mv h7 rfl fun _ h8 => h8.sn [2,0] rfl fun h10 => hK6 _ _ <| wp_ret ?_
 try simp only [Exit.then, Exit.inBlock]
 refine retR (v := .slice sa29 ((sortN (namesOf F.E k0)).length) sc30) (res1 h10 rfl rfl) h10.defs ?_
 exact ⟨sa29, sc30, rfl, Sep.tail_un (xs := [_, _, _, _]) (s2.pk [0,2,1,3,4] rfl)⟩

set_option maxHeartbeats 4000000 in
theorem doList_c {w : World} {cf ob n : Nat} {F : FsM} {A : AdM} {R : List Ch} {c : Int} {x : CallM} (hS0 : Sep w ((cP cf ob F A) ++ R)) (hfo : FsOk F) (hA : AdOk F A n) (hn : n ≤ 900) (hs : SmS F) (h1 : x.p1.length ≤ 1000) (h2 : x.p2.length ≤ 1000) (h3 : x.data.length ≤ 1000) (hwx : wfD (c, x.fd)) (hcl : 1 ≤ c ∧ c ≤ 8) :
  CallsR Tryz.prog 58 #[.pointer (some ⟨cf, 0, none⟩), .int .i64 c, .agg (cL x).toArray] w (fun v w' => ∃ A' sa sc, v = .tuple #[repV (r0 (listF F x.p1).2) sa sc, .int .i64 (listF F x.p1).2.e] ∧ Sep w' (ownC 0 9 1 sa (listF F x.p1).2.names.length sc ((listF F x.p1).2.names.flatMap sE) :: (cP cf ob ((listF F x.p1).1) A') ++ R) ∧ AdOk (listF F x.p1).1 A' (n + 1)) := by
 have hS := Sep.tail_many (xs := cP cf ob F A) hS0; clear hS0
 have hz : SmF F := hs.sm; have hok := hfo.toFsC
 have hz0 := hz; obtain ⟨hz1, hz2, hz3⟩ : F.N.length ≤ 1000 ∧ F.E.length ≤ 1000 ∧ F.O.length ≤ 1000 := hz
 refine enterR Tryz.func58 rfl (N := 30) Tryz.ntmps58 (by show 3 ≤ 30; decide) [(0, .pointer (some ⟨cf, 0, none⟩)), (1, .int .i64 c), (2, .agg (cL x).toArray)] rfl fun _ h1 => sqr fun _ hK3 => so (wanted_none rfl) fun _ hK1 => xbox h1 rfl rfl rfl rfl rfl (z := (cL x)) rfl hS fun _ g4 w7 h5 s8 _ _ => hK1 _ _ ?_
 refine so (wanted_none rfl) fun _ hK2 => xalloc h5 rfl rfl rfl rfl (z := zL) (fun _ => rfl) s8 fun _ g1 w1 h4 s1 _ _ => hK2 _ _ ?_
 refine mv h4 rfl fun _ h6 => h6.sk [7,6,5,0,2] rfl fun h7 => ?_
 clear h1
 refine wpList_nil <| hK3 _ _ <| sqr fun _ hK4 => mv h7 rfl fun _ h8 => fav h8 rfl (fz_api_Call_1 _ _) fun _ h9 => ldv h9 s1 1 Tryz.underlying9 rfl rfl rfl rfl fun _ h10 => ?_
 rcases bC (decide ((findF F x.p1).1 = 0)) with hc1 | hc1
 ·skip
  have hp1 : (findF F x.p1).1 = 0 := (dT hc1)
  have hfl32 := FsC.find_lt (F := F) hok x.p1
  refine cl h10 rfl cz_posix_Fs_node (nodeYes_c (cf := cf) (A := A) (F := F) (s1.pk [2,3,4,0,1,5] rfl) hok hz0 (by omega) (by omega)) fun _ v1 w2 r1 h11 => ?_
  obtain ⟨rfl, s2⟩ := r1
  refine mvs 5 h11 rfl fun _ h12 => h12.sn [9,8,7,6,5,0,2] rfl fun h13 => hK4 _ _ <| sq fun _ hK5 => sqr fun _ hK6 => mv h13 rfl fun _ h14 => bv h14 rfl (cNe _ _ _ _ rfl) fun _ h15 => h15.sn [18,9,8,7,6,5,0,2] rfl fun h16 => hK6 _ _ <| wcF h16 rfl rfl <| h16.sk [9,8,7,6,5,0,2] rfl fun h17 => ?_
  refine wp_skip <| hK5 _ _ <| sq fun _ hK7 => sqr fun _ hK8 => mvs 2 h17 rfl fun _ h18 => sv1 h18 rfl (v := .pointer (some ⟨(A.ad (findF F x.p1).2), 0, none⟩)) (rfa h18 rfl rfl (fun w => fz_posix_node_0 (A.ad (findF F x.p1).2) 0 w)) fun _ h19 => sw1 h19 rfl (v := .int .i64 (kindI (F.dir ((findF F x.p1).2)))) (rld h19 rfl rfl (NdP.c0 (F := FsM.nE F) (A := AdM.nC A) (k := ((findF F x.p1).2)) (s2.get 1 rfl : NdP _ _ _) (show (findF F x.p1).2 < F.N.length from by omega) Tryz.underlying3 rfl)) fun _ h20 => bv h20 (z := .bool (!(F.dir ((findF F x.p1).2)))) rfl (cNe _ _ _ _ (kindN2 _)) fun _ h21 => h21.sn [25,9,8,7,6,5,0,2] rfl fun h22 => hK8 _ _ ?_
  rcases bC (F.dir ((findF F x.p1).2)) with hc2 | hc2
  ·skip
   refine wcF h22 rfl (bNotT hc2) <| h22.sk [9,8,7,6,5,0,2] rfl fun h23 => wp_skip <| hK7 _ _ <| sqr fun _ hK9 => mv h23 rfl fun _ h24 => cl h24 rfl cz_posix_node_sorted (sortedC_c (cf := cf) (A := A) (F := F) s2 hok hz0 (by omega) hc2) fun _ v2 w3 r2 h25 => ?_
   obtain ⟨sax78, scx79, rfl, s3⟩ := r2
   refine bu h25 (v := .agg #[.int .i64 0, .int .i64 0, .string (strB []), .slice sax78 ((sortN (namesOf F.E ((findF F x.p1).2))).length) scx79, .int .i64 0, .int .i64 0, .int .i64 0]) rfl (fun w => by kernel_rfl) fun _ h26 => stA h26 s3 4 rfl rfl rfl (by kernel_rfl) rfl rfl rfl rfl fun _ w4 h27 s4 _ => h27.sk [29,28,27,9,8,6,5,0,2] rfl fun h28 => mv h28 rfl fun _ h29 => h29.sn [7,9,8,6,5,0,2] rfl fun h30 => hK9 _ _ <| wp_ret ?_
   try simp only [Exit.then, Exit.inBlock]
   refine rCt h30 s4 4 Tryz.underlying37 rfl rfl rfl rfl rfl ?_
   have hq1 : listF F x.p1 = (F, namesR (sortN (namesOf F.E (findF F x.p1).2))) := by unfold listF; rw [if_pos (by omega), if_pos (show F.dir (findF F x.p1).2 = true from hc2)]
   rw [hq1]
   exact ⟨A, sax78, scx79, rfl, Sep.tail_un (xs := [_, _, _, _]) (s4.pk [0,1,2,3,6] rfl), hA.mono⟩
  ·skip
   refine wcT h22 rfl (bNotF hc2) <| h22.sk [9,8,7,6,5,0,2] rfl fun h31 => sqr fun _ hK10 => bu h31 (v := .agg zL.toArray) rfl (fun w => by kernel_rfl) fun _ h32 => stA h32 s2 3 rfl rfl rfl (by kernel_rfl) rfl rfl rfl rfl fun _ w5 h33 s5 _ => h33.sk [26,9,8,6,5,0,2] rfl fun h34 => mv h34 rfl fun _ h35 => h35.sn [7,9,8,6,5,0,2] rfl fun h36 => hK10 _ _ <| wp_ret ?_
   try simp only [Exit.then, Exit.inBlock]
   refine rCt h36 s5 3 Tryz.underlying37 rfl rfl rfl rfl rfl ?_
   have hq2 : listF F x.p1 = (F, errR 12) := by unfold listF; rw [if_pos (by omega), if_neg (show ¬ (F.dir (findF F x.p1).2 = true) from notT1 hc2)]
   rw [hq2]
   exact ⟨A, none, 0, rfl, (Sep.tail_un (xs := [_, _, _]) (s5.pk [0,1,2,5] rfl)).ownNil 0 9 1, hA.mono⟩
 ·skip
  have hp2 : ¬ ((findF F x.p1).1 = 0) := (dF hc1)
  refine cl h10 rfl cz_posix_Fs_node (nodeNo_c (cf := cf) (A := A) (F := F) (s1.pk [2,3,4,0,1,5] rfl) hok hz0 (by omega) (by omega)) fun _ v3 w6 r3 h37 => ?_
  obtain ⟨rfl, s6⟩ := r3
  refine mvs 5 h37 rfl fun _ h38 => h38.sn [9,8,7,6,5,0,2] rfl fun h39 => hK4 _ _ <| sq fun _ hK11 => sqr fun _ hK12 => mv h39 rfl fun _ h40 => bv h40 rfl (cNe _ _ _ _ (decide_eq_true (by omega))) fun _ h41 => h41.sn [18,9,8,7,6,5,0,2] rfl fun h42 => hK12 _ _ <| wcT h42 rfl rfl <| h42.sk [9,8,7,6,5,0,2] rfl fun h43 => ?_
  refine sqr fun _ hK13 => bu h43 (v := .agg zL.toArray) rfl (fun w => by kernel_rfl) fun _ h44 => mv h44 rfl fun _ h45 => stA h45 s6 3 rfl rfl rfl (by kernel_rfl) rfl rfl rfl rfl fun _ w8 h46 s7 _ => h46.sk [20,19,9,8,6,5,0,2] rfl fun h47 => mv h47 rfl fun _ h48 => h48.sn [7,9,8,6,5,0,2] rfl fun h49 => hK13 _ _ <| wp_ret ?_
  try simp only [Exit.then, Exit.inBlock]
  refine rCt h49 s7 3 Tryz.underlying37 rfl rfl rfl rfl rfl ?_
  have hq3 : listF F x.p1 = (F, errR (findF F x.p1).1) := by unfold listF; rw [if_neg (by omega)]
  rw [hq3]
  exact ⟨A, none, 0, rfl, (Sep.tail_un (xs := [_, _, _]) (s7.pk [0,1,2,5] rfl)).ownNil 0 9 1, hA.mono⟩

def fidM (k : Int) : FuncId := if k = 1 then 47 else if k = 2 then 48 else if k = 3 then 49 else if k = 4 then 50 else if k = 5 then 51 else if k = 6 then 52 else if k = 7 then 53 else if k = 8 then 54 else if k = 9 then 55 else if k = 10 then 56 else if k = 11 then 57 else if k = 12 then 58 else 59
set_option maxHeartbeats 4000000 in
theorem method_c {w : World} {R : List Ch} {cf : Nat} {k : Int} (hk : 1 ≤ k ∧ k ≤ 13) (hS0 : Sep w R) :
  CallsR Tryz.prog 28 #[.pointer (some ⟨cf, 0, none⟩), .int .i64 k] w (fun v w' => v = .func (.func (fidM k)) #[.pointer (some ⟨cf, 0, none⟩)] #[] ∧ Sep w' R) := by
 have hS : Sep w [Ch.many R] := Sep.tail_many (xs := []) hS0; clear hS0
 refine enterR Tryz.func28 rfl (N := 58) Tryz.ntmps28 (by show 2 ≤ 58; decide) [(0, .pointer (some ⟨cf, 0, none⟩)), (1, .int .i64 k)] rfl fun _ h1 => sqr fun _ hK3 => mv h1 rfl fun _ h4 => wpList_nil <| hK3 _ _ <| sq fun _ hK6 => sqr fun _ hK7 => mv h4 rfl fun _ h8 => wpList_nil <| hK7 _ _ <| wp_block ?_
 refine sqr fun _ hK1 => bv h8 (z := .bool (decide (k = 1))) rfl (cEq _ _ _ _ rfl) fun _ h2 => mv h2 rfl fun _ h3 => h3.sn [6,5,4,0,1] rfl fun h5 => hK1 _ _ ?_
 by_cases e1 : k = 1
 ·refine wcT h5 rfl (decide_eq_true e1) <| h5.sk [5,4,0,1] rfl fun h6 => sqr fun _ hK2 => mv h6 rfl fun _ h7 => sv1 h7 rfl (v := .func (.func 47) #[.pointer (some ⟨cf, 0, none⟩)] #[]) (rfunc h7 (xs := [.tmp 8]) (ys := []) rfl (vs := [.pointer (some ⟨cf, 0, none⟩)]) (us := []) rfl rfl) fun _ h9 => h9.sk [9,8,5,0,1] rfl fun h10 => mv h10 rfl fun _ h11 => h11.sn [4,5,0,1] rfl fun h12 => hK2 _ _ <| wp_ret ?_
  try simp only [Exit.then, Exit.inBlock]
  refine retR (v := .func (.func 47) #[.pointer (some ⟨cf, 0, none⟩)] #[]) (res1 h12 rfl rfl) h12.defs ?_
  exact ⟨by rw [e1]; rfl, Sep.tail_un (xs := []) hS⟩
 refine wcF h5 rfl (decide_eq_false e1) <| h5.sk [5,4,0,1] rfl fun h6 => sqr fun _ hK2 => bv h6 (z := .bool (decide (k = 2))) rfl (cEq _ _ _ _ rfl) fun _ h7 => mv h7 rfl fun _ h9 => h9.sn [10,5,4,0,1] rfl fun h10 => hK2 _ _ ?_
 by_cases e2 : k = 2
 ·refine wcT h10 rfl (decide_eq_true e2) <| h10.sk [5,4,0,1] rfl fun h11 => sqr fun _ hK4 => mv h11 rfl fun _ h12 => sv1 h12 rfl (v := .func (.func 48) #[.pointer (some ⟨cf, 0, none⟩)] #[]) (rfunc h12 (xs := [.tmp 12]) (ys := []) rfl (vs := [.pointer (some ⟨cf, 0, none⟩)]) (us := []) rfl rfl) fun _ h13 => h13.sk [13,12,5,0,1] rfl fun h14 => mv h14 rfl fun _ h15 => h15.sn [4,5,0,1] rfl fun h16 => hK4 _ _ <| wp_ret ?_
  try simp only [Exit.then, Exit.inBlock]
  refine retR (v := .func (.func 48) #[.pointer (some ⟨cf, 0, none⟩)] #[]) (res1 h16 rfl rfl) h16.defs ?_
  exact ⟨by rw [e2]; rfl, Sep.tail_un (xs := []) hS⟩
 refine wcF h10 rfl (decide_eq_false e2) <| h10.sk [5,4,0,1] rfl fun h11 => sqr fun _ hK4 => bv h11 (z := .bool (decide (k = 3))) rfl (cEq _ _ _ _ rfl) fun _ h12 => mv h12 rfl fun _ h13 => h13.sn [14,5,4,0,1] rfl fun h14 => hK4 _ _ ?_
 by_cases e3 : k = 3
 ·refine wcT h14 rfl (decide_eq_true e3) <| h14.sk [5,4,0,1] rfl fun h15 => sqr fun _ hK5 => mv h15 rfl fun _ h16 => sv1 h16 rfl (v := .func (.func 49) #[.pointer (some ⟨cf, 0, none⟩)] #[]) (rfunc h16 (xs := [.tmp 16]) (ys := []) rfl (vs := [.pointer (some ⟨cf, 0, none⟩)]) (us := []) rfl rfl) fun _ h17 => h17.sk [17,16,5,0,1] rfl fun h18 => mv h18 rfl fun _ h19 => h19.sn [4,5,0,1] rfl fun h20 => hK5 _ _ <| wp_ret ?_
  try simp only [Exit.then, Exit.inBlock]
  refine retR (v := .func (.func 49) #[.pointer (some ⟨cf, 0, none⟩)] #[]) (res1 h20 rfl rfl) h20.defs ?_
  exact ⟨by rw [e3]; rfl, Sep.tail_un (xs := []) hS⟩
 refine wcF h14 rfl (decide_eq_false e3) <| h14.sk [5,4,0,1] rfl fun h15 => sqr fun _ hK5 => bv h15 (z := .bool (decide (k = 4))) rfl (cEq _ _ _ _ rfl) fun _ h16 => mv h16 rfl fun _ h17 => h17.sn [18,5,4,0,1] rfl fun h18 => hK5 _ _ ?_
 by_cases e4 : k = 4
 ·refine wcT h18 rfl (decide_eq_true e4) <| h18.sk [5,4,0,1] rfl fun h19 => sqr fun _ hK8 => mv h19 rfl fun _ h20 => sv1 h20 rfl (v := .func (.func 50) #[.pointer (some ⟨cf, 0, none⟩)] #[]) (rfunc h20 (xs := [.tmp 20]) (ys := []) rfl (vs := [.pointer (some ⟨cf, 0, none⟩)]) (us := []) rfl rfl) fun _ h21 => h21.sk [21,20,5,0,1] rfl fun h22 => mv h22 rfl fun _ h23 => h23.sn [4,5,0,1] rfl fun h24 => hK8 _ _ <| wp_ret ?_
  try simp only [Exit.then, Exit.inBlock]
  refine retR (v := .func (.func 50) #[.pointer (some ⟨cf, 0, none⟩)] #[]) (res1 h24 rfl rfl) h24.defs ?_
  exact ⟨by rw [e4]; rfl, Sep.tail_un (xs := []) hS⟩
 refine wcF h18 rfl (decide_eq_false e4) <| h18.sk [5,4,0,1] rfl fun h19 => sqr fun _ hK8 => bv h19 (z := .bool (decide (k = 5))) rfl (cEq _ _ _ _ rfl) fun _ h20 => mv h20 rfl fun _ h21 => h21.sn [22,5,4,0,1] rfl fun h22 => hK8 _ _ ?_
 by_cases e5 : k = 5
 ·refine wcT h22 rfl (decide_eq_true e5) <| h22.sk [5,4,0,1] rfl fun h23 => sqr fun _ hK9 => mv h23 rfl fun _ h24 => sv1 h24 rfl (v := .func (.func 51) #[.pointer (some ⟨cf, 0, none⟩)] #[]) (rfunc h24 (xs := [.tmp 24]) (ys := []) rfl (vs := [.pointer (some ⟨cf, 0, none⟩)]) (us := []) rfl rfl) fun _ h25 => h25.sk [25,24,5,0,1] rfl fun h26 => mv h26 rfl fun _ h27 => h27.sn [4,5,0,1] rfl fun h28 => hK9 _ _ <| wp_ret ?_
  try simp only [Exit.then, Exit.inBlock]
  refine retR (v := .func (.func 51) #[.pointer (some ⟨cf, 0, none⟩)] #[]) (res1 h28 rfl rfl) h28.defs ?_
  exact ⟨by rw [e5]; rfl, Sep.tail_un (xs := []) hS⟩
 refine wcF h22 rfl (decide_eq_false e5) <| h22.sk [5,4,0,1] rfl fun h23 => sqr fun _ hK9 => bv h23 (z := .bool (decide (k = 6))) rfl (cEq _ _ _ _ rfl) fun _ h24 => mv h24 rfl fun _ h25 => h25.sn [26,5,4,0,1] rfl fun h26 => hK9 _ _ ?_
 by_cases e6 : k = 6
 ·refine wcT h26 rfl (decide_eq_true e6) <| h26.sk [5,4,0,1] rfl fun h27 => sqr fun _ hK10 => mv h27 rfl fun _ h28 => sv1 h28 rfl (v := .func (.func 52) #[.pointer (some ⟨cf, 0, none⟩)] #[]) (rfunc h28 (xs := [.tmp 28]) (ys := []) rfl (vs := [.pointer (some ⟨cf, 0, none⟩)]) (us := []) rfl rfl) fun _ h29 => h29.sk [29,28,5,0,1] rfl fun h30 => mv h30 rfl fun _ h31 => h31.sn [4,5,0,1] rfl fun h32 => hK10 _ _ <| wp_ret ?_
  try simp only [Exit.then, Exit.inBlock]
  refine retR (v := .func (.func 52) #[.pointer (some ⟨cf, 0, none⟩)] #[]) (res1 h32 rfl rfl) h32.defs ?_
  exact ⟨by rw [e6]; rfl, Sep.tail_un (xs := []) hS⟩
 refine wcF h26 rfl (decide_eq_false e6) <| h26.sk [5,4,0,1] rfl fun h27 => sqr fun _ hK10 => bv h27 (z := .bool (decide (k = 7))) rfl (cEq _ _ _ _ rfl) fun _ h28 => mv h28 rfl fun _ h29 => h29.sn [30,5,4,0,1] rfl fun h30 => hK10 _ _ ?_
 by_cases e7 : k = 7
 ·refine wcT h30 rfl (decide_eq_true e7) <| h30.sk [5,4,0,1] rfl fun h31 => sqr fun _ hK11 => mv h31 rfl fun _ h32 => sv1 h32 rfl (v := .func (.func 53) #[.pointer (some ⟨cf, 0, none⟩)] #[]) (rfunc h32 (xs := [.tmp 32]) (ys := []) rfl (vs := [.pointer (some ⟨cf, 0, none⟩)]) (us := []) rfl rfl) fun _ h33 => h33.sk [33,32,5,0,1] rfl fun h34 => mv h34 rfl fun _ h35 => h35.sn [4,5,0,1] rfl fun h36 => hK11 _ _ <| wp_ret ?_
  try simp only [Exit.then, Exit.inBlock]
  refine retR (v := .func (.func 53) #[.pointer (some ⟨cf, 0, none⟩)] #[]) (res1 h36 rfl rfl) h36.defs ?_
  exact ⟨by rw [e7]; rfl, Sep.tail_un (xs := []) hS⟩
 refine wcF h30 rfl (decide_eq_false e7) <| h30.sk [5,4,0,1] rfl fun h31 => sqr fun _ hK11 => bv h31 (z := .bool (decide (k = 8))) rfl (cEq _ _ _ _ rfl) fun _ h32 => mv h32 rfl fun _ h33 => h33.sn [34,5,4,0,1] rfl fun h34 => hK11 _ _ ?_
 by_cases e8 : k = 8
 ·refine wcT h34 rfl (decide_eq_true e8) <| h34.sk [5,4,0,1] rfl fun h35 => sqr fun _ hK12 => mv h35 rfl fun _ h36 => sv1 h36 rfl (v := .func (.func 54) #[.pointer (some ⟨cf, 0, none⟩)] #[]) (rfunc h36 (xs := [.tmp 36]) (ys := []) rfl (vs := [.pointer (some ⟨cf, 0, none⟩)]) (us := []) rfl rfl) fun _ h37 => h37.sk [37,36,5,0,1] rfl fun h38 => mv h38 rfl fun _ h39 => h39.sn [4,5,0,1] rfl fun h40 => hK12 _ _ <| wp_ret ?_
  try simp only [Exit.then, Exit.inBlock]
  refine retR (v := .func (.func 54) #[.pointer (some ⟨cf, 0, none⟩)] #[]) (res1 h40 rfl rfl) h40.defs ?_
  exact ⟨by rw [e8]; rfl, Sep.tail_un (xs := []) hS⟩
 refine wcF h34 rfl (decide_eq_false e8) <| h34.sk [5,4,0,1] rfl fun h35 => sqr fun _ hK12 => bv h35 (z := .bool (decide (k = 9))) rfl (cEq _ _ _ _ rfl) fun _ h36 => mv h36 rfl fun _ h37 => h37.sn [38,5,4,0,1] rfl fun h38 => hK12 _ _ ?_
 by_cases e9 : k = 9
 ·refine wcT h38 rfl (decide_eq_true e9) <| h38.sk [5,4,0,1] rfl fun h39 => sqr fun _ hK13 => mv h39 rfl fun _ h40 => sv1 h40 rfl (v := .func (.func 55) #[.pointer (some ⟨cf, 0, none⟩)] #[]) (rfunc h40 (xs := [.tmp 40]) (ys := []) rfl (vs := [.pointer (some ⟨cf, 0, none⟩)]) (us := []) rfl rfl) fun _ h41 => h41.sk [41,40,5,0,1] rfl fun h42 => mv h42 rfl fun _ h43 => h43.sn [4,5,0,1] rfl fun h44 => hK13 _ _ <| wp_ret ?_
  try simp only [Exit.then, Exit.inBlock]
  refine retR (v := .func (.func 55) #[.pointer (some ⟨cf, 0, none⟩)] #[]) (res1 h44 rfl rfl) h44.defs ?_
  exact ⟨by rw [e9]; rfl, Sep.tail_un (xs := []) hS⟩
 refine wcF h38 rfl (decide_eq_false e9) <| h38.sk [5,4,0,1] rfl fun h39 => sqr fun _ hK13 => bv h39 (z := .bool (decide (k = 10))) rfl (cEq _ _ _ _ rfl) fun _ h40 => mv h40 rfl fun _ h41 => h41.sn [42,5,4,0,1] rfl fun h42 => hK13 _ _ ?_
 by_cases e10 : k = 10
 ·refine wcT h42 rfl (decide_eq_true e10) <| h42.sk [5,4,0,1] rfl fun h43 => sqr fun _ hK14 => mv h43 rfl fun _ h44 => sv1 h44 rfl (v := .func (.func 56) #[.pointer (some ⟨cf, 0, none⟩)] #[]) (rfunc h44 (xs := [.tmp 44]) (ys := []) rfl (vs := [.pointer (some ⟨cf, 0, none⟩)]) (us := []) rfl rfl) fun _ h45 => h45.sk [45,44,5,0,1] rfl fun h46 => mv h46 rfl fun _ h47 => h47.sn [4,5,0,1] rfl fun h48 => hK14 _ _ <| wp_ret ?_
  try simp only [Exit.then, Exit.inBlock]
  refine retR (v := .func (.func 56) #[.pointer (some ⟨cf, 0, none⟩)] #[]) (res1 h48 rfl rfl) h48.defs ?_
  exact ⟨by rw [e10]; rfl, Sep.tail_un (xs := []) hS⟩
 refine wcF h42 rfl (decide_eq_false e10) <| h42.sk [5,4,0,1] rfl fun h43 => sqr fun _ hK14 => bv h43 (z := .bool (decide (k = 11))) rfl (cEq _ _ _ _ rfl) fun _ h44 => mv h44 rfl fun _ h45 => h45.sn [46,5,4,0,1] rfl fun h46 => hK14 _ _ ?_
 by_cases e11 : k = 11
 ·refine wcT h46 rfl (decide_eq_true e11) <| h46.sk [5,4,0,1] rfl fun h47 => sqr fun _ hK15 => mv h47 rfl fun _ h48 => sv1 h48 rfl (v := .func (.func 57) #[.pointer (some ⟨cf, 0, none⟩)] #[]) (rfunc h48 (xs := [.tmp 48]) (ys := []) rfl (vs := [.pointer (some ⟨cf, 0, none⟩)]) (us := []) rfl rfl) fun _ h49 => h49.sk [49,48,5,0,1] rfl fun h50 => mv h50 rfl fun _ h51 => h51.sn [4,5,0,1] rfl fun h52 => hK15 _ _ <| wp_ret ?_
  try simp only [Exit.then, Exit.inBlock]
  refine retR (v := .func (.func 57) #[.pointer (some ⟨cf, 0, none⟩)] #[]) (res1 h52 rfl rfl) h52.defs ?_
  exact ⟨by rw [e11]; rfl, Sep.tail_un (xs := []) hS⟩
 refine wcF h46 rfl (decide_eq_false e11) <| h46.sk [5,4,0,1] rfl fun h47 => sqr fun _ hK15 => bv h47 (z := .bool (decide (k = 12))) rfl (cEq _ _ _ _ rfl) fun _ h48 => mv h48 rfl fun _ h49 => h49.sn [50,5,4,0,1] rfl fun h50 => hK15 _ _ ?_
 by_cases e12 : k = 12
 ·refine wcT h50 rfl (decide_eq_true e12) <| h50.sk [5,4,0,1] rfl fun h51 => sqr fun _ hK16 => mv h51 rfl fun _ h52 => sv1 h52 rfl (v := .func (.func 58) #[.pointer (some ⟨cf, 0, none⟩)] #[]) (rfunc h52 (xs := [.tmp 52]) (ys := []) rfl (vs := [.pointer (some ⟨cf, 0, none⟩)]) (us := []) rfl rfl) fun _ h53 => h53.sk [53,52,5,0,1] rfl fun h54 => mv h54 rfl fun _ h55 => h55.sn [4,5,0,1] rfl fun h56 => hK16 _ _ <| wp_ret ?_
  try simp only [Exit.then, Exit.inBlock]
  refine retR (v := .func (.func 58) #[.pointer (some ⟨cf, 0, none⟩)] #[]) (res1 h56 rfl rfl) h56.defs ?_
  exact ⟨by rw [e12]; rfl, Sep.tail_un (xs := []) hS⟩
 refine wcF h50 rfl (decide_eq_false e12) <| h50.sk [5,4,0,1] rfl fun h51 => sqr fun _ hK16 => bv h51 (z := .bool (decide (k = 13))) rfl (cEq _ _ _ _ rfl) fun _ h52 => mv h52 rfl fun _ h53 => h53.sn [54,5,4,0,1] rfl fun h54 => hK16 _ _ ?_
 have e13 : k = 13 := by omega
 refine wcT h54 rfl (decide_eq_true e13) <| h54.sk [5,4,0,1] rfl fun h55 => sqr fun _ hK17 => mv h55 rfl fun _ h56 => sv1 h56 rfl (v := .func (.func 59) #[.pointer (some ⟨cf, 0, none⟩)] #[]) (rfunc h56 (xs := [.tmp 56]) (ys := []) rfl (vs := [.pointer (some ⟨cf, 0, none⟩)]) (us := []) rfl rfl) fun _ h57 => h57.sk [57,56,5,0,1] rfl fun h58 => mv h58 rfl fun _ h59 => h59.sn [4,5,0,1] rfl fun h60 => hK17 _ _ <| wp_ret ?_
 try simp only [Exit.then, Exit.inBlock]
 refine retR (v := .func (.func 59) #[.pointer (some ⟨cf, 0, none⟩)] #[]) (res1 h60 rfl rfl) h60.defs ?_
 exact ⟨by rw [e13]; rfl, Sep.tail_un (xs := []) hS⟩

set_option maxHeartbeats 4000000 in
theorem method0_c {w : World} {R : List Ch} {cf : Nat} {k : Int} (hk : k < 1 ∨ k > 13) (hS0 : Sep w R) :
  CallsR Tryz.prog 28 #[.pointer (some ⟨cf, 0, none⟩), .int .i64 k] w (fun v w' => v = .nilFunc ∧ Sep w' R) := by
 have hS : Sep w [Ch.many R] := Sep.tail_many (xs := []) hS0; clear hS0
 refine enterR Tryz.func28 rfl (N := 58) Tryz.ntmps28 (by show 2 ≤ 58; decide) [(0, .pointer (some ⟨cf, 0, none⟩)), (1, .int .i64 k)] rfl fun _ h1 => sqr fun _ hK3 => mv h1 rfl fun _ h4 => wpList_nil <| hK3 _ _ <| sq fun _ hK6 => sqr fun _ hK7 => mv h4 rfl fun _ h8 => wpList_nil <| hK7 _ _ <| wp_block ?_
 refine sqr fun _ hK1 => bv h8 (z := .bool (decide (k = 1))) rfl (cEq _ _ _ _ rfl) fun _ h2 => mv h2 rfl fun _ h3 => h3.sn [6,5,4,0,1] rfl fun h5 => hK1 _ _ <| wcF h5 rfl (decide_eq_false (by omega)) ?_
 refine h5.sk [5,4,0,1] rfl fun h6 => sqr fun _ hK2 => bv h6 (z := .bool (decide (k = 2))) rfl (cEq _ _ _ _ rfl) fun _ h7 => mv h7 rfl fun _ h9 => h9.sn [10,5,4,0,1] rfl fun h10 => hK2 _ _ <| wcF h10 rfl (decide_eq_false (by omega)) ?_
 refine h10.sk [5,4,0,1] rfl fun h11 => sqr fun _ hK4 => bv h11 (z := .bool (decide (k = 3))) rfl (cEq _ _ _ _ rfl) fun _ h12 => mv h12 rfl fun _ h13 => h13.sn [14,5,4,0,1] rfl fun h14 => hK4 _ _ <| wcF h14 rfl (decide_eq_false (by omega)) ?_
 refine h14.sk [5,4,0,1] rfl fun h15 => sqr fun _ hK5 => bv h15 (z := .bool (decide (k = 4))) rfl (cEq _ _ _ _ rfl) fun _ h16 => mv h16 rfl fun _ h17 => h17.sn [18,5,4,0,1] rfl fun h18 => hK5 _ _ <| wcF h18 rfl (decide_eq_false (by omega)) ?_
 refine h18.sk [5,4,0,1] rfl fun h19 => sqr fun _ hK8 => bv h19 (z := .bool (decide (k = 5))) rfl (cEq _ _ _ _ rfl) fun _ h20 => mv h20 rfl fun _ h21 => h21.sn [22,5,4,0,1] rfl fun h22 => hK8 _ _ <| wcF h22 rfl (decide_eq_false (by omega)) ?_
 refine h22.sk [5,4,0,1] rfl fun h23 => sqr fun _ hK9 => bv h23 (z := .bool (decide (k = 6))) rfl (cEq _ _ _ _ rfl) fun _ h24 => mv h24 rfl fun _ h25 => h25.sn [26,5,4,0,1] rfl fun h26 => hK9 _ _ <| wcF h26 rfl (decide_eq_false (by omega)) ?_
 refine h26.sk [5,4,0,1] rfl fun h27 => sqr fun _ hK10 => bv h27 (z := .bool (decide (k = 7))) rfl (cEq _ _ _ _ rfl) fun _ h28 => mv h28 rfl fun _ h29 => h29.sn [30,5,4,0,1] rfl fun h30 => hK10 _ _ <| wcF h30 rfl (decide_eq_false (by omega)) ?_
 refine h30.sk [5,4,0,1] rfl fun h31 => sqr fun _ hK11 => bv h31 (z := .bool (decide (k = 8))) rfl (cEq _ _ _ _ rfl) fun _ h32 => mv h32 rfl fun _ h33 => h33.sn [34,5,4,0,1] rfl fun h34 => hK11 _ _ <| wcF h34 rfl (decide_eq_false (by omega)) ?_
 refine h34.sk [5,4,0,1] rfl fun h35 => sqr fun _ hK12 => bv h35 (z := .bool (decide (k = 9))) rfl (cEq _ _ _ _ rfl) fun _ h36 => mv h36 rfl fun _ h37 => h37.sn [38,5,4,0,1] rfl fun h38 => hK12 _ _ <| wcF h38 rfl (decide_eq_false (by omega)) ?_
 refine h38.sk [5,4,0,1] rfl fun h39 => sqr fun _ hK13 => bv h39 (z := .bool (decide (k = 10))) rfl (cEq _ _ _ _ rfl) fun _ h40 => mv h40 rfl fun _ h41 => h41.sn [42,5,4,0,1] rfl fun h42 => hK13 _ _ <| wcF h42 rfl (decide_eq_false (by omega)) ?_
 refine h42.sk [5,4,0,1] rfl fun h43 => sqr fun _ hK14 => bv h43 (z := .bool (decide (k = 11))) rfl (cEq _ _ _ _ rfl) fun _ h44 => mv h44 rfl fun _ h45 => h45.sn [46,5,4,0,1] rfl fun h46 => hK14 _ _ <| wcF h46 rfl (decide_eq_false (by omega)) ?_
 refine h46.sk [5,4,0,1] rfl fun h47 => sqr fun _ hK15 => bv h47 (z := .bool (decide (k = 12))) rfl (cEq _ _ _ _ rfl) fun _ h48 => mv h48 rfl fun _ h49 => h49.sn [50,5,4,0,1] rfl fun h50 => hK15 _ _ <| wcF h50 rfl (decide_eq_false (by omega)) ?_
 refine h50.sk [5,4,0,1] rfl fun h51 => sqr fun _ hK16 => bv h51 (z := .bool (decide (k = 13))) rfl (cEq _ _ _ _ rfl) fun _ h52 => mv h52 rfl fun _ h53 => h53.sn [54,5,4,0,1] rfl fun h54 => hK16 _ _ <| wcF h54 rfl (decide_eq_false (by omega)) ?_
 refine h54.sk [5,4,0,1] rfl fun h55 => wp_skip <| hK6 _ _ <| sqr fun _ hK17 => h55.sk [5,0,1] rfl fun h56 => mv h56 rfl fun _ h57 => wpList_nil <| hK17 _ _ <| wp_ret ?_
 try simp only [Exit.then, Exit.inBlock]
 refine retR (v := .nilFunc) (res1 h57 rfl rfl) h57.defs ?_
 exact ⟨rfl, Sep.tail_un (xs := []) hS⟩

end Go.Proofs.YtcanemamnmmbcaaGreatDoor
/- the code's Do, Drop, New (sx/ptG.py) -/
namespace Go.Proofs.YtcanemamnmmbcaaGreatDoor
open Go.RowKit
set_option linter.unusedSimpArgs false
set_option linter.unusedVariables false
set_option maxRecDepth 100000

theorem r0_of {r : RepM} (h : r.e = 0) : r0 r = r := by cases r; simp only at h; subst h; rfl
theorem errV {r : RepM} (h : r = errR r.e) : (.agg #[.int .i64 r.e, .int .i64 0, .string (strB []), .slice none 0 0, .int .i64 0, .int .i64 0, .int .i64 0] : Value) = repV r none 0 := by
 generalize r.e = e at h ⊢
 subst h; rfl
def ErrOk (p : FsM × RepM) : Prop := p.2.e ≠ 0 → p.2 = errR p.2.e
theorem err1 {F : FsM} {c fl : Int} {X : List UInt8} : ErrOk (openF F c X fl) := by
 unfold openF ErrOk; (repeat' split) <;> first | exact fun _ => rfl | exact fun h => absurd rfl h
theorem err2 {F : FsM} {c fd : Int} : ErrOk (closeF F c fd) := by
 unfold closeF ErrOk; (repeat' split) <;> first | exact fun _ => rfl | exact fun h => absurd rfl h
theorem err3 {F : FsM} {c fd off n : Int} : ErrOk (readF F c fd off n) := by
 unfold readF ErrOk; (repeat' split) <;> first | exact fun _ => rfl | exact fun h => absurd rfl h
theorem err4 {F : FsM} {c fd off : Int} {b : List UInt8} : ErrOk (writeF F c fd off b) := by
 unfold writeF ErrOk; (repeat' split) <;> first | exact fun _ => rfl | exact fun h => absurd rfl h
theorem err5 {F : FsM} {c fd n : Int} : ErrOk (truncF F c fd n) := by
 unfold truncF ErrOk; (repeat' split) <;> first | exact fun _ => rfl | exact fun h => absurd rfl h
theorem err6 {F : FsM} {c fd : Int} : ErrOk (syncF F c fd) := by
 unfold syncF ErrOk; (repeat' split) <;> first | exact fun _ => rfl | exact fun h => absurd rfl h
theorem err7 {F : FsM} {X : List UInt8} : ErrOk (mkdirF F X) := by
 unfold mkdirF ErrOk; (repeat' split) <;> first | exact fun _ => rfl | exact fun h => absurd rfl h
theorem err8 {F : FsM} {X : List UInt8} : ErrOk (rmdirF F X) := by
 unfold rmdirF ErrOk; (repeat' split) <;> first | exact fun _ => rfl | exact fun h => absurd rfl h
theorem err9 {F : FsM} {X Y : List UInt8} : ErrOk (linksF F X Y) := by
 unfold linksF ErrOk; (repeat' split) <;> first | exact fun _ => rfl | exact fun h => absurd rfl h
theorem err10 {F : FsM} {X : List UInt8} : ErrOk (unlinkF F X) := by
 unfold unlinkF ErrOk; (repeat' split) <;> first | exact fun _ => rfl | exact fun h => absurd rfl h
theorem err11a {F : FsM} {X : List UInt8} {d n : Nat} {s : ByteArray} : ErrOk (renamedF F X d s n) := by
 unfold renamedF ErrOk; (repeat' split) <;> first | exact fun _ => rfl | exact fun h => absurd rfl h
theorem err11 {F : FsM} {X Y : List UInt8} : ErrOk (renameF F X Y) := by
 unfold renameF ErrOk; (repeat' split) <;> first | exact err11a | exact fun _ => rfl
theorem err12 {F : FsM} {X : List UInt8} : ErrOk (listF F X) := by
 unfold listF ErrOk; (repeat' split) <;> first | exact fun _ => rfl | exact fun h => absurd rfl h
theorem err13 {F : FsM} {X : List UInt8} : ErrOk (statF F X) := by
 unfold statF ErrOk; (repeat' split) <;> first | exact fun _ => rfl | exact fun h => absurd rfl h
def dropK (F : FsM) (c : Int) (i : Nat) : FsM := { F with O := F.O.filter fun x => !decide (x.cl = c ∧ x.fd < (i : Int) ∧ 0 ≤ x.fd) }
theorem dropK_zero {F : FsM} {A : AdM} {c : Int} : opG (dropK F c 0) A = opG F A := by
 unfold opG
 rw [show (dropK F c 0).O = F.O from List.filter_eq_self.2 fun x _ => by
  rw [decide_eq_false (show ¬ (x.cl = c ∧ x.fd < ((0 : Nat) : Int) ∧ 0 ≤ x.fd) from fun q => by omega)]; rfl]
theorem lookO_filter {O : List OpM} {p : OpM → Bool} {c' fd' : Int} (h : ∀ x, x.cl = c' ∧ x.fd = fd' → p x = true) : lookO (O.filter p) c' fd' = lookO O c' fd' := by
 unfold lookO
 rw [List.find?_filter]
 congr 1
 congr 1
 funext x
 by_cases z : x.cl = c' ∧ x.fd = fd'
 ·rw [h x z]; simp [z]
 ·simp [z]
theorem lookO_filter_no {O : List OpM} {p : OpM → Bool} {c' fd' : Int} (h : ∀ x, x.cl = c' ∧ x.fd = fd' → p x = false) : lookO (O.filter p) c' fd' = none := by
 unfold lookO
 rw [List.find?_filter, List.find?_eq_none.2 (fun x _ => by
  by_cases z : x.cl = c' ∧ x.fd = fd'
  ·rw [h x z]; simp
  ·simp [z])]; rfl
theorem dropK_look (F : FsM) (c : Int) (i : Nat) : ∀ c' fd', lookO (dropK F c (i + 1)).O c' fd' = if c' = c ∧ fd' = (i : Int) then none else lookO (dropK F c i).O c' fd' := by
 intro c' fd'
 show lookO (F.O.filter _) c' fd' = _
 by_cases q : c' = c ∧ 0 ≤ fd' ∧ fd' < ((i + 1 : Nat) : Int)
 ·rw [lookO_filter_no (fun x hx => by rw [decide_eq_true (show x.cl = c ∧ x.fd < ((i + 1 : Nat) : Int) ∧ 0 ≤ x.fd from ⟨hx.1.trans q.1, by omega, by omega⟩)]; rfl)]
  by_cases q2 : c' = c ∧ fd' = (i : Int)
  ·rw [if_pos q2]
  ·rw [if_neg q2]
   refine (lookO_filter_no (fun x hx => ?_)).symm
   rw [decide_eq_true (show x.cl = c ∧ x.fd < (i : Int) ∧ 0 ≤ x.fd from ⟨hx.1.trans q.1, by have := fun e => q2 ⟨q.1, e⟩; omega, by omega⟩)]; rfl
 ·rw [if_neg (fun z => q ⟨z.1, by omega, by omega⟩), lookO_filter (fun x hx => by rw [decide_eq_false (show ¬ (x.cl = c ∧ x.fd < ((i + 1 : Nat) : Int) ∧ 0 ≤ x.fd) from fun z => q ⟨hx.1.symm.trans z.1, by omega, by omega⟩)]; rfl)]
  refine (lookO_filter (fun x hx => ?_)).symm
  rw [decide_eq_false (show ¬ (x.cl = c ∧ x.fd < (i : Int) ∧ 0 ≤ x.fd) from fun z => q ⟨hx.1.symm.trans z.1, by omega, by omega⟩)]; rfl
theorem dropK_all {F : FsM} {δ : Nat → Int} {A : AdM} (h : FsC F δ) (c : Int) {i : Nat} (hi : i = 8) : opG (dropK F c i) A = opG (dropF F c) A := by
 unfold opG
 rw [show (dropK F c i).O = (dropF F c).O from List.filter_congr fun x hx => by
  have z := (h.o x hx).2.2
  by_cases q : x.cl = c
  ·rw [decide_eq_true (show x.cl = c ∧ x.fd < (i : Int) ∧ 0 ≤ x.fd from ⟨q, by omega, by omega⟩), decide_eq_true q]
  ·rw [decide_eq_false (fun w => q w.1), decide_eq_false q]]
def fsE : FsM := ⟨[], [], []⟩
def adE : AdM := ⟨fun _ => 0, fun _ => 0, fun _ => 0, 0, 0⟩
theorem new_code {w : World} {R : List Ch} {g b : Nat} (h : Sep w (blkC g 97 [.int .i64 2, .int .i64 1, .string (strB []), .map (some b)] :: mapC KN b 0 (fun _ => none) :: R)) : Sep w (nodX fs0 (adE.new 0 g b) :: R) := by
 have hE : NdP fsE.nE adE.nC w := ⟨fun k hk => absurd hk (Nat.not_lt_zero _), fun k hk => absurd hk (Nat.not_lt_zero _), fun j k hj => absurd hj (Nat.not_lt_zero _), fun j k hj => absurd hj (Nat.not_lt_zero _)⟩
 have z : Sep w (nodX fsE adE :: blkC g 97 [.int .i64 2, .int .i64 1, .string (strB []), .map (some b)] :: mapC KN b 0 (fun _ => none) :: R) :=
  Sep.cons (c := nodX fsE adE) hE h (fun i d _ q ⟨k, hk, _⟩ => absurd hk (Nat.not_lt_zero _))
 have z2 : Sep w (blkC g 97 [.int .i64 2, .int .i64 1, .string (strB []), .map (some b)] :: mapC KN b 0 (fun _ => none) :: nodX fsE adE :: [Ch.many R]) :=
  (Sep.tail_many (xs := [_, _, _]) z).pick [1, 2, 0, 3] (by decide) rfl
 exact Sep.tail_un (xs := [_]) (Sep.joinD (F := fsE) (.inr rfl) z2)
theorem new_ad (g b : Nat) : AdOk fs0 (adE.new 0 g b) 0 := by
 refine ⟨fun k hd hr => ?_, Nat.le_refl _, Nat.le_refl _⟩
 rcases hr with e | ⟨x, hx, _⟩
 ·rw [e]
  show (if (0 : Nat) = 0 then (1 : Int) else adE.ld 0) = 1
  exact if_pos rfl
 ·cases hx


set_option maxHeartbeats 4000000 in
theorem kinds_c {cf ob n : Nat} {F : FsM} {A : AdM} {c : Int} {x : CallM} (hfo : FsOk F) (hA : AdOk F A n) (hn : n ≤ 900) (hs : SmS F) (h1 : x.p1.length ≤ 1000) (h2 : x.p2.length ≤ 1000) (h3 : x.data.length ≤ 1000) (hwx : wfD (c, x.fd)) (hcl : 1 ≤ c ∧ c ≤ 8) (hk : 1 ≤ x.kind ∧ x.kind ≤ 13) : ∃ (f : FuncId) (p : FsM × RepM),
  (∀ (w : World) (R : List Ch), Sep w R → CallsR Tryz.prog 28 #[.pointer (some ⟨cf, 0, none⟩), .int .i64 x.kind] w (fun v w' => v = .func (.func f) #[.pointer (some ⟨cf, 0, none⟩)] #[] ∧ Sep w' R)) ∧
  (∀ (args : Array Value) (w : World), (callFunc f args).run Tryz.prog w = .ok (.enter f args) w) ∧
  (∀ (w : World) (R : List Ch), Sep w (cP cf ob F A ++ R) → CallsR Tryz.prog f #[.pointer (some ⟨cf, 0, none⟩), .int .i64 c, .agg (cL x).toArray] w (fun v w' => ∃ A' sa sc, v = .tuple #[repV (r0 p.2) sa sc, .int .i64 p.2.e] ∧ Sep w' (ownC 0 9 1 sa p.2.names.length sc (p.2.names.flatMap sE) :: cP cf ob p.1 A' ++ R) ∧ AdOk p.1 A' (n + 1))) ∧ ErrOk p ∧ doF F c x = p := by
 rcases (show x.kind = 1 ∨ x.kind = 2 ∨ x.kind = 3 ∨ x.kind = 4 ∨ x.kind = 5 ∨ x.kind = 6 ∨ x.kind = 7 ∨ x.kind = 8 ∨ x.kind = 9 ∨ x.kind = 10 ∨ x.kind = 11 ∨ x.kind = 12 ∨ x.kind = 13 by omega) with h | h | h | h | h | h | h | h | h | h | h | h | h
 ·exact ⟨47, openF F c x.p1 x.fl, fun w R s => by rw [h]; exact method_c (k := 1) (by omega) s, cz_posix_Fs_doOpen, fun w R s => doOpen_c (A := A) (F := F) (x := x) s hfo hA hn hs h1 h2 h3 hwx hcl, err1, by unfold doF; rw [if_neg (by omega)]; unfold kindF; rw [if_pos (by omega)]⟩
 ·exact ⟨48, closeF F c x.fd, fun w R s => by rw [h]; exact method_c (k := 2) (by omega) s, cz_posix_Fs_doClose, fun w R s => doClose_c (A := A) (F := F) (x := x) s hfo hA hn hs h1 h2 h3 hwx hcl, err2, by unfold doF; rw [if_neg (by omega)]; unfold kindF; rw [if_neg (by omega), if_pos (by omega)]⟩
 ·exact ⟨49, readF F c x.fd x.off x.n, fun w R s => by rw [h]; exact method_c (k := 3) (by omega) s, cz_posix_Fs_doRead, fun w R s => doRead_c (A := A) (F := F) (x := x) s hfo hA hn hs h1 h2 h3 hwx hcl, err3, by unfold doF; rw [if_neg (by omega)]; unfold kindF; rw [if_neg (by omega), if_neg (by omega), if_pos (by omega)]⟩
 ·exact ⟨50, writeF F c x.fd x.off x.data, fun w R s => by rw [h]; exact method_c (k := 4) (by omega) s, cz_posix_Fs_doWrite, fun w R s => doWrite_c (A := A) (F := F) (x := x) s hfo hA hn hs h1 h2 h3 hwx hcl, err4, by unfold doF; rw [if_neg (by omega)]; unfold kindF; rw [if_neg (by omega), if_neg (by omega), if_neg (by omega), if_pos (by omega)]⟩
 ·exact ⟨51, truncF F c x.fd x.n, fun w R s => by rw [h]; exact method_c (k := 5) (by omega) s, cz_posix_Fs_doTrunc, fun w R s => doTrunc_c (A := A) (F := F) (x := x) s hfo hA hn hs h1 h2 h3 hwx hcl, err5, by unfold doF; rw [if_neg (by omega)]; unfold kindF; rw [if_neg (by omega), if_neg (by omega), if_neg (by omega), if_neg (by omega), if_pos (by omega)]⟩
 ·exact ⟨52, syncF F c x.fd, fun w R s => by rw [h]; exact method_c (k := 6) (by omega) s, cz_posix_Fs_doSync, fun w R s => doSync_c (A := A) (F := F) (x := x) s hfo hA hn hs h1 h2 h3 hwx hcl, err6, by unfold doF; rw [if_neg (by omega)]; unfold kindF; rw [if_neg (by omega), if_neg (by omega), if_neg (by omega), if_neg (by omega), if_neg (by omega), if_pos (by omega)]⟩
 ·exact ⟨53, mkdirF F x.p1, fun w R s => by rw [h]; exact method_c (k := 7) (by omega) s, cz_posix_Fs_doMkdir, fun w R s => doMkdir_c (A := A) (F := F) (x := x) s hfo hA hn hs h1 h2 h3 hwx hcl, err7, by unfold doF; rw [if_neg (by omega)]; unfold kindF; rw [if_neg (by omega), if_neg (by omega), if_neg (by omega), if_neg (by omega), if_neg (by omega), if_neg (by omega), if_pos (by omega)]⟩
 ·exact ⟨54, rmdirF F x.p1, fun w R s => by rw [h]; exact method_c (k := 8) (by omega) s, cz_posix_Fs_doRmdir, fun w R s => doRmdir_c (A := A) (F := F) (x := x) s hfo hA hn hs h1 h2 h3 hwx hcl, err8, by unfold doF; rw [if_neg (by omega)]; unfold kindF; rw [if_neg (by omega), if_neg (by omega), if_neg (by omega), if_neg (by omega), if_neg (by omega), if_neg (by omega), if_neg (by omega), if_pos (by omega)]⟩
 ·exact ⟨55, linksF F x.p1 x.p2, fun w R s => by rw [h]; exact method_c (k := 9) (by omega) s, cz_posix_Fs_doLink, fun w R s => doLink_c (A := A) (F := F) (x := x) s hfo hA hn hs h1 h2 h3 hwx hcl, err9, by unfold doF; rw [if_neg (by omega)]; unfold kindF; rw [if_neg (by omega), if_neg (by omega), if_neg (by omega), if_neg (by omega), if_neg (by omega), if_neg (by omega), if_neg (by omega), if_neg (by omega), if_pos (by omega)]⟩
 ·exact ⟨56, unlinkF F x.p1, fun w R s => by rw [h]; exact method_c (k := 10) (by omega) s, cz_posix_Fs_doUnlink, fun w R s => doUnlink_c (A := A) (F := F) (x := x) s hfo hA hn hs h1 h2 h3 hwx hcl, err10, by unfold doF; rw [if_neg (by omega)]; unfold kindF; rw [if_neg (by omega), if_neg (by omega), if_neg (by omega), if_neg (by omega), if_neg (by omega), if_neg (by omega), if_neg (by omega), if_neg (by omega), if_neg (by omega), if_pos (by omega)]⟩
 ·exact ⟨57, renameF F x.p1 x.p2, fun w R s => by rw [h]; exact method_c (k := 11) (by omega) s, cz_posix_Fs_doRename, fun w R s => doRename_c (A := A) (F := F) (x := x) s hfo hA hn hs h1 h2 h3 hwx hcl, err11, by unfold doF; rw [if_neg (by omega)]; unfold kindF; rw [if_neg (by omega), if_neg (by omega), if_neg (by omega), if_neg (by omega), if_neg (by omega), if_neg (by omega), if_neg (by omega), if_neg (by omega), if_neg (by omega), if_neg (by omega), if_pos (by omega)]⟩
 ·exact ⟨58, listF F x.p1, fun w R s => by rw [h]; exact method_c (k := 12) (by omega) s, cz_posix_Fs_doList, fun w R s => doList_c (A := A) (F := F) (x := x) s hfo hA hn hs h1 h2 h3 hwx hcl, err12, by unfold doF; rw [if_neg (by omega)]; unfold kindF; rw [if_neg (by omega), if_neg (by omega), if_neg (by omega), if_neg (by omega), if_neg (by omega), if_neg (by omega), if_neg (by omega), if_neg (by omega), if_neg (by omega), if_neg (by omega), if_neg (by omega), if_pos (by omega)]⟩
 ·exact ⟨59, statF F x.p1, fun w R s => by rw [h]; exact method_c (k := 13) (by omega) s, cz_posix_Fs_doStat, fun w R s => doStat_c (A := A) (F := F) (x := x) s hfo hA hn hs h1 h2 h3 hwx hcl, err13, by unfold doF; rw [if_neg (by omega)]; unfold kindF; rw [if_neg (by omega), if_neg (by omega), if_neg (by omega), if_neg (by omega), if_neg (by omega), if_neg (by omega), if_neg (by omega), if_neg (by omega), if_neg (by omega), if_neg (by omega), if_neg (by omega), if_neg (by omega), if_pos (by omega)]⟩
set_option maxHeartbeats 4000000 in
theorem do_c {w : World} {cf ob n : Nat} {F : FsM} {A : AdM} {R : List Ch} {c : Int} {x : CallM} (hS0 : Sep w ((cP cf ob F A) ++ R)) (hfo : FsOk F) (hA : AdOk F A n) (hn : n ≤ 900) (hs : SmS F) (h1 : x.p1.length ≤ 1000) (h2 : x.p2.length ≤ 1000) (h3 : x.data.length ≤ 1000) (hxf : (Lit.int .i64 x.fd).wf = true) :
  CallsR Tryz.prog 14 #[.pointer (some ⟨cf, 0, none⟩), .int .i64 c, .agg (cL x).toArray] w (fun v w' => ∃ A' sa sc, v = repV (doF F c x).2 sa sc ∧ Sep w' (ownC 0 9 1 sa (doF F c x).2.names.length sc ((doF F c x).2.names.flatMap sE) :: (cP cf ob ((doF F c x).1) A') ++ R) ∧ AdOk (doF F c x).1 A' (n + 1)) := by
 have hS := Sep.tail_many (xs := cP cf ob F A) hS0; clear hS0
 have hz : SmF F := hs.sm; have hok := hfo.toFsC
 have hz0 := hz; obtain ⟨hz1, hz2, hz3⟩ : F.N.length ≤ 1000 ∧ F.E.length ≤ 1000 ∧ F.O.length ≤ 1000 := hz
 refine enterR Tryz.func14 rfl (N := 36) Tryz.ntmps14 (by show 3 ≤ 36; decide) [(0, .pointer (some ⟨cf, 0, none⟩)), (1, .int .i64 c), (2, .agg (cL x).toArray)] rfl fun _ h1 => sqr fun _ hK3 => so (wanted_none rfl) fun _ hK1 => xbox h1 rfl rfl rfl rfl rfl (z := (cL x)) rfl hS fun _ g4 w7 h5 s8 _ _ => hK1 _ _ ?_
 refine so (wanted_none rfl) fun _ hK2 => xalloc h5 rfl rfl rfl rfl (z := zL) (fun _ => rfl) s8 fun _ g1 w1 h4 s1 _ _ => hK2 _ _ ?_
 refine wpList_nil <| hK3 _ _ <| sq fun _ hK4 => sqr fun _ hK5 => mv h4 rfl fun _ h6 => bv h6 (z := .bool (decide (c < 1))) rfl (cLt _ _ _ _ rfl) fun _ h7 => mv h7 rfl fun _ h8 => sg h8 (wF h8 rfl rfl rfl) rfl rfl rfl (v := .int .i64 c) (fun hC1 => by have hq := (dF (notT hC1)); exact rmove h8 rfl rfl _) fun _ h9 => sg h9 (wF h9 rfl rfl rfl) rfl rfl rfl (v := .bool (decide (c > 8))) (fun hC2 => by have hq := (dF (notT hC2)); exact rbin h9 rfl (opg rfl hC2) rfl (cGt _ _ _ _ rfl) _) fun _ h10 => sv1 h10 rfl (v := .bool ((decide (c < 1)) || (decide (c > 8)))) (rpickO h10 rfl (E := (decide (c < 1))) (F := (decide (c > 8))) rfl rfl rfl (fun e => if_pos (by rw [e]; try rfl))) fun _ h11 => h11.sk [15,6,5,0,1,2] rfl fun h12 => ?_
 clear h1
 refine wpList_nil <| hK5 _ _ ?_
 rcases bC ((decide (c < 1)) || (decide (c > 8))) with hc1 | hc1
 ·skip
  have hp1 : (c < 1) ∨ (c > 8) := ((orT hc1).imp (fun q => (dT q)) (fun q => (dT q)))
  refine wcT h12 rfl hc1 <| h12.sk [6,5,0,1,2] rfl fun h13 => sqr fun _ hK6 => bu h13 (v := .agg #[.int .i64 1, .int .i64 0, .string (strB []), .slice none 0 0, .int .i64 0, .int .i64 0, .int .i64 0]) rfl (fun w => by kernel_rfl) fun _ h14 => stA h14 s1 0 rfl rfl rfl (by kernel_rfl) rfl rfl rfl rfl fun _ w2 h15 s2 _ => h15.sn [6,5,0,1,2] rfl fun h16 => hK6 _ _ <| wp_ret ?_
  try simp only [Exit.then, Exit.inBlock]
  refine rC h16 s2 0 Tryz.underlying37 rfl rfl rfl rfl ?_
  have hq1 : doF F c x = (F, errR 1) := by unfold doF; rw [if_pos (by omega)]
  rw [hq1]
  exact ⟨A, none, 0, rfl, (Sep.tail_un (xs := [_, _, _]) (s2.pk [2,3,4,5] rfl)).ownNil 0 9 1, hA.mono⟩
 ·skip
  have hp2 : (¬ (c < 1)) ∧ (¬ (c > 8)) := (And.intro (dF (orF hc1).1) (dF (orF hc1).2))
  refine wcF h12 rfl hc1 <| h12.sk [6,5,0,1,2] rfl fun h17 => wp_skip <| hK4 _ _ <| sq fun _ hK7 => ?_
  have hcl : 1 ≤ c ∧ c ≤ 8 := by omega
  have hwx : wfD (c, x.fd) := ⟨wf_i64 (by omega) (by omega), hxf⟩
  refine wp_region_lit <| mv h17 rfl fun _ h18 => fav h18 rfl (fz_api_Call_0 _ _) fun _ h19 => ldv h19 s1 1 Tryz.underlying3 rfl rfl rfl rfl fun _ h20 => ?_
  by_cases hk : 1 ≤ x.kind ∧ x.kind ≤ 13
  ·obtain ⟨f, p, hm, hcp, hact, herr, hdo⟩ := kinds_c (cf := cf) (ob := ob) hfo hA hn hs h1 h2 h3 hwx hcl hk
   refine cl h20 rfl cz_posix_Fs_method (hm _ _ s1) fun _ v1 w3 r1 h21 => ?_
   obtain ⟨rfl, s3⟩ := r1
   refine mv h21 rfl fun _ h22 => h22.sn [7,6,5,0,1,2] rfl fun h23 => hK7 _ _ <| sq fun _ hK8 => sqr fun _ hK9 => mv h23 rfl fun _ h24 => bv h24 rfl (bFunN _ Tryz.underlying69 _ _ _ _ _) fun _ h25 => h25.sn [22,7,6,5,0,1,2] rfl fun h26 => hK9 _ _ <| wcF h26 rfl rfl <| h26.sk [7,6,5,0,1,2] rfl fun h27 => ?_
   refine wp_skip <| hK8 _ _ <| sqr fun _ hK10 => mvs 2 h27 rfl fun _ h28 => sw1 h28 rfl (v := .agg (cL x).toArray) (rld h28 rfl rfl (ldA Tryz.underlying30 rfl (n := 8) (by kernel_rfl) (s3.get 1 rfl : Blk _ _ _ _) rfl rfl)) fun _ h29 => cl h29 rfl hcp (hact _ _ (s3.pk [2,3,4,0,1,5] rfl)) fun _ v2 w4 r2 h30 => ?_
   obtain ⟨Ax88, sax89, scx90, rfl, s4, hAk95⟩ := r2
   refine mvs 3 h30 rfl fun _ h31 => so (wanted_none rfl) fun _ hK11 => xalloc h31 rfl rfl rfl rfl (z := zL) (fun _ => rfl) s4 fun _ g2 w5 h32 s5 _ _ => hK11 _ _ ?_
   refine stA h32 s5 0 rfl rfl rfl (by kernel_rfl) rfl rfl rfl rfl fun _ w6 h33 s6 _ => mv h33 rfl fun _ h34 => h34.sn [9,8,7,6,5,0,1,2] rfl fun h35 => hK10 _ _ <| sq fun _ hK12 => sqr fun _ hK13 => mv h35 rfl fun _ h36 => bv h36 (z := .bool (decide (p.2.e ≠ 0))) rfl (cNe _ _ _ _ rfl) fun _ h37 => h37.sn [32,9,8,7,6,5,0,1,2] rfl fun h38 => hK13 _ _ ?_
   rcases bC (decide (p.2.e ≠ 0)) with hc2 | hc2
   ·skip
    have hp3 : p.2.e ≠ 0 := (dT hc2)
    refine wcT h38 rfl hc2 <| h38.sk [9,8,7,6,5,0,1,2] rfl fun h39 => sqr fun _ hK14 => mv h39 rfl fun _ h40 => bu h40 (v := .agg #[.int .i64 (p.2.e), .int .i64 0, .string (strB []), .slice none 0 0, .int .i64 0, .int .i64 0, .int .i64 0]) rfl (fun w => by kernel_rfl) fun _ h41 => stA h41 s6 5 rfl rfl rfl (by kernel_rfl) rfl rfl rfl rfl fun _ w8 h42 s7 _ => h42.sn [9,8,7,6,5,0,1,2] rfl fun h43 => hK14 _ _ <| wp_ret ?_
    try simp only [Exit.then, Exit.inBlock]
    refine rC h43 s7 5 Tryz.underlying37 rfl rfl rfl rfl ?_
    rw [hdo]
    have he144 : p.2 = errR p.2.e := herr (by omega)
    refine ⟨Ax88, none, 0, errV he144, ?_, hAk95⟩
    show Sep _ (ownC 0 9 1 none p.2.names.length 0 (p.2.names.flatMap sE) :: _)
    rw [show p.2.names = [] by rw [he144]; rfl]; exact (Sep.tail_un (xs := [_, _, _]) (s7.pk [2,3,4,7] rfl)).ownNil 0 9 1
   ·skip
    have hp4 : ¬ (p.2.e ≠ 0) := (dF hc2)
    refine wcF h38 rfl hc2 <| h38.sk [9,8,7,6,5,0,1,2] rfl fun h44 => wp_skip <| hK12 _ _ <| sqr fun _ hK15 => sw1 h44 rfl (v := .agg #[.int .i64 ((r0 p.2).e), .int .i64 (p.2.fd), .string (strB (p.2.data)), .slice sax89 (p.2.names.length) scx90, .int .i64 (p.2.kind), .int .i64 (p.2.links), .int .i64 (p.2.size)]) (rld h44 rfl rfl (ldA Tryz.underlying37 rfl (n := 7) (by kernel_rfl) (s6.get 0 rfl : Blk _ _ _ _) rfl rfl)) fun _ h45 => stA h45 s6 5 rfl rfl rfl (by kernel_rfl) rfl rfl rfl rfl fun _ w9 h46 s9 _ => h46.sn [9,8,7,6,5,0,1,2] rfl fun h47 => hK15 _ _ <| wp_ret ?_
    try simp only [Exit.then, Exit.inBlock]
    refine rC h47 s9 5 Tryz.underlying37 rfl rfl rfl rfl ?_
    rw [hdo]
    exact ⟨Ax88, sax89, scx90, (congrArg (fun r => repV r sax89 scx90) (r0_of (r := p.2) (by omega))), Sep.tail_un (xs := [_, _, _, _]) (s9.pk [1,2,3,4,7] rfl), hAk95⟩
  ·skip
   refine cl h20 rfl cz_posix_Fs_method (method0_c (cf := cf) (k := x.kind) (by omega) s1) fun _ v3 w10 r3 h48 => ?_
   obtain ⟨rfl, s10⟩ := r3
   refine mv h48 rfl fun _ h49 => h49.sn [7,6,5,0,1,2] rfl fun h50 => hK7 _ _ <| sq fun _ hK16 => sqr fun _ hK17 => mv h50 rfl fun _ h51 => bv h51 rfl (bFunNN _ Tryz.underlying69 _ _) fun _ h52 => h52.sn [22,7,6,5,0,1,2] rfl fun h53 => hK17 _ _ <| wcT h53 rfl rfl <| h53.sk [7,6,5,0,1,2] rfl fun h54 => ?_
   refine sqr fun _ hK18 => bu h54 (v := .agg #[.int .i64 15, .int .i64 0, .string (strB []), .slice none 0 0, .int .i64 0, .int .i64 0, .int .i64 0]) rfl (fun w => by kernel_rfl) fun _ h55 => stA h55 s10 0 rfl rfl rfl (by kernel_rfl) rfl rfl rfl rfl fun _ w11 h56 s11 _ => h56.sn [7,6,5,0,1,2] rfl fun h57 => hK18 _ _ <| wp_ret ?_
   try simp only [Exit.then, Exit.inBlock]
   refine rC h57 s11 0 Tryz.underlying37 rfl rfl rfl rfl ?_
   have hq2 : doF F c x = (F, errR 15) := by unfold doF; rw [if_neg (by omega)]; unfold kindF; rw [if_neg (by omega), if_neg (by omega), if_neg (by omega), if_neg (by omega), if_neg (by omega), if_neg (by omega), if_neg (by omega), if_neg (by omega), if_neg (by omega), if_neg (by omega), if_neg (by omega), if_neg (by omega), if_neg (by omega)]
   rw [hq2]
   exact ⟨A, none, 0, rfl, (Sep.tail_un (xs := [_, _, _]) (s11.pk [2,3,4,5] rfl)).ownNil 0 9 1, hA.mono⟩

set_option maxHeartbeats 4000000 in
theorem drop_c {w : World} {cf ob : Nat} {F : FsM} {A : AdM} {R : List Ch} {δ : Nat → Int} {c : Int} (hS0 : Sep w ((cP cf ob F A) ++ R)) (hok : FsC F δ) (hwc : (Lit.int .i64 c).wf = true) :
  CallsR Tryz.prog 20 #[.pointer (some ⟨cf, 0, none⟩), .int .i64 c] w (fun v w' => v = .tuple #[] ∧ Sep w' ((cP cf ob (dropF F c) A) ++ R)) := by
 have hS := Sep.tail_many (xs := cP cf ob F A) hS0; clear hS0
 refine enterR Tryz.func20 rfl (N := 16) Tryz.ntmps20 (by show 2 ≤ 16; decide) [(0, .pointer (some ⟨cf, 0, none⟩)), (1, .int .i64 c)] rfl fun _ h1 => sqr fun _ hK3 => mv h1 rfl fun _ h4 => wpList_nil <| hK3 _ _ <| wp_block ?_
 have s6 : Sep w [blkC cf 65 [.pointer (some ⟨(A.ad 0), 0, none⟩), .map (some ob)], nodX F A, mapC KO ob A.C (opG (dropK F c 0) A), Ch.many R] := by rw [dropK_zero]; exact hS
 refine wp_loop1 (fun (i : Nat) a' w' => Kn 16 [(5, .int .i64 (i : Int)), (0, .pointer (some ⟨cf, 0, none⟩)), (1, .int .i64 c)] a' ∧ Sep w' [blkC cf 65 [.pointer (some ⟨(A.ad 0), 0, none⟩), .map (some ob)], nodX F A, mapC KO ob A.C (opG (dropK F c i) A), Ch.many R] ∧ (i ≤ 8)) (fun (i : Nat) => 8 - i) 0 ⟨h4.subs rfl, s6, by omega⟩ ?_
 rintro i1 a7 w8 ⟨h9, s1, hi812⟩ K1 hK1
 refine sqr fun _ hK2 => bv h9 (z := .bool (decide ((i1 : Int) < 8))) rfl (cLt _ _ _ _ rfl) fun _ h2 => wpList_nil <| hK2 _ _ <| sq fun _ hK4 => ?_
 rcases bC (decide ((i1 : Int) < 8)) with hc1 | hc1
 ·skip
  have hp1 : (i1 : Int) < 8 := (dT hc1)
  refine wcT h2 rfl hc1 <| h2.sk [5,0,1] rfl fun h3 => wp_skip <| hK4 _ _ <| sq fun _ hK5 => wp_block ?_
  refine sqr fun _ hK6 => mvs 2 h3 rfl fun _ h5 => h5.sn [4,5,0,1] rfl fun h6 => hK6 _ _ <| wp_region_lit <| mvs 2 h6 rfl fun _ h7 => fav h7 rfl (fz_posix_Fs_1 _ _) fun _ h8 => ldv h8 s1 0 Tryz.underlying63 rfl rfl rfl rfl fun _ h10 => mvs 2 h10 rfl fun _ h11 => bu h11 (v := .agg #[.int .i64 c, .int .i64 (i1 : Int)]) rfl (fun w => by kernel_rfl) fun _ h12 => ?_
  refine so (wanted_none rfl) fun _ hK7 => xdelOp (F := (dropK F c i1)) (A := A) (F' := (dropK F c (i1 + 1))) h12 rfl rfl rfl rfl s1 2 rfl rfl rfl ⟨hwc, wf_i64 (by omega) (by omega)⟩ (dropK_look F c i1) (cs' := [blkC cf 65 [.pointer (some ⟨(A.ad 0), 0, none⟩), .map (some ob)], nodX F A, mapC KO ob A.C (opG (dropK F c (i1 + 1)) A), Ch.many R]) rfl fun _ w1 h13 s2 => hK7 _ _ ?_
  refine h13.sn [4,5,0,1] rfl fun h14 => hK5 _ _ <| wp_region_lit <| bv h14 (z := .int .i64 ((i1 + 1 : Nat) : Int)) rfl (bAdd _ _ _ (by omega) (by omega) (by omega)) fun _ h15 => h15.sk [15,4,0,1] rfl fun h16 => mv h16 rfl fun _ h17 => h17.sk [5,4,0,1] rfl fun h18 => wpList_nil ?_
  exact hK1 (i1 + 1) _ _ ⟨h18.subs rfl, s2, by omega⟩ (by omega)
 ·skip
  have hp2 : ¬ ((i1 : Int) < 8) := (dF hc1)
  refine wcF h2 rfl hc1 <| h2.sk [5,0,1] rfl fun h19 => wp_exit ?_
  simp only [Exit.then, Exit.inBlock, ↓reduceIte, Nat.reduceEqDiff]
  refine endR (v := .tuple #[]) (fun _ => res0 rfl _) h19.defs ?_
  have s3 : Sep w8 [blkC cf 65 [.pointer (some ⟨(A.ad 0), 0, none⟩), .map (some ob)], nodX F A, mapC KO ob A.C (opG (dropF F c) A), Ch.many R] := by rw [← dropK_all hok c (show i1 = 8 by omega)]; exact s1
  exact ⟨rfl, Sep.tail_un (xs := [_, _, _]) s3⟩

set_option maxHeartbeats 4000000 in
theorem new_c {w : World} {R : List Ch} (hS0 : Sep w R) :
  CallsR Tryz.prog 24 #[] w (fun v w' => ∃ cf ob A, v = .pointer (some ⟨cf, 0, none⟩) ∧ Sep w' ((cP cf ob fs0 A) ++ R) ∧ AdOk fs0 A 0) := by
 have hS : Sep w [Ch.many R] := Sep.tail_many (xs := []) hS0; clear hS0
 refine enterR Tryz.func24 rfl (N := 5) Tryz.ntmps24 (by show 0 ≤ 5; decide) [] rfl fun _ h1 => sqr fun _ hK3 => mv h1 rfl fun _ h4 => wpList_nil <| hK3 _ _ <| sqr fun _ hK6 => cl h4 rfl cz_posix_newDir (newDir_c hS) fun _ v1 w1 r1 h9 => ?_
 obtain ⟨gnx7, gmx8, rfl, s1⟩ := r1
 refine so (wanted_none rfl) fun _ hK1 => xmakeMap KO h9 rfl rfl rfl rfl s1 fun _ b1 w2 h2 s2 _ _ => hK1 _ _ ?_
 refine bu h2 (v := .agg #[.pointer (some ⟨gnx7, 0, none⟩), .map (some b1)]) rfl (fun w => by kernel_rfl) fun _ h3 => so (wanted_none rfl) fun _ hK2 => xbox h3 rfl rfl rfl rfl rfl (z := [.pointer (some ⟨gnx7, 0, none⟩), .map (some b1)]) rfl s2 fun _ g1 w3 h5 s3 _ _ => hK2 _ _ ?_
 refine h5.sk [4,3,2,1] rfl fun h6 => mv h6 rfl fun _ h7 => h7.sn [0] rfl fun h8 => hK6 _ _ <| wp_ret ?_
 try simp only [Exit.then, Exit.inBlock]
 refine retR (v := .pointer (some ⟨g1, 0, none⟩)) (res1 h8 rfl rfl) h8.defs ?_
 have z := new_code (s3.pk [2,3,0,1,4] rfl)
 exact ⟨g1, b1, adE.new 0 gnx7 gmx8, rfl, Sep.tail_un (xs := [_, _, _]) (z.pk [1,0,2,3] rfl), new_ad _ _⟩

end Go.Proofs.YtcanemamnmmbcaaGreatDoor
/- cut, Same, SameReply; asks as an argument (sx/ptH.py) -/
namespace Go.Proofs.YtcanemamnmmbcaaGreatDoor
open Go.RowKit
set_option linter.unusedSimpArgs false
set_option linter.unusedVariables false
set_option maxRecDepth 100000

open Go.WideShapes Go.ChangeShapes Go.Deep
def cutX (x : CallM) : CallM := { x with p1 := x.p1.take 60, p2 := x.p2.take 60, data := x.data.take 100 }
theorem cut_eq {x : CallM} {a b d : List UInt8} (h1 : a = x.p1.take 60) (h2 : b = x.p2.take 60) (h3 : d = x.data.take 100) :
  (.agg #[.int .i64 x.kind, .string (strB a), .string (strB b), .int .i64 x.fl, .int .i64 x.fd, .int .i64 x.off, .int .i64 x.n, .string (strB d)] : Value) = .agg #[.int .i64 (cutX x).kind, .string (strB (cutX x).p1), .string (strB (cutX x).p2), .int .i64 (cutX x).fl, .int .i64 (cutX x).fd, .int .i64 (cutX x).off, .int .i64 (cutX x).n, .string (strB (cutX x).data)] := by
 subst h1; subst h2; subst h3; rfl
theorem take_both {L M : List ByteArray} {i : Nat} (h1 : i < L.length) (h2 : i < M.length) (ht : L.take i = M.take i) (he : L.getD i noNm = M.getD i noNm) : L.take (i + 1) = M.take (i + 1) := by
 rw [take_getD h1 noNm, take_getD h2 noNm, ht, he]
theorem take_end {L M : List ByteArray} {i : Nat} (ht : L.take i = M.take i) (h1 : L.length ≤ i) (h2 : M.length ≤ i) : L = M := by
 rw [List.take_of_length_le h1, List.take_of_length_le h2] at ht; exact ht
/-- are answers the same? -/
def sameR (r s : RepM) : Bool := ((((decide (r.names = s.names) && decide (r.e = s.e)) && decide (r.fd = s.fd)) && decide (r.data = s.data)) && (decide (r.kind = s.kind) && (decide (r.links = s.links) && decide (r.size = s.size))))
theorem sameR_self (r : RepM) : sameR r r = true := by unfold sameR; simp
/-- an ask -/
structure AskV where
 cl : Int
 x : CallM
 drop : Bool
def callC (x : CallM) : List Value := (cL x)
def askC (a : AskV) : List Value := .int .i64 a.cl :: callC a.x ++ [.bool a.drop]
def wfX (x : CallM) : Prop := (Lit.int .i64 x.kind).wf = true ∧ (Lit.int .i64 x.fl).wf = true ∧ (Lit.int .i64 x.fd).wf = true ∧ (Lit.int .i64 x.off).wf = true ∧ (Lit.int .i64 x.n).wf = true
def AskV.wf (a : AskV) : Prop := (Lit.int .i64 a.cl).wf = true ∧ wfX a.x
theorem open_callE {H : Type} {enc : TypeId × Value → H} {W : World} {base : Nat} {held : Bool} {fuel : Nat} {cs : List Value} {z : DataW H × List MemPlace} (hlen : cs.length = 8)
  (ht : DataW.trod enc Tryz.prog W base (fun _ => true) held fuel 30 cs = some z) : ∃ x, cs = callC x ∧ wfX x := by
 have k1 : Tryz.prog.cellsOf 3 = 1 := by kernel_rfl
 have k2 : Tryz.prog.cellsOf 9 = 1 := by kernel_rfl
 obtain ⟨ys, r, _, _, _, hyl, hg⟩ := DataW.trod_struct Tryz.underlying30 ht
 have hyl' : ys.length = 8 := hyl
 match cs, hlen with
 | [u0, u1, u2, u3, u4, u5, u6, u7], _ =>
  have g0 := hg 0 _ rfl
  have g1 := hg 1 _ rfl
  have g2 := hg 2 _ rfl
  have g3 := hg 3 _ rfl
  have g4 := hg 4 _ rfl
  have g5 := hg 5 _ rfl
  have g6 := hg 6 _ rfl
  have g7 := hg 7 _ rfl
  simp [k1, k2] at g0 g1 g2 g3 g4 g5 g6 g7
  rw [List.getElem?_eq_getElem (by omega)] at g0 g1 g2 g3 g4 g5 g6 g7
  obtain ⟨t0, e0, _, w0⟩ := DataW.trod_int Tryz.underlying3 g0
  obtain ⟨t1, e1, _⟩ := DataW.trod_string Tryz.underlying9 g1
  obtain ⟨t2, e2, _⟩ := DataW.trod_string Tryz.underlying9 g2
  obtain ⟨t3, e3, _, w3⟩ := DataW.trod_int Tryz.underlying3 g3
  obtain ⟨t4, e4, _, w4⟩ := DataW.trod_int Tryz.underlying3 g4
  obtain ⟨t5, e5, _, w5⟩ := DataW.trod_int Tryz.underlying3 g5
  obtain ⟨t6, e6, _, w6⟩ := DataW.trod_int Tryz.underlying3 g6
  obtain ⟨t7, e7, _⟩ := DataW.trod_string Tryz.underlying9 g7
  simp only [List.cons.injEq, and_true] at e0 e1 e2 e3 e4 e5 e6 e7
  subst e0 e1 e2 e3 e4 e5 e6 e7
  exact ⟨⟨t0, t1.data.toList, t2.data.toList, t3, t4, t5, t6, t7.data.toList⟩, rfl, w0, w3, w4, w5, w6⟩
def AsksIn (W : World) (a : Option Addr) (n c : Nat) (f : Nat → AskV) : Prop := ExtA W a n c 10 (fun i => askC (f i)) ∧ ∀ i, i < n → (f i).wf
theorem open_askE {H : Type} {enc : TypeId × Value → H} {W : World} {base : Nat} {held : Bool} (fuel : Nat) (cs : List Value) (z : DataW H × List MemPlace) (hlen : cs.length = 10)
  (ht : DataW.trod enc Tryz.prog W base (fun _ => true) held fuel 44 cs = some z) : ∃ a, cs = askC a ∧ a.wf := by
 have k1 : Tryz.prog.cellsOf 3 = 1 := by kernel_rfl
 have k2 : Tryz.prog.cellsOf 4 = 1 := by kernel_rfl
 have k3 : Tryz.prog.cellsOf 30 = 8 := by kernel_rfl
 obtain ⟨ys, r, _, _, _, hyl, hg⟩ := DataW.trod_struct Tryz.underlying44 ht
 have hyl' : ys.length = 3 := hyl
 match cs, hlen with
 | [u0, u1, u2, u3, u4, u5, u6, u7, u8, u9], _ =>
  have g0 := hg 0 _ rfl
  have g1 := hg 1 _ rfl
  have g2 := hg 2 _ rfl
  simp [k1, k2, k3] at g0 g1 g2
  rw [List.getElem?_eq_getElem (by omega)] at g0 g1 g2
  obtain ⟨t0, e0, _, w0⟩ := DataW.trod_int Tryz.underlying3 g0
  obtain ⟨x, e1, wx⟩ := open_callE rfl g1
  obtain ⟨t2, e2, _⟩ := DataW.trod_bool Tryz.underlying4 g2
  simp only [List.cons.injEq, and_true] at e0 e2
  subst e0 e2
  unfold callC at e1
  simp only [List.cons.injEq, and_true] at e1
  obtain ⟨q1, q2, q3, q4, q5, q6, q7, q8⟩ := e1
  subst q1 q2 q3 q4 q5 q6 q7 q8
  exact ⟨⟨t0, x, t2⟩, rfl, w0, wx⟩
theorem open_asks {H : Type} {enc : TypeId × Value → H} {W : World} {base : Nat} {held : Bool} {a : Option Addr} {n c : Nat} {d : DataW H} {p : List MemPlace}
  (h : DataW.Trod enc Tryz.prog W base (fun _ => true) held 22 (.slice a n c) d p) : ∃ f, AsksIn W a n c f :=
 open_ext ⟨0, ⟨0, [], [], 0, 0, 0, 0, []⟩, false⟩ askC AskV.wf Tryz.underlying22 (by kernel_rfl) (by decide) (fun fuel cs x hlen ht => open_askE fuel cs x hlen ht) h
/-- a part of an element that was handed in -/
theorem ldXq {T : TypeId} {k : TypeDesc} (hu : Tryz.prog.underlying T = some k) (hk : k.isRow = true) {m : Nat} (hn : (Tryz.prog.info? T).map (·.size) = some m) {sz : Nat} {w0 w : World} {B b off n j i o : Nat} {f : Nat → List Value} (h : ExtC w0 b off sz n f) (hB : w0.heap.size ≤ B) (hw : Below B w0 w ∧ B ≤ w0.heap.size) (hj : j < n) (ho : off + j * sz + i = o) {cs : List Value} (hv : ((f j).drop i).take m = cs) (hl : cs.length = m) :
  (Instr.loadAt T (.pointer (some ⟨b, o, none⟩))).run Tryz.prog w = .ok (.agg cs.toArray) w := by
 subst ho
 refine run_loadAt_mid w b (off + j * sz + i) T cs k (fun t v ht => ?_) hu hk (by rw [hl]; exact hn)
 rw [← hv, List.getElem?_take] at ht
 split at ht
 ·rw [List.getElem?_drop] at ht
  have z := h.cell hB hw.1 hj ht
  rw [show off + j * sz + (i + t) = off + j * sz + i + t by omega] at z
  exact z
 ·cases ht
/-- the system behind k asks -/
def askF (F : FsM) (a : AskV) : FsM := if a.drop = true then dropF F a.cl else (doF F a.cl (cutX a.x)).1
def runF (f : Nat → AskV) : Nat → FsM
 | 0 => fs0
 | k + 1 => askF (runF f k) (f k)
theorem runF_drop {f : Nat → AskV} {k : Nat} (h : (f k).drop = true) : runF f (k + 1) = dropF (runF f k) (f k).cl := by show askF _ _ = _; unfold askF; rw [if_pos h]
theorem runF_do {f : Nat → AskV} {k : Nat} (h : (f k).drop = false) : runF f (k + 1) = (doF (runF f k) (f k).cl (cutX (f k).x)).1 := by show askF _ _ = _; unfold askF; rw [if_neg (notT1 h)]
theorem runF_ok (f : Nat → AskV) : ∀ k, FsOk (runF f k)
 | 0 => fs0_ok
 | k + 1 => by
  have h := runF_ok f k
  show FsOk (askF _ _)
  unfold askF
  split
  ·exact h.drop_ _
  ·exact h.do_ _ _
theorem runF_sz (f : Nat → AskV) : ∀ k, SzF (runF f k) k
 | 0 => fs0_sz
 | k + 1 => by
  have h := runF_sz f k
  show SzF (askF _ _) _
  unfold askF
  split
  ·exact h.drop_ _
  ·exact h.do_ _ _
theorem SzF.ss {F : FsM} {n : Nat} (h : SzF F n) (hn : n ≤ 800) : SmS F := ⟨by have := h.1; omega, by have := h.2.1; omega, by have := h.2.2; omega⟩
theorem cut_p1 (x : CallM) : (cutX x).p1.length ≤ 60 := by show (x.p1.take 60).length ≤ 60; rw [List.length_take]; omega
theorem cut_p2 (x : CallM) : (cutX x).p2.length ≤ 60 := by show (x.p2.take 60).length ≤ 60; rw [List.length_take]; omega
theorem cut_d (x : CallM) : (cutX x).data.length ≤ 100 := by show (x.data.take 100).length ≤ 100; rw [List.length_take]; omega
theorem AdOk.drop {F : FsM} {A : AdM} {n : Nat} (h : AdOk F A n) (c : Int) : AdOk (dropF F c) A (n + 1) := h.unO _
/-- answers have few names -/
theorem do_names {F : FsM} (c : Int) (x : CallM) : (doF F c x).2.names.length ≤ F.E.length := by
 unfold doF
 split
 ·exact Nat.zero_le _
 ·refine kindF_all (Pr := fun p => p.2.names.length ≤ F.E.length) ?_ ?_ ?_ ?_ ?_ ?_ ?_ ?_ ?_ ?_ ?_ ?_ ?_ (Nat.zero_le _)
  ·unfold openF; (repeat' split) <;> exact Nat.zero_le _
  ·unfold closeF; (repeat' split) <;> exact Nat.zero_le _
  ·unfold readF; (repeat' split) <;> exact Nat.zero_le _
  ·unfold writeF; (repeat' split) <;> exact Nat.zero_le _
  ·unfold truncF; (repeat' split) <;> exact Nat.zero_le _
  ·unfold syncF; (repeat' split) <;> exact Nat.zero_le _
  ·unfold mkdirF; (repeat' split) <;> exact Nat.zero_le _
  ·unfold rmdirF; (repeat' split) <;> exact Nat.zero_le _
  ·unfold linksF; (repeat' split) <;> exact Nat.zero_le _
  ·unfold unlinkF; (repeat' split) <;> exact Nat.zero_le _
  ·unfold renameF renamedF; (repeat' split) <;> exact Nat.zero_le _
  ·unfold listF
   (repeat' split)
   ·show (sortN _).length ≤ _
    rw [sortN_len]; exact namesOf_le _ _
   ·exact Nat.zero_le _
   ·exact Nat.zero_le _
  ·unfold statF; (repeat' split) <;> exact Nat.zero_le _
structure DocA where
 na : Option Addr
 nc : Nat
 ea : Option Addr
 ec : Nat
 oa : Option Addr
 oc : Nat

set_option maxHeartbeats 4000000 in
theorem eqS_api_Info_yf3_in (x0 : Int) (x1 : Int) (x2 : Int) (y0 : Int) (y1 : Int) (y2 : Int) (w : World) : (Op.equalIn 10000 35 (.agg #[.int .i64 x0, .int .i64 x1, .int .i64 x2]) (.agg #[.int .i64 y0, .int .i64 y1, .int .i64 y2])).run Tryz.prog w = .ok (decide (x0 = y0) && (decide (x1 = y1) && decide (x2 = y2))) w := by
 have u3 := Tryz.underlying3
 have a3 := Tryz.isAgg3
 have z3 := Tryz.sizeOf3
 have hS : Tryz.prog.underlying 35 = some (.struct (Tryz.prog.fieldsOf 35)) := by kernel_rfl
 have hp : Tryz.prog.stoodInHeld 35 = false := by kernel_rfl
 rw [show (10000 : Nat) = 9999 + 1 from rfl, run_equalIn_agg w 9999 35 _ _ hS hp]
 simp only [Program.fieldsOf, Tryz.underlying35]
 go_simp
 by_cases h0 : x0 = y0
 case neg => simp [h0]
 by_cases h1 : x1 = y1
 case neg => simp [h0, h1]
 by_cases h2 : x2 = y2
 case neg => simp [h0, h1, h2]
 simp [h0, h1, h2]
theorem eqS_api_Info_yf3_eql (o p : Operand) (x0 : Int) (x1 : Int) (x2 : Int) (y0 : Int) (y1 : Int) (y2 : Int) (w : World) : (do eqGuard .eql 35 o p (.agg #[.int .i64 x0, .int .i64 x1, .int .i64 x2]) (.agg #[.int .i64 y0, .int .i64 y1, .int .i64 y2]); binOp .eql 35 (.agg #[.int .i64 x0, .int .i64 x1, .int .i64 x2]) (.agg #[.int .i64 y0, .int .i64 y1, .int .i64 y2]) : Sem Value).run Tryz.prog w = .ok (.bool ((decide (x0 = y0) && (decide (x1 = y1) && decide (x2 = y2))))) w := by
 have e : (Op.equal 35 (.agg #[.int .i64 x0, .int .i64 x1, .int .i64 x2]) (.agg #[.int .i64 y0, .int .i64 y1, .int .i64 y2])).run Tryz.prog w = .ok (decide (x0 = y0) && (decide (x1 = y1) && decide (x2 = y2))) w := eqS_api_Info_yf3_in x0 x1 x2 y0 y1 y2 w
 rw [Sem.run_bind, run_eqGuard_agg (P := Tryz.prog) w .eql 35 o p _ _ (by kernel_rfl)]
 show (binOp .eql 35 _ _).run Tryz.prog w = _
 simp only [binOp, Sem.run_bind, e]
 rfl
set_option maxHeartbeats 4000000 in
theorem cut_s {w : World} {R : List Ch} (hS0 : Sep w R) (x : CallM) :
  CallsR Tryz.prog 15 #[.agg (cL x).toArray] w (fun v w' => v = .agg #[.int .i64 ((cutX x).kind), .string (strB ((cutX x).p1)), .string (strB ((cutX x).p2)), .int .i64 ((cutX x).fl), .int .i64 ((cutX x).fd), .int .i64 ((cutX x).off), .int .i64 ((cutX x).n), .string (strB ((cutX x).data))] ∧ Sep w' R) := by
 have hS : Sep w [Ch.many R] := Sep.tail_many (xs := []) hS0; clear hS0
 refine enterR Tryz.func15 rfl (N := 28) Tryz.ntmps15 (by show 1 ≤ 28; decide) [(0, .agg (cL x).toArray)] rfl fun _ h1 => sqr fun _ hK3 => so (wanted_none rfl) fun _ hK1 => xbox h1 rfl rfl rfl rfl rfl (z := (cL x)) rfl hS fun _ g4 w7 h5 s8 _ _ => hK1 _ _ ?_
 refine so (wanted_none rfl) fun _ hK2 => xalloc h5 rfl rfl rfl rfl (z := [.int .i64 0, .string (strB []), .string (strB []), .int .i64 0, .int .i64 0, .int .i64 0, .int .i64 0, .string (strB [])]) (fun _ => rfl) s8 fun _ g1 w1 h2 s1 _ _ => hK2 _ _ ?_
 refine wpList_nil <| hK3 _ _ <| sq fun _ hK4 => sqr fun _ hK5 => fav h2 rfl (fz_api_Call_1 _ _) fun _ h3 => ldv h3 s1 1 Tryz.underlying9 rfl rfl rfl rfl fun _ h4 => sv1 h4 rfl (v := .int .i64 (x.p1.length : Int)) (rlenT h4 rfl rfl Tryz.underlying9) fun _ h6 => bv h6 (z := .bool (decide ((x.p1.length : Int) > 60))) rfl (cGt _ _ _ _ rfl) fun _ h7 => h7.sn [6,2,1,0] rfl fun h8 => hK5 _ _ ?_
 rcases bC (decide ((x.p1.length : Int) > 60)) with hc1 | hc1
 ·skip
  have hp1 : (x.p1.length : Int) > 60 := (dT hc1)
  refine wcT h8 rfl hc1 <| h8.sk [2,1,0] rfl fun h9 => wp_region_lit <| fav h9 rfl (fz_api_Call_1 _ _) fun _ h10 => ldv h10 s1 1 Tryz.underlying9 rfl rfl rfl rfl fun _ h11 => sv1 h11 rfl (v := .string (strB (x.p1.take 60))) (rslT h11 rfl rfl (vl := none) (vh := (some (.int .i64 60))) rfl rfl (fun w => (fun w => ((slT 9 Tryz.underlying9 x.p1 (a := 0) (b := 60) (.inl ⟨rfl, rfl⟩) (.inr ⟨_, rfl, rfl⟩) (by omega) (by omega)) w).trans (by rw [List.drop_zero])) w)) fun _ h12 => fav h12 rfl (fz_api_Call_1 _ _) fun _ h13 => st1 h13 s1 1 rfl rfl (by kernel_rfl) rfl rfl rfl rfl fun _ w2 h14 s2 _ => h14.sn [2,1,0] rfl fun h15 => hK4 _ _ ?_
  refine sq fun _ hK6 => sqr fun _ hK7 => fav h15 rfl (fz_api_Call_2 _ _) fun _ h16 => ldv h16 s2 1 Tryz.underlying9 rfl rfl rfl rfl fun _ h17 => sv1 h17 rfl (v := .int .i64 (x.p2.length : Int)) (rlenT h17 rfl rfl Tryz.underlying9) fun _ h18 => bv h18 (z := .bool (decide ((x.p2.length : Int) > 60))) rfl (cGt _ _ _ _ rfl) fun _ h19 => h19.sn [14,2,1,0] rfl fun h20 => hK7 _ _ ?_
  rcases bC (decide ((x.p2.length : Int) > 60)) with hc2 | hc2
  ·skip
   have hp2 : (x.p2.length : Int) > 60 := (dT hc2)
   refine wcT h20 rfl hc2 <| h20.sk [2,1,0] rfl fun h21 => wp_region_lit <| fav h21 rfl (fz_api_Call_2 _ _) fun _ h22 => ldv h22 s2 1 Tryz.underlying9 rfl rfl rfl rfl fun _ h23 => sv1 h23 rfl (v := .string (strB (x.p2.take 60))) (rslT h23 rfl rfl (vl := none) (vh := (some (.int .i64 60))) rfl rfl (fun w => (fun w => ((slT 9 Tryz.underlying9 x.p2 (a := 0) (b := 60) (.inl ⟨rfl, rfl⟩) (.inr ⟨_, rfl, rfl⟩) (by omega) (by omega)) w).trans (by rw [List.drop_zero])) w)) fun _ h24 => fav h24 rfl (fz_api_Call_2 _ _) fun _ h25 => st1 h25 s2 1 rfl rfl (by kernel_rfl) rfl rfl rfl rfl fun _ w3 h26 s3 _ => h26.sn [2,1,0] rfl fun h27 => hK6 _ _ ?_
   refine sq fun _ hK8 => sqr fun _ hK9 => fav h27 rfl (fz_api_Call_7 _ _) fun _ h28 => ldv h28 s3 1 Tryz.underlying9 rfl rfl rfl rfl fun _ h29 => sv1 h29 rfl (v := .int .i64 (x.data.length : Int)) (rlenT h29 rfl rfl Tryz.underlying9) fun _ h30 => bv h30 (z := .bool (decide ((x.data.length : Int) > 100))) rfl (cGt _ _ _ _ rfl) fun _ h31 => h31.sn [22,2,1,0] rfl fun h32 => hK9 _ _ ?_
   rcases bC (decide ((x.data.length : Int) > 100)) with hc3 | hc3
   ·skip
    have hp3 : (x.data.length : Int) > 100 := (dT hc3)
    refine wcT h32 rfl hc3 <| h32.sk [2,1,0] rfl fun h33 => wp_region_lit <| fav h33 rfl (fz_api_Call_7 _ _) fun _ h34 => ldv h34 s3 1 Tryz.underlying9 rfl rfl rfl rfl fun _ h35 => sv1 h35 rfl (v := .string (strB (x.data.take 100))) (rslT h35 rfl rfl (vl := none) (vh := (some (.int .i64 100))) rfl rfl (fun w => (fun w => ((slT 9 Tryz.underlying9 x.data (a := 0) (b := 100) (.inl ⟨rfl, rfl⟩) (.inr ⟨_, rfl, rfl⟩) (by omega) (by omega)) w).trans (by rw [List.drop_zero])) w)) fun _ h36 => fav h36 rfl (fz_api_Call_7 _ _) fun _ h37 => st1 h37 s3 1 rfl rfl (by kernel_rfl) rfl rfl rfl rfl fun _ w4 h38 s4 _ => h38.sn [2,1,0] rfl fun h39 => hK8 _ _ ?_
    refine sqr fun _ hK10 => sw1 h39 rfl (v := .agg #[.int .i64 x.kind, .string (strB (x.p1.take 60)), .string (strB (x.p2.take 60)), .int .i64 x.fl, .int .i64 x.fd, .int .i64 x.off, .int .i64 x.n, .string (strB (x.data.take 100))]) (rld h39 rfl rfl (ldA Tryz.underlying30 rfl (n := 8) (by kernel_rfl) (s4.get 1 rfl : Blk _ _ _ _) rfl rfl)) fun _ h40 => stA h40 s4 0 rfl rfl rfl (by kernel_rfl) rfl rfl rfl rfl fun _ w5 h41 s5 _ => h41.sn [2,1,0] rfl fun h42 => hK10 _ _ <| wp_ret ?_
    try simp only [Exit.then, Exit.inBlock]
    refine rC h42 s5 0 Tryz.underlying30 rfl rfl rfl rfl ?_
    exact ⟨cut_eq rfl rfl rfl, Sep.tail_un (xs := []) (s5.pk [2] rfl)⟩
   ·skip
    have hp4 : ¬ ((x.data.length : Int) > 100) := (dF hc3)
    refine wcF h32 rfl hc3 <| h32.sk [2,1,0] rfl fun h43 => wp_skip <| hK8 _ _ <| sqr fun _ hK11 => sw1 h43 rfl (v := .agg #[.int .i64 x.kind, .string (strB (x.p1.take 60)), .string (strB (x.p2.take 60)), .int .i64 x.fl, .int .i64 x.fd, .int .i64 x.off, .int .i64 x.n, .string (strB x.data)]) (rld h43 rfl rfl (ldA Tryz.underlying30 rfl (n := 8) (by kernel_rfl) (s3.get 1 rfl : Blk _ _ _ _) rfl rfl)) fun _ h44 => stA h44 s3 0 rfl rfl rfl (by kernel_rfl) rfl rfl rfl rfl fun _ w6 h45 s6 _ => h45.sn [2,1,0] rfl fun h46 => hK11 _ _ <| wp_ret ?_
    try simp only [Exit.then, Exit.inBlock]
    refine rC h46 s6 0 Tryz.underlying30 rfl rfl rfl rfl ?_
    exact ⟨cut_eq rfl rfl (List.take_of_length_le (by omega)).symm, Sep.tail_un (xs := []) (s6.pk [2] rfl)⟩
  ·skip
   have hp5 : ¬ ((x.p2.length : Int) > 60) := (dF hc2)
   refine wcF h20 rfl hc2 <| h20.sk [2,1,0] rfl fun h47 => wp_skip <| hK6 _ _ <| sq fun _ hK12 => sqr fun _ hK13 => fav h47 rfl (fz_api_Call_7 _ _) fun _ h48 => ldv h48 s2 1 Tryz.underlying9 rfl rfl rfl rfl fun _ h49 => sv1 h49 rfl (v := .int .i64 (x.data.length : Int)) (rlenT h49 rfl rfl Tryz.underlying9) fun _ h50 => bv h50 (z := .bool (decide ((x.data.length : Int) > 100))) rfl (cGt _ _ _ _ rfl) fun _ h51 => h51.sn [22,2,1,0] rfl fun h52 => hK13 _ _ ?_
   rcases bC (decide ((x.data.length : Int) > 100)) with hc4 | hc4
   ·skip
    have hp6 : (x.data.length : Int) > 100 := (dT hc4)
    refine wcT h52 rfl hc4 <| h52.sk [2,1,0] rfl fun h53 => wp_region_lit <| fav h53 rfl (fz_api_Call_7 _ _) fun _ h54 => ldv h54 s2 1 Tryz.underlying9 rfl rfl rfl rfl fun _ h55 => sv1 h55 rfl (v := .string (strB (x.data.take 100))) (rslT h55 rfl rfl (vl := none) (vh := (some (.int .i64 100))) rfl rfl (fun w => (fun w => ((slT 9 Tryz.underlying9 x.data (a := 0) (b := 100) (.inl ⟨rfl, rfl⟩) (.inr ⟨_, rfl, rfl⟩) (by omega) (by omega)) w).trans (by rw [List.drop_zero])) w)) fun _ h56 => fav h56 rfl (fz_api_Call_7 _ _) fun _ h57 => st1 h57 s2 1 rfl rfl (by kernel_rfl) rfl rfl rfl rfl fun _ w8 h58 s7 _ => h58.sn [2,1,0] rfl fun h59 => hK12 _ _ ?_
    refine sqr fun _ hK14 => sw1 h59 rfl (v := .agg #[.int .i64 x.kind, .string (strB (x.p1.take 60)), .string (strB x.p2), .int .i64 x.fl, .int .i64 x.fd, .int .i64 x.off, .int .i64 x.n, .string (strB (x.data.take 100))]) (rld h59 rfl rfl (ldA Tryz.underlying30 rfl (n := 8) (by kernel_rfl) (s7.get 1 rfl : Blk _ _ _ _) rfl rfl)) fun _ h60 => stA h60 s7 0 rfl rfl rfl (by kernel_rfl) rfl rfl rfl rfl fun _ w9 h61 s9 _ => h61.sn [2,1,0] rfl fun h62 => hK14 _ _ <| wp_ret ?_
    try simp only [Exit.then, Exit.inBlock]
    refine rC h62 s9 0 Tryz.underlying30 rfl rfl rfl rfl ?_
    exact ⟨cut_eq rfl (List.take_of_length_le (by omega)).symm rfl, Sep.tail_un (xs := []) (s9.pk [2] rfl)⟩
   ·skip
    have hp7 : ¬ ((x.data.length : Int) > 100) := (dF hc4)
    refine wcF h52 rfl hc4 <| h52.sk [2,1,0] rfl fun h63 => wp_skip <| hK12 _ _ <| sqr fun _ hK15 => sw1 h63 rfl (v := .agg #[.int .i64 x.kind, .string (strB (x.p1.take 60)), .string (strB x.p2), .int .i64 x.fl, .int .i64 x.fd, .int .i64 x.off, .int .i64 x.n, .string (strB x.data)]) (rld h63 rfl rfl (ldA Tryz.underlying30 rfl (n := 8) (by kernel_rfl) (s2.get 1 rfl : Blk _ _ _ _) rfl rfl)) fun _ h64 => stA h64 s2 0 rfl rfl rfl (by kernel_rfl) rfl rfl rfl rfl fun _ w10 h65 s10 _ => h65.sn [2,1,0] rfl fun h66 => hK15 _ _ <| wp_ret ?_
    try simp only [Exit.then, Exit.inBlock]
    refine rC h66 s10 0 Tryz.underlying30 rfl rfl rfl rfl ?_
    exact ⟨cut_eq rfl (List.take_of_length_le (by omega)).symm (List.take_of_length_le (by omega)).symm, Sep.tail_un (xs := []) (s10.pk [2] rfl)⟩
 ·skip
  have hp8 : ¬ ((x.p1.length : Int) > 60) := (dF hc1)
  refine wcF h8 rfl hc1 <| h8.sk [2,1,0] rfl fun h67 => wp_skip <| hK4 _ _ <| sq fun _ hK16 => sqr fun _ hK17 => fav h67 rfl (fz_api_Call_2 _ _) fun _ h68 => ldv h68 s1 1 Tryz.underlying9 rfl rfl rfl rfl fun _ h69 => sv1 h69 rfl (v := .int .i64 (x.p2.length : Int)) (rlenT h69 rfl rfl Tryz.underlying9) fun _ h70 => bv h70 (z := .bool (decide ((x.p2.length : Int) > 60))) rfl (cGt _ _ _ _ rfl) fun _ h71 => h71.sn [14,2,1,0] rfl fun h72 => hK17 _ _ ?_
  rcases bC (decide ((x.p2.length : Int) > 60)) with hc5 | hc5
  ·skip
   have hp9 : (x.p2.length : Int) > 60 := (dT hc5)
   refine wcT h72 rfl hc5 <| h72.sk [2,1,0] rfl fun h73 => wp_region_lit <| fav h73 rfl (fz_api_Call_2 _ _) fun _ h74 => ldv h74 s1 1 Tryz.underlying9 rfl rfl rfl rfl fun _ h75 => sv1 h75 rfl (v := .string (strB (x.p2.take 60))) (rslT h75 rfl rfl (vl := none) (vh := (some (.int .i64 60))) rfl rfl (fun w => (fun w => ((slT 9 Tryz.underlying9 x.p2 (a := 0) (b := 60) (.inl ⟨rfl, rfl⟩) (.inr ⟨_, rfl, rfl⟩) (by omega) (by omega)) w).trans (by rw [List.drop_zero])) w)) fun _ h76 => fav h76 rfl (fz_api_Call_2 _ _) fun _ h77 => st1 h77 s1 1 rfl rfl (by kernel_rfl) rfl rfl rfl rfl fun _ w11 h78 s11 _ => h78.sn [2,1,0] rfl fun h79 => hK16 _ _ ?_
   refine sq fun _ hK18 => sqr fun _ hK19 => fav h79 rfl (fz_api_Call_7 _ _) fun _ h80 => ldv h80 s11 1 Tryz.underlying9 rfl rfl rfl rfl fun _ h81 => sv1 h81 rfl (v := .int .i64 (x.data.length : Int)) (rlenT h81 rfl rfl Tryz.underlying9) fun _ h82 => bv h82 (z := .bool (decide ((x.data.length : Int) > 100))) rfl (cGt _ _ _ _ rfl) fun _ h83 => h83.sn [22,2,1,0] rfl fun h84 => hK19 _ _ ?_
   rcases bC (decide ((x.data.length : Int) > 100)) with hc6 | hc6
   ·skip
    have hp10 : (x.data.length : Int) > 100 := (dT hc6)
    refine wcT h84 rfl hc6 <| h84.sk [2,1,0] rfl fun h85 => wp_region_lit <| fav h85 rfl (fz_api_Call_7 _ _) fun _ h86 => ldv h86 s11 1 Tryz.underlying9 rfl rfl rfl rfl fun _ h87 => sv1 h87 rfl (v := .string (strB (x.data.take 100))) (rslT h87 rfl rfl (vl := none) (vh := (some (.int .i64 100))) rfl rfl (fun w => (fun w => ((slT 9 Tryz.underlying9 x.data (a := 0) (b := 100) (.inl ⟨rfl, rfl⟩) (.inr ⟨_, rfl, rfl⟩) (by omega) (by omega)) w).trans (by rw [List.drop_zero])) w)) fun _ h88 => fav h88 rfl (fz_api_Call_7 _ _) fun _ h89 => st1 h89 s11 1 rfl rfl (by kernel_rfl) rfl rfl rfl rfl fun _ w12 h90 s12 _ => h90.sn [2,1,0] rfl fun h91 => hK18 _ _ ?_
    refine sqr fun _ hK20 => sw1 h91 rfl (v := .agg #[.int .i64 x.kind, .string (strB x.p1), .string (strB (x.p2.take 60)), .int .i64 x.fl, .int .i64 x.fd, .int .i64 x.off, .int .i64 x.n, .string (strB (x.data.take 100))]) (rld h91 rfl rfl (ldA Tryz.underlying30 rfl (n := 8) (by kernel_rfl) (s12.get 1 rfl : Blk _ _ _ _) rfl rfl)) fun _ h92 => stA h92 s12 0 rfl rfl rfl (by kernel_rfl) rfl rfl rfl rfl fun _ w13 h93 s13 _ => h93.sn [2,1,0] rfl fun h94 => hK20 _ _ <| wp_ret ?_
    try simp only [Exit.then, Exit.inBlock]
    refine rC h94 s13 0 Tryz.underlying30 rfl rfl rfl rfl ?_
    exact ⟨cut_eq (List.take_of_length_le (by omega)).symm rfl rfl, Sep.tail_un (xs := []) (s13.pk [2] rfl)⟩
   ·skip
    have hp11 : ¬ ((x.data.length : Int) > 100) := (dF hc6)
    refine wcF h84 rfl hc6 <| h84.sk [2,1,0] rfl fun h95 => wp_skip <| hK18 _ _ <| sqr fun _ hK21 => sw1 h95 rfl (v := .agg #[.int .i64 x.kind, .string (strB x.p1), .string (strB (x.p2.take 60)), .int .i64 x.fl, .int .i64 x.fd, .int .i64 x.off, .int .i64 x.n, .string (strB x.data)]) (rld h95 rfl rfl (ldA Tryz.underlying30 rfl (n := 8) (by kernel_rfl) (s11.get 1 rfl : Blk _ _ _ _) rfl rfl)) fun _ h96 => stA h96 s11 0 rfl rfl rfl (by kernel_rfl) rfl rfl rfl rfl fun _ w14 h97 s14 _ => h97.sn [2,1,0] rfl fun h98 => hK21 _ _ <| wp_ret ?_
    try simp only [Exit.then, Exit.inBlock]
    refine rC h98 s14 0 Tryz.underlying30 rfl rfl rfl rfl ?_
    exact ⟨cut_eq (List.take_of_length_le (by omega)).symm rfl (List.take_of_length_le (by omega)).symm, Sep.tail_un (xs := []) (s14.pk [2] rfl)⟩
  ·skip
   have hp12 : ¬ ((x.p2.length : Int) > 60) := (dF hc5)
   refine wcF h72 rfl hc5 <| h72.sk [2,1,0] rfl fun h99 => wp_skip <| hK16 _ _ <| sq fun _ hK22 => sqr fun _ hK23 => fav h99 rfl (fz_api_Call_7 _ _) fun _ h100 => ldv h100 s1 1 Tryz.underlying9 rfl rfl rfl rfl fun _ h101 => sv1 h101 rfl (v := .int .i64 (x.data.length : Int)) (rlenT h101 rfl rfl Tryz.underlying9) fun _ h102 => bv h102 (z := .bool (decide ((x.data.length : Int) > 100))) rfl (cGt _ _ _ _ rfl) fun _ h103 => h103.sn [22,2,1,0] rfl fun h104 => hK23 _ _ ?_
   rcases bC (decide ((x.data.length : Int) > 100)) with hc7 | hc7
   ·skip
    have hp13 : (x.data.length : Int) > 100 := (dT hc7)
    refine wcT h104 rfl hc7 <| h104.sk [2,1,0] rfl fun h105 => wp_region_lit <| fav h105 rfl (fz_api_Call_7 _ _) fun _ h106 => ldv h106 s1 1 Tryz.underlying9 rfl rfl rfl rfl fun _ h107 => sv1 h107 rfl (v := .string (strB (x.data.take 100))) (rslT h107 rfl rfl (vl := none) (vh := (some (.int .i64 100))) rfl rfl (fun w => (fun w => ((slT 9 Tryz.underlying9 x.data (a := 0) (b := 100) (.inl ⟨rfl, rfl⟩) (.inr ⟨_, rfl, rfl⟩) (by omega) (by omega)) w).trans (by rw [List.drop_zero])) w)) fun _ h108 => fav h108 rfl (fz_api_Call_7 _ _) fun _ h109 => st1 h109 s1 1 rfl rfl (by kernel_rfl) rfl rfl rfl rfl fun _ w15 h110 s15 _ => h110.sn [2,1,0] rfl fun h111 => hK22 _ _ ?_
    refine sqr fun _ hK24 => sw1 h111 rfl (v := .agg #[.int .i64 x.kind, .string (strB x.p1), .string (strB x.p2), .int .i64 x.fl, .int .i64 x.fd, .int .i64 x.off, .int .i64 x.n, .string (strB (x.data.take 100))]) (rld h111 rfl rfl (ldA Tryz.underlying30 rfl (n := 8) (by kernel_rfl) (s15.get 1 rfl : Blk _ _ _ _) rfl rfl)) fun _ h112 => stA h112 s15 0 rfl rfl rfl (by kernel_rfl) rfl rfl rfl rfl fun _ w16 h113 s16 _ => h113.sn [2,1,0] rfl fun h114 => hK24 _ _ <| wp_ret ?_
    try simp only [Exit.then, Exit.inBlock]
    refine rC h114 s16 0 Tryz.underlying30 rfl rfl rfl rfl ?_
    exact ⟨cut_eq (List.take_of_length_le (by omega)).symm (List.take_of_length_le (by omega)).symm rfl, Sep.tail_un (xs := []) (s16.pk [2] rfl)⟩
   ·skip
    have hp14 : ¬ ((x.data.length : Int) > 100) := (dF hc7)
    refine wcF h104 rfl hc7 <| h104.sk [2,1,0] rfl fun h115 => wp_skip <| hK22 _ _ <| sqr fun _ hK25 => sw1 h115 rfl (v := .agg (cL x).toArray) (rld h115 rfl rfl (ldA Tryz.underlying30 rfl (n := 8) (by kernel_rfl) (s1.get 1 rfl : Blk _ _ _ _) rfl rfl)) fun _ h116 => stA h116 s1 0 rfl rfl rfl (by kernel_rfl) rfl rfl rfl rfl fun _ w17 h117 s17 _ => h117.sn [2,1,0] rfl fun h118 => hK25 _ _ <| wp_ret ?_
    try simp only [Exit.then, Exit.inBlock]
    refine rC h118 s17 0 Tryz.underlying30 rfl rfl rfl rfl ?_
    exact ⟨cut_eq (List.take_of_length_le (by omega)).symm (List.take_of_length_le (by omega)).symm (List.take_of_length_le (by omega)).symm, Sep.tail_un (xs := []) (s17.pk [2] rfl)⟩

set_option maxHeartbeats 4000000 in
theorem same05_s {w : World} {R : List Ch} {a b : Option Addr} {c c2 : Nat} {L M : List ByteArray} (hS0 : Sep w ([ownC 0 9 1 a L.length c (L.flatMap sE), ownC 0 9 1 b M.length c2 (M.flatMap sE)] ++ R)) (hL : L.length ≤ 100000) (hM : M.length ≤ 100000) :
  CallsR Tryz.prog 29 #[.slice a L.length c, .slice b M.length c2] w (fun v w' => v = .bool (decide (L = M)) ∧ Sep w' ([ownC 0 9 1 a L.length c (L.flatMap sE), ownC 0 9 1 b M.length c2 (M.flatMap sE)] ++ R)) := by
 have hS : Sep w [ownC 0 9 1 a L.length c (L.flatMap sE), ownC 0 9 1 b M.length c2 (M.flatMap sE), Ch.many R] := Sep.tail_many (xs := [_, _]) hS0; clear hS0
 refine enterR Tryz.func29 rfl (N := 26) Tryz.ntmps29 (by show 2 ≤ 26; decide) [(0, .slice a L.length c), (1, .slice b M.length c2)] rfl fun _ h1 => sqr fun _ hK3 => mv h1 rfl fun _ h4 => wpList_nil <| hK3 _ _ <| sq fun _ hK6 => sqr fun _ hK7 => mv h4 rfl fun _ h8 => sv1 h8 rfl (v := .int .i64 (L.length : Int)) (rlenS h8 rfl rfl Tryz.underlying33) fun _ h2 => mv h2 rfl fun _ h3 => sv1 h3 rfl (v := .int .i64 (M.length : Int)) (rlenS h3 rfl rfl Tryz.underlying33) fun _ h5 => bv h5 (z := .bool (decide ((L.length : Int) ≠ (M.length : Int)))) rfl (cNe _ _ _ _ rfl) fun _ h6 => ?_
 refine h6.sn [10,4,0,1] rfl fun h7 => hK7 _ _ ?_
 rcases bC (decide ((L.length : Int) ≠ (M.length : Int))) with hc1 | hc1
 ·skip
  have hp1 : (L.length : Int) ≠ (M.length : Int) := (dT hc1)
  refine wcT h7 rfl hc1 <| h7.sk [4,0,1] rfl fun h9 => sqr fun _ hK1 => h9.sk [0,1] rfl fun h10 => mv h10 rfl fun _ h11 => wpList_nil <| hK1 _ _ <| wp_ret ?_
  try simp only [Exit.then, Exit.inBlock]
  refine retR (v := .bool false) (res1 h11 rfl rfl) h11.defs ?_
  exact ⟨congrArg Value.bool (decide_eq_false (fun q => absurd (congrArg List.length q) (by omega))).symm, Sep.tail_un (xs := [_, _]) hS⟩
 ·skip
  have hp2 : ¬ ((L.length : Int) ≠ (M.length : Int)) := (dF hc1)
  refine wcF h7 rfl hc1 <| h7.sk [4,0,1] rfl fun h12 => wp_skip <| hK6 _ _ <| sq fun _ hK2 => sqr fun _ hK4 => mv h12 rfl fun _ h13 => wpList_nil <| hK4 _ _ <| wp_block ?_
  refine wp_loop1 (fun (i : Nat) a' w' => Kn 26 [(5, .int .i64 (i : Int)), (4, .bool false), (0, .slice a L.length c), (1, .slice b M.length c2)] a' ∧ Sep w' [ownC 0 9 1 a L.length c (L.flatMap sE), ownC 0 9 1 b M.length c2 (M.flatMap sE), Ch.many R] ∧ (L.take i = M.take i)) (fun (i : Nat) => L.length - i) 0 ⟨h13.subs rfl, hS, rfl⟩ ?_
  rintro i1 a1 w2 ⟨h14, s1, ht37⟩ K1 hK5
  refine sq fun _ hK8 => sqr fun _ hK9 => mvs 2 h14 rfl fun _ h15 => sv1 h15 rfl (v := .int .i64 (L.length : Int)) (rlenS h15 rfl rfl Tryz.underlying33) fun _ h16 => bv h16 (z := .bool (decide ((i1 : Int) < (L.length : Int)))) rfl (cLt _ _ _ _ rfl) fun _ h17 => h17.sn [14,5,4,0,1] rfl fun h18 => hK9 _ _ ?_
  rcases bC (decide ((i1 : Int) < (L.length : Int))) with hc2 | hc2
  ·skip
   have hp3 : (i1 : Int) < (L.length : Int) := (dT hc2)
   refine wcT h18 rfl hc2 <| h18.sk [5,4,0,1] rfl fun h19 => wp_skip <| hK8 _ _ <| sq fun _ hK10 => wp_block ?_
   refine sq fun _ hK11 => ?_
   have s2 := s1.drew
   refine wp_region_held_drew (S := fun w' => Sep w' [ownC 0 9 1 a L.length c (L.flatMap sE), ownC 0 9 1 b M.length c2 (M.flatMap sE), Ch.many R]) (by kernel_rfl) s2 (fun hq1 => ?_)
   refine tv1 hq1 h19 0 rfl rfl (v := .slice a L.length c) (fun w1 _ => (rmove h19 rfl rfl) w1) fun _ h20 => ?_
   refine tv1 hq1 h20 1 rfl rfl (v := .int .i64 (i1 : Int)) (fun w1 _ => (rmove h20 rfl rfl) w1) fun _ h21 => ?_
   obtain ⟨q61, hq2⟩ := own_addr (s2.get 0 rfl : Own _ _ _ _ _ _ _ _)
   refine tv1 hq1 h21 2 rfl rfl (v := .pointer (some ⟨q61, i1, none⟩)) (fun w1 _ => (rindexA h21 rfl rfl rfl (fun w => ixO Tryz.underlying33 (by kernel_rfl) (sz := 1) (hq2 (by omega)) (j := i1) rfl (by omega) (by omega) w)) w1) fun _ h22 => ?_
   refine tv1 hq1 h22 3 rfl rfl (v := .string (L.getD i1 noNm)) (fun w1 hSw => (rld h22 rfl rfl (ldOSc sE_len Tryz.underlying9 rfl (hSw.get 0 rfl : Own _ _ _ _ _ _ _ _) (hq2 (by omega)) noNm (j := i1) (f := 0) (by omega) (by decide) (by omega) rfl))) fun _ h23 => ?_
   refine tv1 hq1 h23 4 rfl rfl (v := .slice b M.length c2) (fun w1 _ => (rmove h23 rfl rfl) w1) fun _ h24 => ?_
   refine tv1 hq1 h24 5 rfl rfl (v := .int .i64 (i1 : Int)) (fun w1 _ => (rmove h24 rfl rfl) w1) fun _ h25 => ?_
   obtain ⟨q71, hq3⟩ := own_addr (s2.get 1 rfl : Own _ _ _ _ _ _ _ _)
   refine tv1 hq1 h25 6 rfl rfl (v := .pointer (some ⟨q71, i1, none⟩)) (fun w1 _ => (rindexA h25 rfl rfl rfl (fun w => ixO Tryz.underlying33 (by kernel_rfl) (sz := 1) (hq3 (by omega)) (j := i1) rfl (by omega) (by omega) w)) w1) fun _ h26 => ?_
   refine tv1 hq1 h26 7 rfl rfl (v := .string (M.getD i1 noNm)) (fun w1 hSw => (rld h26 rfl rfl (ldOSc sE_len Tryz.underlying9 rfl (hSw.get 1 rfl : Own _ _ _ _ _ _ _ _) (hq3 (by omega)) noNm (j := i1) (f := 0) (by omega) (by decide) (by omega) rfl))) fun _ h27 => ?_
   refine tv1 hq1 h27 8 rfl rfl (v := .bool (decide ((L.getD i1 noNm) ≠ (M.getD i1 noNm)))) (fun w1 _ => (rbin h27 rfl rfl rfl (bStrNeB _ _ _ (L.getD i1 noNm) (M.getD i1 noNm) rfl)) w1) fun _ h28 => ?_
   refine h28.sk [25,5,4,0,1] rfl fun h29 => ?_
   refine wpAnyH_done (by kernel_rfl) ?_ _
   refine hK11 _ _ ?_
   rcases bC (decide ((L.getD i1 noNm) ≠ (M.getD i1 noNm))) with hc3 | hc3
   ·skip
    have hp4 : (L.getD i1 noNm) ≠ (M.getD i1 noNm) := (dT hc3)
    refine wcT h29 rfl hc3 <| h29.sk [5,4,0,1] rfl fun h30 => sqr fun _ hK12 => h30.sk [5,0,1] rfl fun h31 => mv h31 rfl fun _ h32 => wpList_nil <| hK12 _ _ <| wp_ret ?_
    try simp only [Exit.then, Exit.inBlock]
    refine retR (v := .bool false) (res1 h32 rfl rfl) h32.defs ?_
    exact ⟨congrArg Value.bool (decide_eq_false (fun q => dT hc3 (by rw [q]))).symm, Sep.tail_un (xs := [_, _]) s2⟩
   ·skip
    have hp5 : ¬ ((L.getD i1 noNm) ≠ (M.getD i1 noNm)) := (dF hc3)
    refine wcF h29 rfl hc3 <| h29.sk [5,4,0,1] rfl fun h33 => wp_skip <| hK10 _ _ <| wp_region_lit <| mv h33 rfl fun _ h34 => bv h34 (z := .int .i64 ((i1 + 1 : Nat) : Int)) rfl (bAdd _ _ _ (by omega) (by omega) (by omega)) fun _ h35 => h35.sk [16,15,4,0,1] rfl fun h36 => mv h36 rfl fun _ h37 => h37.sk [5,4,0,1] rfl fun h38 => wpList_nil ?_
    exact hK5 (i1 + 1) _ _ ⟨h38.subs rfl, s2, (take_both (by omega) (by omega) ht37 (Classical.not_not.1 (dF hc3)))⟩ (by omega)
  ·skip
   have hp6 : ¬ ((i1 : Int) < (L.length : Int)) := (dF hc2)
   refine wcF h18 rfl hc2 <| h18.sk [5,4,0,1] rfl fun h39 => wp_exit ?_
   refine hK2 _ _ ?_
   refine sqr fun _ hK13 => h39.sk [5,0,1] rfl fun h40 => mv h40 rfl fun _ h41 => wpList_nil <| hK13 _ _ <| wp_ret ?_
   try simp only [Exit.then, Exit.inBlock]
   refine retR (v := .bool true) (res1 h41 rfl rfl) h41.defs ?_
   exact ⟨congrArg Value.bool (decide_eq_true (take_end ht37 (by omega) (by omega))).symm, Sep.tail_un (xs := [_, _]) s1⟩

set_option maxHeartbeats 4000000 in
theorem sameReply_s {w : World} {R : List Ch} {a b : Option Addr} {c c2 : Nat} {r s : RepM} (hS0 : Sep w ([ownC 0 9 1 a r.names.length c (r.names.flatMap sE), ownC 0 9 1 b s.names.length c2 (s.names.flatMap sE)] ++ R)) (hr : r.names.length ≤ 100000) (hs2 : s.names.length ≤ 100000) :
  CallsR Tryz.prog 16 #[.agg #[.int .i64 r.e, .int .i64 r.fd, .string (strB r.data), .slice a r.names.length c, .int .i64 r.kind, .int .i64 r.links, .int .i64 r.size], .agg #[.int .i64 s.e, .int .i64 s.fd, .string (strB s.data), .slice b s.names.length c2, .int .i64 s.kind, .int .i64 s.links, .int .i64 s.size]] w (fun v w' => v = .bool (sameR r s) ∧ Sep w' ([ownC 0 9 1 a r.names.length c (r.names.flatMap sE), ownC 0 9 1 b s.names.length c2 (s.names.flatMap sE)] ++ R)) := by
 have hS : Sep w [ownC 0 9 1 a r.names.length c (r.names.flatMap sE), ownC 0 9 1 b s.names.length c2 (s.names.flatMap sE), Ch.many R] := Sep.tail_many (xs := [_, _]) hS0; clear hS0
 refine enterR Tryz.func16 rfl (N := 40) Tryz.ntmps16 (by show 2 ≤ 40; decide) [(0, .agg #[.int .i64 r.e, .int .i64 r.fd, .string (strB r.data), .slice a r.names.length c, .int .i64 r.kind, .int .i64 r.links, .int .i64 r.size]), (1, .agg #[.int .i64 s.e, .int .i64 s.fd, .string (strB s.data), .slice b s.names.length c2, .int .i64 s.kind, .int .i64 s.links, .int .i64 s.size])] rfl fun _ h1 => sqr fun _ hK3 => so (wanted_none rfl) fun _ hK1 => xbox h1 rfl rfl rfl rfl rfl (z := [.int .i64 r.e, .int .i64 r.fd, .string (strB r.data), .slice a r.names.length c, .int .i64 r.kind, .int .i64 r.links, .int .i64 r.size]) rfl hS fun _ g4 w7 h5 s8 _ _ => hK1 _ _ ?_
 refine so (wanted_none rfl) fun _ hK2 => xbox h5 rfl rfl rfl rfl rfl (z := [.int .i64 s.e, .int .i64 s.fd, .string (strB s.data), .slice b s.names.length c2, .int .i64 s.kind, .int .i64 s.links, .int .i64 s.size]) rfl s8 fun _ g1 w1 h2 s1 _ _ => hK2 _ _ ?_
 refine mv h2 rfl fun _ h3 => wpList_nil <| hK3 _ _ <| sqr fun _ hK4 => fav h3 rfl (fz_api_Reply_3 _ _) fun _ h4 => ldv h4 s1 1 Tryz.underlying33 rfl rfl rfl rfl fun _ h6 => fav h6 rfl (fz_api_Reply_3 _ _) fun _ h7 => ldv h7 s1 0 Tryz.underlying33 rfl rfl rfl rfl fun _ h8 => cl h8 rfl cz_commonsref05_Same (same05_s (L := r.names) (M := s.names) (s1.pk [2,3,0,1,4] rfl) hr hs2) fun _ v1 w2 r1 h9 => ?_
 obtain ⟨rfl, s2⟩ := r1
 refine mv h9 rfl fun _ h10 => h10.sn [5,4,3,2,0,1] rfl fun h11 => hK4 _ _ <| sqr fun _ hK5 => mvs 2 h11 rfl fun _ h12 => sg h12 (wT h12 rfl rfl rfl) rfl rfl rfl (v := .pointer (some ⟨g4, 0, none⟩)) (fun hC1 => by have hq := (dT hC1); exact rfa h12 rfl rfl (fun w => fz_api_Reply_0 g4 0 w) _) fun _ h13 => sg h13 (wT h13 rfl rfl rfl) rfl rfl rfl (v := .int .i64 r.e) (fun hC2 => by have hq := (dT hC2); exact (rld h13 rfl (opg rfl hC2) (ldB Tryz.underlying32 rfl (s2.get 3 rfl : Blk _ _ _ _) rfl))) fun _ h14 => sg h14 (wT h14 rfl rfl rfl) rfl rfl rfl (v := .pointer (some ⟨g1, 0, none⟩)) (fun hC3 => by have hq := (dT hC3); exact rfa h14 rfl rfl (fun w => fz_api_Reply_0 g1 0 w) _) fun _ h15 => sg h15 (wT h15 rfl rfl rfl) rfl rfl rfl (v := .int .i64 s.e) (fun hC4 => by have hq := (dT hC4); exact (rld h15 rfl (opg rfl hC4) (ldB Tryz.underlying32 rfl (s2.get 2 rfl : Blk _ _ _ _) rfl))) fun _ h16 => sg h16 (wT h16 rfl rfl rfl) rfl rfl rfl (v := .bool (decide (r.e = s.e))) (fun hC5 => by have hq := (dT hC5); exact rbin h16 rfl (opg rfl hC5) (opg rfl hC5) (cEq _ _ _ _ rfl) _) fun _ h17 => ?_
 refine sv1 h17 rfl (v := .bool ((decide (r.names = s.names)) && (decide (r.e = s.e)))) (rpickA h17 rfl (E := (decide (r.names = s.names))) (F := (decide (r.e = s.e))) rfl rfl rfl (fun e => if_pos (by rw [e]; try rfl))) fun _ h18 => mv h18 rfl fun _ h19 => sg h19 (wT h19 rfl rfl rfl) rfl rfl rfl (v := .pointer (some ⟨g4, 1, none⟩)) (fun hC6 => by have hq := (And.intro (dT (andT hC6).1) (dT (andT hC6).2)); exact rfa h19 rfl rfl (fun w => fz_api_Reply_1 g4 0 w) _) fun _ h20 => sg h20 (wT h20 rfl rfl rfl) rfl rfl rfl (v := .int .i64 r.fd) (fun hC7 => by have hq := (And.intro (dT (andT hC7).1) (dT (andT hC7).2)); exact (rld h20 rfl (opg rfl hC7) (ldB Tryz.underlying3 rfl (s2.get 3 rfl : Blk _ _ _ _) rfl))) fun _ h21 => sg h21 (wT h21 rfl rfl rfl) rfl rfl rfl (v := .pointer (some ⟨g1, 1, none⟩)) (fun hC8 => by have hq := (And.intro (dT (andT hC8).1) (dT (andT hC8).2)); exact rfa h21 rfl rfl (fun w => fz_api_Reply_1 g1 0 w) _) fun _ h22 => sg h22 (wT h22 rfl rfl rfl) rfl rfl rfl (v := .int .i64 s.fd) (fun hC9 => by have hq := (And.intro (dT (andT hC9).1) (dT (andT hC9).2)); exact (rld h22 rfl (opg rfl hC9) (ldB Tryz.underlying3 rfl (s2.get 2 rfl : Blk _ _ _ _) rfl))) fun _ h23 => sg h23 (wT h23 rfl rfl rfl) rfl rfl rfl (v := .bool (decide (r.fd = s.fd))) (fun hC10 => by have hq := (And.intro (dT (andT hC10).1) (dT (andT hC10).2)); exact rbin h23 rfl (opg rfl hC10) (opg rfl hC10) (cEq _ _ _ _ rfl) _) fun _ h24 => sv1 h24 rfl (v := .bool (((decide (r.names = s.names)) && (decide (r.e = s.e))) && (decide (r.fd = s.fd)))) (rpickA h24 rfl (E := ((decide (r.names = s.names)) && (decide (r.e = s.e)))) (F := (decide (r.fd = s.fd))) rfl rfl rfl (fun e => if_pos (by rw [e]; try rfl))) fun _ h25 => mv h25 rfl fun _ h26 => sg h26 (wT h26 rfl rfl rfl) rfl rfl rfl (v := .pointer (some ⟨g4, 2, none⟩)) (fun hC11 => by have hq := (And.intro (And.intro (dT (andT (andT hC11).1).1) (dT (andT (andT hC11).1).2)) (dT (andT hC11).2)); exact rfa h26 rfl rfl (fun w => fz_api_Reply_2 g4 0 w) _) fun _ h27 => ?_
 refine sg h27 (wT h27 rfl rfl rfl) rfl rfl rfl (v := .string (strB r.data)) (fun hC12 => by have hq := (And.intro (And.intro (dT (andT (andT hC12).1).1) (dT (andT (andT hC12).1).2)) (dT (andT hC12).2)); exact (rld h27 rfl (opg rfl hC12) (ldB Tryz.underlying9 rfl (s2.get 3 rfl : Blk _ _ _ _) rfl))) fun _ h28 => sg h28 (wT h28 rfl rfl rfl) rfl rfl rfl (v := .pointer (some ⟨g1, 2, none⟩)) (fun hC13 => by have hq := (And.intro (And.intro (dT (andT (andT hC13).1).1) (dT (andT (andT hC13).1).2)) (dT (andT hC13).2)); exact rfa h28 rfl rfl (fun w => fz_api_Reply_2 g1 0 w) _) fun _ h29 => sg h29 (wT h29 rfl rfl rfl) rfl rfl rfl (v := .string (strB s.data)) (fun hC14 => by have hq := (And.intro (And.intro (dT (andT (andT hC14).1).1) (dT (andT (andT hC14).1).2)) (dT (andT hC14).2)); exact (rld h29 rfl (opg rfl hC14) (ldB Tryz.underlying9 rfl (s2.get 2 rfl : Blk _ _ _ _) rfl))) fun _ h30 => sg h30 (wT h30 rfl rfl rfl) rfl rfl rfl (v := .bool (decide (r.data = s.data))) (fun hC15 => by have hq := (And.intro (And.intro (dT (andT (andT hC15).1).1) (dT (andT (andT hC15).1).2)) (dT (andT hC15).2)); exact rbin h30 rfl (opg rfl hC15) (opg rfl hC15) (bStrEqL _ _ _ r.data s.data rfl) _) fun _ h31 => sv1 h31 rfl (v := .bool ((((decide (r.names = s.names)) && (decide (r.e = s.e))) && (decide (r.fd = s.fd))) && (decide (r.data = s.data)))) (rpickA h31 rfl (E := (((decide (r.names = s.names)) && (decide (r.e = s.e))) && (decide (r.fd = s.fd)))) (F := (decide (r.data = s.data))) rfl rfl rfl (fun e => if_pos (by rw [e]; try rfl))) fun _ h32 => mv h32 rfl fun _ h33 => sg h33 (wT h33 rfl rfl rfl) rfl rfl rfl (v := .pointer (some ⟨g4, 4, none⟩)) (fun hC16 => by have hq := (And.intro (And.intro (And.intro (dT (andT (andT (andT hC16).1).1).1) (dT (andT (andT (andT hC16).1).1).2)) (dT (andT (andT hC16).1).2)) (dT (andT hC16).2)); exact rfa h33 rfl rfl (fun w => fz_api_Reply_4 g4 0 w) _) fun _ h34 => sg h34 (wT h34 rfl rfl rfl) rfl rfl rfl (v := .agg #[.int .i64 r.kind, .int .i64 r.links, .int .i64 r.size]) (fun hC17 => by have hq := (And.intro (And.intro (And.intro (dT (andT (andT (andT hC17).1).1).1) (dT (andT (andT (andT hC17).1).1).2)) (dT (andT (andT hC17).1).2)) (dT (andT hC17).2)); exact (rld h34 rfl (opg rfl hC17) (ldA Tryz.underlying35 rfl (n := 3) (by kernel_rfl) (s2.get 3 rfl : Blk _ _ _ _) rfl rfl))) fun _ h35 => sg h35 (wT h35 rfl rfl rfl) rfl rfl rfl (v := .pointer (some ⟨g1, 4, none⟩)) (fun hC18 => by have hq := (And.intro (And.intro (And.intro (dT (andT (andT (andT hC18).1).1).1) (dT (andT (andT (andT hC18).1).1).2)) (dT (andT (andT hC18).1).2)) (dT (andT hC18).2)); exact rfa h35 rfl rfl (fun w => fz_api_Reply_4 g1 0 w) _) fun _ h36 => sg h36 (wT h36 rfl rfl rfl) rfl rfl rfl (v := .agg #[.int .i64 s.kind, .int .i64 s.links, .int .i64 s.size]) (fun hC19 => by have hq := (And.intro (And.intro (And.intro (dT (andT (andT (andT hC19).1).1).1) (dT (andT (andT (andT hC19).1).1).2)) (dT (andT (andT hC19).1).2)) (dT (andT hC19).2)); exact (rld h36 rfl (opg rfl hC19) (ldA Tryz.underlying35 rfl (n := 3) (by kernel_rfl) (s2.get 2 rfl : Blk _ _ _ _) rfl rfl))) fun _ h37 => ?_
 refine sg h37 (wT h37 rfl rfl rfl) rfl rfl rfl (v := .bool ((decide (r.kind = s.kind)) && ((decide (r.links = s.links)) && (decide (r.size = s.size))))) (fun hC20 => by have hq := (And.intro (And.intro (And.intro (dT (andT (andT (andT hC20).1).1).1) (dT (andT (andT (andT hC20).1).1).2)) (dT (andT (andT hC20).1).2)) (dT (andT hC20).2)); exact rbin h37 rfl (opg rfl hC20) (opg rfl hC20) (eqS_api_Info_yf3_eql _ _ r.kind r.links r.size s.kind s.links s.size) _) fun _ h38 => sv1 h38 rfl (v := .bool (((((decide (r.names = s.names)) && (decide (r.e = s.e))) && (decide (r.fd = s.fd))) && (decide (r.data = s.data))) && ((decide (r.kind = s.kind)) && ((decide (r.links = s.links)) && (decide (r.size = s.size)))))) (rpickA h38 rfl (E := ((((decide (r.names = s.names)) && (decide (r.e = s.e))) && (decide (r.fd = s.fd))) && (decide (r.data = s.data)))) (F := ((decide (r.kind = s.kind)) && ((decide (r.links = s.links)) && (decide (r.size = s.size))))) rfl rfl rfl (fun e => if_pos (by rw [e]; try rfl))) fun _ h39 => h39.sk [39,38,37,36,35,34,33,32,31,30,29,28,27,26,25,24,23,22,21,20,19,18,17,16,15,14,13,12,11,5,3,2,0,1] rfl fun h40 => mv h40 rfl fun _ h41 => h41.sn [4,5,3,2,0,1] rfl fun h42 => hK5 _ _ <| wp_ret ?_
 try simp only [Exit.then, Exit.inBlock]
 refine retR (v := .bool (((((decide (r.names = s.names)) && (decide (r.e = s.e))) && (decide (r.fd = s.fd))) && (decide (r.data = s.data))) && ((decide (r.kind = s.kind)) && ((decide (r.links = s.links)) && (decide (r.size = s.size)))))) (res1 h42 rfl rfl) h42.defs ?_
 exact ⟨rfl, Sep.tail_un (xs := [_, _]) (s2.pk [0,1,4] rfl)⟩

end Go.Proofs.YtcanemamnmmbcaaGreatDoor
