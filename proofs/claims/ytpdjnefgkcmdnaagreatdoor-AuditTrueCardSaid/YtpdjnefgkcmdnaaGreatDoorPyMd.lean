/- Merged: PyI PyJ PyK. -/
import Derived.Test.YtpdjnefgkcmdnaaGreatDoorPyMc
import Derived.Test.YtpdjnefgkcmdnaaGreatDoorSxU
import Derived.Test.YtpdjnefgkcmdnaaGreatDoorPxZ
/- the code's List, method (sx/ptF.py) -/
namespace Go.Proofs.YtpdjnefgkcmdnaaGreatDoor
open Go.RowKit
set_option linter.unusedSimpArgs false
set_option linter.unusedVariables false
set_option maxRecDepth 100000


set_option maxHeartbeats 4000000 in
theorem sortedC_c {w:World} {cf ob:Nat} {F:FsM} {A:AdM} {R:List Ch} {δ:Nat→Int} {k0:Nat} (hS0:Sep w ((cP cf ob F A)++R)) (hok:FsC F δ) (hz:SmF F) (hk0:k0<F.N.length) (hd0:F.dir k0=true) :
  CallsR Tryz.prog 81 #[.pointer (some ⟨A.ad k0,0,none⟩)] w (fun v w'=>∃ sa sc,v=.slice sa (sortN (namesOf F.E k0)).length sc∧Sep w' (ownC 0 9 1 sa (sortN (namesOf F.E k0)).length sc ((sortN (namesOf F.E k0)).flatMap sE)::(cP cf ob F A)++R)):=by
 have hS:=Sep.tail_many (xs:=cP cf ob F A) hS0;clear hS0
 have hz0:=hz;obtain ⟨hz1,hz2,hz3⟩:F.N.length≤1000∧F.E.length≤1000∧F.O.length≤1000:=hz
 refine enterR Tryz.func81 rfl (N:=9) Tryz.ntmps81 (by show 1≤9;decide) [(0,.pointer (some ⟨(A.ad k0),0,none⟩))] rfl fun _ h1=>sqr fun _ hK3=>mv h1 rfl fun _ h4=>wpList_nil<|hK3 _ _<|sqr fun _ hK6=>mvs 2 h4 rfl fun _ h9=>sv1 h9 rfl (rfa h9 rfl rfl (fun w=>fz_posix_node_3 (A.ad k0) 0 w)) fun _ h2=>sw1 h2 rfl (rld h2 rfl rfl (NdP.c3 (F:=FsM.nE F) (A:=AdM.nC A) (k:=k0) (hS.get 1 rfl:NdP _ _ _) (show k0<F.N.length from by omega) hd0 Tryz.underlying99 rfl)) fun _ h3=>cl h3 rfl cz_maps_Keys_map_string_posix_node_string_posix_node (keys_s (F:=F) (A:=A) (k:=k0) (hS.pk [1,0,2,3] rfl) (by omega) hd0) fun _ v1 w1 r1 h5=>?_
 obtain ⟨s1,hky21⟩:=r1
 refine cl h5 rfl cz_slices_Sorted_string (sorted_s (L:=namesOf F.E k0) s1 hky21 (names_nd hok.ed k0) (names_all hok A k0) (by rw [← cnt_names];exact Nat.le_trans (cntE_le _ _) hz2)) fun _ v2 w2 r2 h6=>?_
 obtain ⟨sa29,sc30,rfl,s2⟩:=r2
 refine h6.sk [8,7,6,5,4,3,0] rfl fun h7=>mv h7 rfl fun _ h8=>h8.sn [2,0] rfl fun h10=>hK6 _ _<|wp_ret ?_
 try simp only [Exit.then,Exit.inBlock]
 refine retR (v:=.slice sa29 ((sortN (namesOf F.E k0)).length) sc30) (res1 h10 rfl rfl) h10.defs ?_
 exact ⟨sa29,sc30,rfl,Sep.tail_un (xs:=[_,_,_,_]) (s2.pk [0,2,1,3,4] rfl)⟩

set_option maxHeartbeats 4000000 in
theorem doList_c {w:World} {cf ob n:Nat} {F:FsM} {A:AdM} {R:List Ch} {c:Int} {x:CallM} (hS0:Sep w ((cP cf ob F A)++R)) (hfo:FsOk F) (hA:AdOk F A n) (hn:n≤900) (hs:SmS F) (h1:x.p1.length≤1000) (h2:x.p2.length≤1000) (h3:x.data.length≤1000) (hwx:wfD (c,x.fd)) (hcl:1≤c∧c≤8) :
  CallsR Tryz.prog 66 #[.pointer (some ⟨cf,0,none⟩),.int .i64 c,.agg (cL x).toArray] w (fun v w'=>∃ A' sa sc,v=.tuple #[repV (r0 (listF F x.p1).2) sa sc,.int .i64 (listF F x.p1).2.e]∧Sep w' (ownC 0 9 1 sa (listF F x.p1).2.names.length sc ((listF F x.p1).2.names.flatMap sE)::(cP cf ob ((listF F x.p1).1) A')++R)∧AdOk (listF F x.p1).1 A' (n+1)):=by
 have hS:=Sep.tail_many (xs:=cP cf ob F A) hS0;clear hS0
 have hz:SmF F:=hs.sm;have hok:=hfo.toFsC
 have hz0:=hz;obtain ⟨hz1,hz2,hz3⟩:F.N.length≤1000∧F.E.length≤1000∧F.O.length≤1000:=hz
 refine enterR Tryz.func66 rfl (N:=30) Tryz.ntmps66 (by show 3≤30;decide) [(0,.pointer (some ⟨cf,0,none⟩)),(1,.int .i64 c),(2,.agg (cL x).toArray)] rfl fun _ h1=>sqr fun _ hK3=>so (wanted_none rfl) fun _ hK1=>xbox h1 rfl rfl rfl rfl rfl (z:=(cL x)) rfl hS fun _ g4 w7 h5 s8 _ _=>hK1 _ _ ?_
 refine so (wanted_none rfl) fun _ hK2=>xalloc h5 rfl rfl rfl rfl (z:=zL) (fun _=>rfl) s8 fun _ g1 w1 h4 s1 _ _=>hK2 _ _ ?_
 refine mv h4 rfl fun _ h6=>h6.sk [7,6,5,0,2] rfl fun h7=>?_
 clear h1
 refine wpList_nil<|hK3 _ _<|sqr fun _ hK4=>mv h7 rfl fun _ h8=>fav h8 rfl (fz_api_Call_1 _ _) fun _ h9=>ldv h9 s1 1 Tryz.underlying9 rfl rfl rfl rfl fun _ h10=>?_
 rcases bC (decide ((findF F x.p1).1=0)) with hc1 | hc1
 ·skip
  have hp1:(findF F x.p1).1=0:=(dT hc1)
  have hfl32:=FsC.find_lt (F:=F) hok x.p1
  refine cl h10 rfl cz_posix_Fs_node (nodeYes_c (cf:=cf) (A:=A) (F:=F) (s1.pk [2,3,4,0,1,5] rfl) hok hz0 (by omega) (by omega)) fun _ v1 w2 r1 h11=>?_
  obtain ⟨rfl,s2⟩:=r1
  refine mvs 5 h11 rfl fun _ h12=>h12.sn [9,8,7,6,5,0,2] rfl fun h13=>hK4 _ _<|sq fun _ hK5=>sqr fun _ hK6=>mv h13 rfl fun _ h14=>bv h14 rfl (cNe _ _ _ _ rfl) fun _ h15=>h15.sn [18,9,8,7,6,5,0,2] rfl fun h16=>hK6 _ _<|wcF h16 rfl rfl<|h16.sk [9,8,7,6,5,0,2] rfl fun h17=>?_
  refine wp_skip<|hK5 _ _<|sq fun _ hK7=>sqr fun _ hK8=>mvs 2 h17 rfl fun _ h18=>sv1 h18 rfl (rfa h18 rfl rfl (fun w=>fz_posix_node_0 (A.ad (findF F x.p1).2) 0 w)) fun _ h19=>sw1 h19 rfl (rld h19 rfl rfl (NdP.c0 (F:=FsM.nE F) (A:=AdM.nC A) (k:=((findF F x.p1).2)) (s2.get 1 rfl:NdP _ _ _) (show (findF F x.p1).2<F.N.length from by omega) Tryz.underlying3 rfl)) fun _ h20=>bv h20 (z:=.bool (!(F.dir ((findF F x.p1).2)))) rfl (cNe _ _ _ _ (kindN2 _)) fun _ h21=>h21.sn [25,9,8,7,6,5,0,2] rfl fun h22=>hK8 _ _ ?_
  rcases bC (F.dir ((findF F x.p1).2)) with hc2 | hc2
  ·skip
   refine wcF h22 rfl (bNotT hc2)<|h22.sk [9,8,7,6,5,0,2] rfl fun h23=>wp_skip<|hK7 _ _<|sqr fun _ hK9=>mv h23 rfl fun _ h24=>cl h24 rfl cz_posix_node_sorted (sortedC_c (cf:=cf) (A:=A) (F:=F) s2 hok hz0 (by omega) hc2) fun _ v2 w3 r2 h25=>?_
   obtain ⟨sax78,scx79,rfl,s3⟩:=r2
   refine bu h25 (v:=.agg #[.int .i64 0,.int .i64 0,.string (strB []),.slice sax78 ((sortN (namesOf F.E ((findF F x.p1).2))).length) scx79,.int .i64 0,.int .i64 0,.int .i64 0]) rfl (fun w=>by kernel_rfl) fun _ h26=>stA h26 s3 4 rfl rfl rfl (by kernel_rfl) rfl rfl rfl rfl fun _ w4 h27 s4 _=>h27.sk [29,28,27,9,8,6,5,0,2] rfl fun h28=>mv h28 rfl fun _ h29=>h29.sn [7,9,8,6,5,0,2] rfl fun h30=>hK9 _ _<|wp_ret ?_
   try simp only [Exit.then,Exit.inBlock]
   refine rCt h30 s4 4 Tryz.underlying28 rfl rfl rfl rfl rfl ?_
   have hq1:listF F x.p1=(F,namesR (sortN (namesOf F.E (findF F x.p1).2))):=bx
   rw [hq1]
   exact ⟨A,sax78,scx79,rfl,Sep.tail_un (xs:=[_,_,_,_]) (s4.pk [0,1,2,3,6] rfl),hA.mono⟩
  ·skip
   refine wcT h22 rfl (bNotF hc2)<|h22.sk [9,8,7,6,5,0,2] rfl fun h31=>sqr fun _ hK10=>bu h31 (v:=.agg zL.toArray) rfl (fun w=>by kernel_rfl) fun _ h32=>stA h32 s2 3 rfl rfl rfl (by kernel_rfl) rfl rfl rfl rfl fun _ w5 h33 s5 _=>h33.sk [26,9,8,6,5,0,2] rfl fun h34=>mv h34 rfl fun _ h35=>h35.sn [7,9,8,6,5,0,2] rfl fun h36=>hK10 _ _<|wp_ret ?_
   try simp only [Exit.then,Exit.inBlock]
   refine rCt h36 s5 3 Tryz.underlying28 rfl rfl rfl rfl rfl ?_
   have hq2:listF F x.p1=(F,errR 12):=bx
   rw [hq2]
   exact ⟨A,none,0,rfl,(Sep.tail_un (xs:=[_,_,_]) (s5.pk [0,1,2,5] rfl)).ownNil 0 9 1,hA.mono⟩
 ·skip
  have hp2:¬ ((findF F x.p1).1=0):=(dF hc1)
  refine cl h10 rfl cz_posix_Fs_node (nodeNo_c (cf:=cf) (A:=A) (F:=F) (s1.pk [2,3,4,0,1,5] rfl) hok hz0 (by omega) (by omega)) fun _ v3 w6 r3 h37=>?_
  obtain ⟨rfl,s6⟩:=r3
  refine mvs 5 h37 rfl fun _ h38=>h38.sn [9,8,7,6,5,0,2] rfl fun h39=>hK4 _ _<|sq fun _ hK11=>sqr fun _ hK12=>mv h39 rfl fun _ h40=>bv h40 rfl (cNe _ _ _ _ (decide_eq_true (by omega))) fun _ h41=>h41.sn [18,9,8,7,6,5,0,2] rfl fun h42=>hK12 _ _<|wcT h42 rfl rfl<|h42.sk [9,8,7,6,5,0,2] rfl fun h43=>?_
  refine sqr fun _ hK13=>bu h43 (v:=.agg zL.toArray) rfl (fun w=>by kernel_rfl) fun _ h44=>mv h44 rfl fun _ h45=>stA h45 s6 3 rfl rfl rfl (by kernel_rfl) rfl rfl rfl rfl fun _ w8 h46 s7 _=>h46.sk [20,19,9,8,6,5,0,2] rfl fun h47=>mv h47 rfl fun _ h48=>h48.sn [7,9,8,6,5,0,2] rfl fun h49=>hK13 _ _<|wp_ret ?_
  try simp only [Exit.then,Exit.inBlock]
  refine rCt h49 s7 3 Tryz.underlying28 rfl rfl rfl rfl rfl ?_
  have hq3:listF F x.p1=(F,errR (findF F x.p1).1):=bx
  rw [hq3]
  exact ⟨A,none,0,rfl,(Sep.tail_un (xs:=[_,_,_]) (s7.pk [0,1,2,5] rfl)).ownNil 0 9 1,hA.mono⟩

def fidM (k:Int):FuncId:=if k=1 then 55 else if k=2 then 56 else if k=3 then 57 else if k=4 then 58 else if k=5 then 59 else if k=6 then 60 else if k=7 then 61 else if k=8 then 62 else if k=9 then 63 else if k=10 then 64 else if k=11 then 65 else if k=12 then 66 else 67
set_option maxHeartbeats 4000000 in
theorem method_c {w:World} {R:List Ch} {cf:Nat} {k:Int} (hk:1≤k∧k≤13) (hS0:Sep w R) :
  CallsR Tryz.prog 51 #[.pointer (some ⟨cf,0,none⟩),.int .i64 k] w (fun v w'=>v=.func (.func (fidM k)) #[.pointer (some ⟨cf,0,none⟩)] #[]∧Sep w' R):=by
 have hS:Sep w [Ch.many R]:=Sep.tail_many (xs:=[]) hS0;clear hS0
 refine enterR Tryz.func51 rfl (N:=58) Tryz.ntmps51 (by show 2≤58;decide) [(0,.pointer (some ⟨cf,0,none⟩)),(1,.int .i64 k)] rfl fun _ h1=>sqr fun _ hK3=>mv h1 rfl fun _ h4=>wpList_nil<|hK3 _ _<|sq fun _ hK6=>sqr fun _ hK7=>mv h4 rfl fun _ h8=>wpList_nil<|hK7 _ _<|wp_block ?_
 refine sqr fun _ hK1=>bv h8 (z:=.bool (decide (k=1))) rfl (cEq _ _ _ _ rfl) fun _ h2=>mv h2 rfl fun _ h3=>h3.sn [6,5,4,0,1] rfl fun h5=>hK1 _ _ ?_
 by_cases e1:k=1
 ·refine wcT h5 rfl (decide_eq_true e1)<|h5.sk [5,4,0,1] rfl fun h6=>sqr fun _ hK2=>mv h6 rfl fun _ h7=>sv1 h7 rfl (rfunc h7 (xs:=[.tmp 8]) (ys:=[]) rfl (vs:=[.pointer (some ⟨cf,0,none⟩)]) (us:=[]) rfl rfl) fun _ h9=>h9.sk [9,8,5,0,1] rfl fun h10=>mv h10 rfl fun _ h11=>h11.sn [4,5,0,1] rfl fun h12=>hK2 _ _<|wp_ret ?_
  try simp only [Exit.then,Exit.inBlock]
  refine retR (v:=.func (.func 55) #[.pointer (some ⟨cf,0,none⟩)] #[]) (res1 h12 rfl rfl) h12.defs ?_
  exact ⟨by rw [e1];rfl,Sep.tail_un (xs:=[]) hS⟩
 refine wcF h5 rfl (decide_eq_false e1)<|h5.sk [5,4,0,1] rfl fun h6=>sqr fun _ hK2=>bv h6 (z:=.bool (decide (k=2))) rfl (cEq _ _ _ _ rfl) fun _ h7=>mv h7 rfl fun _ h9=>h9.sn [10,5,4,0,1] rfl fun h10=>hK2 _ _ ?_
 by_cases e2:k=2
 ·refine wcT h10 rfl (decide_eq_true e2)<|h10.sk [5,4,0,1] rfl fun h11=>sqr fun _ hK4=>mv h11 rfl fun _ h12=>sv1 h12 rfl (rfunc h12 (xs:=[.tmp 12]) (ys:=[]) rfl (vs:=[.pointer (some ⟨cf,0,none⟩)]) (us:=[]) rfl rfl) fun _ h13=>h13.sk [13,12,5,0,1] rfl fun h14=>mv h14 rfl fun _ h15=>h15.sn [4,5,0,1] rfl fun h16=>hK4 _ _<|wp_ret ?_
  try simp only [Exit.then,Exit.inBlock]
  refine retR (v:=.func (.func 56) #[.pointer (some ⟨cf,0,none⟩)] #[]) (res1 h16 rfl rfl) h16.defs ?_
  exact ⟨by rw [e2];rfl,Sep.tail_un (xs:=[]) hS⟩
 refine wcF h10 rfl (decide_eq_false e2)<|h10.sk [5,4,0,1] rfl fun h11=>sqr fun _ hK4=>bv h11 (z:=.bool (decide (k=3))) rfl (cEq _ _ _ _ rfl) fun _ h12=>mv h12 rfl fun _ h13=>h13.sn [14,5,4,0,1] rfl fun h14=>hK4 _ _ ?_
 by_cases e3:k=3
 ·refine wcT h14 rfl (decide_eq_true e3)<|h14.sk [5,4,0,1] rfl fun h15=>sqr fun _ hK5=>mv h15 rfl fun _ h16=>sv1 h16 rfl (rfunc h16 (xs:=[.tmp 16]) (ys:=[]) rfl (vs:=[.pointer (some ⟨cf,0,none⟩)]) (us:=[]) rfl rfl) fun _ h17=>h17.sk [17,16,5,0,1] rfl fun h18=>mv h18 rfl fun _ h19=>h19.sn [4,5,0,1] rfl fun h20=>hK5 _ _<|wp_ret ?_
  try simp only [Exit.then,Exit.inBlock]
  refine retR (v:=.func (.func 57) #[.pointer (some ⟨cf,0,none⟩)] #[]) (res1 h20 rfl rfl) h20.defs ?_
  exact ⟨by rw [e3];rfl,Sep.tail_un (xs:=[]) hS⟩
 refine wcF h14 rfl (decide_eq_false e3)<|h14.sk [5,4,0,1] rfl fun h15=>sqr fun _ hK5=>bv h15 (z:=.bool (decide (k=4))) rfl (cEq _ _ _ _ rfl) fun _ h16=>mv h16 rfl fun _ h17=>h17.sn [18,5,4,0,1] rfl fun h18=>hK5 _ _ ?_
 by_cases e4:k=4
 ·refine wcT h18 rfl (decide_eq_true e4)<|h18.sk [5,4,0,1] rfl fun h19=>sqr fun _ hK8=>mv h19 rfl fun _ h20=>sv1 h20 rfl (rfunc h20 (xs:=[.tmp 20]) (ys:=[]) rfl (vs:=[.pointer (some ⟨cf,0,none⟩)]) (us:=[]) rfl rfl) fun _ h21=>h21.sk [21,20,5,0,1] rfl fun h22=>mv h22 rfl fun _ h23=>h23.sn [4,5,0,1] rfl fun h24=>hK8 _ _<|wp_ret ?_
  try simp only [Exit.then,Exit.inBlock]
  refine retR (v:=.func (.func 58) #[.pointer (some ⟨cf,0,none⟩)] #[]) (res1 h24 rfl rfl) h24.defs ?_
  exact ⟨by rw [e4];rfl,Sep.tail_un (xs:=[]) hS⟩
 refine wcF h18 rfl (decide_eq_false e4)<|h18.sk [5,4,0,1] rfl fun h19=>sqr fun _ hK8=>bv h19 (z:=.bool (decide (k=5))) rfl (cEq _ _ _ _ rfl) fun _ h20=>mv h20 rfl fun _ h21=>h21.sn [22,5,4,0,1] rfl fun h22=>hK8 _ _ ?_
 by_cases e5:k=5
 ·refine wcT h22 rfl (decide_eq_true e5)<|h22.sk [5,4,0,1] rfl fun h23=>sqr fun _ hK9=>mv h23 rfl fun _ h24=>sv1 h24 rfl (rfunc h24 (xs:=[.tmp 24]) (ys:=[]) rfl (vs:=[.pointer (some ⟨cf,0,none⟩)]) (us:=[]) rfl rfl) fun _ h25=>h25.sk [25,24,5,0,1] rfl fun h26=>mv h26 rfl fun _ h27=>h27.sn [4,5,0,1] rfl fun h28=>hK9 _ _<|wp_ret ?_
  try simp only [Exit.then,Exit.inBlock]
  refine retR (v:=.func (.func 59) #[.pointer (some ⟨cf,0,none⟩)] #[]) (res1 h28 rfl rfl) h28.defs ?_
  exact ⟨by rw [e5];rfl,Sep.tail_un (xs:=[]) hS⟩
 refine wcF h22 rfl (decide_eq_false e5)<|h22.sk [5,4,0,1] rfl fun h23=>sqr fun _ hK9=>bv h23 (z:=.bool (decide (k=6))) rfl (cEq _ _ _ _ rfl) fun _ h24=>mv h24 rfl fun _ h25=>h25.sn [26,5,4,0,1] rfl fun h26=>hK9 _ _ ?_
 by_cases e6:k=6
 ·refine wcT h26 rfl (decide_eq_true e6)<|h26.sk [5,4,0,1] rfl fun h27=>sqr fun _ hK10=>mv h27 rfl fun _ h28=>sv1 h28 rfl (rfunc h28 (xs:=[.tmp 28]) (ys:=[]) rfl (vs:=[.pointer (some ⟨cf,0,none⟩)]) (us:=[]) rfl rfl) fun _ h29=>h29.sk [29,28,5,0,1] rfl fun h30=>mv h30 rfl fun _ h31=>h31.sn [4,5,0,1] rfl fun h32=>hK10 _ _<|wp_ret ?_
  try simp only [Exit.then,Exit.inBlock]
  refine retR (v:=.func (.func 60) #[.pointer (some ⟨cf,0,none⟩)] #[]) (res1 h32 rfl rfl) h32.defs ?_
  exact ⟨by rw [e6];rfl,Sep.tail_un (xs:=[]) hS⟩
 refine wcF h26 rfl (decide_eq_false e6)<|h26.sk [5,4,0,1] rfl fun h27=>sqr fun _ hK10=>bv h27 (z:=.bool (decide (k=7))) rfl (cEq _ _ _ _ rfl) fun _ h28=>mv h28 rfl fun _ h29=>h29.sn [30,5,4,0,1] rfl fun h30=>hK10 _ _ ?_
 by_cases e7:k=7
 ·refine wcT h30 rfl (decide_eq_true e7)<|h30.sk [5,4,0,1] rfl fun h31=>sqr fun _ hK11=>mv h31 rfl fun _ h32=>sv1 h32 rfl (rfunc h32 (xs:=[.tmp 32]) (ys:=[]) rfl (vs:=[.pointer (some ⟨cf,0,none⟩)]) (us:=[]) rfl rfl) fun _ h33=>h33.sk [33,32,5,0,1] rfl fun h34=>mv h34 rfl fun _ h35=>h35.sn [4,5,0,1] rfl fun h36=>hK11 _ _<|wp_ret ?_
  try simp only [Exit.then,Exit.inBlock]
  refine retR (v:=.func (.func 61) #[.pointer (some ⟨cf,0,none⟩)] #[]) (res1 h36 rfl rfl) h36.defs ?_
  exact ⟨by rw [e7];rfl,Sep.tail_un (xs:=[]) hS⟩
 refine wcF h30 rfl (decide_eq_false e7)<|h30.sk [5,4,0,1] rfl fun h31=>sqr fun _ hK11=>bv h31 (z:=.bool (decide (k=8))) rfl (cEq _ _ _ _ rfl) fun _ h32=>mv h32 rfl fun _ h33=>h33.sn [34,5,4,0,1] rfl fun h34=>hK11 _ _ ?_
 by_cases e8:k=8
 ·refine wcT h34 rfl (decide_eq_true e8)<|h34.sk [5,4,0,1] rfl fun h35=>sqr fun _ hK12=>mv h35 rfl fun _ h36=>sv1 h36 rfl (rfunc h36 (xs:=[.tmp 36]) (ys:=[]) rfl (vs:=[.pointer (some ⟨cf,0,none⟩)]) (us:=[]) rfl rfl) fun _ h37=>h37.sk [37,36,5,0,1] rfl fun h38=>mv h38 rfl fun _ h39=>h39.sn [4,5,0,1] rfl fun h40=>hK12 _ _<|wp_ret ?_
  try simp only [Exit.then,Exit.inBlock]
  refine retR (v:=.func (.func 62) #[.pointer (some ⟨cf,0,none⟩)] #[]) (res1 h40 rfl rfl) h40.defs ?_
  exact ⟨by rw [e8];rfl,Sep.tail_un (xs:=[]) hS⟩
 refine wcF h34 rfl (decide_eq_false e8)<|h34.sk [5,4,0,1] rfl fun h35=>sqr fun _ hK12=>bv h35 (z:=.bool (decide (k=9))) rfl (cEq _ _ _ _ rfl) fun _ h36=>mv h36 rfl fun _ h37=>h37.sn [38,5,4,0,1] rfl fun h38=>hK12 _ _ ?_
 by_cases e9:k=9
 ·refine wcT h38 rfl (decide_eq_true e9)<|h38.sk [5,4,0,1] rfl fun h39=>sqr fun _ hK13=>mv h39 rfl fun _ h40=>sv1 h40 rfl (rfunc h40 (xs:=[.tmp 40]) (ys:=[]) rfl (vs:=[.pointer (some ⟨cf,0,none⟩)]) (us:=[]) rfl rfl) fun _ h41=>h41.sk [41,40,5,0,1] rfl fun h42=>mv h42 rfl fun _ h43=>h43.sn [4,5,0,1] rfl fun h44=>hK13 _ _<|wp_ret ?_
  try simp only [Exit.then,Exit.inBlock]
  refine retR (v:=.func (.func 63) #[.pointer (some ⟨cf,0,none⟩)] #[]) (res1 h44 rfl rfl) h44.defs ?_
  exact ⟨by rw [e9];rfl,Sep.tail_un (xs:=[]) hS⟩
 refine wcF h38 rfl (decide_eq_false e9)<|h38.sk [5,4,0,1] rfl fun h39=>sqr fun _ hK13=>bv h39 (z:=.bool (decide (k=10))) rfl (cEq _ _ _ _ rfl) fun _ h40=>mv h40 rfl fun _ h41=>h41.sn [42,5,4,0,1] rfl fun h42=>hK13 _ _ ?_
 by_cases e10:k=10
 ·refine wcT h42 rfl (decide_eq_true e10)<|h42.sk [5,4,0,1] rfl fun h43=>sqr fun _ hK14=>mv h43 rfl fun _ h44=>sv1 h44 rfl (rfunc h44 (xs:=[.tmp 44]) (ys:=[]) rfl (vs:=[.pointer (some ⟨cf,0,none⟩)]) (us:=[]) rfl rfl) fun _ h45=>h45.sk [45,44,5,0,1] rfl fun h46=>mv h46 rfl fun _ h47=>h47.sn [4,5,0,1] rfl fun h48=>hK14 _ _<|wp_ret ?_
  try simp only [Exit.then,Exit.inBlock]
  refine retR (v:=.func (.func 64) #[.pointer (some ⟨cf,0,none⟩)] #[]) (res1 h48 rfl rfl) h48.defs ?_
  exact ⟨by rw [e10];rfl,Sep.tail_un (xs:=[]) hS⟩
 refine wcF h42 rfl (decide_eq_false e10)<|h42.sk [5,4,0,1] rfl fun h43=>sqr fun _ hK14=>bv h43 (z:=.bool (decide (k=11))) rfl (cEq _ _ _ _ rfl) fun _ h44=>mv h44 rfl fun _ h45=>h45.sn [46,5,4,0,1] rfl fun h46=>hK14 _ _ ?_
 by_cases e11:k=11
 ·refine wcT h46 rfl (decide_eq_true e11)<|h46.sk [5,4,0,1] rfl fun h47=>sqr fun _ hK15=>mv h47 rfl fun _ h48=>sv1 h48 rfl (rfunc h48 (xs:=[.tmp 48]) (ys:=[]) rfl (vs:=[.pointer (some ⟨cf,0,none⟩)]) (us:=[]) rfl rfl) fun _ h49=>h49.sk [49,48,5,0,1] rfl fun h50=>mv h50 rfl fun _ h51=>h51.sn [4,5,0,1] rfl fun h52=>hK15 _ _<|wp_ret ?_
  try simp only [Exit.then,Exit.inBlock]
  refine retR (v:=.func (.func 65) #[.pointer (some ⟨cf,0,none⟩)] #[]) (res1 h52 rfl rfl) h52.defs ?_
  exact ⟨by rw [e11];rfl,Sep.tail_un (xs:=[]) hS⟩
 refine wcF h46 rfl (decide_eq_false e11)<|h46.sk [5,4,0,1] rfl fun h47=>sqr fun _ hK15=>bv h47 (z:=.bool (decide (k=12))) rfl (cEq _ _ _ _ rfl) fun _ h48=>mv h48 rfl fun _ h49=>h49.sn [50,5,4,0,1] rfl fun h50=>hK15 _ _ ?_
 by_cases e12:k=12
 ·refine wcT h50 rfl (decide_eq_true e12)<|h50.sk [5,4,0,1] rfl fun h51=>sqr fun _ hK16=>mv h51 rfl fun _ h52=>sv1 h52 rfl (rfunc h52 (xs:=[.tmp 52]) (ys:=[]) rfl (vs:=[.pointer (some ⟨cf,0,none⟩)]) (us:=[]) rfl rfl) fun _ h53=>h53.sk [53,52,5,0,1] rfl fun h54=>mv h54 rfl fun _ h55=>h55.sn [4,5,0,1] rfl fun h56=>hK16 _ _<|wp_ret ?_
  try simp only [Exit.then,Exit.inBlock]
  refine retR (v:=.func (.func 66) #[.pointer (some ⟨cf,0,none⟩)] #[]) (res1 h56 rfl rfl) h56.defs ?_
  exact ⟨by rw [e12];rfl,Sep.tail_un (xs:=[]) hS⟩
 refine wcF h50 rfl (decide_eq_false e12)<|h50.sk [5,4,0,1] rfl fun h51=>sqr fun _ hK16=>bv h51 (z:=.bool (decide (k=13))) rfl (cEq _ _ _ _ rfl) fun _ h52=>mv h52 rfl fun _ h53=>h53.sn [54,5,4,0,1] rfl fun h54=>hK16 _ _ ?_
 have e13:k=13:=by omega
 refine wcT h54 rfl (decide_eq_true e13)<|h54.sk [5,4,0,1] rfl fun h55=>sqr fun _ hK17=>mv h55 rfl fun _ h56=>sv1 h56 rfl (rfunc h56 (xs:=[.tmp 56]) (ys:=[]) rfl (vs:=[.pointer (some ⟨cf,0,none⟩)]) (us:=[]) rfl rfl) fun _ h57=>h57.sk [57,56,5,0,1] rfl fun h58=>mv h58 rfl fun _ h59=>h59.sn [4,5,0,1] rfl fun h60=>hK17 _ _<|wp_ret ?_
 try simp only [Exit.then,Exit.inBlock]
 refine retR (v:=.func (.func 67) #[.pointer (some ⟨cf,0,none⟩)] #[]) (res1 h60 rfl rfl) h60.defs ?_
 exact ⟨by rw [e13];rfl,Sep.tail_un (xs:=[]) hS⟩

set_option maxHeartbeats 4000000 in
theorem method0_c {w:World} {R:List Ch} {cf:Nat} {k:Int} (hk:k<1∨k>13) (hS0:Sep w R) :
  CallsR Tryz.prog 51 #[.pointer (some ⟨cf,0,none⟩),.int .i64 k] w (fun v w'=>v=.nilFunc∧Sep w' R):=by
 have hS:Sep w [Ch.many R]:=Sep.tail_many (xs:=[]) hS0;clear hS0
 refine enterR Tryz.func51 rfl (N:=58) Tryz.ntmps51 (by show 2≤58;decide) [(0,.pointer (some ⟨cf,0,none⟩)),(1,.int .i64 k)] rfl fun _ h1=>sqr fun _ hK3=>mv h1 rfl fun _ h4=>wpList_nil<|hK3 _ _<|sq fun _ hK6=>sqr fun _ hK7=>mv h4 rfl fun _ h8=>wpList_nil<|hK7 _ _<|wp_block ?_
 refine sqr fun _ hK1=>bv h8 (z:=.bool (decide (k=1))) rfl (cEq _ _ _ _ rfl) fun _ h2=>mv h2 rfl fun _ h3=>h3.sn [6,5,4,0,1] rfl fun h5=>hK1 _ _<|wcF h5 rfl (decide_eq_false (by omega)) ?_
 refine h5.sk [5,4,0,1] rfl fun h6=>sqr fun _ hK2=>bv h6 (z:=.bool (decide (k=2))) rfl (cEq _ _ _ _ rfl) fun _ h7=>mv h7 rfl fun _ h9=>h9.sn [10,5,4,0,1] rfl fun h10=>hK2 _ _<|wcF h10 rfl (decide_eq_false (by omega)) ?_
 refine h10.sk [5,4,0,1] rfl fun h11=>sqr fun _ hK4=>bv h11 (z:=.bool (decide (k=3))) rfl (cEq _ _ _ _ rfl) fun _ h12=>mv h12 rfl fun _ h13=>h13.sn [14,5,4,0,1] rfl fun h14=>hK4 _ _<|wcF h14 rfl (decide_eq_false (by omega)) ?_
 refine h14.sk [5,4,0,1] rfl fun h15=>sqr fun _ hK5=>bv h15 (z:=.bool (decide (k=4))) rfl (cEq _ _ _ _ rfl) fun _ h16=>mv h16 rfl fun _ h17=>h17.sn [18,5,4,0,1] rfl fun h18=>hK5 _ _<|wcF h18 rfl (decide_eq_false (by omega)) ?_
 refine h18.sk [5,4,0,1] rfl fun h19=>sqr fun _ hK8=>bv h19 (z:=.bool (decide (k=5))) rfl (cEq _ _ _ _ rfl) fun _ h20=>mv h20 rfl fun _ h21=>h21.sn [22,5,4,0,1] rfl fun h22=>hK8 _ _<|wcF h22 rfl (decide_eq_false (by omega)) ?_
 refine h22.sk [5,4,0,1] rfl fun h23=>sqr fun _ hK9=>bv h23 (z:=.bool (decide (k=6))) rfl (cEq _ _ _ _ rfl) fun _ h24=>mv h24 rfl fun _ h25=>h25.sn [26,5,4,0,1] rfl fun h26=>hK9 _ _<|wcF h26 rfl (decide_eq_false (by omega)) ?_
 refine h26.sk [5,4,0,1] rfl fun h27=>sqr fun _ hK10=>bv h27 (z:=.bool (decide (k=7))) rfl (cEq _ _ _ _ rfl) fun _ h28=>mv h28 rfl fun _ h29=>h29.sn [30,5,4,0,1] rfl fun h30=>hK10 _ _<|wcF h30 rfl (decide_eq_false (by omega)) ?_
 refine h30.sk [5,4,0,1] rfl fun h31=>sqr fun _ hK11=>bv h31 (z:=.bool (decide (k=8))) rfl (cEq _ _ _ _ rfl) fun _ h32=>mv h32 rfl fun _ h33=>h33.sn [34,5,4,0,1] rfl fun h34=>hK11 _ _<|wcF h34 rfl (decide_eq_false (by omega)) ?_
 refine h34.sk [5,4,0,1] rfl fun h35=>sqr fun _ hK12=>bv h35 (z:=.bool (decide (k=9))) rfl (cEq _ _ _ _ rfl) fun _ h36=>mv h36 rfl fun _ h37=>h37.sn [38,5,4,0,1] rfl fun h38=>hK12 _ _<|wcF h38 rfl (decide_eq_false (by omega)) ?_
 refine h38.sk [5,4,0,1] rfl fun h39=>sqr fun _ hK13=>bv h39 (z:=.bool (decide (k=10))) rfl (cEq _ _ _ _ rfl) fun _ h40=>mv h40 rfl fun _ h41=>h41.sn [42,5,4,0,1] rfl fun h42=>hK13 _ _<|wcF h42 rfl (decide_eq_false (by omega)) ?_
 refine h42.sk [5,4,0,1] rfl fun h43=>sqr fun _ hK14=>bv h43 (z:=.bool (decide (k=11))) rfl (cEq _ _ _ _ rfl) fun _ h44=>mv h44 rfl fun _ h45=>h45.sn [46,5,4,0,1] rfl fun h46=>hK14 _ _<|wcF h46 rfl (decide_eq_false (by omega)) ?_
 refine h46.sk [5,4,0,1] rfl fun h47=>sqr fun _ hK15=>bv h47 (z:=.bool (decide (k=12))) rfl (cEq _ _ _ _ rfl) fun _ h48=>mv h48 rfl fun _ h49=>h49.sn [50,5,4,0,1] rfl fun h50=>hK15 _ _<|wcF h50 rfl (decide_eq_false (by omega)) ?_
 refine h50.sk [5,4,0,1] rfl fun h51=>sqr fun _ hK16=>bv h51 (z:=.bool (decide (k=13))) rfl (cEq _ _ _ _ rfl) fun _ h52=>mv h52 rfl fun _ h53=>h53.sn [54,5,4,0,1] rfl fun h54=>hK16 _ _<|wcF h54 rfl (decide_eq_false (by omega)) ?_
 refine h54.sk [5,4,0,1] rfl fun h55=>wp_skip<|hK6 _ _<|sqr fun _ hK17=>h55.sk [5,0,1] rfl fun h56=>mv h56 rfl fun _ h57=>wpList_nil<|hK17 _ _<|wp_ret ?_
 try simp only [Exit.then,Exit.inBlock]
 refine retR (v:=.nilFunc) (res1 h57 rfl rfl) h57.defs ?_
 exact ⟨rfl,Sep.tail_un (xs:=[]) hS⟩

end Go.Proofs.YtpdjnefgkcmdnaaGreatDoor
/- the code's Do, Drop, New (sx/ptG.py) -/
namespace Go.Proofs.YtpdjnefgkcmdnaaGreatDoor
open Go.RowKit
set_option linter.unusedSimpArgs false
set_option linter.unusedVariables false
set_option maxRecDepth 100000

theorem r0_of {r:RepM} (h:r.e=0):r0 r=r:=by cases r;simp only at h;subst h;rfl
theorem errV {r:RepM} (h:r=errR r.e):(.agg #[.int .i64 r.e,.int .i64 0,.string (strB []),.slice none 0 0,.int .i64 0,.int .i64 0,.int .i64 0]:Value)=repV r none 0:=by
 generalize r.e=e at h ⊢
 subst h;rfl
def ErrOk (p:FsM×RepM):Prop:=p.2.e≠0→p.2=errR p.2.e
theorem err1 {F:FsM} {c fl:Int} {X:List UInt8}:ErrOk (openF F c X fl):=by
 unfold openF ErrOk;(repeat' split)<;>first | exact fun _=>rfl | exact fun h=>absurd rfl h
theorem err2 {F:FsM} {c fd:Int}:ErrOk (closeF F c fd):=by
 unfold closeF ErrOk;(repeat' split)<;>first | exact fun _=>rfl | exact fun h=>absurd rfl h
theorem err3 {F:FsM} {c fd off n:Int}:ErrOk (readF F c fd off n):=by
 unfold readF ErrOk;(repeat' split)<;>first | exact fun _=>rfl | exact fun h=>absurd rfl h
theorem err4 {F:FsM} {c fd off:Int} {b:List UInt8}:ErrOk (writeF F c fd off b):=by
 unfold writeF ErrOk;(repeat' split)<;>first | exact fun _=>rfl | exact fun h=>absurd rfl h
theorem err5 {F:FsM} {c fd n:Int}:ErrOk (truncF F c fd n):=by
 unfold truncF ErrOk;(repeat' split)<;>first | exact fun _=>rfl | exact fun h=>absurd rfl h
theorem err6 {F:FsM} {c fd:Int}:ErrOk (syncF F c fd):=by
 unfold syncF ErrOk;(repeat' split)<;>first | exact fun _=>rfl | exact fun h=>absurd rfl h
theorem err7 {F:FsM} {X:List UInt8}:ErrOk (mkdirF F X):=by
 unfold mkdirF ErrOk;(repeat' split)<;>first | exact fun _=>rfl | exact fun h=>absurd rfl h
theorem err8 {F:FsM} {X:List UInt8}:ErrOk (rmdirF F X):=by
 unfold rmdirF ErrOk;(repeat' split)<;>first | exact fun _=>rfl | exact fun h=>absurd rfl h
theorem err9 {F:FsM} {X Y:List UInt8}:ErrOk (linksF F X Y):=by
 unfold linksF ErrOk;(repeat' split)<;>first | exact fun _=>rfl | exact fun h=>absurd rfl h
theorem err10 {F:FsM} {X:List UInt8}:ErrOk (unlinkF F X):=by
 unfold unlinkF ErrOk;(repeat' split)<;>first | exact fun _=>rfl | exact fun h=>absurd rfl h
theorem err11a {F:FsM} {X:List UInt8} {d n:Nat} {s:ByteArray}:ErrOk (renamedF F X d s n):=by
 unfold renamedF ErrOk;(repeat' split)<;>first | exact fun _=>rfl | exact fun h=>absurd rfl h
theorem err11 {F:FsM} {X Y:List UInt8}:ErrOk (renameF F X Y):=by
 unfold renameF ErrOk;(repeat' split)<;>first | exact err11a | exact fun _=>rfl
theorem err12 {F:FsM} {X:List UInt8}:ErrOk (listF F X):=by
 unfold listF ErrOk;(repeat' split)<;>first | exact fun _=>rfl | exact fun h=>absurd rfl h
theorem err13 {F:FsM} {X:List UInt8}:ErrOk (statF F X):=by
 unfold statF ErrOk;(repeat' split)<;>first | exact fun _=>rfl | exact fun h=>absurd rfl h
def dropK (F:FsM) (c:Int) (i:Nat):FsM:={ F with O:=F.O.filter fun x=>!decide (x.cl=c∧x.fd<(i:Int)∧0≤x.fd) }
def fsE:FsM:=⟨[],[],[]⟩
def adE:AdM:=⟨fun _=>0,fun _=>0,fun _=>0,0,0⟩
theorem new_code {w:World} {R:List Ch} {g b:Nat} (h:Sep w (blkC g 101 [.int .i64 2,.int .i64 1,.string (strB []),.map (some b)]::mapC KN b 0 (fun _=>none)::R)):Sep w (nodX fs0 (adE.new 0 g b)::R):=by
 have hE:NdP fsE.nE adE.nC w:=⟨fun k hk=>absurd hk (Nat.not_lt_zero _),fun k hk=>absurd hk (Nat.not_lt_zero _),fun j k hj=>absurd hj (Nat.not_lt_zero _),fun j k hj=>absurd hj (Nat.not_lt_zero _)⟩
 have z:Sep w (nodX fsE adE::blkC g 101 [.int .i64 2,.int .i64 1,.string (strB []),.map (some b)]::mapC KN b 0 (fun _=>none)::R):=
  Sep.cons (c:=nodX fsE adE) hE h (fun i d _ q ⟨k,hk,_⟩=>absurd hk (Nat.not_lt_zero _))
 have z2:Sep w (blkC g 101 [.int .i64 2,.int .i64 1,.string (strB []),.map (some b)]::mapC KN b 0 (fun _=>none)::nodX fsE adE::[Ch.many R]):=
  (Sep.tail_many (xs:=[_,_,_]) z).pick [1,2,0,3] (by decide) rfl
 exact Sep.tail_un (xs:=[_]) (Sep.joinD (F:=fsE) (.inr rfl) z2)
theorem new_ad (g b:Nat):AdOk fs0 (adE.new 0 g b) 0:=by
 refine ⟨fun k hd hr=>?_,Nat.le_refl _,Nat.le_refl _⟩
 rcases hr with e | ⟨x,hx,_⟩
 ·rw [e]
  show (if (0:Nat)=0 then (1:Int) else adE.ld 0)=1
  exact if_pos rfl
 ·cases hx


set_option maxHeartbeats 4000000 in
theorem kinds_c {cf ob n:Nat} {F:FsM} {A:AdM} {c:Int} {x:CallM} (hfo:FsOk F) (hA:AdOk F A n) (hn:n≤900) (hs:SmS F) (h1:x.p1.length≤1000) (h2:x.p2.length≤1000) (h3:x.data.length≤1000) (hwx:wfD (c,x.fd)) (hcl:1≤c∧c≤8) (hk:1≤x.kind∧x.kind≤13):∃ (f:FuncId) (p:FsM×RepM),
  (∀ (w:World) (R:List Ch),Sep w R→CallsR Tryz.prog 51 #[.pointer (some ⟨cf,0,none⟩),.int .i64 x.kind] w (fun v w'=>v=.func (.func f) #[.pointer (some ⟨cf,0,none⟩)] #[]∧Sep w' R)) ∧
  (∀ (args:Array Value) (w:World),(callFunc f args).run Tryz.prog w=.ok (.enter f args) w) ∧
  (∀ (w:World) (R:List Ch),Sep w (cP cf ob F A++R)→CallsR Tryz.prog f #[.pointer (some ⟨cf,0,none⟩),.int .i64 c,.agg (cL x).toArray] w (fun v w'=>∃ A' sa sc,v=.tuple #[repV (r0 p.2) sa sc,.int .i64 p.2.e]∧Sep w' (ownC 0 9 1 sa p.2.names.length sc (p.2.names.flatMap sE)::cP cf ob p.1 A'++R)∧AdOk p.1 A' (n+1)))∧ErrOk p∧doF F c x=p:=by
 rcases (show x.kind=1∨x.kind=2∨x.kind=3∨x.kind=4∨x.kind=5∨x.kind=6∨x.kind=7∨x.kind=8∨x.kind=9∨x.kind=10∨x.kind=11∨x.kind=12∨x.kind=13 by omega) with h | h | h | h | h | h | h | h | h | h | h | h | h
 ·exact ⟨55,openF F c x.p1 x.fl,fun w R s=>by rw [h];exact method_c (k:=1) (by omega) s,cz_posix_Fs_doOpen,fun w R s=>doOpen_c (A:=A) (F:=F) (x:=x) s hfo hA hn hs h1 h2 h3 hwx hcl,err1,by unfold doF;rw [if_neg (by omega)];unfold kindF;rw [if_pos (by omega)]⟩
 ·exact ⟨56,closeF F c x.fd,fun w R s=>by rw [h];exact method_c (k:=2) (by omega) s,cz_posix_Fs_doClose,fun w R s=>doClose_c (A:=A) (F:=F) (x:=x) s hfo hA hn hs h1 h2 h3 hwx hcl,err2,by unfold doF;rw [if_neg (by omega)];unfold kindF;rw [if_neg (by omega),if_pos (by omega)]⟩
 ·exact ⟨57,readF F c x.fd x.off x.n,fun w R s=>by rw [h];exact method_c (k:=3) (by omega) s,cz_posix_Fs_doRead,fun w R s=>doRead_c (A:=A) (F:=F) (x:=x) s hfo hA hn hs h1 h2 h3 hwx hcl,err3,by unfold doF;rw [if_neg (by omega)];unfold kindF;rw [if_neg (by omega),if_neg (by omega),if_pos (by omega)]⟩
 ·exact ⟨58,writeF F c x.fd x.off x.data,fun w R s=>by rw [h];exact method_c (k:=4) (by omega) s,cz_posix_Fs_doWrite,fun w R s=>doWrite_c (A:=A) (F:=F) (x:=x) s hfo hA hn hs h1 h2 h3 hwx hcl,err4,by unfold doF;rw [if_neg (by omega)];unfold kindF;rw [if_neg (by omega),if_neg (by omega),if_neg (by omega),if_pos (by omega)]⟩
 ·exact ⟨59,truncF F c x.fd x.n,fun w R s=>by rw [h];exact method_c (k:=5) (by omega) s,cz_posix_Fs_doTrunc,fun w R s=>doTrunc_c (A:=A) (F:=F) (x:=x) s hfo hA hn hs h1 h2 h3 hwx hcl,err5,by unfold doF;rw [if_neg (by omega)];unfold kindF;rw [if_neg (by omega),if_neg (by omega),if_neg (by omega),if_neg (by omega),if_pos (by omega)]⟩
 ·exact ⟨60,syncF F c x.fd,fun w R s=>by rw [h];exact method_c (k:=6) (by omega) s,cz_posix_Fs_doSync,fun w R s=>doSync_c (A:=A) (F:=F) (x:=x) s hfo hA hn hs h1 h2 h3 hwx hcl,err6,by unfold doF;rw [if_neg (by omega)];unfold kindF;rw [if_neg (by omega),if_neg (by omega),if_neg (by omega),if_neg (by omega),if_neg (by omega),if_pos (by omega)]⟩
 ·exact ⟨61,mkdirF F x.p1,fun w R s=>by rw [h];exact method_c (k:=7) (by omega) s,cz_posix_Fs_doMkdir,fun w R s=>doMkdir_c (A:=A) (F:=F) (x:=x) s hfo hA hn hs h1 h2 h3 hwx hcl,err7,by unfold doF;rw [if_neg (by omega)];unfold kindF;rw [if_neg (by omega),if_neg (by omega),if_neg (by omega),if_neg (by omega),if_neg (by omega),if_neg (by omega),if_pos (by omega)]⟩
 ·exact ⟨62,rmdirF F x.p1,fun w R s=>by rw [h];exact method_c (k:=8) (by omega) s,cz_posix_Fs_doRmdir,fun w R s=>doRmdir_c (A:=A) (F:=F) (x:=x) s hfo hA hn hs h1 h2 h3 hwx hcl,err8,by unfold doF;rw [if_neg (by omega)];unfold kindF;rw [if_neg (by omega),if_neg (by omega),if_neg (by omega),if_neg (by omega),if_neg (by omega),if_neg (by omega),if_neg (by omega),if_pos (by omega)]⟩
 ·exact ⟨63,linksF F x.p1 x.p2,fun w R s=>by rw [h];exact method_c (k:=9) (by omega) s,cz_posix_Fs_doLink,fun w R s=>doLink_c (A:=A) (F:=F) (x:=x) s hfo hA hn hs h1 h2 h3 hwx hcl,err9,by unfold doF;rw [if_neg (by omega)];unfold kindF;rw [if_neg (by omega),if_neg (by omega),if_neg (by omega),if_neg (by omega),if_neg (by omega),if_neg (by omega),if_neg (by omega),if_neg (by omega),if_pos (by omega)]⟩
 ·exact ⟨64,unlinkF F x.p1,fun w R s=>by rw [h];exact method_c (k:=10) (by omega) s,cz_posix_Fs_doUnlink,fun w R s=>doUnlink_c (A:=A) (F:=F) (x:=x) s hfo hA hn hs h1 h2 h3 hwx hcl,err10,by unfold doF;rw [if_neg (by omega)];unfold kindF;rw [if_neg (by omega),if_neg (by omega),if_neg (by omega),if_neg (by omega),if_neg (by omega),if_neg (by omega),if_neg (by omega),if_neg (by omega),if_neg (by omega),if_pos (by omega)]⟩
 ·exact ⟨65,renameF F x.p1 x.p2,fun w R s=>by rw [h];exact method_c (k:=11) (by omega) s,cz_posix_Fs_doRename,fun w R s=>doRename_c (A:=A) (F:=F) (x:=x) s hfo hA hn hs h1 h2 h3 hwx hcl,err11,by unfold doF;rw [if_neg (by omega)];unfold kindF;rw [if_neg (by omega),if_neg (by omega),if_neg (by omega),if_neg (by omega),if_neg (by omega),if_neg (by omega),if_neg (by omega),if_neg (by omega),if_neg (by omega),if_neg (by omega),if_pos (by omega)]⟩
 ·exact ⟨66,listF F x.p1,fun w R s=>by rw [h];exact method_c (k:=12) (by omega) s,cz_posix_Fs_doList,fun w R s=>doList_c (A:=A) (F:=F) (x:=x) s hfo hA hn hs h1 h2 h3 hwx hcl,err12,by unfold doF;rw [if_neg (by omega)];unfold kindF;rw [if_neg (by omega),if_neg (by omega),if_neg (by omega),if_neg (by omega),if_neg (by omega),if_neg (by omega),if_neg (by omega),if_neg (by omega),if_neg (by omega),if_neg (by omega),if_neg (by omega),if_pos (by omega)]⟩
 ·exact ⟨67,statF F x.p1,fun w R s=>by rw [h];exact method_c (k:=13) (by omega) s,cz_posix_Fs_doStat,fun w R s=>doStat_c (A:=A) (F:=F) (x:=x) s hfo hA hn hs h1 h2 h3 hwx hcl,err13,by unfold doF;rw [if_neg (by omega)];unfold kindF;rw [if_neg (by omega),if_neg (by omega),if_neg (by omega),if_neg (by omega),if_neg (by omega),if_neg (by omega),if_neg (by omega),if_neg (by omega),if_neg (by omega),if_neg (by omega),if_neg (by omega),if_neg (by omega),if_pos (by omega)]⟩
set_option maxHeartbeats 4000000 in
theorem do_c {w:World} {cf ob n:Nat} {F:FsM} {A:AdM} {R:List Ch} {c:Int} {x:CallM} (hS0:Sep w ((cP cf ob F A)++R)) (hfo:FsOk F) (hA:AdOk F A n) (hn:n≤900) (hs:SmS F) (h1:x.p1.length≤1000) (h2:x.p2.length≤1000) (h3:x.data.length≤1000) (hxf:(Lit.int .i64 x.fd).wf=true) :
  CallsR Tryz.prog 44 #[.pointer (some ⟨cf,0,none⟩),.int .i64 c,.agg (cL x).toArray] w (fun v w'=>∃ A' sa sc,v=repV (doF F c x).2 sa sc∧Sep w' (ownC 0 9 1 sa (doF F c x).2.names.length sc ((doF F c x).2.names.flatMap sE)::(cP cf ob ((doF F c x).1) A')++R)∧AdOk (doF F c x).1 A' (n+1)):=by
 have hS:=Sep.tail_many (xs:=cP cf ob F A) hS0;clear hS0
 have hz:SmF F:=hs.sm;have hok:=hfo.toFsC
 have hz0:=hz;obtain ⟨hz1,hz2,hz3⟩:F.N.length≤1000∧F.E.length≤1000∧F.O.length≤1000:=hz
 refine enterR Tryz.func44 rfl (N:=36) Tryz.ntmps44 (by show 3≤36;decide) [(0,.pointer (some ⟨cf,0,none⟩)),(1,.int .i64 c),(2,.agg (cL x).toArray)] rfl fun _ h1=>sqr fun _ hK3=>so (wanted_none rfl) fun _ hK1=>xbox h1 rfl rfl rfl rfl rfl (z:=(cL x)) rfl hS fun _ g4 w7 h5 s8 _ _=>hK1 _ _ ?_
 refine so (wanted_none rfl) fun _ hK2=>xalloc h5 rfl rfl rfl rfl (z:=zL) (fun _=>rfl) s8 fun _ g1 w1 h4 s1 _ _=>hK2 _ _ ?_
 refine wpList_nil<|hK3 _ _<|sq fun _ hK4=>sqr fun _ hK5=>mv h4 rfl fun _ h6=>bv h6 (z:=.bool (decide (c<1))) rfl (cLt _ _ _ _ rfl) fun _ h7=>mv h7 rfl fun _ h8=>sg h8 (wF h8 rfl rfl rfl) rfl rfl rfl (fun hC1=>by have hq:=(dF (notT hC1));exact rmove h8 rfl rfl _) fun _ h9=>sg h9 (wF h9 rfl rfl rfl) rfl rfl rfl (fun hC2=>by have hq:=(dF (notT hC2));exact rbin h9 rfl (opg rfl hC2) rfl (cGt _ _ _ _ rfl) _) fun _ h10=>sv1 h10 rfl (rpickO h10 rfl (E:=(decide (c<1))) (F:=(decide (c>8))) rfl rfl rfl (fun e=>if_pos (by rw [e];try rfl))) fun _ h11=>h11.sk [15,6,5,0,1,2] rfl fun h12=>?_
 clear h1
 refine wpList_nil<|hK5 _ _ ?_
 rcases bC ((decide (c<1))||(decide (c>8))) with hc1 | hc1
 ·skip
  have hp1:(c<1)∨(c>8):=((orT hc1).imp (fun q=>(dT q)) (fun q=>(dT q)))
  refine wcT h12 rfl hc1<|h12.sk [6,5,0,1,2] rfl fun h13=>sqr fun _ hK6=>bu h13 (v:=.agg #[.int .i64 1,.int .i64 0,.string (strB []),.slice none 0 0,.int .i64 0,.int .i64 0,.int .i64 0]) rfl (fun w=>by kernel_rfl) fun _ h14=>stA h14 s1 0 rfl rfl rfl (by kernel_rfl) rfl rfl rfl rfl fun _ w2 h15 s2 _=>h15.sn [6,5,0,1,2] rfl fun h16=>hK6 _ _<|wp_ret ?_
  try simp only [Exit.then,Exit.inBlock]
  refine rC h16 s2 0 Tryz.underlying28 rfl rfl rfl rfl ?_
  have hq1:doF F c x=(F,errR 1):=bx
  rw [hq1]
  exact ⟨A,none,0,rfl,(Sep.tail_un (xs:=[_,_,_]) (s2.pk [2,3,4,5] rfl)).ownNil 0 9 1,hA.mono⟩
 ·skip
  have hp2:(¬ (c<1))∧(¬ (c>8)):=(And.intro (dF (orF hc1).1) (dF (orF hc1).2))
  refine wcF h12 rfl hc1<|h12.sk [6,5,0,1,2] rfl fun h17=>wp_skip<|hK4 _ _<|sq fun _ hK7=>?_
  have hcl:1≤c∧c≤8:=by omega
  have hwx:wfD (c,x.fd):=⟨wf_i64 (by omega) (by omega),hxf⟩
  refine wp_region_lit<|mv h17 rfl fun _ h18=>fav h18 rfl (fz_api_Call_0 _ _) fun _ h19=>ldv h19 s1 1 Tryz.underlying3 rfl rfl rfl rfl fun _ h20=>?_
  by_cases hk:1≤x.kind∧x.kind≤13
  ·obtain ⟨f,p,hm,hcp,hact,herr,hdo⟩:=kinds_c (cf:=cf) (ob:=ob) hfo hA hn hs h1 h2 h3 hwx hcl hk
   refine cl h20 rfl cz_posix_Fs_method (hm _ _ s1) fun _ v1 w3 r1 h21=>?_
   obtain ⟨rfl,s3⟩:=r1
   refine mv h21 rfl fun _ h22=>h22.sn [7,6,5,0,1,2] rfl fun h23=>hK7 _ _<|sq fun _ hK8=>sqr fun _ hK9=>mv h23 rfl fun _ h24=>bv h24 rfl (bFunN _ Tryz.underlying105 _ _ _ _ _) fun _ h25=>h25.sn [22,7,6,5,0,1,2] rfl fun h26=>hK9 _ _<|wcF h26 rfl rfl<|h26.sk [7,6,5,0,1,2] rfl fun h27=>?_
   refine wp_skip<|hK8 _ _<|sqr fun _ hK10=>mvs 2 h27 rfl fun _ h28=>sw1 h28 rfl (v:=.agg (cL x).toArray) (rld h28 rfl rfl (ldA Tryz.underlying33 rfl (n:=8) (by kernel_rfl) (s3.get 1 rfl:Blk _ _ _ _) rfl rfl)) fun _ h29=>cl h29 rfl hcp (hact _ _ (s3.pk [2,3,4,0,1,5] rfl)) fun _ v2 w4 r2 h30=>?_
   obtain ⟨Ax88,sax89,scx90,rfl,s4,hAk95⟩:=r2
   refine mvs 3 h30 rfl fun _ h31=>so (wanted_none rfl) fun _ hK11=>xalloc h31 rfl rfl rfl rfl (z:=zL) (fun _=>rfl) s4 fun _ g2 w5 h32 s5 _ _=>hK11 _ _ ?_
   refine stA h32 s5 0 rfl rfl rfl (by kernel_rfl) rfl rfl rfl rfl fun _ w6 h33 s6 _=>mv h33 rfl fun _ h34=>h34.sn [9,8,7,6,5,0,1,2] rfl fun h35=>hK10 _ _<|sq fun _ hK12=>sqr fun _ hK13=>mv h35 rfl fun _ h36=>bv h36 (z:=.bool (decide (p.2.e≠0))) rfl (cNe _ _ _ _ rfl) fun _ h37=>h37.sn [32,9,8,7,6,5,0,1,2] rfl fun h38=>hK13 _ _ ?_
   rcases bC (decide (p.2.e≠0)) with hc2 | hc2
   ·skip
    have hp3:p.2.e≠0:=(dT hc2)
    refine wcT h38 rfl hc2<|h38.sk [9,8,7,6,5,0,1,2] rfl fun h39=>sqr fun _ hK14=>mv h39 rfl fun _ h40=>bu h40 (v:=.agg #[.int .i64 (p.2.e),.int .i64 0,.string (strB []),.slice none 0 0,.int .i64 0,.int .i64 0,.int .i64 0]) rfl (fun w=>by kernel_rfl) fun _ h41=>stA h41 s6 5 rfl rfl rfl (by kernel_rfl) rfl rfl rfl rfl fun _ w8 h42 s7 _=>h42.sn [9,8,7,6,5,0,1,2] rfl fun h43=>hK14 _ _<|wp_ret ?_
    try simp only [Exit.then,Exit.inBlock]
    refine rC h43 s7 5 Tryz.underlying28 rfl rfl rfl rfl ?_
    rw [hdo]
    have he144:p.2=errR p.2.e:=herr (by omega)
    refine ⟨Ax88,none,0,errV he144,?_,hAk95⟩
    show Sep _ (ownC 0 9 1 none p.2.names.length 0 (p.2.names.flatMap sE)::_)
    rw [show p.2.names=[] by rw [he144];rfl];exact (Sep.tail_un (xs:=[_,_,_]) (s7.pk [2,3,4,7] rfl)).ownNil 0 9 1
   ·skip
    have hp4:¬ (p.2.e≠0):=(dF hc2)
    refine wcF h38 rfl hc2<|h38.sk [9,8,7,6,5,0,1,2] rfl fun h44=>wp_skip<|hK12 _ _<|sqr fun _ hK15=>sw1 h44 rfl (rld h44 rfl rfl (ldA Tryz.underlying28 rfl (n:=7) (by kernel_rfl) (s6.get 0 rfl:Blk _ _ _ _) rfl rfl)) fun _ h45=>stA h45 s6 5 rfl rfl rfl (by kernel_rfl) rfl rfl rfl rfl fun _ w9 h46 s9 _=>h46.sn [9,8,7,6,5,0,1,2] rfl fun h47=>hK15 _ _<|wp_ret ?_
    try simp only [Exit.then,Exit.inBlock]
    refine rC h47 s9 5 Tryz.underlying28 rfl rfl rfl rfl ?_
    rw [hdo]
    exact ⟨Ax88,sax89,scx90,(congrArg (fun r=>repV r sax89 scx90) (r0_of (r:=p.2) (by omega))),Sep.tail_un (xs:=[_,_,_,_]) (s9.pk [1,2,3,4,7] rfl),hAk95⟩
  ·skip
   refine cl h20 rfl cz_posix_Fs_method (method0_c (cf:=cf) (k:=x.kind) (by omega) s1) fun _ v3 w10 r3 h48=>?_
   obtain ⟨rfl,s10⟩:=r3
   refine mv h48 rfl fun _ h49=>h49.sn [7,6,5,0,1,2] rfl fun h50=>hK7 _ _<|sq fun _ hK16=>sqr fun _ hK17=>mv h50 rfl fun _ h51=>bv h51 rfl (bFunNN _ Tryz.underlying105 _ _) fun _ h52=>h52.sn [22,7,6,5,0,1,2] rfl fun h53=>hK17 _ _<|wcT h53 rfl rfl<|h53.sk [7,6,5,0,1,2] rfl fun h54=>?_
   refine sqr fun _ hK18=>bu h54 (v:=.agg #[.int .i64 15,.int .i64 0,.string (strB []),.slice none 0 0,.int .i64 0,.int .i64 0,.int .i64 0]) rfl (fun w=>by kernel_rfl) fun _ h55=>stA h55 s10 0 rfl rfl rfl (by kernel_rfl) rfl rfl rfl rfl fun _ w11 h56 s11 _=>h56.sn [7,6,5,0,1,2] rfl fun h57=>hK18 _ _<|wp_ret ?_
   try simp only [Exit.then,Exit.inBlock]
   refine rC h57 s11 0 Tryz.underlying28 rfl rfl rfl rfl ?_
   have hq2:doF F c x=(F,errR 15):=bx
   rw [hq2]
   exact ⟨A,none,0,rfl,(Sep.tail_un (xs:=[_,_,_]) (s11.pk [2,3,4,5] rfl)).ownNil 0 9 1,hA.mono⟩

set_option maxHeartbeats 4000000 in
theorem new_c {w:World} {R:List Ch} (hS0:Sep w R) :
  CallsR Tryz.prog 24 #[] w (fun v w'=>∃ cf ob A,v=.pointer (some ⟨cf,0,none⟩)∧Sep w' ((cP cf ob fs0 A)++R)∧AdOk fs0 A 0):=by
 have hS:Sep w [Ch.many R]:=Sep.tail_many (xs:=[]) hS0;clear hS0
 refine enterR Tryz.func24 rfl (N:=5) Tryz.ntmps24 (by show 0≤5;decide) [] rfl fun _ h1=>sqr fun _ hK3=>mv h1 rfl fun _ h4=>wpList_nil<|hK3 _ _<|sqr fun _ hK6=>cl h4 rfl cz_posix_newDir (newDir_c hS) fun _ v1 w1 r1 h9=>?_
 obtain ⟨gnx7,gmx8,rfl,s1⟩:=r1
 refine so (wanted_none rfl) fun _ hK1=>xmakeMap KO h9 rfl rfl rfl rfl s1 fun _ b1 w2 h2 s2 _ _=>hK1 _ _ ?_
 refine bu h2 (v:=.agg #[.pointer (some ⟨gnx7,0,none⟩),.map (some b1)]) rfl (fun w=>by kernel_rfl) fun _ h3=>so (wanted_none rfl) fun _ hK2=>xbox h3 rfl rfl rfl rfl rfl (z:=[.pointer (some ⟨gnx7,0,none⟩),.map (some b1)]) rfl s2 fun _ g1 w3 h5 s3 _ _=>hK2 _ _ ?_
 refine h5.sk [4,3,2,1] rfl fun h6=>mv h6 rfl fun _ h7=>h7.sn [0] rfl fun h8=>hK6 _ _<|wp_ret ?_
 try simp only [Exit.then,Exit.inBlock]
 refine retR (v:=.pointer (some ⟨g1,0,none⟩)) (res1 h8 rfl rfl) h8.defs ?_
 have z:=new_code (s3.pk [2,3,0,1,4] rfl)
 exact ⟨g1,b1,adE.new 0 gnx7 gmx8,rfl,Sep.tail_un (xs:=[_,_,_]) (z.pk [1,0,2,3] rfl),new_ad _ _⟩

end Go.Proofs.YtpdjnefgkcmdnaaGreatDoor
/- cut, Same, SameReply; asks as an argument (sx/ptH.py) -/
namespace Go.Proofs.YtpdjnefgkcmdnaaGreatDoor
open Go.RowKit
set_option linter.unusedSimpArgs false
set_option linter.unusedVariables false
set_option maxRecDepth 100000

open Go.WideShapes Go.ChangeShapes Go.Deep
def cutX (x:CallM):CallM:={ x with p1:=x.p1.take 60,p2:=x.p2.take 60,data:=x.data.take 100 }
theorem take_both {L M:List ByteArray} {i:Nat} (h1:i<L.length) (h2:i<M.length) (ht:L.take i=M.take i) (he:L.getD i noNm=M.getD i noNm):L.take (i+1)=M.take (i+1):=by
 rw [take_getD h1 noNm,take_getD h2 noNm,ht,he]
theorem take_end {L M:List ByteArray} {i:Nat} (ht:L.take i=M.take i) (h1:L.length≤i) (h2:M.length≤i):L=M:=by
 rw [List.take_of_length_le h1,List.take_of_length_le h2] at ht;exact ht
/-- are answers the same? -/
def sameR (r s:RepM):Bool:=((((decide (r.names=s.names)&&decide (r.e=s.e))&&decide (r.fd=s.fd))&&decide (r.data=s.data))&&(decide (r.kind=s.kind)&&(decide (r.links=s.links)&&decide (r.size=s.size))))
/-- an ask -/
structure AskV where
 cl:Int
 x:CallM
 drop:Bool
def callC (x:CallM):List Value:=(cL x)
def askC (a:AskV):List Value:=.int .i64 a.cl::callC a.x++[.bool a.drop]
def wfX (x:CallM):Prop:=(Lit.int .i64 x.kind).wf=true∧(Lit.int .i64 x.fl).wf=true∧(Lit.int .i64 x.fd).wf=true∧(Lit.int .i64 x.off).wf=true∧(Lit.int .i64 x.n).wf=true
def AskV.wf (a:AskV):Prop:=(Lit.int .i64 a.cl).wf=true∧wfX a.x
theorem open_callE {H:Type} {enc:TypeId×Value→H} {W:World} {base:Nat} {held:Bool} {fuel:Nat} {cs:List Value} {z:DataW H×List MemPlace} (hlen:cs.length=8)
  (ht:DataW.trod enc Tryz.prog W base (fun _=>true) held fuel 33 cs=some z):∃ x,cs=callC x∧wfX x:=by
 have k1:Tryz.prog.cellsOf 3=1:=by kernel_rfl
 have k2:Tryz.prog.cellsOf 9=1:=by kernel_rfl
 obtain ⟨ys,r,_,_,_,hyl,hg⟩:=DataW.trod_struct Tryz.underlying33 ht
 have hyl':ys.length=8:=hyl
 match cs,hlen with
 | [u0,u1,u2,u3,u4,u5,u6,u7],_=>
  have g0:=hg 0 _ rfl
  have g1:=hg 1 _ rfl
  have g2:=hg 2 _ rfl
  have g3:=hg 3 _ rfl
  have g4:=hg 4 _ rfl
  have g5:=hg 5 _ rfl
  have g6:=hg 6 _ rfl
  have g7:=hg 7 _ rfl
  simp [k1,k2] at g0 g1 g2 g3 g4 g5 g6 g7
  rw [List.getElem?_eq_getElem (by omega)] at g0 g1 g2 g3 g4 g5 g6 g7
  obtain ⟨t0,e0,_,w0⟩:=DataW.trod_int Tryz.underlying3 g0
  obtain ⟨t1,e1,_⟩:=DataW.trod_string Tryz.underlying9 g1
  obtain ⟨t2,e2,_⟩:=DataW.trod_string Tryz.underlying9 g2
  obtain ⟨t3,e3,_,w3⟩:=DataW.trod_int Tryz.underlying3 g3
  obtain ⟨t4,e4,_,w4⟩:=DataW.trod_int Tryz.underlying3 g4
  obtain ⟨t5,e5,_,w5⟩:=DataW.trod_int Tryz.underlying3 g5
  obtain ⟨t6,e6,_,w6⟩:=DataW.trod_int Tryz.underlying3 g6
  obtain ⟨t7,e7,_⟩:=DataW.trod_string Tryz.underlying9 g7
  simp only [List.cons.injEq,and_true] at e0 e1 e2 e3 e4 e5 e6 e7
  subst e0 e1 e2 e3 e4 e5 e6 e7
  exact ⟨⟨t0,t1.data.toList,t2.data.toList,t3,t4,t5,t6,t7.data.toList⟩,rfl,w0,w3,w4,w5,w6⟩
def AsksIn (W:World) (a:Option Addr) (n c:Nat) (f:Nat→AskV):Prop:=ExtA W a n c 10 (fun i=>askC (f i))∧∀ i,i<n→(f i).wf
/-- the system behind k asks -/
def askF (F:FsM) (a:AskV):FsM:=if a.drop=true then dropF F a.cl else (doF F a.cl (cutX a.x)).1
def runF (f:Nat→AskV):Nat→FsM
 | 0=>fs0
 | k+1=>askF (runF f k) (f k)
theorem SzF.ss {F:FsM} {n:Nat} (h:SzF F n) (hn:n≤800):SmS F:=⟨by have:=h.1;omega,by have:=h.2.1;omega,by have:=h.2.2;omega⟩
theorem AdOk.drop {F:FsM} {A:AdM} {n:Nat} (h:AdOk F A n) (c:Int):AdOk (dropF F c) A (n+1):=h.unO _
/-- answers have few names -/
theorem do_names {F:FsM} (c:Int) (x:CallM):(doF F c x).2.names.length≤F.E.length:=by
 unfold doF
 split
 ·exact Nat.zero_le _
 ·refine kindF_all (Pr:=fun p=>p.2.names.length≤F.E.length) ?_ ?_ ?_ ?_ ?_ ?_ ?_ ?_ ?_ ?_ ?_ ?_ ?_ (Nat.zero_le _)
  ·unfold openF;(repeat' split)<;>exact Nat.zero_le _
  ·unfold closeF;(repeat' split)<;>exact Nat.zero_le _
  ·unfold readF;(repeat' split)<;>exact Nat.zero_le _
  ·unfold writeF;(repeat' split)<;>exact Nat.zero_le _
  ·unfold truncF;(repeat' split)<;>exact Nat.zero_le _
  ·unfold syncF;(repeat' split)<;>exact Nat.zero_le _
  ·unfold mkdirF;(repeat' split)<;>exact Nat.zero_le _
  ·unfold rmdirF;(repeat' split)<;>exact Nat.zero_le _
  ·unfold linksF;(repeat' split)<;>exact Nat.zero_le _
  ·unfold unlinkF;(repeat' split)<;>exact Nat.zero_le _
  ·unfold renameF renamedF;(repeat' split)<;>exact Nat.zero_le _
  ·unfold listF
   (repeat' split)
   ·show (sortN _).length≤_
    rw [sortN_len];exact namesOf_le _ _
   ·exact Nat.zero_le _
   ·exact Nat.zero_le _
  ·unfold statF;(repeat' split)<;>exact Nat.zero_le _
structure DocA where
 na:Option Addr
 nc:Nat
 ea:Option Addr
 ec:Nat
 oa:Option Addr
 oc:Nat

end Go.Proofs.YtpdjnefgkcmdnaaGreatDoor
