/- Parts of the proof. -/
import Derived.Test.YtcanemamnmmbcaaGreatDoorQaj
namespace Go.Proofs.YtcanemamnmmbcaaGreatDoor
open Go.RowKit
set_option linter.unusedSimpArgs false
set_option linter.unusedVariables false
set_option linter.unusedSectionVars false
set_option maxRecDepth 100000
set_option maxHeartbeats 8000000
section
theorem LE {w:World} {cf ob:Nat} {F:FsM} {A:AdM} {R:List Ch} {δ:Nat→Int} {k0:Nat} (hS0:Sep w ((cP cf ob F A)++R)) (hok:FsC F δ) (hz:SmF F) (hk0:k0<F.N.length) (hd0:F.dir k0=true) :
  CallsR Tryz.prog 80 #[π (A.ad k0)] w (fun v w'=>∃ sa sc,v=.slice sa (AC (Al F.E k0)).length sc∧Sep w' (Ak 0 9 1 sa (AC (Al F.E k0)).length sc ((AC (Al F.E k0)).flatMap sE)::(cP cf ob F A)++R)):=by
 have hS:=Sep.tail_many (xs:=cP cf ob F A) hS0;clear hS0
 have hz0:=hz;obtain ⟨hz1,hz2,hz3⟩:F.N.length≤1000∧F.E.length≤1000∧F.O.length≤1000:=hz
 refine AB Tryz.func80 rfl (N:=9) Tryz.ntmps80 (by show 1≤9;decide) [(0,π (A.ad k0))] rfl fun _ h1=>sqr fun _ hK3=>mv h1 rfl fun _ h4=>wpList_nil<|hK3 _ _<|sqr fun _ hK6=>mvs 2 h4 rfl fun _ h9=>sv1 h9 rfl (rfa h9 rfl rfl (fun w=>AF (A.ad k0) 0 w)) fun _ h2=>sw1 h2 rfl (rld h2 rfl rfl (NdP.c3 (F:=FsM.nE F) (A:=AdM.nC A) (k:=k0) (hS.get 1 rfl:NdP _ _ _) (show k0<F.N.length from ω) hd0 υ95 rfl)) fun _ h3=>cl h3 rfl BU (SI (F:=F) (A:=A) (k:=k0) (hS.pk [1,0,2,3] rfl) ω hd0) fun _ v1 w1 r1 h5=>?_
 obtain ⟨s1,hky21⟩:=r1
 refine cl h5 rfl Ep (Rj (L:=Al F.E k0) s1 hky21 (Ha hok.ed k0) (Pp hok A k0) (by rw [← Hk];exact Nat.le_trans (RC _ _) hz2)) fun _ v2 w2 r2 h6=>?_
 obtain ⟨sa29,sc30,rfl,s2⟩:=r2
 refine h6.sk [8,7,6,5,4,3,0] rfl fun h7=>mv h7 rfl fun _ h8=>h8.sn [2,0] rfl fun h10=>hK6 _ _<|wp_ret ?_
 try simp only [Exit.then,Exit.inBlock]
 refine Bn (v:=.slice sa29 ((AC (Al F.E k0)).length) sc30) (Cf h10 rfl rfl) h10.defs ?_
 exact ⟨sa29,sc30,rfl,Sep.tail_un (xs:=[_,_,_,_]) (s2.pk [0,2,1,3,4] rfl)⟩
theorem Qm {w:World} {cf ob n:Nat} {F:FsM} {A:AdM} {R:List Ch} {c:Int} {x:CallM} (hS0:Sep w ((cP cf ob F A)++R)) (hfo:FsOk F) (hA:AdOk F A n) (hn:n≤900) (hs:SmS F) (h1:x.p1.length≤1000) (h2:x.p2.length≤1000) (h3:x.data.length≤1000) (hwx:wfD (c,x.fd)) (hcl:1≤c∧c≤8) :
  CallsR Tryz.prog 58 #[π cf,ν c,.agg (cL x).toArray] w (fun v w'=>∃ A' sa sc,v=.tuple #[Du (r0 (Cq F x.p1).2) sa sc,ν (Cq F x.p1).2.e]∧Sep w' (Ak 0 9 1 sa (Cq F x.p1).2.names.length sc ((Cq F x.p1).2.names.flatMap sE)::(cP cf ob ((Cq F x.p1).1) A')++R)∧AdOk (Cq F x.p1).1 A' (n+1)):=by
 have hS:=Sep.tail_many (xs:=cP cf ob F A) hS0;clear hS0
 have hz:SmF F:=hs.sm;have hok:=hfo.toFsC
 have hz0:=hz;obtain ⟨hz1,hz2,hz3⟩:F.N.length≤1000∧F.E.length≤1000∧F.O.length≤1000:=hz
 refine AB Tryz.func58 rfl (N:=30) Tryz.ntmps58 (by show 3≤30;decide) [(0,π cf),(1,ν c),(2,.agg (cL x).toArray)] rfl fun _ h1=>sqr fun _ hK3=>so (wn rfl) fun _ hK1=>Cv h1 rfl rfl rfl rfl rfl (z:=(cL x)) rfl hS fun _ g4 w7 h5 s8 _ _=>hK1 _ _ ?_
 refine so (wn rfl) fun _ hK2=>BB h5 rfl rfl rfl rfl (z:=zL) (fun _=>rfl) s8 fun _ g1 w1 h4 s1 _ _=>hK2 _ _ ?_
 refine mv h4 rfl fun _ h6=>h6.sk [7,6,5,0,2] rfl fun h7=>?_
 clear h1
 refine wpList_nil<|hK3 _ _<|sqr fun _ hK4=>mv h7 rfl fun _ h8=>fav h8 rfl (An _ _) fun _ h9=>ldv h9 s1 1 υ9 rfl rfl rfl rfl fun _ h10=>?_
 rcases bC (decide ((Ac F x.p1).1=0)) with hc1 | hc1
 ·skip
  have hp1:(Ac F x.p1).1=0:=(dT hc1)
  have hfl32:=FsC.find_lt (F:=F) hok x.p1
  refine cl h10 rfl AZ (Es (cf:=cf) (A:=A) (F:=F) (s1.pk [2,3,4,0,1,5] rfl) hok hz0 ω ω) fun _ v1 w2 r1 h11=>?_
  obtain ⟨rfl,s2⟩:=r1
  refine mvs 5 h11 rfl fun _ h12=>h12.sn [9,8,7,6,5,0,2] rfl fun h13=>hK4 _ _<|sq fun _ hK5=>sqr fun _ hK6=>mv h13 rfl fun _ h14=>bv h14 rfl (cNe _ _ _ _ rfl) fun _ h15=>h15.sn [18,9,8,7,6,5,0,2] rfl fun h16=>hK6 _ _<|wcF h16 rfl rfl<|h16.sk [9,8,7,6,5,0,2] rfl fun h17=>?_
  refine wp_skip<|hK5 _ _<|sq fun _ hK7=>sqr fun _ hK8=>mvs 2 h17 rfl fun _ h18=>sv1 h18 rfl (rfa h18 rfl rfl (fun w=>Ay (A.ad (Ac F x.p1).2) 0 w)) fun _ h19=>sw1 h19 rfl (rld h19 rfl rfl (NdP.c0 (F:=FsM.nE F) (A:=AdM.nC A) (k:=((Ac F x.p1).2)) (s2.get 1 rfl:NdP _ _ _) (show (Ac F x.p1).2<F.N.length from ω) υ3 rfl)) fun _ h20=>bv h20 (z:=.bool (!(F.dir ((Ac F x.p1).2)))) rfl (cNe _ _ _ _ (Je _)) fun _ h21=>h21.sn [25,9,8,7,6,5,0,2] rfl fun h22=>hK8 _ _ ?_
  rcases bC (F.dir ((Ac F x.p1).2)) with hc2 | hc2
  ·skip
   refine wcF h22 rfl (Bq hc2)<|h22.sk [9,8,7,6,5,0,2] rfl fun h23=>wp_skip<|hK7 _ _<|sqr fun _ hK9=>mv h23 rfl fun _ h24=>cl h24 rfl Dg (LE (cf:=cf) (A:=A) (F:=F) s2 hok hz0 ω hc2) fun _ v2 w3 r2 h25=>?_
   obtain ⟨sax78,scx79,rfl,s3⟩:=r2
   refine bu h25 (v:=.agg #[ν 0,ν 0,σ [],.slice sax78 ((AC (Al F.E ((Ac F x.p1).2))).length) scx79,ν 0,ν 0,ν 0]) rfl (fun w=>κ) fun _ h26=>stA h26 s3 4 rfl rfl rfl κ rfl rfl rfl rfl fun _ w4 h27 s4 _=>h27.sk [29,28,27,9,8,6,5,0,2] rfl fun h28=>mv h28 rfl fun _ h29=>h29.sn [7,9,8,6,5,0,2] rfl fun h30=>hK9 _ _<|wp_ret ?_
   try simp only [Exit.then,Exit.inBlock]
   refine rCt h30 s4 4 υ37 rfl rfl rfl rfl rfl ?_
   have hq1:Cq F x.p1=(F,Nv (AC (Al F.E (Ac F x.p1).2))):=bx
   rw [hq1]
   exact ⟨A,sax78,scx79,rfl,Sep.tail_un (xs:=[_,_,_,_]) (s4.pk [0,1,2,3,6] rfl),hA.mono⟩
  ·skip
   refine wcT h22 rfl (BC hc2)<|h22.sk [9,8,7,6,5,0,2] rfl fun h31=>sqr fun _ hK10=>bu h31 (v:=.agg zL.toArray) rfl (fun w=>κ) fun _ h32=>stA h32 s2 3 rfl rfl rfl κ rfl rfl rfl rfl fun _ w5 h33 s5 _=>h33.sk [26,9,8,6,5,0,2] rfl fun h34=>mv h34 rfl fun _ h35=>h35.sn [7,9,8,6,5,0,2] rfl fun h36=>hK10 _ _<|wp_ret ?_
   try simp only [Exit.then,Exit.inBlock]
   refine rCt h36 s5 3 υ37 rfl rfl rfl rfl rfl ?_
   have hq2:Cq F x.p1=(F,Au 12):=bx
   rw [hq2]
   exact ⟨A,none,0,rfl,(Sep.tail_un (xs:=[_,_,_]) (s5.pk [0,1,2,5] rfl)).ownNil 0 9 1,hA.mono⟩
 ·skip
  have hp2:¬ ((Ac F x.p1).1=0):=(dF hc1)
  refine cl h10 rfl AZ (Fa (cf:=cf) (A:=A) (F:=F) (s1.pk [2,3,4,0,1,5] rfl) hok hz0 ω ω) fun _ v3 w6 r3 h37=>?_
  obtain ⟨rfl,s6⟩:=r3
  refine mvs 5 h37 rfl fun _ h38=>h38.sn [9,8,7,6,5,0,2] rfl fun h39=>hK4 _ _<|sq fun _ hK11=>sqr fun _ hK12=>mv h39 rfl fun _ h40=>bv h40 rfl (cNe _ _ _ _ (decide_eq_true ω)) fun _ h41=>h41.sn [18,9,8,7,6,5,0,2] rfl fun h42=>hK12 _ _<|wcT h42 rfl rfl<|h42.sk [9,8,7,6,5,0,2] rfl fun h43=>?_
  refine sqr fun _ hK13=>bu h43 (v:=.agg zL.toArray) rfl (fun w=>κ) fun _ h44=>mv h44 rfl fun _ h45=>stA h45 s6 3 rfl rfl rfl κ rfl rfl rfl rfl fun _ w8 h46 s7 _=>h46.sk [20,19,9,8,6,5,0,2] rfl fun h47=>mv h47 rfl fun _ h48=>h48.sn [7,9,8,6,5,0,2] rfl fun h49=>hK13 _ _<|wp_ret ?_
  try simp only [Exit.then,Exit.inBlock]
  refine rCt h49 s7 3 υ37 rfl rfl rfl rfl rfl ?_
  have hq3:Cq F x.p1=(F,Au (Ac F x.p1).1):=bx
  rw [hq3]
  exact ⟨A,none,0,rfl,(Sep.tail_un (xs:=[_,_,_]) (s7.pk [0,1,2,5] rfl)).ownNil 0 9 1,hA.mono⟩
def TW (k:Int):FuncId:=if k=1 then 47 else if k=2 then 48 else if k=3 then 49 else if k=4 then 50 else if k=5 then 51 else if k=6 then 52 else if k=7 then 53 else if k=8 then 54 else if k=9 then 55 else if k=10 then 56 else if k=11 then 57 else if k=12 then 58 else 59
theorem Dq {w:World} {R:List Ch} {cf:Nat} {k:Int} (hk:1≤k∧k≤13) (hS0:Sep w R) :
  CallsR Tryz.prog 28 #[π cf,ν k] w (fun v w'=>v=.func (.func (TW k)) #[π cf] #[]∧Sep w' R):=by
 have hS:Sep w [Ch.many R]:=Sep.tail_many (xs:=[]) hS0;clear hS0
 refine AB Tryz.func28 rfl (N:=58) Tryz.ntmps28 (by show 2≤58;decide) [(0,π cf),(1,ν k)] rfl fun _ h1=>sqr fun _ hK3=>mv h1 rfl fun _ h4=>wpList_nil<|hK3 _ _<|sq fun _ hK6=>sqr fun _ hK7=>mv h4 rfl fun _ h8=>wpList_nil<|hK7 _ _<|wp_block ?_
 refine sqr fun _ hK1=>bv h8 (z:=.bool (decide (k=1))) rfl (cEq _ _ _ _ rfl) fun _ h2=>mv h2 rfl fun _ h3=>h3.sn [6,5,4,0,1] rfl fun h5=>hK1 _ _ ?_
 by_cases e1:k=1
 ·refine wcT h5 rfl (decide_eq_true e1)<|h5.sk [5,4,0,1] rfl fun h6=>sqr fun _ hK2=>mv h6 rfl fun _ h7=>sv1 h7 rfl (FN h7 (xs:=[.tmp 8]) (ys:=[]) rfl (vs:=[π cf]) (us:=[]) rfl rfl) fun _ h9=>h9.sk [9,8,5,0,1] rfl fun h10=>mv h10 rfl fun _ h11=>h11.sn [4,5,0,1] rfl fun h12=>hK2 _ _<|wp_ret ?_
  try simp only [Exit.then,Exit.inBlock]
  refine Bn (v:=.func (.func 47) #[π cf] #[]) (Cf h12 rfl rfl) h12.defs ?_
  exact ⟨by rw [e1];rfl,Sep.tail_un (xs:=[]) hS⟩
 refine wcF h5 rfl (decide_eq_false e1)<|h5.sk [5,4,0,1] rfl fun h6=>sqr fun _ hK2=>bv h6 (z:=.bool (decide (k=2))) rfl (cEq _ _ _ _ rfl) fun _ h7=>mv h7 rfl fun _ h9=>h9.sn [10,5,4,0,1] rfl fun h10=>hK2 _ _ ?_
 by_cases e2:k=2
 ·refine wcT h10 rfl (decide_eq_true e2)<|h10.sk [5,4,0,1] rfl fun h11=>sqr fun _ hK4=>mv h11 rfl fun _ h12=>sv1 h12 rfl (FN h12 (xs:=[.tmp 12]) (ys:=[]) rfl (vs:=[π cf]) (us:=[]) rfl rfl) fun _ h13=>h13.sk [13,12,5,0,1] rfl fun h14=>mv h14 rfl fun _ h15=>h15.sn [4,5,0,1] rfl fun h16=>hK4 _ _<|wp_ret ?_
  try simp only [Exit.then,Exit.inBlock]
  refine Bn (v:=.func (.func 48) #[π cf] #[]) (Cf h16 rfl rfl) h16.defs ?_
  exact ⟨by rw [e2];rfl,Sep.tail_un (xs:=[]) hS⟩
 refine wcF h10 rfl (decide_eq_false e2)<|h10.sk [5,4,0,1] rfl fun h11=>sqr fun _ hK4=>bv h11 (z:=.bool (decide (k=3))) rfl (cEq _ _ _ _ rfl) fun _ h12=>mv h12 rfl fun _ h13=>h13.sn [14,5,4,0,1] rfl fun h14=>hK4 _ _ ?_
 by_cases e3:k=3
 ·refine wcT h14 rfl (decide_eq_true e3)<|h14.sk [5,4,0,1] rfl fun h15=>sqr fun _ hK5=>mv h15 rfl fun _ h16=>sv1 h16 rfl (FN h16 (xs:=[.tmp 16]) (ys:=[]) rfl (vs:=[π cf]) (us:=[]) rfl rfl) fun _ h17=>h17.sk [17,16,5,0,1] rfl fun h18=>mv h18 rfl fun _ h19=>h19.sn [4,5,0,1] rfl fun h20=>hK5 _ _<|wp_ret ?_
  try simp only [Exit.then,Exit.inBlock]
  refine Bn (v:=.func (.func 49) #[π cf] #[]) (Cf h20 rfl rfl) h20.defs ?_
  exact ⟨by rw [e3];rfl,Sep.tail_un (xs:=[]) hS⟩
 refine wcF h14 rfl (decide_eq_false e3)<|h14.sk [5,4,0,1] rfl fun h15=>sqr fun _ hK5=>bv h15 (z:=.bool (decide (k=4))) rfl (cEq _ _ _ _ rfl) fun _ h16=>mv h16 rfl fun _ h17=>h17.sn [18,5,4,0,1] rfl fun h18=>hK5 _ _ ?_
 by_cases e4:k=4
 ·refine wcT h18 rfl (decide_eq_true e4)<|h18.sk [5,4,0,1] rfl fun h19=>sqr fun _ hK8=>mv h19 rfl fun _ h20=>sv1 h20 rfl (FN h20 (xs:=[.tmp 20]) (ys:=[]) rfl (vs:=[π cf]) (us:=[]) rfl rfl) fun _ h21=>h21.sk [21,20,5,0,1] rfl fun h22=>mv h22 rfl fun _ h23=>h23.sn [4,5,0,1] rfl fun h24=>hK8 _ _<|wp_ret ?_
  try simp only [Exit.then,Exit.inBlock]
  refine Bn (v:=.func (.func 50) #[π cf] #[]) (Cf h24 rfl rfl) h24.defs ?_
  exact ⟨by rw [e4];rfl,Sep.tail_un (xs:=[]) hS⟩
 refine wcF h18 rfl (decide_eq_false e4)<|h18.sk [5,4,0,1] rfl fun h19=>sqr fun _ hK8=>bv h19 (z:=.bool (decide (k=5))) rfl (cEq _ _ _ _ rfl) fun _ h20=>mv h20 rfl fun _ h21=>h21.sn [22,5,4,0,1] rfl fun h22=>hK8 _ _ ?_
 by_cases e5:k=5
 ·refine wcT h22 rfl (decide_eq_true e5)<|h22.sk [5,4,0,1] rfl fun h23=>sqr fun _ hK9=>mv h23 rfl fun _ h24=>sv1 h24 rfl (FN h24 (xs:=[.tmp 24]) (ys:=[]) rfl (vs:=[π cf]) (us:=[]) rfl rfl) fun _ h25=>h25.sk [25,24,5,0,1] rfl fun h26=>mv h26 rfl fun _ h27=>h27.sn [4,5,0,1] rfl fun h28=>hK9 _ _<|wp_ret ?_
  try simp only [Exit.then,Exit.inBlock]
  refine Bn (v:=.func (.func 51) #[π cf] #[]) (Cf h28 rfl rfl) h28.defs ?_
  exact ⟨by rw [e5];rfl,Sep.tail_un (xs:=[]) hS⟩
 refine wcF h22 rfl (decide_eq_false e5)<|h22.sk [5,4,0,1] rfl fun h23=>sqr fun _ hK9=>bv h23 (z:=.bool (decide (k=6))) rfl (cEq _ _ _ _ rfl) fun _ h24=>mv h24 rfl fun _ h25=>h25.sn [26,5,4,0,1] rfl fun h26=>hK9 _ _ ?_
 by_cases e6:k=6
 ·refine wcT h26 rfl (decide_eq_true e6)<|h26.sk [5,4,0,1] rfl fun h27=>sqr fun _ hK10=>mv h27 rfl fun _ h28=>sv1 h28 rfl (FN h28 (xs:=[.tmp 28]) (ys:=[]) rfl (vs:=[π cf]) (us:=[]) rfl rfl) fun _ h29=>h29.sk [29,28,5,0,1] rfl fun h30=>mv h30 rfl fun _ h31=>h31.sn [4,5,0,1] rfl fun h32=>hK10 _ _<|wp_ret ?_
  try simp only [Exit.then,Exit.inBlock]
  refine Bn (v:=.func (.func 52) #[π cf] #[]) (Cf h32 rfl rfl) h32.defs ?_
  exact ⟨by rw [e6];rfl,Sep.tail_un (xs:=[]) hS⟩
 refine wcF h26 rfl (decide_eq_false e6)<|h26.sk [5,4,0,1] rfl fun h27=>sqr fun _ hK10=>bv h27 (z:=.bool (decide (k=7))) rfl (cEq _ _ _ _ rfl) fun _ h28=>mv h28 rfl fun _ h29=>h29.sn [30,5,4,0,1] rfl fun h30=>hK10 _ _ ?_
 by_cases e7:k=7
 ·refine wcT h30 rfl (decide_eq_true e7)<|h30.sk [5,4,0,1] rfl fun h31=>sqr fun _ hK11=>mv h31 rfl fun _ h32=>sv1 h32 rfl (FN h32 (xs:=[.tmp 32]) (ys:=[]) rfl (vs:=[π cf]) (us:=[]) rfl rfl) fun _ h33=>h33.sk [33,32,5,0,1] rfl fun h34=>mv h34 rfl fun _ h35=>h35.sn [4,5,0,1] rfl fun h36=>hK11 _ _<|wp_ret ?_
  try simp only [Exit.then,Exit.inBlock]
  refine Bn (v:=.func (.func 53) #[π cf] #[]) (Cf h36 rfl rfl) h36.defs ?_
  exact ⟨by rw [e7];rfl,Sep.tail_un (xs:=[]) hS⟩
 refine wcF h30 rfl (decide_eq_false e7)<|h30.sk [5,4,0,1] rfl fun h31=>sqr fun _ hK11=>bv h31 (z:=.bool (decide (k=8))) rfl (cEq _ _ _ _ rfl) fun _ h32=>mv h32 rfl fun _ h33=>h33.sn [34,5,4,0,1] rfl fun h34=>hK11 _ _ ?_
 by_cases e8:k=8
 ·refine wcT h34 rfl (decide_eq_true e8)<|h34.sk [5,4,0,1] rfl fun h35=>sqr fun _ hK12=>mv h35 rfl fun _ h36=>sv1 h36 rfl (FN h36 (xs:=[.tmp 36]) (ys:=[]) rfl (vs:=[π cf]) (us:=[]) rfl rfl) fun _ h37=>h37.sk [37,36,5,0,1] rfl fun h38=>mv h38 rfl fun _ h39=>h39.sn [4,5,0,1] rfl fun h40=>hK12 _ _<|wp_ret ?_
  try simp only [Exit.then,Exit.inBlock]
  refine Bn (v:=.func (.func 54) #[π cf] #[]) (Cf h40 rfl rfl) h40.defs ?_
  exact ⟨by rw [e8];rfl,Sep.tail_un (xs:=[]) hS⟩
 refine wcF h34 rfl (decide_eq_false e8)<|h34.sk [5,4,0,1] rfl fun h35=>sqr fun _ hK12=>bv h35 (z:=.bool (decide (k=9))) rfl (cEq _ _ _ _ rfl) fun _ h36=>mv h36 rfl fun _ h37=>h37.sn [38,5,4,0,1] rfl fun h38=>hK12 _ _ ?_
 by_cases e9:k=9
 ·refine wcT h38 rfl (decide_eq_true e9)<|h38.sk [5,4,0,1] rfl fun h39=>sqr fun _ hK13=>mv h39 rfl fun _ h40=>sv1 h40 rfl (FN h40 (xs:=[.tmp 40]) (ys:=[]) rfl (vs:=[π cf]) (us:=[]) rfl rfl) fun _ h41=>h41.sk [41,40,5,0,1] rfl fun h42=>mv h42 rfl fun _ h43=>h43.sn [4,5,0,1] rfl fun h44=>hK13 _ _<|wp_ret ?_
  try simp only [Exit.then,Exit.inBlock]
  refine Bn (v:=.func (.func 55) #[π cf] #[]) (Cf h44 rfl rfl) h44.defs ?_
  exact ⟨by rw [e9];rfl,Sep.tail_un (xs:=[]) hS⟩
 refine wcF h38 rfl (decide_eq_false e9)<|h38.sk [5,4,0,1] rfl fun h39=>sqr fun _ hK13=>bv h39 (z:=.bool (decide (k=10))) rfl (cEq _ _ _ _ rfl) fun _ h40=>mv h40 rfl fun _ h41=>h41.sn [42,5,4,0,1] rfl fun h42=>hK13 _ _ ?_
 by_cases e10:k=10
 ·refine wcT h42 rfl (decide_eq_true e10)<|h42.sk [5,4,0,1] rfl fun h43=>sqr fun _ hK14=>mv h43 rfl fun _ h44=>sv1 h44 rfl (FN h44 (xs:=[.tmp 44]) (ys:=[]) rfl (vs:=[π cf]) (us:=[]) rfl rfl) fun _ h45=>h45.sk [45,44,5,0,1] rfl fun h46=>mv h46 rfl fun _ h47=>h47.sn [4,5,0,1] rfl fun h48=>hK14 _ _<|wp_ret ?_
  try simp only [Exit.then,Exit.inBlock]
  refine Bn (v:=.func (.func 56) #[π cf] #[]) (Cf h48 rfl rfl) h48.defs ?_
  exact ⟨by rw [e10];rfl,Sep.tail_un (xs:=[]) hS⟩
 refine wcF h42 rfl (decide_eq_false e10)<|h42.sk [5,4,0,1] rfl fun h43=>sqr fun _ hK14=>bv h43 (z:=.bool (decide (k=11))) rfl (cEq _ _ _ _ rfl) fun _ h44=>mv h44 rfl fun _ h45=>h45.sn [46,5,4,0,1] rfl fun h46=>hK14 _ _ ?_
 by_cases e11:k=11
 ·refine wcT h46 rfl (decide_eq_true e11)<|h46.sk [5,4,0,1] rfl fun h47=>sqr fun _ hK15=>mv h47 rfl fun _ h48=>sv1 h48 rfl (FN h48 (xs:=[.tmp 48]) (ys:=[]) rfl (vs:=[π cf]) (us:=[]) rfl rfl) fun _ h49=>h49.sk [49,48,5,0,1] rfl fun h50=>mv h50 rfl fun _ h51=>h51.sn [4,5,0,1] rfl fun h52=>hK15 _ _<|wp_ret ?_
  try simp only [Exit.then,Exit.inBlock]
  refine Bn (v:=.func (.func 57) #[π cf] #[]) (Cf h52 rfl rfl) h52.defs ?_
  exact ⟨by rw [e11];rfl,Sep.tail_un (xs:=[]) hS⟩
 refine wcF h46 rfl (decide_eq_false e11)<|h46.sk [5,4,0,1] rfl fun h47=>sqr fun _ hK15=>bv h47 (z:=.bool (decide (k=12))) rfl (cEq _ _ _ _ rfl) fun _ h48=>mv h48 rfl fun _ h49=>h49.sn [50,5,4,0,1] rfl fun h50=>hK15 _ _ ?_
 by_cases e12:k=12
 ·refine wcT h50 rfl (decide_eq_true e12)<|h50.sk [5,4,0,1] rfl fun h51=>sqr fun _ hK16=>mv h51 rfl fun _ h52=>sv1 h52 rfl (FN h52 (xs:=[.tmp 52]) (ys:=[]) rfl (vs:=[π cf]) (us:=[]) rfl rfl) fun _ h53=>h53.sk [53,52,5,0,1] rfl fun h54=>mv h54 rfl fun _ h55=>h55.sn [4,5,0,1] rfl fun h56=>hK16 _ _<|wp_ret ?_
  try simp only [Exit.then,Exit.inBlock]
  refine Bn (v:=.func (.func 58) #[π cf] #[]) (Cf h56 rfl rfl) h56.defs ?_
  exact ⟨by rw [e12];rfl,Sep.tail_un (xs:=[]) hS⟩
 refine wcF h50 rfl (decide_eq_false e12)<|h50.sk [5,4,0,1] rfl fun h51=>sqr fun _ hK16=>bv h51 (z:=.bool (decide (k=13))) rfl (cEq _ _ _ _ rfl) fun _ h52=>mv h52 rfl fun _ h53=>h53.sn [54,5,4,0,1] rfl fun h54=>hK16 _ _ ?_
 have e13:k=13:=ω
 refine wcT h54 rfl (decide_eq_true e13)<|h54.sk [5,4,0,1] rfl fun h55=>sqr fun _ hK17=>mv h55 rfl fun _ h56=>sv1 h56 rfl (FN h56 (xs:=[.tmp 56]) (ys:=[]) rfl (vs:=[π cf]) (us:=[]) rfl rfl) fun _ h57=>h57.sk [57,56,5,0,1] rfl fun h58=>mv h58 rfl fun _ h59=>h59.sn [4,5,0,1] rfl fun h60=>hK17 _ _<|wp_ret ?_
 try simp only [Exit.then,Exit.inBlock]
 refine Bn (v:=.func (.func 59) #[π cf] #[]) (Cf h60 rfl rfl) h60.defs ?_
 exact ⟨by rw [e13];rfl,Sep.tail_un (xs:=[]) hS⟩
theorem Po {w:World} {R:List Ch} {cf:Nat} {k:Int} (hk:k<1∨k>13) (hS0:Sep w R) :
  CallsR Tryz.prog 28 #[π cf,ν k] w (fun v w'=>v=.nilFunc∧Sep w' R):=by
 have hS:Sep w [Ch.many R]:=Sep.tail_many (xs:=[]) hS0;clear hS0
 refine AB Tryz.func28 rfl (N:=58) Tryz.ntmps28 (by show 2≤58;decide) [(0,π cf),(1,ν k)] rfl fun _ h1=>sqr fun _ hK3=>mv h1 rfl fun _ h4=>wpList_nil<|hK3 _ _<|sq fun _ hK6=>sqr fun _ hK7=>mv h4 rfl fun _ h8=>wpList_nil<|hK7 _ _<|wp_block ?_
 refine sqr fun _ hK1=>bv h8 (z:=.bool (decide (k=1))) rfl (cEq _ _ _ _ rfl) fun _ h2=>mv h2 rfl fun _ h3=>h3.sn [6,5,4,0,1] rfl fun h5=>hK1 _ _<|wcF h5 rfl (decide_eq_false ω) ?_
 refine h5.sk [5,4,0,1] rfl fun h6=>sqr fun _ hK2=>bv h6 (z:=.bool (decide (k=2))) rfl (cEq _ _ _ _ rfl) fun _ h7=>mv h7 rfl fun _ h9=>h9.sn [10,5,4,0,1] rfl fun h10=>hK2 _ _<|wcF h10 rfl (decide_eq_false ω) ?_
 refine h10.sk [5,4,0,1] rfl fun h11=>sqr fun _ hK4=>bv h11 (z:=.bool (decide (k=3))) rfl (cEq _ _ _ _ rfl) fun _ h12=>mv h12 rfl fun _ h13=>h13.sn [14,5,4,0,1] rfl fun h14=>hK4 _ _<|wcF h14 rfl (decide_eq_false ω) ?_
 refine h14.sk [5,4,0,1] rfl fun h15=>sqr fun _ hK5=>bv h15 (z:=.bool (decide (k=4))) rfl (cEq _ _ _ _ rfl) fun _ h16=>mv h16 rfl fun _ h17=>h17.sn [18,5,4,0,1] rfl fun h18=>hK5 _ _<|wcF h18 rfl (decide_eq_false ω) ?_
 refine h18.sk [5,4,0,1] rfl fun h19=>sqr fun _ hK8=>bv h19 (z:=.bool (decide (k=5))) rfl (cEq _ _ _ _ rfl) fun _ h20=>mv h20 rfl fun _ h21=>h21.sn [22,5,4,0,1] rfl fun h22=>hK8 _ _<|wcF h22 rfl (decide_eq_false ω) ?_
 refine h22.sk [5,4,0,1] rfl fun h23=>sqr fun _ hK9=>bv h23 (z:=.bool (decide (k=6))) rfl (cEq _ _ _ _ rfl) fun _ h24=>mv h24 rfl fun _ h25=>h25.sn [26,5,4,0,1] rfl fun h26=>hK9 _ _<|wcF h26 rfl (decide_eq_false ω) ?_
 refine h26.sk [5,4,0,1] rfl fun h27=>sqr fun _ hK10=>bv h27 (z:=.bool (decide (k=7))) rfl (cEq _ _ _ _ rfl) fun _ h28=>mv h28 rfl fun _ h29=>h29.sn [30,5,4,0,1] rfl fun h30=>hK10 _ _<|wcF h30 rfl (decide_eq_false ω) ?_
 refine h30.sk [5,4,0,1] rfl fun h31=>sqr fun _ hK11=>bv h31 (z:=.bool (decide (k=8))) rfl (cEq _ _ _ _ rfl) fun _ h32=>mv h32 rfl fun _ h33=>h33.sn [34,5,4,0,1] rfl fun h34=>hK11 _ _<|wcF h34 rfl (decide_eq_false ω) ?_
 refine h34.sk [5,4,0,1] rfl fun h35=>sqr fun _ hK12=>bv h35 (z:=.bool (decide (k=9))) rfl (cEq _ _ _ _ rfl) fun _ h36=>mv h36 rfl fun _ h37=>h37.sn [38,5,4,0,1] rfl fun h38=>hK12 _ _<|wcF h38 rfl (decide_eq_false ω) ?_
 refine h38.sk [5,4,0,1] rfl fun h39=>sqr fun _ hK13=>bv h39 (z:=.bool (decide (k=10))) rfl (cEq _ _ _ _ rfl) fun _ h40=>mv h40 rfl fun _ h41=>h41.sn [42,5,4,0,1] rfl fun h42=>hK13 _ _<|wcF h42 rfl (decide_eq_false ω) ?_
 refine h42.sk [5,4,0,1] rfl fun h43=>sqr fun _ hK14=>bv h43 (z:=.bool (decide (k=11))) rfl (cEq _ _ _ _ rfl) fun _ h44=>mv h44 rfl fun _ h45=>h45.sn [46,5,4,0,1] rfl fun h46=>hK14 _ _<|wcF h46 rfl (decide_eq_false ω) ?_
 refine h46.sk [5,4,0,1] rfl fun h47=>sqr fun _ hK15=>bv h47 (z:=.bool (decide (k=12))) rfl (cEq _ _ _ _ rfl) fun _ h48=>mv h48 rfl fun _ h49=>h49.sn [50,5,4,0,1] rfl fun h50=>hK15 _ _<|wcF h50 rfl (decide_eq_false ω) ?_
 refine h50.sk [5,4,0,1] rfl fun h51=>sqr fun _ hK16=>bv h51 (z:=.bool (decide (k=13))) rfl (cEq _ _ _ _ rfl) fun _ h52=>mv h52 rfl fun _ h53=>h53.sn [54,5,4,0,1] rfl fun h54=>hK16 _ _<|wcF h54 rfl (decide_eq_false ω) ?_
 refine h54.sk [5,4,0,1] rfl fun h55=>wp_skip<|hK6 _ _<|sqr fun _ hK17=>h55.sk [5,0,1] rfl fun h56=>mv h56 rfl fun _ h57=>wpList_nil<|hK17 _ _<|wp_ret ?_
 try simp only [Exit.then,Exit.inBlock]
 refine Bn (v:=.nilFunc) (Cf h57 rfl rfl) h57.defs ?_
 exact ⟨rfl,Sep.tail_un (xs:=[]) hS⟩
end
section
theorem Tv {r:RepM} (h:r.e=0):r0 r=r:=by cases r;simp only at h;subst h;rfl
theorem TT {r:RepM} (h:r=Au r.e):(.agg #[ν r.e,ν 0,σ [],.slice none 0 0,ν 0,ν 0,ν 0]:Value)=Du r none 0:=by
 generalize r.e=e at h ⊢
 subst h;rfl
def Df (p:FsM×RepM):Prop:=p.2.e≠0→p.2=Au p.2.e
theorem TK {F:FsM} {c fl:Int} {X:List UInt8}:Df (AT F c X fl):=by
 unfold AT Df;(repeat' split)<;>first | exact fun _=>rfl | exact fun h=>absurd rfl h
theorem TL {F:FsM} {c fd:Int}:Df (BM F c fd):=by
 unfold BM Df;(repeat' split)<;>first | exact fun _=>rfl | exact fun h=>absurd rfl h
theorem TM {F:FsM} {c fd off n:Int}:Df (Ca F c fd off n):=by
 unfold Ca Df;(repeat' split)<;>first | exact fun _=>rfl | exact fun h=>absurd rfl h
theorem TN {F:FsM} {c fd off:Int} {b:List UInt8}:Df (Bc F c fd off b):=by
 unfold Bc Df;(repeat' split)<;>first | exact fun _=>rfl | exact fun h=>absurd rfl h
theorem TO {F:FsM} {c fd n:Int}:Df (BF F c fd n):=by
 unfold BF Df;(repeat' split)<;>first | exact fun _=>rfl | exact fun h=>absurd rfl h
theorem TP {F:FsM} {c fd:Int}:Df (Cs F c fd):=by
 unfold Cs Df;(repeat' split)<;>first | exact fun _=>rfl | exact fun h=>absurd rfl h
theorem TQ {F:FsM} {X:List UInt8}:Df (CC F X):=by
 unfold CC Df;(repeat' split)<;>first | exact fun _=>rfl | exact fun h=>absurd rfl h
theorem TR {F:FsM} {X:List UInt8}:Df (Bo F X):=by
 unfold Bo Df;(repeat' split)<;>first | exact fun _=>rfl | exact fun h=>absurd rfl h
theorem TS {F:FsM} {X Y:List UInt8}:Df (AQ F X Y):=by
 unfold AQ Df;(repeat' split)<;>first | exact fun _=>rfl | exact fun h=>absurd rfl h
theorem Th {F:FsM} {X:List UInt8}:Df (Cc F X):=by
 unfold Cc Df;(repeat' split)<;>first | exact fun _=>rfl | exact fun h=>absurd rfl h
theorem SG {F:FsM} {X:List UInt8} {d n:Nat} {s:ByteArray}:Df (Bh F X d s n):=by
 unfold Bh Df;(repeat' split)<;>first | exact fun _=>rfl | exact fun h=>absurd rfl h
theorem Ti {F:FsM} {X Y:List UInt8}:Df (Am F X Y):=by
 unfold Am Df;(repeat' split)<;>first | exact SG | exact fun _=>rfl
theorem Tj {F:FsM} {X:List UInt8}:Df (Cq F X):=by
 unfold Cq Df;(repeat' split)<;>first | exact fun _=>rfl | exact fun h=>absurd rfl h
theorem Tk {F:FsM} {X:List UInt8}:Df (Ci F X):=by
 unfold Ci Df;(repeat' split)<;>first | exact fun _=>rfl | exact fun h=>absurd rfl h
def GT (F:FsM) (c:Int) (i:Nat):FsM:={ F with O:=F.O.filter fun x=>!decide (x.cl=c∧x.fd<(i:Int)∧0≤x.fd) }
theorem Ng {F:FsM} {A:AdM} {c:Int}:opG (GT F c 0) A=opG F A:=by
 unfold opG
 rw [show (GT F c 0).O=F.O from List.filter_eq_self.2 fun x _=>by
  rw [decide_eq_false (show ¬ (x.cl=c∧x.fd<((0:Nat):Int)∧0≤x.fd) from fun q=>ω)];rfl]
theorem IN {O:List OpM} {p:OpM→Bool} {c' fd':Int} (h:∀ x,x.cl=c'∧x.fd=fd'→p x=true):Az (O.filter p) c' fd'=Az O c' fd':=by
 unfold Az
 rw [List.find?_filter]
 congr 1
 congr 1
 funext x
 by_cases z:x.cl=c'∧x.fd=fd'
 ·rw [h x z];simp [z]
 ·simp [z]
theorem GF {O:List OpM} {p:OpM→Bool} {c' fd':Int} (h:∀ x,x.cl=c'∧x.fd=fd'→p x=false):Az (O.filter p) c' fd'=none:=by
 unfold Az
 rw [List.find?_filter,List.find?_eq_none.2 (fun x _=>by
  by_cases z:x.cl=c'∧x.fd=fd'
  ·rw [h x z];simp
  ·simp [z])];rfl
theorem Nf (F:FsM) (c:Int) (i:Nat):∀ c' fd',Az (GT F c (i+1)).O c' fd'=if c'=c∧fd'=(i:Int) then none else Az (GT F c i).O c' fd':=by
 intro c' fd'
 show Az (F.O.filter _) c' fd'=_
 by_cases q:c'=c∧0≤fd'∧fd'<((i+1:Nat):Int)
 ·rw [GF (fun x hx=>by rw [decide_eq_true (show x.cl=c∧x.fd<((i+1:Nat):Int)∧0≤x.fd from ⟨hx.1.trans q.1,ω,ω⟩)];rfl)]
  by_cases q2:c'=c∧fd'=(i:Int)
  ·rw [if_pos q2]
  ·rw [if_neg q2]
   refine (GF (fun x hx=>?_)).symm
   rw [decide_eq_true (show x.cl=c∧x.fd<(i:Int)∧0≤x.fd from ⟨hx.1.trans q.1,by have:=fun e=>q2 ⟨q.1,e⟩;omega,ω⟩)];rfl
 ·rw [if_neg (fun z=>q ⟨z.1,ω,ω⟩),IN (fun x hx=>by rw [decide_eq_false (show ¬ (x.cl=c∧x.fd<((i+1:Nat):Int)∧0≤x.fd) from fun z=>q ⟨hx.1.symm.trans z.1,ω,ω⟩)];rfl)]
  refine (IN (fun x hx=>?_)).symm
  rw [decide_eq_false (show ¬ (x.cl=c∧x.fd<(i:Int)∧0≤x.fd) from fun z=>q ⟨hx.1.symm.trans z.1,ω,ω⟩)];rfl
theorem OS {F:FsM} {δ:Nat→Int} {A:AdM} (h:FsC F δ) (c:Int) {i:Nat} (hi:i=8):opG (GT F c i) A=opG (Ev F c) A:=by
 unfold opG
 rw [show (GT F c i).O=(Ev F c).O from List.filter_congr fun x hx=>by
  have z:=(h.o x hx).2.2
  by_cases q:x.cl=c
  ·rw [decide_eq_true (show x.cl=c∧x.fd<(i:Int)∧0≤x.fd from ⟨q,ω,ω⟩),decide_eq_true q]
  ·rw [decide_eq_false (fun w=>q w.1),decide_eq_false q]]
def fsE:FsM:=⟨[],[],[]⟩
def adE:AdM:=⟨fun _=>0,fun _=>0,fun _=>0,0,0⟩
theorem QP {w:World} {R:List Ch} {g b:Nat} (h:Sep w (Ah g 97 [ν 2,ν 1,σ [],.map (some b)]::AM KN b 0 (fun _=>none)::R)):Sep w (Av fs0 (adE.new 0 g b)::R):=by
 have hE:NdP fsE.nE adE.nC w:=⟨fun k hk=>absurd hk (Nat.not_lt_zero _),fun k hk=>absurd hk (Nat.not_lt_zero _),fun j k hj=>absurd hj (Nat.not_lt_zero _),fun j k hj=>absurd hj (Nat.not_lt_zero _)⟩
 have z:Sep w (Av fsE adE::Ah g 97 [ν 2,ν 1,σ [],.map (some b)]::AM KN b 0 (fun _=>none)::R):=
  Sep.cons (c:=Av fsE adE) hE h (fun i d _ q ⟨k,hk,_⟩=>absurd hk (Nat.not_lt_zero _))
 have z2:Sep w (Ah g 97 [ν 2,ν 1,σ [],.map (some b)]::AM KN b 0 (fun _=>none)::Av fsE adE::[Ch.many R]):=
  (Sep.tail_many (xs:=[_,_,_]) z).pick [1,2,0,3] (by decide) rfl
 exact Sep.tail_un (xs:=[_]) (Sep.joinD (F:=fsE) (.inr rfl) z2)
theorem SP (g b:Nat):AdOk fs0 (adE.new 0 g b) 0:=by
 refine ⟨fun k hd hr=>?_,Nat.le_refl _,Nat.le_refl _⟩
 rcases hr with e | ⟨x,hx,_⟩
 ·rw [e]
  show (if (0:Nat)=0 then (1:Int) else adE.ld 0)=1
  exact if_pos rfl
 ·cases hx
theorem RR {cf ob n:Nat} {F:FsM} {A:AdM} {c:Int} {x:CallM} (hfo:FsOk F) (hA:AdOk F A n) (hn:n≤900) (hs:SmS F) (h1:x.p1.length≤1000) (h2:x.p2.length≤1000) (h3:x.data.length≤1000) (hwx:wfD (c,x.fd)) (hcl:1≤c∧c≤8) (hk:1≤x.kind∧x.kind≤13):∃ (f:FuncId) (p:FsM×RepM),
  (∀ (w:World) (R:List Ch),Sep w R→CallsR Tryz.prog 28 #[π cf,ν x.kind] w (fun v w'=>v=.func (.func f) #[π cf] #[]∧Sep w' R)) ∧
  (∀ (args:Array Value) (w:World),(callFunc f args).run Tryz.prog w=.ok (.enter f args) w) ∧
  (∀ (w:World) (R:List Ch),Sep w (cP cf ob F A++R)→CallsR Tryz.prog f #[π cf,ν c,.agg (cL x).toArray] w (fun v w'=>∃ A' sa sc,v=.tuple #[Du (r0 p.2) sa sc,ν p.2.e]∧Sep w' (Ak 0 9 1 sa p.2.names.length sc (p.2.names.flatMap sE)::cP cf ob p.1 A'++R)∧AdOk p.1 A' (n+1)))∧Df p∧doF F c x=p:=by
 rcases (ω:x.kind=1∨x.kind=2∨x.kind=3∨x.kind=4∨x.kind=5∨x.kind=6∨x.kind=7∨x.kind=8∨x.kind=9∨x.kind=10∨x.kind=11∨x.kind=12∨x.kind=13) with h | h | h | h | h | h | h | h | h | h | h | h | h
 ·exact ⟨47,AT F c x.p1 x.fl,fun w R s=>by rw [h];exact Dq (k:=1) ω s,Ie,fun w R s=>Qn (A:=A) (F:=F) (x:=x) s hfo hA hn hs h1 h2 h3 hwx hcl,TK,by unfold doF;rw [if_neg ω];unfold Er;rw [if_pos ω]⟩
 ·exact ⟨48,BM F c x.fd,fun w R s=>by rw [h];exact Dq (k:=2) ω s,HH,fun w R s=>ON (A:=A) (F:=F) (x:=x) s hfo hA hn hs h1 h2 h3 hwx hcl,TL,by unfold doF;rw [if_neg ω];unfold Er;rw [if_neg ω,if_pos ω]⟩
 ·exact ⟨49,Ca F c x.fd x.off x.n,fun w R s=>by rw [h];exact Dq (k:=3) ω s,If,fun w R s=>Qo (A:=A) (F:=F) (x:=x) s hfo hA hn hs h1 h2 h3 hwx hcl,TM,by unfold doF;rw [if_neg ω];unfold Er;rw [if_neg ω,if_neg ω,if_pos ω]⟩
 ·exact ⟨50,Bc F c x.fd x.off x.data,fun w R s=>by rw [h];exact Dq (k:=4) ω s,HU,fun w R s=>OR (A:=A) (F:=F) (x:=x) s hfo hA hn hs h1 h2 h3 hwx hcl,TN,by unfold doF;rw [if_neg ω];unfold Er;rw [if_neg ω,if_neg ω,if_neg ω,if_pos ω]⟩
 ·exact ⟨51,BF F c x.fd x.n,fun w R s=>by rw [h];exact Dq (k:=5) ω s,HQ,fun w R s=>OQ (A:=A) (F:=F) (x:=x) s hfo hA hn hs h1 h2 h3 hwx hcl,TO,by unfold doF;rw [if_neg ω];unfold Er;rw [if_neg ω,if_neg ω,if_neg ω,if_neg ω,if_pos ω]⟩
 ·exact ⟨52,Cs F c x.fd,fun w R s=>by rw [h];exact Dq (k:=6) ω s,Ih,fun w R s=>Qq (A:=A) (F:=F) (x:=x) s hfo hA hn hs h1 h2 h3 hwx hcl,TP,by unfold doF;rw [if_neg ω];unfold Er;rw [if_neg ω,if_neg ω,if_neg ω,if_neg ω,if_neg ω,if_pos ω]⟩
 ·exact ⟨53,CC F x.p1,fun w R s=>by rw [h];exact Dq (k:=7) ω s,HJ,fun w R s=>OO (A:=A) (F:=F) (x:=x) s hfo hA hn hs h1 h2 h3 hwx hcl,TQ,by unfold doF;rw [if_neg ω];unfold Er;rw [if_neg ω,if_neg ω,if_neg ω,if_neg ω,if_neg ω,if_neg ω,if_pos ω]⟩
 ·exact ⟨54,Bo F x.p1,fun w R s=>by rw [h];exact Dq (k:=8) ω s,HL,fun w R s=>OP (A:=A) (F:=F) (x:=x) s hfo hA hn hs h1 h2 h3 hwx hcl,TR,by unfold doF;rw [if_neg ω];unfold Er;rw [if_neg ω,if_neg ω,if_neg ω,if_neg ω,if_neg ω,if_neg ω,if_neg ω,if_pos ω]⟩
 ·exact ⟨55,AQ F x.p1 x.p2,fun w R s=>by rw [h];exact Dq (k:=9) ω s,Ic,fun w R s=>Ql (A:=A) (F:=F) (x:=x) s hfo hA hn hs h1 h2 h3 hwx hcl,TS,by unfold doF;rw [if_neg ω];unfold Er;rw [if_neg ω,if_neg ω,if_neg ω,if_neg ω,if_neg ω,if_neg ω,if_neg ω,if_neg ω,if_pos ω]⟩
 ·exact ⟨56,Cc F x.p1,fun w R s=>by rw [h];exact Dq (k:=10) ω s,GS,fun w R s=>Ne (A:=A) (F:=F) (x:=x) s hfo hA hn hs h1 h2 h3 hwx hcl,Th,by unfold doF;rw [if_neg ω];unfold Er;rw [if_neg ω,if_neg ω,if_neg ω,if_neg ω,if_neg ω,if_neg ω,if_neg ω,if_neg ω,if_neg ω,if_pos ω]⟩
 ·exact ⟨57,Am F x.p1 x.p2,fun w R s=>by rw [h];exact Dq (k:=11) ω s,GR,fun w R s=>Nd (A:=A) (F:=F) (x:=x) s hfo hA hn hs h1 h2 h3 hwx hcl,Ti,by unfold doF;rw [if_neg ω];unfold Er;rw [if_neg ω,if_neg ω,if_neg ω,if_neg ω,if_neg ω,if_neg ω,if_neg ω,if_neg ω,if_neg ω,if_neg ω,if_pos ω]⟩
 ·exact ⟨58,Cq F x.p1,fun w R s=>by rw [h];exact Dq (k:=12) ω s,Id,fun w R s=>Qm (A:=A) (F:=F) (x:=x) s hfo hA hn hs h1 h2 h3 hwx hcl,Tj,by unfold doF;rw [if_neg ω];unfold Er;rw [if_neg ω,if_neg ω,if_neg ω,if_neg ω,if_neg ω,if_neg ω,if_neg ω,if_neg ω,if_neg ω,if_neg ω,if_neg ω,if_pos ω]⟩
 ·exact ⟨59,Ci F x.p1,fun w R s=>by rw [h];exact Dq (k:=13) ω s,Ig,fun w R s=>Qp (A:=A) (F:=F) (x:=x) s hfo hA hn hs h1 h2 h3 hwx hcl,Tk,by unfold doF;rw [if_neg ω];unfold Er;rw [if_neg ω,if_neg ω,if_neg ω,if_neg ω,if_neg ω,if_neg ω,if_neg ω,if_neg ω,if_neg ω,if_neg ω,if_neg ω,if_neg ω,if_pos ω]⟩
theorem LO {w:World} {cf ob n:Nat} {F:FsM} {A:AdM} {R:List Ch} {c:Int} {x:CallM} (hS0:Sep w ((cP cf ob F A)++R)) (hfo:FsOk F) (hA:AdOk F A n) (hn:n≤900) (hs:SmS F) (h1:x.p1.length≤1000) (h2:x.p2.length≤1000) (h3:x.data.length≤1000) (hxf:(Lit.int .i64 x.fd).wf=true) :
  CallsR Tryz.prog 14 #[π cf,ν c,.agg (cL x).toArray] w (fun v w'=>∃ A' sa sc,v=Du (doF F c x).2 sa sc∧Sep w' (Ak 0 9 1 sa (doF F c x).2.names.length sc ((doF F c x).2.names.flatMap sE)::(cP cf ob ((doF F c x).1) A')++R)∧AdOk (doF F c x).1 A' (n+1)):=by
 have hS:=Sep.tail_many (xs:=cP cf ob F A) hS0;clear hS0
 have hz:SmF F:=hs.sm;have hok:=hfo.toFsC
 have hz0:=hz;obtain ⟨hz1,hz2,hz3⟩:F.N.length≤1000∧F.E.length≤1000∧F.O.length≤1000:=hz
 refine AB Tryz.func14 rfl (N:=36) Tryz.ntmps14 (by show 3≤36;decide) [(0,π cf),(1,ν c),(2,.agg (cL x).toArray)] rfl fun _ h1=>sqr fun _ hK3=>so (wn rfl) fun _ hK1=>Cv h1 rfl rfl rfl rfl rfl (z:=(cL x)) rfl hS fun _ g4 w7 h5 s8 _ _=>hK1 _ _ ?_
 refine so (wn rfl) fun _ hK2=>BB h5 rfl rfl rfl rfl (z:=zL) (fun _=>rfl) s8 fun _ g1 w1 h4 s1 _ _=>hK2 _ _ ?_
 refine wpList_nil<|hK3 _ _<|sq fun _ hK4=>sqr fun _ hK5=>mv h4 rfl fun _ h6=>bv h6 (z:=.bool (decide (c<1))) rfl (cLt _ _ _ _ rfl) fun _ h7=>mv h7 rfl fun _ h8=>sg h8 (wF h8 rfl rfl rfl) rfl rfl rfl (fun hC1=>by have hq:=(dF (Bb hC1));exact Ap h8 rfl rfl _) fun _ h9=>sg h9 (wF h9 rfl rfl rfl) rfl rfl rfl (fun hC2=>by have hq:=(dF (Bb hC2));exact BG h9 rfl (opg rfl hC2) rfl (cGt _ _ _ _ rfl) _) fun _ h10=>sv1 h10 rfl (Dt h10 rfl (E:=(decide (c<1))) (F:=(decide (c>8))) rfl rfl rfl (fun e=>if_pos (by rw [e];try rfl))) fun _ h11=>h11.sk [15,6,5,0,1,2] rfl fun h12=>?_
 clear h1
 refine wpList_nil<|hK5 _ _ ?_
 rcases bC ((decide (c<1))||(decide (c>8))) with hc1 | hc1
 ·skip
  have hp1:(c<1)∨(c>8):=((orT hc1).imp (fun q=>(dT q)) (fun q=>(dT q)))
  refine wcT h12 rfl hc1<|h12.sk [6,5,0,1,2] rfl fun h13=>sqr fun _ hK6=>bu h13 (v:=.agg #[ν 1,ν 0,σ [],.slice none 0 0,ν 0,ν 0,ν 0]) rfl (fun w=>κ) fun _ h14=>stA h14 s1 0 rfl rfl rfl κ rfl rfl rfl rfl fun _ w2 h15 s2 _=>h15.sn [6,5,0,1,2] rfl fun h16=>hK6 _ _<|wp_ret ?_
  try simp only [Exit.then,Exit.inBlock]
  refine rC h16 s2 0 υ37 rfl rfl rfl rfl ?_
  have hq1:doF F c x=(F,Au 1):=bx
  rw [hq1]
  exact ⟨A,none,0,rfl,(Sep.tail_un (xs:=[_,_,_]) (s2.pk [2,3,4,5] rfl)).ownNil 0 9 1,hA.mono⟩
 ·skip
  have hp2:(¬ (c<1))∧(¬ (c>8)):=(And.intro (dF (orF hc1).1) (dF (orF hc1).2))
  refine wcF h12 rfl hc1<|h12.sk [6,5,0,1,2] rfl fun h17=>wp_skip<|hK4 _ _<|sq fun _ hK7=>?_
  have hcl:1≤c∧c≤8:=ω
  have hwx:wfD (c,x.fd):=⟨wf_i64 ω ω,hxf⟩
  refine wp_region_lit<|mv h17 rfl fun _ h18=>fav h18 rfl (CA _ _) fun _ h19=>ldv h19 s1 1 υ3 rfl rfl rfl rfl fun _ h20=>?_
  by_cases hk:1≤x.kind∧x.kind≤13
  ·obtain ⟨f,p,hm,hcp,hact,herr,hdo⟩:=RR (cf:=cf) (ob:=ob) hfo hA hn hs h1 h2 h3 hwx hcl hk
   refine cl h20 rfl Fq (hm _ _ s1) fun _ v1 w3 r1 h21=>?_
   obtain ⟨rfl,s3⟩:=r1
   refine mv h21 rfl fun _ h22=>h22.sn [7,6,5,0,1,2] rfl fun h23=>hK7 _ _<|sq fun _ hK8=>sqr fun _ hK9=>mv h23 rfl fun _ h24=>bv h24 rfl (Tc _ υ69 _ _ _ _ _) fun _ h25=>h25.sn [22,7,6,5,0,1,2] rfl fun h26=>hK9 _ _<|wcF h26 rfl rfl<|h26.sk [7,6,5,0,1,2] rfl fun h27=>?_
   refine wp_skip<|hK8 _ _<|sqr fun _ hK10=>mvs 2 h27 rfl fun _ h28=>sw1 h28 rfl (v:=.agg (cL x).toArray) (rld h28 rfl rfl (ldA υ30 rfl (n:=8) κ (s3.get 1 rfl:Blk _ _ _ _) rfl rfl)) fun _ h29=>cl h29 rfl hcp (hact _ _ (s3.pk [2,3,4,0,1,5] rfl)) fun _ v2 w4 r2 h30=>?_
   obtain ⟨Ax88,sax89,scx90,rfl,s4,hAk95⟩:=r2
   refine mvs 3 h30 rfl fun _ h31=>so (wn rfl) fun _ hK11=>BB h31 rfl rfl rfl rfl (z:=zL) (fun _=>rfl) s4 fun _ g2 w5 h32 s5 _ _=>hK11 _ _ ?_
   refine stA h32 s5 0 rfl rfl rfl κ rfl rfl rfl rfl fun _ w6 h33 s6 _=>mv h33 rfl fun _ h34=>h34.sn [9,8,7,6,5,0,1,2] rfl fun h35=>hK10 _ _<|sq fun _ hK12=>sqr fun _ hK13=>mv h35 rfl fun _ h36=>bv h36 (z:=.bool (decide (p.2.e≠0))) rfl (cNe _ _ _ _ rfl) fun _ h37=>h37.sn [32,9,8,7,6,5,0,1,2] rfl fun h38=>hK13 _ _ ?_
   rcases bC (decide (p.2.e≠0)) with hc2 | hc2
   ·skip
    have hp3:p.2.e≠0:=(dT hc2)
    refine wcT h38 rfl hc2<|h38.sk [9,8,7,6,5,0,1,2] rfl fun h39=>sqr fun _ hK14=>mv h39 rfl fun _ h40=>bu h40 (v:=.agg #[ν (p.2.e),ν 0,σ [],.slice none 0 0,ν 0,ν 0,ν 0]) rfl (fun w=>κ) fun _ h41=>stA h41 s6 5 rfl rfl rfl κ rfl rfl rfl rfl fun _ w8 h42 s7 _=>h42.sn [9,8,7,6,5,0,1,2] rfl fun h43=>hK14 _ _<|wp_ret ?_
    try simp only [Exit.then,Exit.inBlock]
    refine rC h43 s7 5 υ37 rfl rfl rfl rfl ?_
    rw [hdo]
    have he144:p.2=Au p.2.e:=herr ω
    refine ⟨Ax88,none,0,TT he144,?_,hAk95⟩
    show Sep _ (Ak 0 9 1 none p.2.names.length 0 (p.2.names.flatMap sE)::_)
    rw [show p.2.names=[] by rw [he144];rfl];exact (Sep.tail_un (xs:=[_,_,_]) (s7.pk [2,3,4,7] rfl)).ownNil 0 9 1
   ·skip
    have hp4:¬ (p.2.e≠0):=(dF hc2)
    refine wcF h38 rfl hc2<|h38.sk [9,8,7,6,5,0,1,2] rfl fun h44=>wp_skip<|hK12 _ _<|sqr fun _ hK15=>sw1 h44 rfl (rld h44 rfl rfl (ldA υ37 rfl (n:=7) κ (s6.get 0 rfl:Blk _ _ _ _) rfl rfl)) fun _ h45=>stA h45 s6 5 rfl rfl rfl κ rfl rfl rfl rfl fun _ w9 h46 s9 _=>h46.sn [9,8,7,6,5,0,1,2] rfl fun h47=>hK15 _ _<|wp_ret ?_
    try simp only [Exit.then,Exit.inBlock]
    refine rC h47 s9 5 υ37 rfl rfl rfl rfl ?_
    rw [hdo]
    exact ⟨Ax88,sax89,scx90,(congrArg (fun r=>Du r sax89 scx90) (Tv (r:=p.2) ω)),Sep.tail_un (xs:=[_,_,_,_]) (s9.pk [1,2,3,4,7] rfl),hAk95⟩
  ·skip
   refine cl h20 rfl Fq (Po (cf:=cf) (k:=x.kind) ω s1) fun _ v3 w10 r3 h48=>?_
   obtain ⟨rfl,s10⟩:=r3
   refine mv h48 rfl fun _ h49=>h49.sn [7,6,5,0,1,2] rfl fun h50=>hK7 _ _<|sq fun _ hK16=>sqr fun _ hK17=>mv h50 rfl fun _ h51=>bv h51 rfl (Sz _ υ69 _ _) fun _ h52=>h52.sn [22,7,6,5,0,1,2] rfl fun h53=>hK17 _ _<|wcT h53 rfl rfl<|h53.sk [7,6,5,0,1,2] rfl fun h54=>?_
   refine sqr fun _ hK18=>bu h54 (v:=.agg #[ν 15,ν 0,σ [],.slice none 0 0,ν 0,ν 0,ν 0]) rfl (fun w=>κ) fun _ h55=>stA h55 s10 0 rfl rfl rfl κ rfl rfl rfl rfl fun _ w11 h56 s11 _=>h56.sn [7,6,5,0,1,2] rfl fun h57=>hK18 _ _<|wp_ret ?_
   try simp only [Exit.then,Exit.inBlock]
   refine rC h57 s11 0 υ37 rfl rfl rfl rfl ?_
   have hq2:doF F c x=(F,Au 15):=bx
   rw [hq2]
   exact ⟨A,none,0,rfl,(Sep.tail_un (xs:=[_,_,_]) (s11.pk [2,3,4,5] rfl)).ownNil 0 9 1,hA.mono⟩
theorem SE {w:World} {cf ob:Nat} {F:FsM} {A:AdM} {R:List Ch} {δ:Nat→Int} {c:Int} (hS0:Sep w ((cP cf ob F A)++R)) (hok:FsC F δ) (hwc:(Lit.int .i64 c).wf=true) :
  CallsR Tryz.prog 20 #[π cf,ν c] w (fun v w'=>v=.tuple #[]∧Sep w' ((cP cf ob (Ev F c) A)++R)):=by
 have hS:=Sep.tail_many (xs:=cP cf ob F A) hS0;clear hS0
 refine AB Tryz.func20 rfl (N:=16) Tryz.ntmps20 (by show 2≤16;decide) [(0,π cf),(1,ν c)] rfl fun _ h1=>sqr fun _ hK3=>mv h1 rfl fun _ h4=>wpList_nil<|hK3 _ _<|wp_block ?_
 have s6:Sep w [Ah cf 65 [π (A.ad 0),.map (some ob)],Av F A,AM KO ob A.C (opG (GT F c 0) A),Ch.many R]:=by rw [Ng];exact hS
 refine DC (fun (i:Nat) a' w'=>Kn 16 [(5,ν (i:Int)),(0,π cf),(1,ν c)] a'∧Sep w' [Ah cf 65 [π (A.ad 0),.map (some ob)],Av F A,AM KO ob A.C (opG (GT F c i) A),Ch.many R]∧(i≤8)) (fun (i:Nat)=>8-i) 0 ⟨h4.subs rfl,s6,ω⟩ ?_
 rintro i1 a7 w8 ⟨h9,s1,hi812⟩ K1 hK1
 refine sqr fun _ hK2=>bv h9 (z:=.bool (decide ((i1:Int)<8))) rfl (cLt _ _ _ _ rfl) fun _ h2=>wpList_nil<|hK2 _ _<|sq fun _ hK4=>?_
 rcases bC (decide ((i1:Int)<8)) with hc1 | hc1
 ·skip
  have hp1:(i1:Int)<8:=(dT hc1)
  refine wcT h2 rfl hc1<|h2.sk [5,0,1] rfl fun h3=>wp_skip<|hK4 _ _<|sq fun _ hK5=>wp_block ?_
  refine sqr fun _ hK6=>mvs 2 h3 rfl fun _ h5=>h5.sn [4,5,0,1] rfl fun h6=>hK6 _ _<|wp_region_lit<|mvs 2 h6 rfl fun _ h7=>fav h7 rfl (BQ _ _) fun _ h8=>ldv h8 s1 0 υ63 rfl rfl rfl rfl fun _ h10=>mvs 2 h10 rfl fun _ h11=>bu h11 (v:=.agg #[ν c,ν (i1:Int)]) rfl (fun w=>κ) fun _ h12=>?_
  refine so (wn rfl) fun _ hK7=>Rt (F:=(GT F c i1)) (A:=A) (F':=(GT F c (i1+1))) h12 rfl rfl rfl rfl s1 2 rfl rfl rfl ⟨hwc,wf_i64 ω ω⟩ (Nf F c i1) (cs':=[Ah cf 65 [π (A.ad 0),.map (some ob)],Av F A,AM KO ob A.C (opG (GT F c (i1+1)) A),Ch.many R]) rfl fun _ w1 h13 s2=>hK7 _ _ ?_
  refine h13.sn [4,5,0,1] rfl fun h14=>hK5 _ _<|wp_region_lit<|bv h14 (z:=ν ((i1+1:Nat):Int)) rfl (Dx _ _ _ ω ω ω) fun _ h15=>h15.sk [15,4,0,1] rfl fun h16=>mv h16 rfl fun _ h17=>h17.sk [5,4,0,1] rfl fun h18=>wpList_nil ?_
  exact hK1 (i1+1) _ _ ⟨h18.subs rfl,s2,ω⟩ ω
 ·skip
  have hp2:¬ ((i1:Int)<8):=(dF hc1)
  refine wcF h2 rfl hc1<|h2.sk [5,0,1] rfl fun h19=>wp_exit ?_
  simp only [Exit.then,Exit.inBlock,↓reduceIte,Nat.reduceEqDiff]
  refine Nj (v:=.tuple #[]) (fun _=>NI rfl _) h19.defs ?_
  have s3:Sep w8 [Ah cf 65 [π (A.ad 0),.map (some ob)],Av F A,AM KO ob A.C (opG (Ev F c) A),Ch.many R]:=by rw [← OS hok c (ω:i1=8)];exact s1
  exact ⟨rfl,Sep.tail_un (xs:=[_,_,_]) s3⟩
theorem Sp {w:World} {R:List Ch} (hS0:Sep w R) :
  CallsR Tryz.prog 24 #[] w (fun v w'=>∃ cf ob A,v=π cf∧Sep w' ((cP cf ob fs0 A)++R)∧AdOk fs0 A 0):=by
 have hS:Sep w [Ch.many R]:=Sep.tail_many (xs:=[]) hS0;clear hS0
 refine AB Tryz.func24 rfl (N:=5) Tryz.ntmps24 (by show 0≤5;decide) [] rfl fun _ h1=>sqr fun _ hK3=>mv h1 rfl fun _ h4=>wpList_nil<|hK3 _ _<|sqr fun _ hK6=>cl h4 rfl Fg (Ku hS) fun _ v1 w1 r1 h9=>?_
 obtain ⟨gnx7,gmx8,rfl,s1⟩:=r1
 refine so (wn rfl) fun _ hK1=>KX KO h9 rfl rfl rfl rfl s1 fun _ b1 w2 h2 s2 _ _=>hK1 _ _ ?_
 refine bu h2 (v:=.agg #[π gnx7,.map (some b1)]) rfl (fun w=>κ) fun _ h3=>so (wn rfl) fun _ hK2=>Cv h3 rfl rfl rfl rfl rfl (z:=[π gnx7,.map (some b1)]) rfl s2 fun _ g1 w3 h5 s3 _ _=>hK2 _ _ ?_
 refine h5.sk [4,3,2,1] rfl fun h6=>mv h6 rfl fun _ h7=>h7.sn [0] rfl fun h8=>hK6 _ _<|wp_ret ?_
 try simp only [Exit.then,Exit.inBlock]
 refine Bn (v:=π g1) (Cf h8 rfl rfl) h8.defs ?_
 have z:=QP (s3.pk [2,3,0,1,4] rfl)
 exact ⟨g1,b1,adE.new 0 gnx7 gmx8,rfl,Sep.tail_un (xs:=[_,_,_]) (z.pk [1,0,2,3] rfl),SP _ _⟩
end
section
open Go.WideShapes Go.ChangeShapes Go.Deep
def As (x:CallM):CallM:={ x with p1:=x.p1.take 60,p2:=x.p2.take 60,data:=x.data.take 100 }
theorem GP {x:CallM} {a b d:List UInt8} (h1:a=x.p1.take 60) (h2:b=x.p2.take 60) (h3:d=x.data.take 100) :
  (.agg #[ν x.kind,σ a,σ b,ν x.fl,ν x.fd,ν x.off,ν x.n,σ d]:Value)=.agg #[ν (As x).kind,.string (Ad (As x).p1),.string (Ad (As x).p2),ν (As x).fl,ν (As x).fd,ν (As x).off,ν (As x).n,.string (Ad (As x).data)]:=by
 subst h1;subst h2;subst h3;rfl
theorem PJ {L M:List ByteArray} {i:Nat} (h1:i<L.length) (h2:i<M.length) (ht:L.take i=M.take i) (he:L.getD i Bv=M.getD i Bv):L.take (i+1)=M.take (i+1):=by
 rw [De h1 Bv,De h2 Bv,ht,he]
theorem Ro {L M:List ByteArray} {i:Nat} (ht:L.take i=M.take i) (h1:L.length≤i) (h2:M.length≤i):L=M:=by
 rw [List.take_of_length_le h1,List.take_of_length_le h2] at ht;exact ht
def Rg (r s:RepM):Bool:=((((decide (r.names=s.names)&&decide (r.e=s.e))&&decide (r.fd=s.fd))&&decide (r.data=s.data))&&(decide (r.kind=s.kind)&&(decide (r.links=s.links)&&decide (r.size=s.size))))
theorem KH (r:RepM):Rg r r=true:=by unfold Rg;simp
structure AskV where
 cl:Int
 x:CallM
 drop:Bool
def PZ (x:CallM):List Value:=(cL x)
def Iy (a:AskV):List Value:=ν a.cl::PZ a.x++[.bool a.drop]
def wfX (x:CallM):Prop:=(Lit.int .i64 x.kind).wf=true∧(Lit.int .i64 x.fl).wf=true∧(Lit.int .i64 x.fd).wf=true∧(Lit.int .i64 x.off).wf=true∧(Lit.int .i64 x.n).wf=true
def AskV.wf (a:AskV):Prop:=(Lit.int .i64 a.cl).wf=true∧wfX a.x
theorem ND {H:Type} {enc:TypeId×Value→H} {W:World} {base:Nat} {held:Bool} {fuel:Nat} {cs:List Value} {z:DataW H×List MemPlace} (hlen:cs.length=8)
  (ht:DataW.trod enc Tryz.prog W base (fun _=>true) held fuel 30 cs=some z):∃ x,cs=PZ x∧wfX x:=by
 have k1:Tryz.prog.cellsOf 3=1:=κ
 have k2:Tryz.prog.cellsOf 9=1:=κ
 obtain ⟨ys,r,_,_,_,hyl,hg⟩:=DataW.trod_struct υ30 ht
 have hyl':ys.length=8:=hyl
 match cs,hlen with
 | [u0,u1,u2,u3,u4,u5,u6,u7],_=>
  have g0:=hg 0 _ rfl
  have g1:=hg 1 _ rfl
  have g2:=hg 2 _ rfl
  have g3:=hg 3 _ rfl
  have g4:=hg 4 _ rfl
  have g5:=hg 5 _ rfl
  have g6:=hg 6 _ rfl
  have g7:=hg 7 _ rfl
  simp [k1,k2] at g0 g1 g2 g3 g4 g5 g6 g7
  rw [List.getElem?_eq_getElem ω] at g0 g1 g2 g3 g4 g5 g6 g7
  obtain ⟨t0,e0,_,w0⟩:=DataW.trod_int υ3 g0
  obtain ⟨t1,e1,_⟩:=DataW.trod_string υ9 g1
  obtain ⟨t2,e2,_⟩:=DataW.trod_string υ9 g2
  obtain ⟨t3,e3,_,w3⟩:=DataW.trod_int υ3 g3
  obtain ⟨t4,e4,_,w4⟩:=DataW.trod_int υ3 g4
  obtain ⟨t5,e5,_,w5⟩:=DataW.trod_int υ3 g5
  obtain ⟨t6,e6,_,w6⟩:=DataW.trod_int υ3 g6
  obtain ⟨t7,e7,_⟩:=DataW.trod_string υ9 g7
  simp only [List.cons.injEq,and_true] at e0 e1 e2 e3 e4 e5 e6 e7
  subst e0 e1 e2 e3 e4 e5 e6 e7
  exact ⟨⟨t0,t1.data.toList,t2.data.toList,t3,t4,t5,t6,t7.data.toList⟩,rfl,w0,w3,w4,w5,w6⟩
def JN (W:World) (a:Option Addr) (n c:Nat) (f:Nat→AskV):Prop:=ExtA W a n c 10 (fun i=>Iy (f i))∧∀ i,i<n→(f i).wf
theorem Ps {H:Type} {enc:TypeId×Value→H} {W:World} {base:Nat} {held:Bool} (fuel:Nat) (cs:List Value) (z:DataW H×List MemPlace) (hlen:cs.length=10)
  (ht:DataW.trod enc Tryz.prog W base (fun _=>true) held fuel 44 cs=some z):∃ a,cs=Iy a∧a.wf:=by
 have k1:Tryz.prog.cellsOf 3=1:=κ
 have k2:Tryz.prog.cellsOf 4=1:=κ
 have k3:Tryz.prog.cellsOf 30=8:=κ
 obtain ⟨ys,r,_,_,_,hyl,hg⟩:=DataW.trod_struct υ44 ht
 have hyl':ys.length=3:=hyl
 match cs,hlen with
 | [u0,u1,u2,u3,u4,u5,u6,u7,u8,u9],_=>
  have g0:=hg 0 _ rfl
  have g1:=hg 1 _ rfl
  have g2:=hg 2 _ rfl
  simp [k1,k2,k3] at g0 g1 g2
  rw [List.getElem?_eq_getElem ω] at g0 g1 g2
  obtain ⟨t0,e0,_,w0⟩:=DataW.trod_int υ3 g0
  obtain ⟨x,e1,wx⟩:=ND rfl g1
  obtain ⟨t2,e2,_⟩:=DataW.trod_bool υ4 g2
  simp only [List.cons.injEq,and_true] at e0 e2
  subst e0 e2
  unfold PZ at e1
  simp only [List.cons.injEq,and_true] at e1
  obtain ⟨q1,q2,q3,q4,q5,q6,q7,q8⟩:=e1
  subst q1 q2 q3 q4 q5 q6 q7 q8
  exact ⟨⟨t0,x,t2⟩,rfl,w0,wx⟩
theorem open_asks {H:Type} {enc:TypeId×Value→H} {W:World} {base:Nat} {held:Bool} {a:Option Addr} {n c:Nat} {d:DataW H} {p:List MemPlace}
  (h:DataW.Trod enc Tryz.prog W base (fun _=>true) held 22 (.slice a n c) d p):∃ f,JN W a n c f:=
 QS ⟨0,⟨0,[],[],0,0,0,0,[]⟩,false⟩ Iy AskV.wf υ22 κ (by decide) (fun fuel cs x hlen ht=>Ps fuel cs x hlen ht) h
theorem SJ {T:TypeId} {k:TypeDesc} (hu:Tryz.prog.underlying T=some k) (hk:k.isRow=true) {m:Nat} (hn:(Tryz.prog.info? T).map (·.size)=some m) {sz:Nat} {w0 w:World} {B b off n j i o:Nat} {f:Nat→List Value} (h:ExtC w0 b off sz n f) (hB:w0.heap.size≤B) (hw:Below B w0 w∧B≤w0.heap.size) (hj:j<n) (ho:off+j*sz+i=o) {cs:List Value} (hv:((f j).drop i).take m=cs) (hl:cs.length=m) :
  (Instr.loadAt T (.pointer (some ⟨b,o,none⟩))).run Tryz.prog w=.ok (.agg cs.toArray) w:=by
 subst ho
 refine run_loadAt_mid w b (off+j*sz+i) T cs k (fun t v ht=>?_) hu hk (by rw [hl];exact hn)
 rw [← hv,List.getElem?_take] at ht
 split at ht
 ·rw [List.getElem?_drop] at ht
  have z:=h.cell hB hw.1 hj ht
  rw [show off+j*sz+(i+t)=off+j*sz+i+t by omega] at z
  exact z
 ·cases ht
def LK (F:FsM) (a:AskV):FsM:=if a.drop=true then Ev F a.cl else (doF F a.cl (As a.x)).1
def Cg (f:Nat→AskV):Nat→FsM
 | 0=>fs0
 | k+1=>LK (Cg f k) (f k)
theorem Jm {f:Nat→AskV} {k:Nat} (h:(f k).drop=true):Cg f (k+1)=Ev (Cg f k) (f k).cl:=by show LK _ _=_;unfold LK;rw [if_pos h]
theorem Mb {f:Nat→AskV} {k:Nat} (h:(f k).drop=false):Cg f (k+1)=(doF (Cg f k) (f k).cl (As (f k).x)).1:=by show LK _ _=_;unfold LK;rw [if_neg (AH h)]
theorem Hw (f:Nat→AskV):∀ k,FsOk (Cg f k)
 | 0=>Qy
 | k+1=>by
  have h:=Hw f k
  show FsOk (LK _ _)
  unfold LK
  split
  ·exact h.drop_ _
  ·exact h.do_ _ _
theorem GC (f:Nat→AskV):∀ k,SzF (Cg f k) k
 | 0=>Qz
 | k+1=>by
  have h:=GC f k
  show SzF (LK _ _) _
  unfold LK
  split
  ·exact h.drop_ _
  ·exact h.do_ _ _
theorem SzF.ss {F:FsM} {n:Nat} (h:SzF F n) (hn:n≤800):SmS F:=⟨by have:=h.1;omega,by have:=h.2.1;omega,by have:=h.2.2;omega⟩
theorem JW (x:CallM):(As x).p1.length≤60:=by show (x.p1.take 60).length≤60;rw [List.length_take];omega
theorem JX (x:CallM):(As x).p2.length≤60:=by show (x.p2.take 60).length≤60;rw [List.length_take];omega
theorem Mi (x:CallM):(As x).data.length≤100:=by show (x.data.take 100).length≤100;rw [List.length_take];omega
theorem AdOk.drop {F:FsM} {A:AdM} {n:Nat} (h:AdOk F A n) (c:Int):AdOk (Ev F c) A (n+1):=h.unO _
theorem ID {F:FsM} (c:Int) (x:CallM):(doF F c x).2.names.length≤F.E.length:=by
 unfold doF
 split
 ·exact Nat.zero_le _
 ·refine Hn (Pr:=fun p=>p.2.names.length≤F.E.length) ?_ ?_ ?_ ?_ ?_ ?_ ?_ ?_ ?_ ?_ ?_ ?_ ?_ (Nat.zero_le _)
  ·unfold AT;(repeat' split)<;>exact Nat.zero_le _
  ·unfold BM;(repeat' split)<;>exact Nat.zero_le _
  ·unfold Ca;(repeat' split)<;>exact Nat.zero_le _
  ·unfold Bc;(repeat' split)<;>exact Nat.zero_le _
  ·unfold BF;(repeat' split)<;>exact Nat.zero_le _
  ·unfold Cs;(repeat' split)<;>exact Nat.zero_le _
  ·unfold CC;(repeat' split)<;>exact Nat.zero_le _
  ·unfold Bo;(repeat' split)<;>exact Nat.zero_le _
  ·unfold AQ;(repeat' split)<;>exact Nat.zero_le _
  ·unfold Cc;(repeat' split)<;>exact Nat.zero_le _
  ·unfold Am Bh;(repeat' split)<;>exact Nat.zero_le _
  ·unfold Cq
   (repeat' split)
   ·show (AC _).length≤_
    rw [ET];exact Fy _ _
   ·exact Nat.zero_le _
   ·exact Nat.zero_le _
  ·unfold Ci;(repeat' split)<;>exact Nat.zero_le _
structure DocA where
 na:Option Addr
 nc:Nat
 ea:Option Addr
 ec:Nat
 oa:Option Addr
 oc:Nat
theorem HV (x0:Int) (x1:Int) (x2:Int) (y0:Int) (y1:Int) (y2:Int) (w:World):(Op.equalIn 10000 35 (.agg #[ν x0,ν x1,ν x2]) (.agg #[ν y0,ν y1,ν y2])).run Tryz.prog w=.ok (decide (x0=y0)&&(decide (x1=y1)&&decide (x2=y2))) w:=by
 have u3:=υ3
 have a3:=Tryz.isAgg3
 have z3:=Tryz.sizeOf3
 have hS:Tryz.prog.underlying 35=some (.struct (Tryz.prog.fieldsOf 35)):=κ
 have hp:Tryz.prog.stoodInHeld 35=false:=κ
 rw [show (10000:Nat)=9999+1 from rfl,run_equalIn_agg w 9999 35 _ _ hS hp]
 simp only [Program.fieldsOf,υ35]
 go_simp
 by_cases h0:x0=y0
 case neg=>simp [h0]
 by_cases h1:x1=y1
 case neg=>simp [h0,h1]
 by_cases h2:x2=y2
 case neg=>simp [h0,h1,h2]
 simp [h0,h1,h2]
theorem GU (o p:Operand) (x0:Int) (x1:Int) (x2:Int) (y0:Int) (y1:Int) (y2:Int) (w:World):(do eqGuard .eql 35 o p (.agg #[ν x0,ν x1,ν x2]) (.agg #[ν y0,ν y1,ν y2]);binOp .eql 35 (.agg #[ν x0,ν x1,ν x2]) (.agg #[ν y0,ν y1,ν y2]):Sem Value).run Tryz.prog w=.ok (.bool ((decide (x0=y0)&&(decide (x1=y1)&&decide (x2=y2))))) w:=by
 have e:(Op.equal 35 (.agg #[ν x0,ν x1,ν x2]) (.agg #[ν y0,ν y1,ν y2])).run Tryz.prog w=.ok (decide (x0=y0)&&(decide (x1=y1)&&decide (x2=y2))) w:=HV x0 x1 x2 y0 y1 y2 w
 rw [Sem.run_bind,run_eqGuard_agg (P:=Tryz.prog) w .eql 35 o p _ _ κ]
 show (binOp .eql 35 _ _).run Tryz.prog w=_
 simp only [binOp,Sem.run_bind,e]
 rfl
theorem Qi {w:World} {R:List Ch} (hS0:Sep w R) (x:CallM) :
  CallsR Tryz.prog 15 #[.agg (cL x).toArray] w (fun v w'=>v=.agg #[ν ((As x).kind),σ ((As x).p1),σ ((As x).p2),ν ((As x).fl),ν ((As x).fd),ν ((As x).off),ν ((As x).n),σ ((As x).data)]∧Sep w' R):=by
 have hS:Sep w [Ch.many R]:=Sep.tail_many (xs:=[]) hS0;clear hS0
 refine AB Tryz.func15 rfl (N:=28) Tryz.ntmps15 (by show 1≤28;decide) [(0,.agg (cL x).toArray)] rfl fun _ h1=>sqr fun _ hK3=>so (wn rfl) fun _ hK1=>Cv h1 rfl rfl rfl rfl rfl (z:=(cL x)) rfl hS fun _ g4 w7 h5 s8 _ _=>hK1 _ _ ?_
 refine so (wn rfl) fun _ hK2=>BB h5 rfl rfl rfl rfl (z:=[ν 0,σ [],σ [],ν 0,ν 0,ν 0,ν 0,σ []]) (fun _=>rfl) s8 fun _ g1 w1 h2 s1 _ _=>hK2 _ _ ?_
 refine wpList_nil<|hK3 _ _<|sq fun _ hK4=>sqr fun _ hK5=>fav h2 rfl (An _ _) fun _ h3=>ldv h3 s1 1 υ9 rfl rfl rfl rfl fun _ h4=>sv1 h4 rfl (CH h4 rfl rfl υ9) fun _ h6=>bv h6 (z:=.bool (decide ((x.p1.length:Int)>60))) rfl (cGt _ _ _ _ rfl) fun _ h7=>h7.sn [6,2,1,0] rfl fun h8=>hK5 _ _ ?_
 rcases bC (decide ((x.p1.length:Int)>60)) with hc1 | hc1
 ·skip
  have hp1:(x.p1.length:Int)>60:=(dT hc1)
  refine wcT h8 rfl hc1<|h8.sk [2,1,0] rfl fun h9=>wp_region_lit<|fav h9 rfl (An _ _) fun _ h10=>ldv h10 s1 1 υ9 rfl rfl rfl rfl fun _ h11=>sv1 h11 rfl (EA h11 rfl rfl (vl:=none) (vh:=(some (ν 60))) rfl rfl (fun w=>(fun w=>((slT 9 υ9 x.p1 (a:=0) (b:=60) (.inl ⟨rfl,rfl⟩) (.inr ⟨_,rfl,rfl⟩) ω ω) w).trans (by rw [List.drop_zero])) w)) fun _ h12=>fav h12 rfl (An _ _) fun _ h13=>st1 h13 s1 1 rfl rfl κ rfl rfl rfl rfl fun _ w2 h14 s2 _=>h14.sn [2,1,0] rfl fun h15=>hK4 _ _ ?_
  refine sq fun _ hK6=>sqr fun _ hK7=>fav h15 rfl (AS _ _) fun _ h16=>ldv h16 s2 1 υ9 rfl rfl rfl rfl fun _ h17=>sv1 h17 rfl (CH h17 rfl rfl υ9) fun _ h18=>bv h18 (z:=.bool (decide ((x.p2.length:Int)>60))) rfl (cGt _ _ _ _ rfl) fun _ h19=>h19.sn [14,2,1,0] rfl fun h20=>hK7 _ _ ?_
  rcases bC (decide ((x.p2.length:Int)>60)) with hc2 | hc2
  ·skip
   have hp2:(x.p2.length:Int)>60:=(dT hc2)
   refine wcT h20 rfl hc2<|h20.sk [2,1,0] rfl fun h21=>wp_region_lit<|fav h21 rfl (AS _ _) fun _ h22=>ldv h22 s2 1 υ9 rfl rfl rfl rfl fun _ h23=>sv1 h23 rfl (EA h23 rfl rfl (vl:=none) (vh:=(some (ν 60))) rfl rfl (fun w=>(fun w=>((slT 9 υ9 x.p2 (a:=0) (b:=60) (.inl ⟨rfl,rfl⟩) (.inr ⟨_,rfl,rfl⟩) ω ω) w).trans (by rw [List.drop_zero])) w)) fun _ h24=>fav h24 rfl (AS _ _) fun _ h25=>st1 h25 s2 1 rfl rfl κ rfl rfl rfl rfl fun _ w3 h26 s3 _=>h26.sn [2,1,0] rfl fun h27=>hK6 _ _ ?_
   refine sq fun _ hK8=>sqr fun _ hK9=>fav h27 rfl (AO _ _) fun _ h28=>ldv h28 s3 1 υ9 rfl rfl rfl rfl fun _ h29=>sv1 h29 rfl (CH h29 rfl rfl υ9) fun _ h30=>bv h30 (z:=.bool (decide ((x.data.length:Int)>100))) rfl (cGt _ _ _ _ rfl) fun _ h31=>h31.sn [22,2,1,0] rfl fun h32=>hK9 _ _ ?_
   rcases bC (decide ((x.data.length:Int)>100)) with hc3 | hc3
   ·skip
    have hp3:(x.data.length:Int)>100:=(dT hc3)
    refine wcT h32 rfl hc3<|h32.sk [2,1,0] rfl fun h33=>wp_region_lit<|fav h33 rfl (AO _ _) fun _ h34=>ldv h34 s3 1 υ9 rfl rfl rfl rfl fun _ h35=>sv1 h35 rfl (EA h35 rfl rfl (vl:=none) (vh:=(some (ν 100))) rfl rfl (fun w=>(fun w=>((slT 9 υ9 x.data (a:=0) (b:=100) (.inl ⟨rfl,rfl⟩) (.inr ⟨_,rfl,rfl⟩) ω ω) w).trans (by rw [List.drop_zero])) w)) fun _ h36=>fav h36 rfl (AO _ _) fun _ h37=>st1 h37 s3 1 rfl rfl κ rfl rfl rfl rfl fun _ w4 h38 s4 _=>h38.sn [2,1,0] rfl fun h39=>hK8 _ _ ?_
    refine sqr fun _ hK10=>sw1 h39 rfl (rld h39 rfl rfl (ldA υ30 rfl (n:=8) κ (s4.get 1 rfl:Blk _ _ _ _) rfl rfl)) fun _ h40=>stA h40 s4 0 rfl rfl rfl κ rfl rfl rfl rfl fun _ w5 h41 s5 _=>h41.sn [2,1,0] rfl fun h42=>hK10 _ _<|wp_ret ?_
    try simp only [Exit.then,Exit.inBlock]
    refine rC h42 s5 0 υ30 rfl rfl rfl rfl ?_
    exact ⟨GP rfl rfl rfl,Sep.tail_un (xs:=[]) (s5.pk [2] rfl)⟩
   ·skip
    have hp4:¬ ((x.data.length:Int)>100):=(dF hc3)
    refine wcF h32 rfl hc3<|h32.sk [2,1,0] rfl fun h43=>wp_skip<|hK8 _ _<|sqr fun _ hK11=>sw1 h43 rfl (rld h43 rfl rfl (ldA υ30 rfl (n:=8) κ (s3.get 1 rfl:Blk _ _ _ _) rfl rfl)) fun _ h44=>stA h44 s3 0 rfl rfl rfl κ rfl rfl rfl rfl fun _ w6 h45 s6 _=>h45.sn [2,1,0] rfl fun h46=>hK11 _ _<|wp_ret ?_
    try simp only [Exit.then,Exit.inBlock]
    refine rC h46 s6 0 υ30 rfl rfl rfl rfl ?_
    exact ⟨GP rfl rfl (List.take_of_length_le ω).symm,Sep.tail_un (xs:=[]) (s6.pk [2] rfl)⟩
  ·skip
   have hp5:¬ ((x.p2.length:Int)>60):=(dF hc2)
   refine wcF h20 rfl hc2<|h20.sk [2,1,0] rfl fun h47=>wp_skip<|hK6 _ _<|sq fun _ hK12=>sqr fun _ hK13=>fav h47 rfl (AO _ _) fun _ h48=>ldv h48 s2 1 υ9 rfl rfl rfl rfl fun _ h49=>sv1 h49 rfl (CH h49 rfl rfl υ9) fun _ h50=>bv h50 (z:=.bool (decide ((x.data.length:Int)>100))) rfl (cGt _ _ _ _ rfl) fun _ h51=>h51.sn [22,2,1,0] rfl fun h52=>hK13 _ _ ?_
   rcases bC (decide ((x.data.length:Int)>100)) with hc4 | hc4
   ·skip
    have hp6:(x.data.length:Int)>100:=(dT hc4)
    refine wcT h52 rfl hc4<|h52.sk [2,1,0] rfl fun h53=>wp_region_lit<|fav h53 rfl (AO _ _) fun _ h54=>ldv h54 s2 1 υ9 rfl rfl rfl rfl fun _ h55=>sv1 h55 rfl (EA h55 rfl rfl (vl:=none) (vh:=(some (ν 100))) rfl rfl (fun w=>(fun w=>((slT 9 υ9 x.data (a:=0) (b:=100) (.inl ⟨rfl,rfl⟩) (.inr ⟨_,rfl,rfl⟩) ω ω) w).trans (by rw [List.drop_zero])) w)) fun _ h56=>fav h56 rfl (AO _ _) fun _ h57=>st1 h57 s2 1 rfl rfl κ rfl rfl rfl rfl fun _ w8 h58 s7 _=>h58.sn [2,1,0] rfl fun h59=>hK12 _ _ ?_
    refine sqr fun _ hK14=>sw1 h59 rfl (rld h59 rfl rfl (ldA υ30 rfl (n:=8) κ (s7.get 1 rfl:Blk _ _ _ _) rfl rfl)) fun _ h60=>stA h60 s7 0 rfl rfl rfl κ rfl rfl rfl rfl fun _ w9 h61 s9 _=>h61.sn [2,1,0] rfl fun h62=>hK14 _ _<|wp_ret ?_
    try simp only [Exit.then,Exit.inBlock]
    refine rC h62 s9 0 υ30 rfl rfl rfl rfl ?_
    exact ⟨GP rfl (List.take_of_length_le ω).symm rfl,Sep.tail_un (xs:=[]) (s9.pk [2] rfl)⟩
   ·skip
    have hp7:¬ ((x.data.length:Int)>100):=(dF hc4)
    refine wcF h52 rfl hc4<|h52.sk [2,1,0] rfl fun h63=>wp_skip<|hK12 _ _<|sqr fun _ hK15=>sw1 h63 rfl (rld h63 rfl rfl (ldA υ30 rfl (n:=8) κ (s2.get 1 rfl:Blk _ _ _ _) rfl rfl)) fun _ h64=>stA h64 s2 0 rfl rfl rfl κ rfl rfl rfl rfl fun _ w10 h65 s10 _=>h65.sn [2,1,0] rfl fun h66=>hK15 _ _<|wp_ret ?_
    try simp only [Exit.then,Exit.inBlock]
    refine rC h66 s10 0 υ30 rfl rfl rfl rfl ?_
    exact ⟨GP rfl (List.take_of_length_le ω).symm (List.take_of_length_le ω).symm,Sep.tail_un (xs:=[]) (s10.pk [2] rfl)⟩
 ·skip
  have hp8:¬ ((x.p1.length:Int)>60):=(dF hc1)
  refine wcF h8 rfl hc1<|h8.sk [2,1,0] rfl fun h67=>wp_skip<|hK4 _ _<|sq fun _ hK16=>sqr fun _ hK17=>fav h67 rfl (AS _ _) fun _ h68=>ldv h68 s1 1 υ9 rfl rfl rfl rfl fun _ h69=>sv1 h69 rfl (CH h69 rfl rfl υ9) fun _ h70=>bv h70 (z:=.bool (decide ((x.p2.length:Int)>60))) rfl (cGt _ _ _ _ rfl) fun _ h71=>h71.sn [14,2,1,0] rfl fun h72=>hK17 _ _ ?_
  rcases bC (decide ((x.p2.length:Int)>60)) with hc5 | hc5
  ·skip
   have hp9:(x.p2.length:Int)>60:=(dT hc5)
   refine wcT h72 rfl hc5<|h72.sk [2,1,0] rfl fun h73=>wp_region_lit<|fav h73 rfl (AS _ _) fun _ h74=>ldv h74 s1 1 υ9 rfl rfl rfl rfl fun _ h75=>sv1 h75 rfl (EA h75 rfl rfl (vl:=none) (vh:=(some (ν 60))) rfl rfl (fun w=>(fun w=>((slT 9 υ9 x.p2 (a:=0) (b:=60) (.inl ⟨rfl,rfl⟩) (.inr ⟨_,rfl,rfl⟩) ω ω) w).trans (by rw [List.drop_zero])) w)) fun _ h76=>fav h76 rfl (AS _ _) fun _ h77=>st1 h77 s1 1 rfl rfl κ rfl rfl rfl rfl fun _ w11 h78 s11 _=>h78.sn [2,1,0] rfl fun h79=>hK16 _ _ ?_
   refine sq fun _ hK18=>sqr fun _ hK19=>fav h79 rfl (AO _ _) fun _ h80=>ldv h80 s11 1 υ9 rfl rfl rfl rfl fun _ h81=>sv1 h81 rfl (CH h81 rfl rfl υ9) fun _ h82=>bv h82 (z:=.bool (decide ((x.data.length:Int)>100))) rfl (cGt _ _ _ _ rfl) fun _ h83=>h83.sn [22,2,1,0] rfl fun h84=>hK19 _ _ ?_
   rcases bC (decide ((x.data.length:Int)>100)) with hc6 | hc6
   ·skip
    have hp10:(x.data.length:Int)>100:=(dT hc6)
    refine wcT h84 rfl hc6<|h84.sk [2,1,0] rfl fun h85=>wp_region_lit<|fav h85 rfl (AO _ _) fun _ h86=>ldv h86 s11 1 υ9 rfl rfl rfl rfl fun _ h87=>sv1 h87 rfl (EA h87 rfl rfl (vl:=none) (vh:=(some (ν 100))) rfl rfl (fun w=>(fun w=>((slT 9 υ9 x.data (a:=0) (b:=100) (.inl ⟨rfl,rfl⟩) (.inr ⟨_,rfl,rfl⟩) ω ω) w).trans (by rw [List.drop_zero])) w)) fun _ h88=>fav h88 rfl (AO _ _) fun _ h89=>st1 h89 s11 1 rfl rfl κ rfl rfl rfl rfl fun _ w12 h90 s12 _=>h90.sn [2,1,0] rfl fun h91=>hK18 _ _ ?_
    refine sqr fun _ hK20=>sw1 h91 rfl (rld h91 rfl rfl (ldA υ30 rfl (n:=8) κ (s12.get 1 rfl:Blk _ _ _ _) rfl rfl)) fun _ h92=>stA h92 s12 0 rfl rfl rfl κ rfl rfl rfl rfl fun _ w13 h93 s13 _=>h93.sn [2,1,0] rfl fun h94=>hK20 _ _<|wp_ret ?_
    try simp only [Exit.then,Exit.inBlock]
    refine rC h94 s13 0 υ30 rfl rfl rfl rfl ?_
    exact ⟨GP (List.take_of_length_le ω).symm rfl rfl,Sep.tail_un (xs:=[]) (s13.pk [2] rfl)⟩
   ·skip
    have hp11:¬ ((x.data.length:Int)>100):=(dF hc6)
    refine wcF h84 rfl hc6<|h84.sk [2,1,0] rfl fun h95=>wp_skip<|hK18 _ _<|sqr fun _ hK21=>sw1 h95 rfl (rld h95 rfl rfl (ldA υ30 rfl (n:=8) κ (s11.get 1 rfl:Blk _ _ _ _) rfl rfl)) fun _ h96=>stA h96 s11 0 rfl rfl rfl κ rfl rfl rfl rfl fun _ w14 h97 s14 _=>h97.sn [2,1,0] rfl fun h98=>hK21 _ _<|wp_ret ?_
    try simp only [Exit.then,Exit.inBlock]
    refine rC h98 s14 0 υ30 rfl rfl rfl rfl ?_
    exact ⟨GP (List.take_of_length_le ω).symm rfl (List.take_of_length_le ω).symm,Sep.tail_un (xs:=[]) (s14.pk [2] rfl)⟩
  ·skip
   have hp12:¬ ((x.p2.length:Int)>60):=(dF hc5)
   refine wcF h72 rfl hc5<|h72.sk [2,1,0] rfl fun h99=>wp_skip<|hK16 _ _<|sq fun _ hK22=>sqr fun _ hK23=>fav h99 rfl (AO _ _) fun _ h100=>ldv h100 s1 1 υ9 rfl rfl rfl rfl fun _ h101=>sv1 h101 rfl (CH h101 rfl rfl υ9) fun _ h102=>bv h102 (z:=.bool (decide ((x.data.length:Int)>100))) rfl (cGt _ _ _ _ rfl) fun _ h103=>h103.sn [22,2,1,0] rfl fun h104=>hK23 _ _ ?_
   rcases bC (decide ((x.data.length:Int)>100)) with hc7 | hc7
   ·skip
    have hp13:(x.data.length:Int)>100:=(dT hc7)
    refine wcT h104 rfl hc7<|h104.sk [2,1,0] rfl fun h105=>wp_region_lit<|fav h105 rfl (AO _ _) fun _ h106=>ldv h106 s1 1 υ9 rfl rfl rfl rfl fun _ h107=>sv1 h107 rfl (EA h107 rfl rfl (vl:=none) (vh:=(some (ν 100))) rfl rfl (fun w=>(fun w=>((slT 9 υ9 x.data (a:=0) (b:=100) (.inl ⟨rfl,rfl⟩) (.inr ⟨_,rfl,rfl⟩) ω ω) w).trans (by rw [List.drop_zero])) w)) fun _ h108=>fav h108 rfl (AO _ _) fun _ h109=>st1 h109 s1 1 rfl rfl κ rfl rfl rfl rfl fun _ w15 h110 s15 _=>h110.sn [2,1,0] rfl fun h111=>hK22 _ _ ?_
    refine sqr fun _ hK24=>sw1 h111 rfl (rld h111 rfl rfl (ldA υ30 rfl (n:=8) κ (s15.get 1 rfl:Blk _ _ _ _) rfl rfl)) fun _ h112=>stA h112 s15 0 rfl rfl rfl κ rfl rfl rfl rfl fun _ w16 h113 s16 _=>h113.sn [2,1,0] rfl fun h114=>hK24 _ _<|wp_ret ?_
    try simp only [Exit.then,Exit.inBlock]
    refine rC h114 s16 0 υ30 rfl rfl rfl rfl ?_
    exact ⟨GP (List.take_of_length_le ω).symm (List.take_of_length_le ω).symm rfl,Sep.tail_un (xs:=[]) (s16.pk [2] rfl)⟩
   ·skip
    have hp14:¬ ((x.data.length:Int)>100):=(dF hc7)
    refine wcF h104 rfl hc7<|h104.sk [2,1,0] rfl fun h115=>wp_skip<|hK22 _ _<|sqr fun _ hK25=>sw1 h115 rfl (rld h115 rfl rfl (ldA υ30 rfl (n:=8) κ (s1.get 1 rfl:Blk _ _ _ _) rfl rfl)) fun _ h116=>stA h116 s1 0 rfl rfl rfl κ rfl rfl rfl rfl fun _ w17 h117 s17 _=>h117.sn [2,1,0] rfl fun h118=>hK25 _ _<|wp_ret ?_
    try simp only [Exit.then,Exit.inBlock]
    refine rC h118 s17 0 υ30 rfl rfl rfl rfl ?_
    exact ⟨GP (List.take_of_length_le ω).symm (List.take_of_length_le ω).symm (List.take_of_length_le ω).symm,Sep.tail_un (xs:=[]) (s17.pk [2] rfl)⟩
theorem Rf {w:World} {R:List Ch} {a b:Option Addr} {c c2:Nat} {L M:List ByteArray} (hS0:Sep w ([Ak 0 9 1 a L.length c (L.flatMap sE),Ak 0 9 1 b M.length c2 (M.flatMap sE)]++R)) (hL:L.length≤100000) (hM:M.length≤100000) :
  CallsR Tryz.prog 29 #[.slice a L.length c,.slice b M.length c2] w (fun v w'=>v=.bool (decide (L=M))∧Sep w' ([Ak 0 9 1 a L.length c (L.flatMap sE),Ak 0 9 1 b M.length c2 (M.flatMap sE)]++R)):=by
 have hS:Sep w [Ak 0 9 1 a L.length c (L.flatMap sE),Ak 0 9 1 b M.length c2 (M.flatMap sE),Ch.many R]:=Sep.tail_many (xs:=[_,_]) hS0;clear hS0
 refine AB Tryz.func29 rfl (N:=26) Tryz.ntmps29 (by show 2≤26;decide) [(0,.slice a L.length c),(1,.slice b M.length c2)] rfl fun _ h1=>sqr fun _ hK3=>mv h1 rfl fun _ h4=>wpList_nil<|hK3 _ _<|sq fun _ hK6=>sqr fun _ hK7=>mv h4 rfl fun _ h8=>sv1 h8 rfl (CR h8 rfl rfl υ33) fun _ h2=>mv h2 rfl fun _ h3=>sv1 h3 rfl (CR h3 rfl rfl υ33) fun _ h5=>bv h5 (z:=.bool (decide ((L.length:Int)≠(M.length:Int)))) rfl (cNe _ _ _ _ rfl) fun _ h6=>?_
 refine h6.sn [10,4,0,1] rfl fun h7=>hK7 _ _ ?_
 rcases bC (decide ((L.length:Int)≠(M.length:Int))) with hc1 | hc1
 ·skip
  have hp1:(L.length:Int)≠(M.length:Int):=(dT hc1)
  refine wcT h7 rfl hc1<|h7.sk [4,0,1] rfl fun h9=>sqr fun _ hK1=>h9.sk [0,1] rfl fun h10=>mv h10 rfl fun _ h11=>wpList_nil<|hK1 _ _<|wp_ret ?_
  try simp only [Exit.then,Exit.inBlock]
  refine Bn (v:=.bool false) (Cf h11 rfl rfl) h11.defs ?_
  exact ⟨congrArg Value.bool (decide_eq_false (fun q=>absurd (congrArg List.length q) ω)).symm,Sep.tail_un (xs:=[_,_]) hS⟩
 ·skip
  have hp2:¬ ((L.length:Int)≠(M.length:Int)):=(dF hc1)
  refine wcF h7 rfl hc1<|h7.sk [4,0,1] rfl fun h12=>wp_skip<|hK6 _ _<|sq fun _ hK2=>sqr fun _ hK4=>mv h12 rfl fun _ h13=>wpList_nil<|hK4 _ _<|wp_block ?_
  refine DC (fun (i:Nat) a' w'=>Kn 26 [(5,ν (i:Int)),(4,.bool false),(0,.slice a L.length c),(1,.slice b M.length c2)] a'∧Sep w' [Ak 0 9 1 a L.length c (L.flatMap sE),Ak 0 9 1 b M.length c2 (M.flatMap sE),Ch.many R]∧(L.take i=M.take i)) (fun (i:Nat)=>L.length-i) 0 ⟨h13.subs rfl,hS,rfl⟩ ?_
  rintro i1 a1 w2 ⟨h14,s1,ht37⟩ K1 hK5
  refine sq fun _ hK8=>sqr fun _ hK9=>mvs 2 h14 rfl fun _ h15=>sv1 h15 rfl (CR h15 rfl rfl υ33) fun _ h16=>bv h16 (z:=.bool (decide ((i1:Int)<(L.length:Int)))) rfl (cLt _ _ _ _ rfl) fun _ h17=>h17.sn [14,5,4,0,1] rfl fun h18=>hK9 _ _ ?_
  rcases bC (decide ((i1:Int)<(L.length:Int))) with hc2 | hc2
  ·skip
   have hp3:(i1:Int)<(L.length:Int):=(dT hc2)
   refine wcT h18 rfl hc2<|h18.sk [5,4,0,1] rfl fun h19=>wp_skip<|hK8 _ _<|sq fun _ hK10=>wp_block ?_
   refine sq fun _ hK11=>?_
   have s2:=s1.drew
   refine wp_region_held_drew (S:=fun w'=>Sep w' [Ak 0 9 1 a L.length c (L.flatMap sE),Ak 0 9 1 b M.length c2 (M.flatMap sE),Ch.many R]) κ s2 (fun hq1=>?_)
   refine tv1 hq1 h19 0 rfl rfl (fun w1 _=>(Ap h19 rfl rfl) w1) fun _ h20=>?_
   refine tv1 hq1 h20 1 rfl rfl (fun w1 _=>(Ap h20 rfl rfl) w1) fun _ h21=>?_
   obtain ⟨q61,hq2⟩:=AY (s2.get 0 rfl:Own _ _ _ _ _ _ _ _)
   refine tv1 hq1 h21 2 rfl rfl (v:=.pointer (some ⟨q61,i1,none⟩)) (fun w1 _=>(Aw h21 rfl rfl rfl (fun w=>ixO υ33 κ (sz:=1) (hq2 ω) (j:=i1) rfl ω ω w)) w1) fun _ h22=>?_
   refine tv1 hq1 h22 3 rfl rfl (fun w1 hSw=>(rld h22 rfl rfl (BO Ej υ9 rfl (hSw.get 0 rfl:Own _ _ _ _ _ _ _ _) (hq2 ω) Bv (j:=i1) (f:=0) ω (by decide) ω rfl))) fun _ h23=>?_
   refine tv1 hq1 h23 4 rfl rfl (fun w1 _=>(Ap h23 rfl rfl) w1) fun _ h24=>?_
   refine tv1 hq1 h24 5 rfl rfl (fun w1 _=>(Ap h24 rfl rfl) w1) fun _ h25=>?_
   obtain ⟨q71,hq3⟩:=AY (s2.get 1 rfl:Own _ _ _ _ _ _ _ _)
   refine tv1 hq1 h25 6 rfl rfl (v:=.pointer (some ⟨q71,i1,none⟩)) (fun w1 _=>(Aw h25 rfl rfl rfl (fun w=>ixO υ33 κ (sz:=1) (hq3 ω) (j:=i1) rfl ω ω w)) w1) fun _ h26=>?_
   refine tv1 hq1 h26 7 rfl rfl (fun w1 hSw=>(rld h26 rfl rfl (BO Ej υ9 rfl (hSw.get 1 rfl:Own _ _ _ _ _ _ _ _) (hq3 ω) Bv (j:=i1) (f:=0) ω (by decide) ω rfl))) fun _ h27=>?_
   refine tv1 hq1 h27 8 rfl rfl (fun w1 _=>(BG h27 rfl rfl rfl (Oc _ _ _ (L.getD i1 Bv) (M.getD i1 Bv) rfl)) w1) fun _ h28=>?_
   refine h28.sk [25,5,4,0,1] rfl fun h29=>?_
   refine wpAnyH_done κ ?_ _
   refine hK11 _ _ ?_
   rcases bC (decide ((L.getD i1 Bv)≠(M.getD i1 Bv))) with hc3 | hc3
   ·skip
    have hp4:(L.getD i1 Bv)≠(M.getD i1 Bv):=(dT hc3)
    refine wcT h29 rfl hc3<|h29.sk [5,4,0,1] rfl fun h30=>sqr fun _ hK12=>h30.sk [5,0,1] rfl fun h31=>mv h31 rfl fun _ h32=>wpList_nil<|hK12 _ _<|wp_ret ?_
    try simp only [Exit.then,Exit.inBlock]
    refine Bn (v:=.bool false) (Cf h32 rfl rfl) h32.defs ?_
    exact ⟨congrArg Value.bool (decide_eq_false (fun q=>dT hc3 (by rw [q]))).symm,Sep.tail_un (xs:=[_,_]) s2⟩
   ·skip
    have hp5:¬ ((L.getD i1 Bv)≠(M.getD i1 Bv)):=(dF hc3)
    refine wcF h29 rfl hc3<|h29.sk [5,4,0,1] rfl fun h33=>wp_skip<|hK10 _ _<|wp_region_lit<|mv h33 rfl fun _ h34=>bv h34 (z:=ν ((i1+1:Nat):Int)) rfl (Dx _ _ _ ω ω ω) fun _ h35=>h35.sk [16,15,4,0,1] rfl fun h36=>mv h36 rfl fun _ h37=>h37.sk [5,4,0,1] rfl fun h38=>wpList_nil ?_
    exact hK5 (i1+1) _ _ ⟨h38.subs rfl,s2,(PJ ω ω ht37 (Classical.not_not.1 (dF hc3)))⟩ ω
  ·skip
   have hp6:¬ ((i1:Int)<(L.length:Int)):=(dF hc2)
   refine wcF h18 rfl hc2<|h18.sk [5,4,0,1] rfl fun h39=>wp_exit ?_
   refine hK2 _ _ ?_
   refine sqr fun _ hK13=>h39.sk [5,0,1] rfl fun h40=>mv h40 rfl fun _ h41=>wpList_nil<|hK13 _ _<|wp_ret ?_
   try simp only [Exit.then,Exit.inBlock]
   refine Bn (v:=.bool true) (Cf h41 rfl rfl) h41.defs ?_
   exact ⟨congrArg Value.bool (decide_eq_true (Ro ht37 ω ω)).symm,Sep.tail_un (xs:=[_,_]) s1⟩
theorem JB {w:World} {R:List Ch} {a b:Option Addr} {c c2:Nat} {r s:RepM} (hS0:Sep w ([Ak 0 9 1 a r.names.length c (r.names.flatMap sE),Ak 0 9 1 b s.names.length c2 (s.names.flatMap sE)]++R)) (hr:r.names.length≤100000) (hs2:s.names.length≤100000) :
  CallsR Tryz.prog 16 #[.agg #[ν r.e,ν r.fd,σ r.data,.slice a r.names.length c,ν r.kind,ν r.links,ν r.size],.agg #[ν s.e,ν s.fd,σ s.data,.slice b s.names.length c2,ν s.kind,ν s.links,ν s.size]] w (fun v w'=>v=.bool (Rg r s)∧Sep w' ([Ak 0 9 1 a r.names.length c (r.names.flatMap sE),Ak 0 9 1 b s.names.length c2 (s.names.flatMap sE)]++R)):=by
 have hS:Sep w [Ak 0 9 1 a r.names.length c (r.names.flatMap sE),Ak 0 9 1 b s.names.length c2 (s.names.flatMap sE),Ch.many R]:=Sep.tail_many (xs:=[_,_]) hS0;clear hS0
 refine AB Tryz.func16 rfl (N:=40) Tryz.ntmps16 (by show 2≤40;decide) [(0,.agg #[ν r.e,ν r.fd,σ r.data,.slice a r.names.length c,ν r.kind,ν r.links,ν r.size]),(1,.agg #[ν s.e,ν s.fd,σ s.data,.slice b s.names.length c2,ν s.kind,ν s.links,ν s.size])] rfl fun _ h1=>sqr fun _ hK3=>so (wn rfl) fun _ hK1=>Cv h1 rfl rfl rfl rfl rfl (z:=[ν r.e,ν r.fd,σ r.data,.slice a r.names.length c,ν r.kind,ν r.links,ν r.size]) rfl hS fun _ g4 w7 h5 s8 _ _=>hK1 _ _ ?_
 refine so (wn rfl) fun _ hK2=>Cv h5 rfl rfl rfl rfl rfl (z:=[ν s.e,ν s.fd,σ s.data,.slice b s.names.length c2,ν s.kind,ν s.links,ν s.size]) rfl s8 fun _ g1 w1 h2 s1 _ _=>hK2 _ _ ?_
 refine mv h2 rfl fun _ h3=>wpList_nil<|hK3 _ _<|sqr fun _ hK4=>fav h3 rfl (GX _ _) fun _ h4=>ldv h4 s1 1 υ33 rfl rfl rfl rfl fun _ h6=>fav h6 rfl (GX _ _) fun _ h7=>ldv h7 s1 0 υ33 rfl rfl rfl rfl fun _ h8=>cl h8 rfl GQ (Rf (L:=r.names) (M:=s.names) (s1.pk [2,3,0,1,4] rfl) hr hs2) fun _ v1 w2 r1 h9=>?_
 obtain ⟨rfl,s2⟩:=r1
 refine mv h9 rfl fun _ h10=>h10.sn [5,4,3,2,0,1] rfl fun h11=>hK4 _ _<|sqr fun _ hK5=>mvs 2 h11 rfl fun _ h12=>sg h12 (wT h12 rfl rfl rfl) rfl rfl rfl (fun hC1=>by have hq:=(dT hC1);exact rfa h12 rfl rfl (fun w=>CW g4 0 w) _) fun _ h13=>sg h13 (wT h13 rfl rfl rfl) rfl rfl rfl (fun hC2=>by have hq:=(dT hC2);exact (rld h13 rfl (opg rfl hC2) (ldB υ32 rfl (s2.get 3 rfl:Blk _ _ _ _) rfl))) fun _ h14=>sg h14 (wT h14 rfl rfl rfl) rfl rfl rfl (fun hC3=>by have hq:=(dT hC3);exact rfa h14 rfl rfl (fun w=>CW g1 0 w) _) fun _ h15=>sg h15 (wT h15 rfl rfl rfl) rfl rfl rfl (fun hC4=>by have hq:=(dT hC4);exact (rld h15 rfl (opg rfl hC4) (ldB υ32 rfl (s2.get 2 rfl:Blk _ _ _ _) rfl))) fun _ h16=>sg h16 (wT h16 rfl rfl rfl) rfl rfl rfl (fun hC5=>by have hq:=(dT hC5);exact BG h16 rfl (opg rfl hC5) (opg rfl hC5) (cEq _ _ _ _ rfl) _) fun _ h17=>?_
 refine sv1 h17 rfl (DJ h17 rfl (E:=(decide (r.names=s.names))) (F:=(decide (r.e=s.e))) rfl rfl rfl (fun e=>if_pos (by rw [e];try rfl))) fun _ h18=>mv h18 rfl fun _ h19=>sg h19 (wT h19 rfl rfl rfl) rfl rfl rfl (fun hC6=>by have hq:=(And.intro (dT (AA hC6).1) (dT (AA hC6).2));exact rfa h19 rfl rfl (fun w=>Fv g4 0 w) _) fun _ h20=>sg h20 (wT h20 rfl rfl rfl) rfl rfl rfl (fun hC7=>by have hq:=(And.intro (dT (AA hC7).1) (dT (AA hC7).2));exact (rld h20 rfl (opg rfl hC7) (ldB υ3 rfl (s2.get 3 rfl:Blk _ _ _ _) rfl))) fun _ h21=>sg h21 (wT h21 rfl rfl rfl) rfl rfl rfl (fun hC8=>by have hq:=(And.intro (dT (AA hC8).1) (dT (AA hC8).2));exact rfa h21 rfl rfl (fun w=>Fv g1 0 w) _) fun _ h22=>sg h22 (wT h22 rfl rfl rfl) rfl rfl rfl (fun hC9=>by have hq:=(And.intro (dT (AA hC9).1) (dT (AA hC9).2));exact (rld h22 rfl (opg rfl hC9) (ldB υ3 rfl (s2.get 2 rfl:Blk _ _ _ _) rfl))) fun _ h23=>sg h23 (wT h23 rfl rfl rfl) rfl rfl rfl (fun hC10=>by have hq:=(And.intro (dT (AA hC10).1) (dT (AA hC10).2));exact BG h23 rfl (opg rfl hC10) (opg rfl hC10) (cEq _ _ _ _ rfl) _) fun _ h24=>sv1 h24 rfl (DJ h24 rfl (E:=((decide (r.names=s.names))&&(decide (r.e=s.e)))) (F:=(decide (r.fd=s.fd))) rfl rfl rfl (fun e=>if_pos (by rw [e];try rfl))) fun _ h25=>mv h25 rfl fun _ h26=>sg h26 (wT h26 rfl rfl rfl) rfl rfl rfl (fun hC11=>by have hq:=(And.intro (And.intro (dT (AA (AA hC11).1).1) (dT (AA (AA hC11).1).2)) (dT (AA hC11).2));exact rfa h26 rfl rfl (fun w=>DP g4 0 w) _) fun _ h27=>?_
 refine sg h27 (wT h27 rfl rfl rfl) rfl rfl rfl (fun hC12=>by have hq:=(And.intro (And.intro (dT (AA (AA hC12).1).1) (dT (AA (AA hC12).1).2)) (dT (AA hC12).2));exact (rld h27 rfl (opg rfl hC12) (ldB υ9 rfl (s2.get 3 rfl:Blk _ _ _ _) rfl))) fun _ h28=>sg h28 (wT h28 rfl rfl rfl) rfl rfl rfl (fun hC13=>by have hq:=(And.intro (And.intro (dT (AA (AA hC13).1).1) (dT (AA (AA hC13).1).2)) (dT (AA hC13).2));exact rfa h28 rfl rfl (fun w=>DP g1 0 w) _) fun _ h29=>sg h29 (wT h29 rfl rfl rfl) rfl rfl rfl (fun hC14=>by have hq:=(And.intro (And.intro (dT (AA (AA hC14).1).1) (dT (AA (AA hC14).1).2)) (dT (AA hC14).2));exact (rld h29 rfl (opg rfl hC14) (ldB υ9 rfl (s2.get 2 rfl:Blk _ _ _ _) rfl))) fun _ h30=>sg h30 (wT h30 rfl rfl rfl) rfl rfl rfl (fun hC15=>by have hq:=(And.intro (And.intro (dT (AA (AA hC15).1).1) (dT (AA (AA hC15).1).2)) (dT (AA hC15).2));exact BG h30 rfl (opg rfl hC15) (opg rfl hC15) (FK _ _ _ r.data s.data rfl) _) fun _ h31=>sv1 h31 rfl (DJ h31 rfl (E:=(((decide (r.names=s.names))&&(decide (r.e=s.e)))&&(decide (r.fd=s.fd)))) (F:=(decide (r.data=s.data))) rfl rfl rfl (fun e=>if_pos (by rw [e];try rfl))) fun _ h32=>mv h32 rfl fun _ h33=>sg h33 (wT h33 rfl rfl rfl) rfl rfl rfl (fun hC16=>by have hq:=(And.intro (And.intro (And.intro (dT (AA (AA (AA hC16).1).1).1) (dT (AA (AA (AA hC16).1).1).2)) (dT (AA (AA hC16).1).2)) (dT (AA hC16).2));exact rfa h33 rfl rfl (fun w=>GY g4 0 w) _) fun _ h34=>sg h34 (wT h34 rfl rfl rfl) rfl rfl rfl (fun hC17=>by have hq:=(And.intro (And.intro (And.intro (dT (AA (AA (AA hC17).1).1).1) (dT (AA (AA (AA hC17).1).1).2)) (dT (AA (AA hC17).1).2)) (dT (AA hC17).2));exact (rld h34 rfl (opg rfl hC17) (ldA υ35 rfl (n:=3) κ (s2.get 3 rfl:Blk _ _ _ _) rfl rfl))) fun _ h35=>sg h35 (wT h35 rfl rfl rfl) rfl rfl rfl (fun hC18=>by have hq:=(And.intro (And.intro (And.intro (dT (AA (AA (AA hC18).1).1).1) (dT (AA (AA (AA hC18).1).1).2)) (dT (AA (AA hC18).1).2)) (dT (AA hC18).2));exact rfa h35 rfl rfl (fun w=>GY g1 0 w) _) fun _ h36=>sg h36 (wT h36 rfl rfl rfl) rfl rfl rfl (fun hC19=>by have hq:=(And.intro (And.intro (And.intro (dT (AA (AA (AA hC19).1).1).1) (dT (AA (AA (AA hC19).1).1).2)) (dT (AA (AA hC19).1).2)) (dT (AA hC19).2));exact (rld h36 rfl (opg rfl hC19) (ldA υ35 rfl (n:=3) κ (s2.get 2 rfl:Blk _ _ _ _) rfl rfl))) fun _ h37=>?_
 refine sg h37 (wT h37 rfl rfl rfl) rfl rfl rfl (fun hC20=>by have hq:=(And.intro (And.intro (And.intro (dT (AA (AA (AA hC20).1).1).1) (dT (AA (AA (AA hC20).1).1).2)) (dT (AA (AA hC20).1).2)) (dT (AA hC20).2));exact BG h37 rfl (opg rfl hC20) (opg rfl hC20) (GU _ _ r.kind r.links r.size s.kind s.links s.size) _) fun _ h38=>sv1 h38 rfl (DJ h38 rfl (E:=((((decide (r.names=s.names))&&(decide (r.e=s.e)))&&(decide (r.fd=s.fd)))&&(decide (r.data=s.data)))) (F:=((decide (r.kind=s.kind))&&((decide (r.links=s.links))&&(decide (r.size=s.size))))) rfl rfl rfl (fun e=>if_pos (by rw [e];try rfl))) fun _ h39=>h39.sk [39,38,37,36,35,34,33,32,31,30,29,28,27,26,25,24,23,22,21,20,19,18,17,16,15,14,13,12,11,5,3,2,0,1] rfl fun h40=>mv h40 rfl fun _ h41=>h41.sn [4,5,3,2,0,1] rfl fun h42=>hK5 _ _<|wp_ret ?_
 try simp only [Exit.then,Exit.inBlock]
 refine Bn (v:=.bool (((((decide (r.names=s.names))&&(decide (r.e=s.e)))&&(decide (r.fd=s.fd)))&&(decide (r.data=s.data)))&&((decide (r.kind=s.kind))&&((decide (r.links=s.links))&&(decide (r.size=s.size)))))) (Cf h42 rfl rfl) h42.defs ?_
 exact ⟨rfl,Sep.tail_un (xs:=[_,_]) (s2.pk [0,1,4] rfl)⟩
end
section
def lc0:CallM:=⟨1,[47,97],[],1,0,0,0,[]⟩
def lc1:CallM:=⟨4,[],[],0,0,2,0,[120]⟩
def lc2:CallM:=⟨3,[],[],0,0,0,9,[]⟩
def lc3:CallM:=⟨10,[47,97],[],0,0,0,0,[]⟩
def lc4:CallM:=⟨3,[],[],0,0,0,9,[]⟩
def lc5:CallM:=⟨7,[47,100],[],0,0,0,0,[]⟩
def lc6:CallM:=⟨11,[47,100],[47,100,47,101],0,0,0,0,[]⟩
def lF0:FsM:=fs0
def lF1:FsM:=(doF lF0 1 lc0).1
def lr1:RepM:=(doF lF0 1 lc0).2
def lF2:FsM:=(doF lF1 1 lc1).1
def lr2:RepM:=(doF lF1 1 lc1).2
def lF3:FsM:=(doF lF2 1 lc2).1
def lr3:RepM:=(doF lF2 1 lc2).2
def lF4:FsM:=(doF lF3 2 lc3).1
def lr4:RepM:=(doF lF3 2 lc3).2
def lF5:FsM:=(doF lF4 1 lc4).1
def lr5:RepM:=(doF lF4 1 lc4).2
def lF6:FsM:=(doF lF5 1 lc5).1
def lr6:RepM:=(doF lF5 1 lc5).2
def lF7:FsM:=(doF lF6 1 lc6).1
def lr7:RepM:=(doF lF6 1 lc6).2
def lFn:Nat→FsM | 0=>lF0 | 1=>lF1 | 2=>lF2 | 3=>lF3 | 4=>lF4 | 5=>lF5 | 6=>lF6 | _=>lF7
theorem RT:(FsOk lF0∧SzF lF0 0)∧(FsOk lF1∧SzF lF1 1)∧(FsOk lF2∧SzF lF2 2)∧(FsOk lF3∧SzF lF3 3)∧(FsOk lF4∧SzF lF4 4)∧(FsOk lF5∧SzF lF5 5)∧(FsOk lF6∧SzF lF6 6):=by
 have h0:FsOk lF0∧SzF lF0 0:=⟨Qy,Qz⟩
 have h1:FsOk lF1∧SzF lF1 1:=⟨h0.1.do_ _ _,h0.2.do_ _ _⟩
 have h2:FsOk lF2∧SzF lF2 2:=⟨h1.1.do_ _ _,h1.2.do_ _ _⟩
 have h3:FsOk lF3∧SzF lF3 3:=⟨h2.1.do_ _ _,h2.2.do_ _ _⟩
 have h4:FsOk lF4∧SzF lF4 4:=⟨h3.1.do_ _ _,h3.2.do_ _ _⟩
 have h5:FsOk lF5∧SzF lF5 5:=⟨h4.1.do_ _ _,h4.2.do_ _ _⟩
 have h6:FsOk lF6∧SzF lF6 6:=⟨h5.1.do_ _ _,h5.2.do_ _ _⟩
 exact ⟨h0,h1,h2,h3,h4,h5,h6⟩
theorem QG:∀ i,i<7→FsOk (lFn i)∧SzF (lFn i) i:=by
 obtain ⟨h0,h1,h2,h3,h4,h5,h6⟩:=RT
 intro i hi
 match i,hi with
 | 0,_=>exact h0
 | 1,_=>exact h1
 | 2,_=>exact h2
 | 3,_=>exact h3
 | 4,_=>exact h4
 | 5,_=>exact h5
 | 6,_=>exact h6
theorem Ki (i:Nat) (hi:i<7:=by decide):FsOk (lFn i):=(QG i hi).1
theorem Kj (i:Nat) (hi:i<7):SmS (lFn i):=(QG i hi).2.ss ω
theorem lz1:lr1.e=0:=by decide +kernel
theorem lz2:lr1.fd=0:=by decide +kernel
theorem lz3:lr2.e=0:=by decide +kernel
theorem lz4:lr3.data=[0,0,120]:=by decide +kernel
theorem lz5:lr4.e=0:=by decide +kernel
theorem lz6:lr5.data=lr3.data:=by decide +kernel
theorem lz7:lr6.e=0:=by decide +kernel
theorem lz8:lr7.e=15:=by decide +kernel
theorem RU {w:World} {R:List Ch} (hS0:Sep w R) :
  CallsR Tryz.prog 12 #[] w (fun v w'=>v=.bool true∧Sep w' R):=by
 have hS:Sep w [Ch.many R]:=Sep.tail_many (xs:=[]) hS0;clear hS0
 refine AB Tryz.func12 rfl (N:=73) Tryz.ntmps12 (by show 0≤73;decide) [] rfl fun _ h1=>sqr fun _ hK3=>mv h1 rfl fun _ h4=>wpList_nil<|hK3 _ _<|sqr fun _ hK6=>cl h4 rfl IA (Sp hS) fun _ v1 w1 r1 h8=>?_
 obtain ⟨cf,ob,Ax7,rfl,s1,hA12⟩:=r1
 refine mv h8 rfl fun _ h2=>h2.sn [1,0] rfl fun h3=>hK6 _ _<|sq fun _ hK1=>sqr fun _ hK2=>mv h3 rfl fun _ h5=>bv h5 rfl (IY _ υ23 _ _ _) fun _ h6=>h6.sn [11,1,0] rfl fun h7=>hK2 _ _<|wcF h7 rfl rfl<|h7.sk [1,0] rfl fun h9=>?_
 refine wp_skip<|hK1 _ _<|sqr fun _ hK4=>mv h9 rfl fun _ h10=>bu h10 (v:=.agg #[ν 1,σ [47,97],σ [],ν 1,ν 0,ν 0,ν 0,σ []]) rfl (fun w=>κ) fun _ h11=>cl h11 rfl Ce (LO (A:=Ax7) (F:=lF0) (n:=0) (c:=1) (x:=lc0) s1 (Ki 0) hA12 ω (Kj 0 ω) (by decide) (by decide) (by decide) (by decide)) fun _ v2 w2 r2 h12=>?_
 obtain ⟨Ax31,sax32,scx33,rfl,s2,hA38⟩:=r2
 refine so (wn rfl) fun _ hK5=>BB h12 rfl rfl rfl rfl (z:=zL) (fun _=>rfl) s2 fun _ g1 w3 h13 s3 _ _=>hK5 _ _ ?_
 refine stA h13 s3 0 rfl rfl rfl κ rfl rfl rfl rfl fun _ w4 h14 s4 _=>h14.sn [2,1,0] rfl fun h15=>hK4 _ _<|sqr fun _ hK7=>mv h15 rfl fun _ h16=>bu h16 (v:=.agg #[ν 4,σ [],σ [],ν 0,ν 0,ν 2,ν 0,σ [120]]) rfl (fun w=>κ) fun _ h17=>cl h17 rfl Ce (LO (A:=Ax31) (F:=lF1) (n:=1) (c:=1) (x:=lc1) (s4.pk [2,3,4,0,1,5] rfl) (Ki 1) hA38 ω (Kj 1 ω) (by decide) (by decide) (by decide) (by decide)) fun _ v3 w5 r3 h18=>?_
 obtain ⟨Ax61,sax62,scx63,rfl,s5,hA68⟩:=r3
 refine so (wn rfl) fun _ hK8=>BB h18 rfl rfl rfl rfl (z:=zL) (fun _=>rfl) s5 fun _ g2 w6 h19 s6 _ _=>hK8 _ _ ?_
 refine stA h19 s6 0 rfl rfl rfl κ rfl rfl rfl rfl fun _ w7 h20 s7 _=>h20.sn [3,2,1,0] rfl fun h21=>hK7 _ _<|sqr fun _ hK9=>mv h21 rfl fun _ h22=>bu h22 (v:=.agg #[ν 3,σ [],σ [],ν 0,ν 0,ν 0,ν 9,σ []]) rfl (fun w=>κ) fun _ h23=>cl h23 rfl Ce (LO (A:=Ax61) (F:=lF2) (n:=2) (c:=1) (x:=lc2) (s7.pk [2,3,4,0,1,5,6,7] rfl) (Ki 2) hA68 ω (Kj 2 ω) (by decide) (by decide) (by decide) (by decide)) fun _ v4 w8 r4 h24=>?_
 obtain ⟨Ax91,sax92,scx93,rfl,s8,hA98⟩:=r4
 refine so (wn rfl) fun _ hK10=>BB h24 rfl rfl rfl rfl (z:=zL) (fun _=>rfl) s8 fun _ g3 w9 h25 s9 _ _=>hK10 _ _ ?_
 refine stA h25 s9 0 rfl rfl rfl κ rfl rfl rfl rfl fun _ w10 h26 s10 _=>h26.sn [4,3,2,1,0] rfl fun h27=>hK9 _ _<|sqr fun _ hK11=>mv h27 rfl fun _ h28=>bu h28 (v:=.agg #[ν 10,σ [47,97],σ [],ν 0,ν 0,ν 0,ν 0,σ []]) rfl (fun w=>κ) fun _ h29=>cl h29 rfl Ce (LO (A:=Ax91) (F:=lF3) (n:=3) (c:=2) (x:=lc3) (s10.pk [2,3,4,0,1,5,6,7,8,9] rfl) (Ki 3) hA98 ω (Kj 3 ω) (by decide) (by decide) (by decide) (by decide)) fun _ v5 w11 r5 h30=>?_
 obtain ⟨Ax121,sax122,scx123,rfl,s11,hA128⟩:=r5
 refine so (wn rfl) fun _ hK12=>BB h30 rfl rfl rfl rfl (z:=zL) (fun _=>rfl) s11 fun _ g4 w12 h31 s12 _ _=>hK12 _ _ ?_
 refine stA h31 s12 0 rfl rfl rfl κ rfl rfl rfl rfl fun _ w13 h32 s13 _=>h32.sn [5,4,3,2,1,0] rfl fun h33=>hK11 _ _<|sqr fun _ hK13=>mv h33 rfl fun _ h34=>bu h34 (v:=.agg #[ν 3,σ [],σ [],ν 0,ν 0,ν 0,ν 9,σ []]) rfl (fun w=>κ) fun _ h35=>cl h35 rfl Ce (LO (A:=Ax121) (F:=lF4) (n:=4) (c:=1) (x:=lc4) (s13.pk [2,3,4,0,1,5,6,7,8,9,10,11] rfl) (Ki 4) hA128 ω (Kj 4 ω) (by decide) (by decide) (by decide) (by decide)) fun _ v6 w14 r6 h36=>?_
 obtain ⟨Ax151,sax152,scx153,rfl,s14,hA158⟩:=r6
 refine so (wn rfl) fun _ hK14=>BB h36 rfl rfl rfl rfl (z:=zL) (fun _=>rfl) s14 fun _ g5 w15 h37 s15 _ _=>hK14 _ _ ?_
 refine stA h37 s15 0 rfl rfl rfl κ rfl rfl rfl rfl fun _ w16 h38 s16 _=>h38.sn [6,5,4,3,2,1,0] rfl fun h39=>hK13 _ _<|sqr fun _ hK15=>mv h39 rfl fun _ h40=>bu h40 (v:=.agg #[ν 7,σ [47,100],σ [],ν 0,ν 0,ν 0,ν 0,σ []]) rfl (fun w=>κ) fun _ h41=>cl h41 rfl Ce (LO (A:=Ax151) (F:=lF5) (n:=5) (c:=1) (x:=lc5) (s16.pk [2,3,4,0,1,5,6,7,8,9,10,11,12,13] rfl) (Ki 5) hA158 ω (Kj 5 ω) (by decide) (by decide) (by decide) (by decide)) fun _ v7 w17 r7 h42=>?_
 obtain ⟨Ax181,sax182,scx183,rfl,s17,hA188⟩:=r7
 refine so (wn rfl) fun _ hK16=>BB h42 rfl rfl rfl rfl (z:=zL) (fun _=>rfl) s17 fun _ g6 w18 h43 s18 _ _=>hK16 _ _ ?_
 refine stA h43 s18 0 rfl rfl rfl κ rfl rfl rfl rfl fun _ w19 h44 s19 _=>h44.sn [7,6,5,4,3,2,1,0] rfl fun h45=>hK15 _ _<|sqr fun _ hK17=>mv h45 rfl fun _ h46=>bu h46 (v:=.agg #[ν 11,σ [47,100],σ [47,100,47,101],ν 0,ν 0,ν 0,ν 0,σ []]) rfl (fun w=>κ) fun _ h47=>cl h47 rfl Ce (LO (A:=Ax181) (F:=lF6) (n:=6) (c:=1) (x:=lc6) (s19.pk [2,3,4,0,1,5,6,7,8,9,10,11,12,13,14,15] rfl) (Ki 6) hA188 ω (Kj 6 ω) (by decide) (by decide) (by decide) (by decide)) fun _ v8 w20 r8 h48=>?_
 obtain ⟨Ax211,sax212,scx213,rfl,s20,hA218⟩:=r8
 refine so (wn rfl) fun _ hK18=>BB h48 rfl rfl rfl rfl (z:=zL) (fun _=>rfl) s20 fun _ g7 w21 h49 s21 _ _=>hK18 _ _ ?_
 refine stA h49 s21 0 rfl rfl rfl κ rfl rfl rfl rfl fun _ w22 h50 s22 _=>h50.sn [8,7,6,5,4,3,2,1,0] rfl fun h51=>hK17 _ _<|sq fun _ hK19=>?_
 have hl237:lr1.e=0:=lz1
 have hl238:lr1.fd=0:=lz2
 have hl239:lr2.e=0:=lz3
 have hl240:lr4.e=0:=lz5
 have hl241:lr6.e=0:=lz7
 have hl242:lr7.e=15:=lz8
 refine wp_region_lit<|fav h51 rfl (CW _ _) fun _ h52=>ldv h52 (v:=ν lr1.e) s22 15 υ32 rfl rfl rfl rfl fun _ h53=>bv h53 rfl (cEq _ _ _ _ (decide_eq_true ω)) fun _ h54=>mv h54 rfl fun _ h55=>sv h55 (wT h55 (E:=true) rfl rfl rfl) rfl rfl rfl (v:=.pointer (some ⟨g1,1,none⟩)) (rfa h55 rfl rfl (fun w=>Fv g1 0 w)) fun _ h56=>sw h56 (wT h56 (E:=true) rfl rfl rfl) rfl rfl rfl (v:=ν lr1.fd) (rld h56 rfl rfl (ldB υ3 rfl (s22.get 15 rfl:Blk _ _ _ _) rfl)) fun _ h57=>sv h57 (wT h57 (E:=true) rfl rfl rfl) rfl rfl rfl (v:=.bool true) (BG h57 rfl rfl rfl (cEq _ _ _ _ (decide_eq_true ω))) fun _ h58=>sv1 h58 rfl (v:=.bool true) (Ed h58 rfl rfl rfl) fun _ h59=>mv h59 rfl fun _ h60=>?_
 refine sv h60 (wT h60 (E:=true) rfl rfl rfl) rfl rfl rfl (v:=π g2) (rfa h60 rfl rfl (fun w=>CW g2 0 w)) fun _ h61=>sw h61 (wT h61 (E:=true) rfl rfl rfl) rfl rfl rfl (v:=ν lr2.e) (rld h61 rfl rfl (ldB υ32 rfl (s22.get 13 rfl:Blk _ _ _ _) rfl)) fun _ h62=>sv h62 (wT h62 (E:=true) rfl rfl rfl) rfl rfl rfl (v:=.bool true) (BG h62 rfl rfl rfl (cEq _ _ _ _ (decide_eq_true ω))) fun _ h63=>sv1 h63 rfl (v:=.bool true) (Ed h63 rfl rfl rfl) fun _ h64=>mv h64 rfl fun _ h65=>sv h65 (wT h65 (E:=true) rfl rfl rfl) rfl rfl rfl (v:=.pointer (some ⟨g3,2,none⟩)) (rfa h65 rfl rfl (fun w=>DP g3 0 w)) fun _ h66=>sw h66 (wT h66 (E:=true) rfl rfl rfl) rfl rfl rfl (v:=σ lr3.data) (rld h66 rfl rfl (ldB υ9 rfl (s22.get 11 rfl:Blk _ _ _ _) rfl)) fun _ h67=>sv h67 (wT h67 (E:=true) rfl rfl rfl) rfl rfl rfl (v:=.bool (decide (lr3.data=[0,0,120]))) (BG h67 rfl rfl rfl (FK _ _ _ lr3.data [0,0,120] rfl)) fun _ h68=>sv1 h68 rfl (v:=.bool (decide (lr3.data=[0,0,120]))) (Ed h68 rfl rfl rfl) fun _ h69=>mv h69 rfl fun _ h70=>?_
 refine sv h70 ((wT h70 rfl rfl rfl).trans (decide_eq_true lz4)) rfl rfl rfl (v:=π g4) (rfa h70 rfl rfl (fun w=>CW g4 0 w)) fun _ h71=>sw h71 ((wT h71 rfl rfl rfl).trans (decide_eq_true lz4)) rfl rfl rfl (v:=ν lr4.e) (rld h71 rfl rfl (ldB υ32 rfl (s22.get 9 rfl:Blk _ _ _ _) rfl)) fun _ h72=>sv h72 ((wT h72 rfl rfl rfl).trans (decide_eq_true lz4)) rfl rfl rfl (v:=.bool true) (BG h72 rfl rfl rfl (cEq _ _ _ _ (decide_eq_true ω))) fun _ h73=>sv1 h73 rfl (v:=.bool true) (BT h73 rfl (E:=(decide (lr3.data=[0,0,120]))) (b:=true) rfl (decide_eq_true lz4) rfl) fun _ h74=>mv h74 rfl fun _ h75=>sv h75 (wT h75 (E:=true) rfl rfl rfl) rfl rfl rfl (v:=.pointer (some ⟨g5,2,none⟩)) (rfa h75 rfl rfl (fun w=>DP g5 0 w)) fun _ h76=>sw h76 (wT h76 (E:=true) rfl rfl rfl) rfl rfl rfl (v:=σ lr5.data) (rld h76 rfl rfl (ldB υ9 rfl (s22.get 7 rfl:Blk _ _ _ _) rfl)) fun _ h77=>sv h77 (wT h77 (E:=true) rfl rfl rfl) rfl rfl rfl (v:=.pointer (some ⟨g3,2,none⟩)) (rfa h77 rfl rfl (fun w=>DP g3 0 w)) fun _ h78=>sw h78 (wT h78 (E:=true) rfl rfl rfl) rfl rfl rfl (v:=σ lr3.data) (rld h78 rfl rfl (ldB υ9 rfl (s22.get 11 rfl:Blk _ _ _ _) rfl)) fun _ h79=>sv h79 (wT h79 (E:=true) rfl rfl rfl) rfl rfl rfl (v:=.bool (decide (lr5.data=lr3.data))) (BG h79 rfl rfl rfl (FK _ _ _ lr5.data lr3.data rfl)) fun _ h80=>?_
 refine sv1 h80 rfl (v:=.bool (decide (lr5.data=lr3.data))) (Ed h80 rfl rfl rfl) fun _ h81=>mv h81 rfl fun _ h82=>sv h82 ((wT h82 rfl rfl rfl).trans (decide_eq_true lz6)) rfl rfl rfl (v:=π g6) (rfa h82 rfl rfl (fun w=>CW g6 0 w)) fun _ h83=>sw h83 ((wT h83 rfl rfl rfl).trans (decide_eq_true lz6)) rfl rfl rfl (v:=ν lr6.e) (rld h83 rfl rfl (ldB υ32 rfl (s22.get 5 rfl:Blk _ _ _ _) rfl)) fun _ h84=>sv h84 ((wT h84 rfl rfl rfl).trans (decide_eq_true lz6)) rfl rfl rfl (v:=.bool true) (BG h84 rfl rfl rfl (cEq _ _ _ _ (decide_eq_true ω))) fun _ h85=>sv1 h85 rfl (v:=.bool true) (BT h85 rfl (E:=(decide (lr5.data=lr3.data))) (b:=true) rfl (decide_eq_true lz6) rfl) fun _ h86=>mv h86 rfl fun _ h87=>sv h87 (wT h87 (E:=true) rfl rfl rfl) rfl rfl rfl (v:=π g7) (rfa h87 rfl rfl (fun w=>CW g7 0 w)) fun _ h88=>sw h88 (wT h88 (E:=true) rfl rfl rfl) rfl rfl rfl (v:=ν lr7.e) (rld h88 rfl rfl (ldB υ32 rfl (s22.get 0 rfl:Blk _ _ _ _) rfl)) fun _ h89=>sv h89 (wT h89 (E:=true) rfl rfl rfl) rfl rfl rfl (v:=.bool true) (BG h89 rfl rfl rfl (cEq _ _ _ _ (decide_eq_true ω))) fun _ h90=>?_
 refine sv1 h90 rfl (v:=.bool true) (Ed h90 rfl rfl rfl) fun _ h91=>h91.sk [72,71,70,69,68,67,66,65,64,63,62,61,60,59,58,57,56,55,54,53,52,51,50,49,48,47,46,45,44,43,42,41,40,39,38,37,36,35,34,33,8,7,6,5,4,3,2,1] rfl fun h92=>mv h92 rfl fun _ h93=>h93.sn [0,8,7,6,5,4,3,2,1] rfl fun h94=>hK19 _ _<|wp_ret ?_
 try simp only [Exit.then,Exit.inBlock]
 refine Bn (v:=.bool true) (Cf h94 rfl rfl) h94.defs ?_
 exact ⟨congrArg Value.bool (by simp only [lz1,lz2,lz3,lz4,lz5,lz6,lz7,lz8,decide_true,Bool.and_self]),Sep.tail_un (xs:=[]) (s22.pk [17] rfl)⟩
end
section
theorem QX {W w:World} {R:List Ch} {a0:Option Addr} {n0 c0 most:Nat} {f:Nat→AskV} (hS0:Sep w ([Ip W W.heap.size]++R)) (rb:JN W a0 n0 c0 f) (hm:most≤60) :
  CallsR Tryz.prog 11 #[.slice a0 n0 c0,ν (most:Int)] w (fun v w'=>∃ cf ob A df na nc ea ec oa oc,v=.tuple #[π cf,π df,.bool true]∧Sep w' ((cP cf ob (Cg f (min n0 most)) A)++[Ah df 51 [.slice na ((Cg f (min n0 most)).N.length) nc,.slice ea ((Cg f (min n0 most)).E.length) ec,.slice oa ((Cg f (min n0 most)).O.length) oc],Ak 0 88 3 na ((Cg f (min n0 most)).N).length nc (((Cg f (min n0 most)).N).flatMap CZ),Ak 0 114 3 ea ((Cg f (min n0 most)).E).length ec (((Cg f (min n0 most)).E).flatMap CM),Ak 0 93 3 oa ((Cg f (min n0 most)).O).length oc (((Cg f (min n0 most)).O).flatMap CI)]++[Ip W W.heap.size]++R)∧AdOk (Cg f (min n0 most)) A (min n0 most)):=by
 obtain ⟨hX0,hw⟩:=rb;obtain ⟨bX,oX,hX⟩:=hX0.at;have hn0:=hX0.lt;unfold maxLen at hn0
 have hS:Sep w [Ip W W.heap.size,Ch.many R]:=Sep.tail_many (xs:=[_]) hS0;clear hS0
 refine AB Tryz.func11 rfl (N:=76) Tryz.ntmps11 (by show 2≤76;decide) [(0,.slice a0 n0 c0),(1,ν (most:Int))] rfl fun _ h1=>sqr fun _ hK3=>mvs 3 h1 rfl fun _ h8=>wpList_nil<|hK3 _ _<|sqr fun _ hK1=>cl h8 rfl IA (Sp hS) fun _ v1 w2 r1 h2=>?_
 obtain ⟨cf,ob,Ax11,rfl,s1,hA16⟩:=r1
 refine mv h2 rfl fun _ h3=>h3.sn [7,6,5,4,0,1] rfl fun h4=>hK1 _ _<|sqr fun _ hK2=>cl h4 rfl HD (QO s1) fun _ v2 w3 r2 h5=>?_
 obtain ⟨df,nax23,ncx24,rfl,s2⟩:=r2
 refine mv h5 rfl fun _ h6=>h6.sn [8,7,6,5,4,0,1] rfl fun h7=>hK2 _ _<|sq fun _ hK4=>sqr fun _ hK5=>mv h7 rfl fun _ h9=>bv h9 rfl (IY _ υ23 _ _ _) fun _ h10=>h10.sn [15,8,7,6,5,4,0,1] rfl fun h11=>hK5 _ _<|wcF h11 rfl rfl<|h11.sk [8,7,6,5,4,0,1] rfl fun h12=>?_
 refine wp_skip<|hK4 _ _<|sq fun _ hK6=>sqr fun _ hK7=>mv h12 rfl fun _ h13=>wpList_nil<|hK7 _ _<|wp_block ?_
 refine Ee (fun (k:Nat) (A:AdM) (D:DocA) a' w'=>Kn 76 [(9,ν (k:Int)),(8,π df),(7,π cf),(6,.bool false),(5,.pointer none),(4,.pointer none),(0,.slice a0 n0 c0),(1,ν (most:Int))] a'∧Sep w' [Ah cf 65 [π (A.ad 0),.map (some ob)],Av (Cg f k) A,AM KO ob A.C (opG (Cg f k) A),Ah df 51 [.slice D.na ((Cg f k).N.length) D.nc,.slice D.ea ((Cg f k).E.length) D.ec,.slice D.oa ((Cg f k).O.length) D.oc],Ak 0 88 3 D.na ((Cg f k).N).length D.nc (((Cg f k).N).flatMap CZ),Ak 0 114 3 D.ea ((Cg f k).E).length D.ec (((Cg f k).E).flatMap CM),Ak 0 93 3 D.oa ((Cg f k).O).length D.oc (((Cg f k).O).flatMap CI),Ip W W.heap.size,Ch.many R]∧(AdOk (Cg f k) A k)∧(k≤most)∧(k≤n0)) (fun (k:Nat) (A:AdM) (D:DocA)=>most-k) 0 Ax11 ⟨nax23,ncx24,none,0,none,0⟩ ⟨h13.subs rfl,(s2.pk [4,5,6,0,1,2,3,7,8] rfl),hA16,ω,ω⟩ ?_
 rintro k1 A56 D57 a1 w4 ⟨h14,s3,hA52,hk53,hkn54⟩ K1 hK8
 refine sq fun _ hK9=>sqr fun _ hK10=>mvs 2 h14 rfl fun _ h15=>sv1 h15 rfl (v:=ν (n0:Int)) (CR h15 rfl rfl υ22) fun _ h16=>bv h16 (z:=.bool (decide ((k1:Int)<(n0:Int)))) rfl (cLt _ _ _ _ rfl) fun _ h17=>mv h17 rfl fun _ h18=>sg h18 (wT h18 rfl rfl rfl) rfl rfl rfl (v:=ν (k1:Int)) (fun hC1=>by have hq:=(dT hC1);exact Ap h18 rfl rfl _) fun _ h19=>sg h19 (wT h19 rfl rfl rfl) rfl rfl rfl (v:=ν (most:Int)) (fun hC2=>by have hq:=(dT hC2);exact Ap h19 rfl rfl _) fun _ h20=>sg h20 (wT h20 rfl rfl rfl) rfl rfl rfl (v:=.bool (decide ((k1:Int)<(most:Int)))) (fun hC3=>by have hq:=(dT hC3);exact BG h20 rfl (opg rfl hC3) (opg rfl hC3) (cLt _ _ _ _ rfl) _) fun _ h21=>sv1 h21 rfl (v:=.bool ((decide ((k1:Int)<(n0:Int)))&&(decide ((k1:Int)<(most:Int))))) (DJ h21 rfl (E:=(decide ((k1:Int)<(n0:Int)))) (F:=(decide ((k1:Int)<(most:Int)))) rfl rfl rfl (fun e=>if_pos (by rw [e];try rfl))) fun _ h22=>h22.sk [25,9,8,7,6,5,4,0,1] rfl fun h23=>?_
 refine wpList_nil<|hK10 _ _ ?_
 rcases bC ((decide ((k1:Int)<(n0:Int)))&&(decide ((k1:Int)<(most:Int)))) with hc1 | hc1
 ·skip
  have hp1:((k1:Int)<(n0:Int))∧((k1:Int)<(most:Int)):=(And.intro (dT (AA hc1).1) (dT (AA hc1).2))
  refine wcT h23 rfl hc1<|h23.sk [9,8,7,6,5,4,0,1] rfl fun h24=>wp_skip<|hK9 _ _<|sq fun _ hK11=>wp_block ?_
  refine sqr fun _ hK12=>mvs 2 h24 rfl fun _ h25=>sv1 h25 rfl (v:=.pointer (some ⟨bX,oX+k1*10,none⟩)) (Aw h25 rfl rfl rfl (fun w=>ixO υ22 κ (sz:=10) (hX ω).1 (j:=k1) rfl ω rfl w)) fun _ h26=>sv1 h26 rfl (v:=.pointer (some ⟨bX,oX+k1*10+1,none⟩)) (rfa h26 rfl rfl (fun w=>DI bX (oX+k1*10) w)) fun _ h27=>sw1 h27 rfl (v:=.agg #[ν ((f k1).x.kind),σ ((f k1).x.p1),σ ((f k1).x.p2),ν ((f k1).x.fl),ν ((f k1).x.fd),ν ((f k1).x.off),ν ((f k1).x.n),σ ((f k1).x.data)]) (rld h27 rfl rfl (SJ (sz:=10) (n:=n0) (f:=(fun i=>Iy (f i))) υ30 rfl κ (hX ω).2 (Nat.le_refl _) (s3.get 7 rfl:Below _ _ _∧_) (j:=k1) (i:=1) ω rfl (cs:=[ν ((f k1).x.kind),σ ((f k1).x.p1),σ ((f k1).x.p2),ν ((f k1).x.fl),ν ((f k1).x.fd),ν ((f k1).x.off),ν ((f k1).x.n),σ ((f k1).x.data)]) rfl rfl)) fun _ h28=>cl h28 rfl DW (Qi s3 ((f k1).x)) fun _ v3 w5 r3 h29=>?_
  obtain ⟨rfl,s4⟩:=r3
  refine so (wn rfl) fun _ hK13=>BB h29 rfl rfl rfl rfl (z:=[ν 0,σ [],σ [],ν 0,ν 0,ν 0,ν 0,σ []]) (fun _=>rfl) s4 fun _ g1 w6 h30 s5 _ _=>hK13 _ _ ?_
  refine stA h30 s5 0 rfl rfl rfl κ rfl rfl rfl rfl fun _ w7 h31 s6 _=>h31.sn [10,9,8,7,6,5,4,0,1] rfl fun h32=>hK12 _ _<|sq fun _ hK14=>sqr fun _ hK15=>mvs 2 h32 rfl fun _ h33=>sv1 h33 rfl (v:=.pointer (some ⟨bX,oX+k1*10,none⟩)) (Aw h33 rfl rfl rfl (fun w=>ixO υ22 κ (sz:=10) (hX ω).1 (j:=k1) rfl ω rfl w)) fun _ h34=>sv1 h34 rfl (v:=.pointer (some ⟨bX,oX+k1*10+9,none⟩)) (rfa h34 rfl rfl (fun w=>GM bX (oX+k1*10) w)) fun _ h35=>sw1 h35 rfl (v:=.bool ((f k1).drop)) (rld h35 rfl rfl (My (sz:=10) (n:=n0) (f:=(fun i=>Iy (f i))) υ4 rfl (hX ω).2 (Nat.le_refl _) (s6.get 8 rfl:Below _ _ _∧_) (j:=k1) (i:=9) ω rfl rfl)) fun _ h36=>h36.sn [38,10,9,8,7,6,5,4,0,1] rfl fun h37=>hK15 _ _ ?_
  rcases bC ((f k1).drop) with hc2 | hc2
  ·skip
   refine wcT h37 rfl hc2<|h37.sk [10,9,8,7,6,5,4,0,1] rfl fun h38=>sqr fun _ hK16=>mvs 3 h38 rfl fun _ h39=>sv1 h39 rfl (v:=.pointer (some ⟨bX,oX+k1*10,none⟩)) (Aw h39 rfl rfl rfl (fun w=>ixO υ22 κ (sz:=10) (hX ω).1 (j:=k1) rfl ω rfl w)) fun _ h40=>sv1 h40 rfl (v:=.pointer (some ⟨bX,oX+k1*10+0,none⟩)) (rfa h40 rfl rfl (fun w=>BS bX (oX+k1*10) w)) fun _ h41=>sw1 h41 rfl (v:=ν ((f k1).cl)) (rld h41 rfl rfl (My (sz:=10) (n:=n0) (f:=(fun i=>Iy (f i))) υ3 rfl (hX ω).2 (Nat.le_refl _) (s6.get 8 rfl:Below _ _ _∧_) (j:=k1) (i:=0) ω rfl rfl)) fun _ h42=>cl h42 rfl Ja (SE (A:=A56) (F:=(Cg f k1)) (c:=(f k1).cl) (s6.pk [1,2,3,0,4,5,6,7,8,9] rfl) (FsOk.toFsC (Hw f k1)) (hw k1 ω).1) fun _ v4 w8 r4 h43=>?_
   obtain ⟨rfl,s7⟩:=r4
   refine h43.sn [10,9,8,7,6,5,4,0,1] rfl fun h44=>hK16 _ _<|sqr fun _ hK17=>mvs 3 h44 rfl fun _ h45=>sv1 h45 rfl (v:=.pointer (some ⟨bX,oX+k1*10,none⟩)) (Aw h45 rfl rfl rfl (fun w=>ixO υ22 κ (sz:=10) (hX ω).1 (j:=k1) rfl ω rfl w)) fun _ h46=>sv1 h46 rfl (v:=.pointer (some ⟨bX,oX+k1*10+0,none⟩)) (rfa h46 rfl rfl (fun w=>BS bX (oX+k1*10) w)) fun _ h47=>sw1 h47 rfl (v:=ν ((f k1).cl)) (rld h47 rfl rfl (My (sz:=10) (n:=n0) (f:=(fun i=>Iy (f i))) υ3 rfl (hX ω).2 (Nat.le_refl _) (s7.get 8 rfl:Below _ _ _∧_) (j:=k1) (i:=0) ω rfl rfl)) fun _ h48=>cl h48 rfl FX (OU (F:=(Cg f k1)) (s7.pk [4,5,6,7,0,1,2,3,8,9] rfl) (SmS.sm ((GC f k1).ss ω)) ((f k1).cl)) fun _ v5 w9 r5 h49=>?_
   obtain ⟨nax169,ncx170,eax171,ecx172,oax173,ocx174,rfl,s8⟩:=r5
   refine h49.sn [10,9,8,7,6,5,4,0,1] rfl fun h50=>hK17 _ _<|wp_exit ?_
   refine hK11 _ _ ?_
   refine wp_region_lit<|mv h50 rfl fun _ h51=>bv h51 (z:=ν ((k1+1:Nat):Int)) rfl (Dx _ _ _ ω ω ω) fun _ h52=>h52.sk [27,26,10,8,7,6,5,4,0,1] rfl fun h53=>mv h53 rfl fun _ h54=>h54.sk [9,10,8,7,6,5,4,0,1] rfl fun h55=>wpList_nil ?_
   exact hK8 (k1+1) A56 (⟨nax169,ncx170,eax171,ecx172,oax173,ocx174⟩:DocA) _ _ ⟨h55.subs rfl,(by rw [Jm hc2];exact (s8.pk [4,5,6,0,1,2,3,8,9] rfl)),(by rw [Jm hc2];exact AdOk.drop hA52 _),ω,ω⟩ ω
  ·skip
   refine wcF h37 rfl hc2<|h37.sk [10,9,8,7,6,5,4,0,1] rfl fun h56=>wp_skip<|hK14 _ _<|sq fun _ hK18=>?_
   have s9:=s6.drew
   refine wp_region_held_drew (S:=fun w'=>Sep w' [Ah g1 30 [ν ((As ((f k1).x)).kind),σ ((As ((f k1).x)).p1),σ ((As ((f k1).x)).p2),ν ((As ((f k1).x)).fl),ν ((As ((f k1).x)).fd),ν ((As ((f k1).x)).off),ν ((As ((f k1).x)).n),σ ((As ((f k1).x)).data)],Ip W W.heap.size,Ch.many R]) κ (s9.pk [0,8,9] rfl) (fun hq1=>?_)
   refine tv1 hq1 h56 0 rfl rfl (v:=π cf) (fun w1 _=>(Ap h56 rfl rfl) w1) fun _ h57=>?_
   refine tv1 hq1 h57 1 rfl rfl (v:=.slice a0 n0 c0) (fun w1 _=>(Ap h57 rfl rfl) w1) fun _ h58=>?_
   refine tv1 hq1 h58 2 rfl rfl (v:=ν (k1:Int)) (fun w1 _=>(Ap h58 rfl rfl) w1) fun _ h59=>?_
   refine tv1 hq1 h59 3 rfl rfl (v:=.pointer (some ⟨bX,oX+k1*10,none⟩)) (fun w1 _=>(Aw h59 rfl rfl rfl (fun w=>ixO υ22 κ (sz:=10) (hX ω).1 (j:=k1) rfl ω rfl w)) w1) fun _ h60=>?_
   refine tv1 hq1 h60 4 rfl rfl (v:=.pointer (some ⟨bX,oX+k1*10+0,none⟩)) (fun w1 _=>(rfa h60 rfl rfl (fun w=>BS bX (oX+k1*10) w)) w1) fun _ h61=>?_
   refine tv1 hq1 h61 5 rfl rfl (v:=ν ((f k1).cl)) (fun w1 hSw=>(rld h61 rfl rfl (My (sz:=10) (n:=n0) (f:=(fun i=>Iy (f i))) υ3 rfl (hX ω).2 (Nat.le_refl _) (hSw.get 1 rfl:Below _ _ _∧_) (j:=k1) (i:=0) ω rfl rfl))) fun _ h62=>?_
   refine tv1 hq1 h62 6 rfl rfl (v:=.agg #[ν ((As ((f k1).x)).kind),σ ((As ((f k1).x)).p1),σ ((As ((f k1).x)).p2),ν ((As ((f k1).x)).fl),ν ((As ((f k1).x)).fd),ν ((As ((f k1).x)).off),ν ((As ((f k1).x)).n),σ ((As ((f k1).x)).data)]) (fun w1 hSw=>(rld h62 rfl rfl (ldA υ30 rfl (n:=8) κ (hSw.get 0 rfl:Blk _ _ _ _) rfl rfl))) fun _ h63=>?_
   refine tv1 hq1 h63 8 rfl rfl (v:=π df) (fun w1 _=>(Ap h63 rfl rfl) w1) fun _ h64=>?_
   refine tv1 hq1 h64 9 rfl rfl (v:=.slice a0 n0 c0) (fun w1 _=>(Ap h64 rfl rfl) w1) fun _ h65=>?_
   refine tv1 hq1 h65 10 rfl rfl (v:=ν (k1:Int)) (fun w1 _=>(Ap h65 rfl rfl) w1) fun _ h66=>?_
   refine tv1 hq1 h66 11 rfl rfl (v:=.pointer (some ⟨bX,oX+k1*10,none⟩)) (fun w1 _=>(Aw h66 rfl rfl rfl (fun w=>ixO υ22 κ (sz:=10) (hX ω).1 (j:=k1) rfl ω rfl w)) w1) fun _ h67=>?_
   refine tv1 hq1 h67 12 rfl rfl (v:=.pointer (some ⟨bX,oX+k1*10+0,none⟩)) (fun w1 _=>(rfa h67 rfl rfl (fun w=>BS bX (oX+k1*10) w)) w1) fun _ h68=>?_
   refine tv1 hq1 h68 13 rfl rfl (v:=ν ((f k1).cl)) (fun w1 hSw=>(rld h68 rfl rfl (My (sz:=10) (n:=n0) (f:=(fun i=>Iy (f i))) υ3 rfl (hX ω).2 (Nat.le_refl _) (hSw.get 1 rfl:Below _ _ _∧_) (j:=k1) (i:=0) ω rfl rfl))) fun _ h69=>?_
   refine tv1 hq1 h69 14 rfl rfl (v:=.agg #[ν ((As ((f k1).x)).kind),σ ((As ((f k1).x)).p1),σ ((As ((f k1).x)).p2),ν ((As ((f k1).x)).fl),ν ((As ((f k1).x)).fd),ν ((As ((f k1).x)).off),ν ((As ((f k1).x)).n),σ ((As ((f k1).x)).data)]) (fun w1 hSw=>(rld h69 rfl rfl (ldA υ30 rfl (n:=8) κ (hSw.get 0 rfl:Blk _ _ _ _) rfl rfl))) fun _ h70=>?_
   refine to_ 7 rfl (wn rfl) κ fun _ hK19=>CS h70 rfl rfl rfl (xs:=[.tmp 53,.tmp 58,.tmp 59]) rfl Ce rfl (vs:=[π cf,ν ((f k1).cl),.agg #[ν ((As ((f k1).x)).kind),σ ((As ((f k1).x)).p1),σ ((As ((f k1).x)).p2),ν ((As ((f k1).x)).fl),ν ((As ((f k1).x)).fd),ν ((As ((f k1).x)).off),ν ((As ((f k1).x)).n),σ ((As ((f k1).x)).data)]]) rfl (args:=#[π cf,ν ((f k1).cl),.agg #[ν ((As ((f k1).x)).kind),σ ((As ((f k1).x)).p1),σ ((As ((f k1).x)).p2),ν ((As ((f k1).x)).fl),ν ((As ((f k1).x)).fd),ν ((As ((f k1).x)).off),ν ((As ((f k1).x)).n),σ ((As ((f k1).x)).data)]]) rfl (LO (cf:=cf) (A:=A56) (F:=(Cg f k1)) (n:=k1) (x:=(As ((f k1).x))) (s9.pk [1,2,3,0,4,5,6,7,8,9] rfl) (Hw f k1) hA52 ω ((GC f k1).ss ω) (Nat.le_trans (JW _) ω) (Nat.le_trans (JX _) ω) (Nat.le_trans (Mi _) ω) (hw k1 ω).2.2.2.1) fun _ v6 w10 r6 h71=>?_
   obtain ⟨Ax225,sax226,scx227,rfl,s10,hA232⟩:=r6
   refine hK19 _ _ (s10.pk [4,9,10] rfl) fun hq2=>?_
   refine to_ 15 rfl (wn rfl) κ fun _ hK20=>CS h71 rfl rfl rfl (xs:=[.tmp 61,.tmp 66,.tmp 67]) rfl EE rfl (vs:=[π df,ν ((f k1).cl),.agg #[ν ((As ((f k1).x)).kind),σ ((As ((f k1).x)).p1),σ ((As ((f k1).x)).p2),ν ((As ((f k1).x)).fl),ν ((As ((f k1).x)).fd),ν ((As ((f k1).x)).off),ν ((As ((f k1).x)).n),σ ((As ((f k1).x)).data)]]) rfl (args:=#[π df,ν ((f k1).cl),.agg #[ν ((As ((f k1).x)).kind),σ ((As ((f k1).x)).p1),σ ((As ((f k1).x)).p2),ν ((As ((f k1).x)).fl),ν ((As ((f k1).x)).fd),ν ((As ((f k1).x)).off),ν ((As ((f k1).x)).n),σ ((As ((f k1).x)).data)]]) rfl (Of (F:=(Cg f k1)) (x:=(As ((f k1).x))) (s10.pk [5,6,7,8,0,1,2,3,4,9,10] rfl) ((GC f k1).ss ω) (Hw f k1) (Nat.le_trans (JW _) ω) (Nat.le_trans (JX _) ω) (Nat.le_trans (Mi _) ω)) fun _ v7 w11 r7 h72=>?_
   obtain ⟨tax236,tcx237,nax238,ncx239,eax240,ecx241,oax242,ocx243,rfl,s11⟩:=r7
   refine hK20 _ _ (s11.pk [9,10,11] rfl) fun hq3=>?_
   refine to_ 16 rfl (wn rfl) κ fun _ hK21=>CS h72 rfl rfl rfl (xs:=[.tmp 60,.tmp 68]) rfl DU rfl (vs:=[.agg #[ν ((doF (Cg f k1) ((f k1).cl) (As ((f k1).x))).2.e),ν ((doF (Cg f k1) ((f k1).cl) (As ((f k1).x))).2.fd),σ ((doF (Cg f k1) ((f k1).cl) (As ((f k1).x))).2.data),.slice sax226 ((doF (Cg f k1) ((f k1).cl) (As ((f k1).x))).2.names.length) scx227,ν ((doF (Cg f k1) ((f k1).cl) (As ((f k1).x))).2.kind),ν ((doF (Cg f k1) ((f k1).cl) (As ((f k1).x))).2.links),ν ((doF (Cg f k1) ((f k1).cl) (As ((f k1).x))).2.size)],.agg #[ν ((doF (Cg f k1) ((f k1).cl) (As ((f k1).x))).2.e),ν ((doF (Cg f k1) ((f k1).cl) (As ((f k1).x))).2.fd),σ ((doF (Cg f k1) ((f k1).cl) (As ((f k1).x))).2.data),.slice tax236 ((doF (Cg f k1) ((f k1).cl) (As ((f k1).x))).2.names.length) tcx237,ν ((doF (Cg f k1) ((f k1).cl) (As ((f k1).x))).2.kind),ν ((doF (Cg f k1) ((f k1).cl) (As ((f k1).x))).2.links),ν ((doF (Cg f k1) ((f k1).cl) (As ((f k1).x))).2.size)]]) rfl (args:=#[.agg #[ν ((doF (Cg f k1) ((f k1).cl) (As ((f k1).x))).2.e),ν ((doF (Cg f k1) ((f k1).cl) (As ((f k1).x))).2.fd),σ ((doF (Cg f k1) ((f k1).cl) (As ((f k1).x))).2.data),.slice sax226 ((doF (Cg f k1) ((f k1).cl) (As ((f k1).x))).2.names.length) scx227,ν ((doF (Cg f k1) ((f k1).cl) (As ((f k1).x))).2.kind),ν ((doF (Cg f k1) ((f k1).cl) (As ((f k1).x))).2.links),ν ((doF (Cg f k1) ((f k1).cl) (As ((f k1).x))).2.size)],.agg #[ν ((doF (Cg f k1) ((f k1).cl) (As ((f k1).x))).2.e),ν ((doF (Cg f k1) ((f k1).cl) (As ((f k1).x))).2.fd),σ ((doF (Cg f k1) ((f k1).cl) (As ((f k1).x))).2.data),.slice tax236 ((doF (Cg f k1) ((f k1).cl) (As ((f k1).x))).2.names.length) tcx237,ν ((doF (Cg f k1) ((f k1).cl) (As ((f k1).x))).2.kind),ν ((doF (Cg f k1) ((f k1).cl) (As ((f k1).x))).2.links),ν ((doF (Cg f k1) ((f k1).cl) (As ((f k1).x))).2.size)]]) rfl ((by have z:=JB (r:=(doF (Cg f k1) ((f k1).cl) (As ((f k1).x))).2) (s:=(doF (Cg f k1) ((f k1).cl) (As ((f k1).x))).2) (s11.pk [5,0,1,2,3,4,6,7,8,9,10,11] rfl) (Nat.le_trans (ID _ _) (Nat.le_trans (GC f k1).2.1 ω)) (Nat.le_trans (ID _ _) (Nat.le_trans (GC f k1).2.1 ω));rw [KH] at z;exact z)) fun _ v8 w12 r8 h73=>?_
   obtain ⟨rfl,s12⟩:=r8
   refine hK21 _ _ (s12.pk [9,10,11] rfl) fun hq4=>?_
   refine tv1 hq4 h73 17 rfl rfl (v:=.bool true) (fun w1 _=>(BJ h73 rfl rfl) w1) fun _ h74=>?_
   refine h74.sk [11,10,9,8,7,6,5,4,0,1] rfl fun h75=>?_
   refine wpAnyH_done κ ?_ _
   refine hK18 _ _ ?_
   refine sqr fun _ hK22=>mvs 2 h75 rfl fun _ h76=>h76.sn [71,11,10,9,8,7,6,5,4,0,1] rfl fun h77=>hK22 _ _<|KV h77 rfl (b:=false) rfl ?_
   simp only [Bool.false_eq_true,if_false]
   refine h77.sk [11,10,9,8,7,6,5,4,0,1] rfl fun h78=>wp_skip<|hK11 _ _<|wp_region_lit<|mv h78 rfl fun _ h79=>bv h79 (z:=ν ((k1+1:Nat):Int)) rfl (Dx _ _ _ ω ω ω) fun _ h80=>h80.sk [27,26,11,10,8,7,6,5,4,0,1] rfl fun h81=>mv h81 rfl fun _ h82=>h82.sk [9,11,10,8,7,6,5,4,0,1] rfl fun h83=>wpList_nil ?_
   exact hK8 (k1+1) Ax225 (⟨nax238,ncx239,eax240,ecx241,oax242,ocx243⟩:DocA) _ _ ⟨h83.subs rfl,(by rw [Mb hc2];exact (s12.pk [6,7,8,2,3,4,5,10,11] rfl)),(by rw [Mb hc2];exact hA232),ω,ω⟩ ω
 ·skip
  have hp2:(¬ ((k1:Int)<(n0:Int)))∨(¬ ((k1:Int)<(most:Int))):=((Ix hc1).imp (fun q=>(dF q)) (fun q=>(dF q)))
  refine wcF h23 rfl hc1<|h23.sk [9,8,7,6,5,4,0,1] rfl fun h84=>wp_exit ?_
  refine hK6 _ _ ?_
  refine sqr fun _ hK23=>mvs 2 h84 rfl fun _ h85=>h85.sk [75,74,9,8,7,6,5,0,1] rfl fun h86=>mv h86 rfl fun _ h87=>h87.sk [4,75,74,9,8,7,6,0,1] rfl fun h88=>mv h88 rfl fun _ h89=>h89.sk [5,4,75,74,9,8,7,0,1] rfl fun h90=>mv h90 rfl fun _ h91=>h91.sn [6,5,4,9,8,7,0,1] rfl fun h92=>hK23 _ _ ?_
  refine wp_ret ?_
  try simp only [Exit.then,Exit.inBlock]
  refine Bn (v:=.tuple #[π cf,π df,.bool true]) (Hg h92 rfl rfl rfl rfl) h92.defs ?_
  have hkm:k1=min n0 most:=ω
  rw [hkm] at hA52 s3
  exact ⟨cf,ob,A56,df,D57.na,D57.nc,D57.ea,D57.ec,D57.oa,D57.oc,rfl,Sep.tail_un (xs:=[_,_,_,_,_,_,_,_]) s3,hA52⟩
end
section
abbrev Uo (fd:Int):CallM:=⟨6,[],[],0,fd,0,0,[]⟩
abbrev Un (X:List UInt8):CallM:=⟨13,X,[],0,0,0,0,[]⟩
abbrev Uk (X:List UInt8):CallM:=⟨12,X,[],0,0,0,0,[]⟩
abbrev Uu (X Y:List UInt8):CallM:=⟨11,X,Y,0,0,0,0,[]⟩
theorem QC {L M:List ByteArray}:CX (some (L++M)) (some L)=true:=by simp [CX]
end
section
section
variable {α:Type} {w w':World} {b:Nat} {L:List (Nat×α)} {av:α→Value}
abbrev pV (g:Nat):Value:=π g
def pE (av:α→Value) (p:Nat×α):Value×Value:=(pV p.1,av p.2)
def EZ (L:List (Nat×α)) (g:Nat):Option α:=(L.find? fun p=>decide (p.1=g)).map (·.2)
def PMap (av:α→Value) (w:World) (b:Nat) (L:List (Nat×α)):Prop:=
  ∃ es clock,w.heap[b]? = some (.map es clock)∧es.toList.map (fun e=>(e.key,e.val))=L.map (pE av)
theorem PMap.lt (h:PMap av w b L):b<w.heap.size:=by obtain ⟨es,c,h,_⟩:=h;exact (Array.getElem?_eq_some_iff.1 h).1
theorem PMap.turns {X:Nat→Prop} (h:PMap av w b L) (t:Turns X w w') (hx:¬ X b):PMap av w' b L:=by
  have hl:=h.lt
  obtain ⟨es,c,h1,h2⟩:=h
  exact ⟨es,c,(t.block b hl hx).trans h1,h2⟩
def pmC (av:α→Value) (b:Nat) (L:List (Nat×α)):Ch where
  F x:=x=b
  P w:=PMap av w b L
  keep h t:=h.turns t (fun q=>q rfl)
  lt h x hx:=hx ▸ h.lt
theorem PMap.new (w:World):PMap av (w.alloc (.map #[] 0)) w.heap.size []:=⟨#[],0,(MapKept.heap_alloc w _).1,rfl⟩
def JQ (w:World) (kt:TypeId) (L:List (Nat×α)) (g:Nat):Prop:=∀ p∈L,(Op.equal kt (pV g) (pV p.1)).run Tryz.prog w=.ok (decide (g=p.1)) w
theorem KG {kt:TypeId} {g:Nat}:∀ (es:List MapEntry) (L:List (Nat×α)) (i:Nat),es.map (fun e=>(e.key,e.val))=L.map (pE av)→JQ w kt L g →
    ∃ r,(Instr.findAsking kt (pV g) es i).run Tryz.prog w=.ok r w∧r.map (·.2)=(EZ L g).map av
  | [],[],i,_,_=>⟨none,rfl,rfl⟩
  | [],_::_,_,h,_=>by simp at h
  | _::_,[],_,h,_=>by simp at h
  | e::es,p::L,i,h,hT=>by
    simp only [List.map_cons,List.cons.injEq] at h
    have e1:e.key=pV p.1:=(Prod.mk.inj h.1).1
    have e2:e.val=av p.2:=(Prod.mk.inj h.1).2
    have q:=hT p List.mem_cons_self
    unfold Instr.findAsking
    rw [e1]
    by_cases c:g=p.1
    · rw [decide_eq_true c] at q
      refine ⟨some (i,e.val),by simp [q,Result.andThen],?_⟩
      have:EZ (p::L) g=some p.2:=by unfold EZ;rw [List.find?_cons_of_pos (by simp [c])];rfl
      rw [this,e2];rfl
    · obtain ⟨r,hr,hl⟩:=KG es L (i+1) h.2 (fun p hp=>hT p (List.mem_cons_of_mem _ hp))
      rw [decide_eq_false c] at q
      refine ⟨r,by simp [q,hr,Result.andThen],?_⟩
      have:EZ (p::L) g=EZ L g:=by unfold EZ;rw [List.find?_cons_of_neg (by simp;exact fun q=>c q.symm)]
      rw [this];exact hl
theorem LD {kt E:TypeId} (hk:Tryz.prog.underlying kt=some (.pointer E)) {g:Nat} {es:List MapEntry} (h:es.map (fun e=>(e.key,e.val))=L.map (pE av)) (hT:JQ w kt L g) :
    ∃ r,(Instr.findKey kt (pV g) es).run Tryz.prog w=.ok r w∧r.map (·.2)=(EZ L g).map av:=by
  cases es with
  | nil=>
    cases L with
    | nil=>exact ⟨none,by simp [Instr.findKey,run_underlying hk,Instr.findNow,Result.andThen],rfl⟩
    | cons=>simp at h
  | cons e es=>
    obtain ⟨r,hr,hl⟩:=KG (e::es) L 0 h hT
    refine ⟨r,?_,hl⟩
    have hn:Instr.findNow (.pointer E) (pV g) (e::es) 0=none:=by simp [Instr.findNow,Instr.sameNow]
    simp [Instr.findKey,run_underlying hk,hn,hr,Result.andThen]
theorem Is {kt E:TypeId} (hk:Tryz.prog.underlying kt=some (.pointer E)) (em:Bool) (g:Nat):(Instr.checkKey em 10000 kt (pV g)).run Tryz.prog w=.ok () w:=by
  unfold Instr.checkKey
  simp only [Sem.run_bind,run_underlying hk,Result.andThen]
  rfl
theorem PMap.look (h:PMap av w b L) {t kt el E:TypeId} (ht:Tryz.prog.underlying t=some (.map kt el)) (hk:Tryz.prog.underlying kt=some (.pointer E)) {z:Value} (hz:(zeroValue el).run Tryz.prog w=.ok z w) {g:Nat} (hT:JQ w kt L g) :
    (Instr.lookup t (.map (some b)) (pV g) false).run Tryz.prog w=.ok (((EZ L g).map av).getD z) w:=by
  obtain ⟨es,c,hb,he⟩:=h
  obtain ⟨r,hr,hl⟩:=LD hk he hT
  rw [← hl]
  cases r with
  | none=>simp [Instr.lookup,run_underlying ht,MapKept.run_getObj_map hb,Is hk,hr,hz,Result.andThen]
  | some x=>simp [Instr.lookup,run_underlying ht,MapKept.run_getObj_map hb,Is hk,hr,Result.andThen]
theorem PMap.put (h:PMap av w b L) {t kt el E:TypeId} (ht:Tryz.prog.underlying t=some (.map kt el)) (hk:Tryz.prog.underlying kt=some (.pointer E)) {g:Nat} (hT:JQ w kt L g) (hn:EZ L g=none) (a:α) :
    ∃ w',(Instr.mapUpdate t (.map (some b)) (pV g) (av a)).run Tryz.prog w=.ok () w'∧PMap av w' b (L++[(g,a)])∧Turns (fun k=>k=b) w w':=by
  obtain ⟨es,c,hb,he⟩:=h
  obtain ⟨r,hr,hl⟩:=LD hk he hT
  rw [hn] at hl
  cases r with
  | some x=>cases hl
  | none=>
    refine ⟨{ w with heap:=w.heap.setIfInBounds b (.map (es.push { key:=pV g,val:=av a,born:=c }) (c+1)) },by simp [Instr.mapUpdate,run_underlying ht,MapKept.run_getObj_map hb,Is hk,hr,MapKept.run_setObj_map _ hb,Result.andThen],⟨_,_,(MapKept.heap_set hb).1,?_⟩,⟨rfl,rfl,rfl,by simp,fun k hk' hx=>(MapKept.heap_set hb).2 k hx⟩⟩
    simp [he,pE]
theorem PMap.len (h:PMap av w b L) {t kt el ty:TypeId} (ht:Tryz.prog.underlying t=some (.map kt el)):(Builtin.len_ #[t] ty #[.map (some b)]).run Tryz.prog w=.ok (ν (L.length:Int)) w:=by
  obtain ⟨es,c,hb,he⟩:=h
  have hl:es.size=L.length:=by have:=congrArg List.length he;simpa using this
  simp [Builtin.len_,run_underlying ht,MapKept.run_getObj_map hb,Result.andThen,hl,goInt]
end
end
section
theorem DA {α:Type} [DecidableEq α]:∀ {A B:List α},A.Nodup→(∀ a∈A,a∈B)→A.length≤B.length
  | [],B,_,_=>Nat.zero_le _
  | a::A,B,h,hs=>by
    obtain ⟨h1,h2⟩:=List.nodup_cons.1 h
    have hb:=hs a List.mem_cons_self
    have z:=DA (B:=B.erase a) h2 (fun x hx=>(List.mem_erase_of_ne (fun (e:x=a)=>h1 (e ▸ hx))).2 (hs x (List.mem_cons_of_mem _ hx)))
    rw [List.length_erase_of_mem hb] at z
    have:=List.length_pos_of_mem hb
    rw [List.length_cons];omega
structure Cp where
  K:List Nat
  E:List EntM
  A:AdM
section
variable {F:FsM} {A:AdM} {c c' c2:Cp} {k p:Nat}
def Cp.fs (F:FsM) (c:Cp):FsM:=⟨c.K.map F.at,c.E,[]⟩
def Cp.og (c:Cp) (p:Nat):Nat:=c.K.getD p 0
def Cp.L (A:AdM) (c:Cp):List (Nat×Nat):=(List.range c.K.length).map fun p=>(A.ad (c.og p),c.A.ad p)
theorem Cp.len (F:FsM) (c:Cp):(c.fs F).N.length=c.K.length:=List.length_map ..
theorem Cp.at (F:FsM) (c:Cp) (hp:p<c.K.length):(c.fs F).at p=F.at (c.og p):=by
  have e:c.og p=c.K[p]:=by unfold Cp.og;rw [List.getD_eq_getElem?_getD,List.getElem?_eq_getElem hp];rfl
  rw [e]
  show (c.K.map F.at).getD p Ar=_
  rw [List.getD_eq_getElem?_getD,List.getElem?_map,List.getElem?_eq_getElem hp];rfl
theorem Cp.og_mem (c:Cp) (hp:p<c.K.length):c.og p∈c.K:=by
  unfold Cp.og;rw [List.getD_eq_getElem?_getD,List.getElem?_eq_getElem hp];exact List.getElem_mem hp
theorem Cp.og_idx (c:Cp) (hk:k∈c.K):c.K.idxOf k<c.K.length∧c.og (c.K.idxOf k)=k:=by
  have h:=List.idxOf_lt_length_of_mem hk
  refine ⟨h,?_⟩
  unfold Cp.og;rw [List.getD_eq_getElem?_getD,List.getElem?_eq_getElem h];exact List.getElem_idxOf h
def Done (F:FsM) (c:Cp) (p:Nat):Prop:=
  (∀ s m,Ai F.E (c.og p) s=some m→m∈c.K∧Ai c.E p s=some (c.K.idxOf m))∧∀ s,Ai F.E (c.og p) s=none→Ai c.E p s=none
structure CpOk (F:FsM) (A:AdM) (c:Cp):Prop where
  nd:c.K.Nodup
  lt:∀ k∈c.K,k<F.N.length
  ed:c.E.Pairwise (fun x y=>¬ (x.dn=y.dn∧x.nm=y.nm))
  e:∀ x∈c.E,x.dn<c.K.length∧x.nd<c.K.length∧∃ y∈F.E,y.dn=c.og x.dn∧y.nm=x.nm
  B:c.A.B=c.E.length
  ld:∀ p,p<c.K.length→c.A.ld p=A.ld (c.og p)
theorem CpOk.og_inj (h:CpOk F A c) {p q:Nat} (hp:p<c.K.length) (hq:q<c.K.length) (e:c.og p=c.og q):p=q:=by
  unfold Cp.og at e
  rw [List.getD_eq_getElem?_getD,List.getElem?_eq_getElem hp,List.getD_eq_getElem?_getD,List.getElem?_eq_getElem hq] at e
  have z:=List.pairwise_iff_getElem.1 h.nd
  rcases Nat.lt_trichotomy p q with h1 | h1 | h1
  · exact absurd e (z p q hp hq h1)
  · exact h1
  · exact absurd e.symm (z q p hq hp h1)
theorem CpOk.len (h:CpOk F A c):c.K.length≤F.N.length:=by
  have z:=DA (B:=List.range F.N.length) h.nd (fun a ha=>List.mem_range.2 (h.lt a ha))
  rw [List.length_range] at z;exact z
theorem CpOk.room (h:CpOk F A c) (hk:k<F.N.length) (hn:¬ k∈c.K):c.K.length<F.N.length:=by
  have z:=DA (A:=k::c.K) (B:=List.range F.N.length) (List.nodup_cons.2 ⟨hn,h.nd⟩) (fun a ha=>List.mem_range.2 (by rcases List.mem_cons.1 ha with rfl | ha;exact hk;exact h.lt a ha))
  rw [List.length_range,List.length_cons] at z;exact z
theorem CpOk.few (h:CpOk F A c):c.E.length≤F.E.length:=by
  have z:=DA (A:=c.E.map fun x=>(c.og x.dn,x.nm)) (B:=F.E.map fun y=>(y.dn,y.nm)) (by
    unfold List.Nodup
    rw [List.pairwise_map]
    refine List.Pairwise.imp_of_mem (fun {x y} hx hy hxy e=>hxy ?_) h.ed
    have e1:=(Prod.mk.inj e).1
    exact ⟨h.og_inj (h.e x hx).1 (h.e y hy).1 e1,(Prod.mk.inj e).2⟩) (fun a ha=>by
    obtain ⟨x,hx,rfl⟩:=List.mem_map.1 ha
    obtain ⟨_,_,y,hy,e1,e2⟩:=h.e x hx
    exact List.mem_map.2 ⟨y,hy,by rw [e1,e2]⟩)
  rw [List.length_map,List.length_map] at z;exact z
theorem CpOk.look (h:CpOk F A c) (hi:∀ i j,i<F.N.length→j<F.N.length→A.ad i=A.ad j→i=j) (hk:k<F.N.length):EZ (c.L A) (A.ad k)=if k∈c.K then some (c.A.ad (c.K.idxOf k)) else none:=by
  by_cases hm:k∈c.K
  · rw [if_pos hm]
    obtain ⟨h1,h2⟩:=c.og_idx hm
    have hmem:(A.ad k,c.A.ad (c.K.idxOf k))∈c.L A:=List.mem_map.2 ⟨c.K.idxOf k,List.mem_range.2 h1,by rw [h2]⟩
    unfold EZ
    cases hf:(c.L A).find? (fun p=>decide (p.1=A.ad k)) with
    | none=>exact absurd (List.find?_eq_none.1 hf _ hmem) (by simp)
    | some x=>
      have hx:=List.mem_of_find?_eq_some hf
      have hx1:=List.find?_some hf
      obtain ⟨p,hp,rfl⟩:=List.mem_map.1 hx
      have hp:=List.mem_range.1 hp
      have e:=hi _ _ (h.lt _ (c.og_mem hp)) hk (of_decide_eq_true hx1)
      have:p=c.K.idxOf k:=h.og_inj hp h1 (by rw [h2];exact e)
      rw [this];rfl
  · rw [if_neg hm]
    unfold EZ
    rw [List.find?_eq_none.2]
    · rfl
    · intro x hx
      obtain ⟨p,hp,rfl⟩:=List.mem_map.1 hx
      have hp:=List.mem_range.1 hp
      simp only [decide_eq_true_eq]
      intro e
      exact hm ((hi _ _ (h.lt _ (c.og_mem hp)) hk e) ▸ c.og_mem hp)
structure Ext (F:FsM) (c c':Cp):Prop where
  K:∃ X,c'.K=c.K++X
  ad:∀ p,p<c.K.length→c'.A.ad p=c.A.ad p
  mb:∀ p,p<c.K.length→c'.A.mb p=c.A.mb p
  E:∀ p,p<c.K.length→∀ s,Ai c'.E p s=Ai c.E p s
  done:∀ p,c.K.length≤p→p<c'.K.length→Done F c' p
theorem Ext.refl (F:FsM) (c:Cp):Ext F c c:=⟨⟨[],by simp⟩,fun _ _=>rfl,fun _ _=>rfl,fun _ _ _=>rfl,fun p h1 h2=>ω⟩
theorem Ext.le (h:Ext F c c'):c.K.length≤c'.K.length:=by obtain ⟨X,e⟩:=h.K;rw [e,List.length_append];omega
theorem Ext.og (h:Ext F c c') (hp:p<c.K.length):c'.og p=c.og p:=by
  obtain ⟨X,e⟩:=h.K
  unfold Cp.og;rw [e,List.getD_eq_getElem?_getD,List.getElem?_append_left hp,← List.getD_eq_getElem?_getD]
theorem Ext.mem (h:Ext F c c') (hk:k∈c.K):k∈c'.K:=by obtain ⟨X,e⟩:=h.K;rw [e];exact List.mem_append_left _ hk
theorem Ext.idx (h:Ext F c c') (hk:k∈c.K):c'.K.idxOf k=c.K.idxOf k:=by obtain ⟨X,e⟩:=h.K;rw [e,List.idxOf_append,if_pos hk]
theorem Done.ext (d:Done F c p) (h:Ext F c c') (hp:p<c.K.length):Done F c' p:=by
  constructor
  · intro s m hm
    rw [h.og hp] at hm
    obtain ⟨h1,h2⟩:=d.1 s m hm
    exact ⟨h.mem h1,by rw [h.E p hp,h2,h.idx h1]⟩
  · intro s hs
    rw [h.og hp] at hs
    rw [h.E p hp];exact d.2 s hs
theorem Ext.trans (h:Ext F c c2) (h2:Ext F c2 c'):Ext F c c' where
  K:=by obtain ⟨X,e⟩:=h.K;obtain ⟨Y,e2⟩:=h2.K;exact ⟨X++Y,by rw [e2,e,List.append_assoc]⟩
  ad p hp:=(h2.ad p (Nat.lt_of_lt_of_le hp h.le)).trans (h.ad p hp)
  mb p hp:=(h2.mb p (Nat.lt_of_lt_of_le hp h.le)).trans (h.mb p hp)
  E p hp s:=(h2.E p (Nat.lt_of_lt_of_le hp h.le) s).trans (h.E p hp s)
  done p h3 h4:=by
    by_cases hp:p<c2.K.length
    · exact (h.done p h3 hp).ext h2 hp
    · exact h2.done p ω h4
def Cp.new (c:Cp) (k g b:Nat) (i:Int):Cp:=⟨c.K++[k],c.E,{ c.A with ad:=fun j=>if j=c.K.length then g else c.A.ad j,mb:=fun j=>if j=c.K.length then b else c.A.mb j,ld:=fun j=>if j=c.K.length then i else c.A.ld j }⟩
def Cp.put (c:Cp) (p:Nat) (s:ByteArray) (q:Nat):Cp:=⟨c.K,c.E++[⟨p,s,q⟩],{ c.A with B:=c.A.B+1 }⟩
theorem Cp.new_og (c:Cp) (k g b:Nat) (i:Int) (hp:p<c.K.length):(c.new k g b i).og p=c.og p:=by
  unfold Cp.og Cp.new;rw [List.getD_eq_getElem?_getD,List.getElem?_append_left hp,← List.getD_eq_getElem?_getD]
theorem Cp.new_og' (c:Cp) (k g b:Nat) (i:Int):(c.new k g b i).og c.K.length=k:=by
  unfold Cp.og Cp.new;rw [List.getD_eq_getElem?_getD,List.getElem?_append_right (Nat.le_refl _),Nat.sub_self];rfl
theorem Cp.new_len (c:Cp) (k g b:Nat) (i:Int):(c.new k g b i).K.length=c.K.length+1:=List.length_append
theorem CpOk.new (h:CpOk F A c) (hk:k<F.N.length) (hn:¬ k∈c.K) (g b:Nat) {i:Int} (hi:i=A.ld k):CpOk F A (c.new k g b i) where
  nd:=List.nodup_append.2 ⟨h.nd,by simp,fun a ha b' hb e=>hn (by rw [List.mem_singleton] at hb;rw [← hb,← e];exact ha)⟩
  lt j hj:=by
    rcases List.mem_append.1 hj with hj | hj
    · exact h.lt j hj
    · rw [List.mem_singleton] at hj;rw [hj];exact hk
  ed:=h.ed
  e x hx:=by
    obtain ⟨h1,h2,y,hy,e1,e2⟩:=h.e x hx
    rw [c.new_len]
    exact ⟨ω,ω,y,hy,by rw [c.new_og _ _ _ _ h1];exact e1,e2⟩
  B:=h.B
  ld p hp:=by
    rw [c.new_len] at hp
    by_cases e:p=c.K.length
    · subst e;rw [c.new_og'];show (if c.K.length=c.K.length then i else _)=_;rw [if_pos rfl];exact hi
    · rw [c.new_og _ _ _ _ ω];show (if p=c.K.length then i else c.A.ld p)=_;rw [if_neg e];exact h.ld p ω
theorem CpOk.put (h:CpOk F A c) {s:ByteArray} {q:Nat} (hp:p<c.K.length) (hq:q<c.K.length) (hn:Ai c.E p s=none) {m:Nat} (hl:Ai F.E (c.og p) s=some m):CpOk F A (c.put p s q) where
  nd:=h.nd
  lt:=h.lt
  ed:=List.pairwise_append.2 ⟨h.ed,by simp,fun x hx y hy=>by
    rw [List.mem_singleton] at hy;subst hy
    exact Kk hn x hx⟩
  e x hx:=by
    rcases List.mem_append.1 hx with hx | hx
    · exact h.e x hx
    · rw [List.mem_singleton] at hx;subst hx
      obtain ⟨y,hy,e1,e2,_⟩:=BL hl
      exact ⟨hp,hq,y,hy,e1,e2⟩
  B:=by show c.A.B+1=(c.E++[_]).length;rw [List.length_append,h.B];rfl
  ld:=h.ld
theorem Cp.put_look (c:Cp) {p:Nat} {s:ByteArray} {q:Nat} (hn:Ai c.E p s=none) (p':Nat) (s':ByteArray):Ai (c.put p s q).E p' s'=if p'=p∧s'=s then some q else Ai c.E p' s':=Dc hn p' s'
theorem CpOk.mayN (h:CpOk F A c) {δ:Nat→Int} (hF:FsC F δ) {s:ByteArray} {m:Nat} (hl:Ai c.E p s=some m):mayN s=true:=by
  obtain ⟨x,hx,_,rfl,_⟩:=BL hl
  obtain ⟨_,_,y,hy,_,e⟩:=h.e x hx
  rw [← e];exact (hF.e y hy).2.2
end
end
end Go.Proofs.YtcanemamnmmbcaaGreatDoor
