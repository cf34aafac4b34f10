/- the document's rmdir, tells, link (sx/psE.py) -/
import Derived.Test.YtpdjnefgkcmdnaaGreatDoorPxMa
import Derived.Test.YtpdjnefgkcmdnaaGreatDoorSxU
import Derived.Test.YtpdjnefgkcmdnaaGreatDoorPxZ
namespace Go.Proofs.YtpdjnefgkcmdnaaGreatDoor
open Go.RowKit
set_option linter.unusedSimpArgs false
set_option linter.unusedVariables false
set_option maxRecDepth 100000

def repV (r:RepM) (sa:Option Addr) (sc:Nat):Value:=.agg #[.int .i64 r.e,.int .i64 r.fd,.string (strB r.data),.slice sa r.names.length sc,.int .i64 r.kind,.int .i64 r.links,.int .i64 r.size]
theorem notT1 {b:Bool} (h:b=false):¬ b=true:=fun q=>by rw [h] at q;cases q
theorem pathsF_t {x:CallM} (h:pathsF x=true):(pathO x.p1).isSome=true∧(pathO x.p2).isSome=true:=by unfold pathsF at h;exact Bool.and_eq_true_iff.1 h
theorem pathsF_f {x:CallM} (h:pathsF x=false):¬ ((pathO x.p1).isSome=true∧(pathO x.p2).isSome=true):=fun q=>by unfold pathsF at h;rw [q.1,q.2] at h;cases h
theorem FsC.links_ge {F:FsM} (h:FsC F (fun _=>0)) {i:Nat} (hi:i<F.N.length):0≤(F.at i).links:=by
 obtain ⟨_,k2,k3⟩:=h.k i hi
 cases hd:F.dir i with
 | true=>rw [k2 hd];decide
 | false=>have:=k3 hd;omega
theorem takeF_sm {F:FsM} {d:Nat} {s:ByteArray} (h:SmF F):SmF (takeF F d s):=⟨h.1,Nat.le_trans (takeE_le _ _ _) h.2.1,h.2.2⟩
theorem insideRef_s {w:World} {R:List Ch} (hS:Sep w R) (X Y:List UInt8) (hX:X.length≤1000) (hY:Y.length≤1000):CallsR Tryz.prog 35 #[.string (strB X),.string (strB Y)] w (fun v w'=>v=.bool (insF (pathO X) (pathO Y))∧Sep w' R):=
 (insideRef_any X Y hX hY w).mono fun e w' ⟨e1,hb⟩=>⟨_,e1,rfl,hS.mono hb⟩


set_option maxHeartbeats 4000000 in
theorem rmdirRef_s {w:World} {df:Nat} {na ea oa:Option Addr} {nc ec oc:Nat} {F:FsM} {R:List Ch} {x:CallM} (hS0:Sep w ((dP df na nc ea ec oa oc F)++R)) (hz:SmF F) (hok:FsOk F) (h1:x.p1.length≤1000) (h2:x.p2.length≤1000) (h3:x.data.length≤1000)  :
  CallsR Tryz.prog 19 #[.pointer (some ⟨df,0,none⟩),.agg (cL x).toArray] w (fun v w'=>∃ sa sc na' nc' ea' ec' oa' oc',v=repV (rmdirF F x.p1).2 sa sc∧Sep w' (ownC 0 9 1 sa (rmdirF F x.p1).2.names.length sc ((rmdirF F x.p1).2.names.flatMap sE)::[blkC df 48 [.slice na' (((rmdirF F x.p1).1).N.length) nc',.slice ea' (((rmdirF F x.p1).1).E.length) ec',.slice oa' (((rmdirF F x.p1).1).O.length) oc'],ownC 0 50 3 na' (((rmdirF F x.p1).1).N).length nc' ((((rmdirF F x.p1).1).N).flatMap nodC),ownC 0 79 3 ea' (((rmdirF F x.p1).1).E).length ec' ((((rmdirF F x.p1).1).E).flatMap entC),ownC 0 73 3 oa' (((rmdirF F x.p1).1).O).length oc' ((((rmdirF F x.p1).1).O).flatMap opnC)]++R)):=by
 have hS:=Sep.tail_many (xs:=dP df na nc ea ec oa oc F) hS0;clear hS0
 have hz0:=hz;obtain ⟨hz1,hz2,hz3⟩:F.N.length≤1000∧F.E.length≤1000∧F.O.length≤1000:=hz
 refine enterR Tryz.func19 rfl (N:=53) Tryz.ntmps19 (by show 2≤53;decide) [(0,.pointer (some ⟨df,0,none⟩)),(1,.agg (cL x).toArray)] rfl fun _ h1=>sqr fun _ hK3=>so (wanted_none rfl) fun _ hK1=>xbox h1 rfl rfl rfl rfl rfl (z:=(cL x)) rfl hS fun _ g4 w7 h5 s8 _ _=>hK1 _ _ ?_
 refine so (wanted_none rfl) fun _ hK2=>xalloc h5 rfl rfl rfl rfl (z:=zL) (fun _=>rfl) s8 fun _ g1 w1 h4 s1 _ _=>hK2 _ _ ?_
 refine wpList_nil<|hK3 _ _<|sq fun _ hK4=>sqr fun _ hK5=>fav h4 rfl (fz_api_Call_1 _ _) fun _ h6=>ldv h6 s1 1 Tryz.underlying9 rfl rfl rfl rfl fun _ h7=>bv h7 (z:=.bool (decide (x.p1=[47]))) rfl (bStrEqL _ _ _ x.p1 [47] rfl) fun _ h8=>h8.sn [12,4,3,0,1] rfl fun h9=>hK5 _ _ ?_
 rcases bC (decide (x.p1=[47])) with hc1 | hc1
 ·skip
  have hp1:x.p1=[47]:=(dT hc1)
  refine wcT h9 rfl hc1<|h9.sk [4,3,0,1] rfl fun h10=>sqr fun _ hK6=>cl h10 rfl cz_commonsref06_fails (fails_s s1 15) fun _ v1 w2 r1 h11=>?_
  obtain ⟨rfl,s2⟩:=r1
  refine stA h11 s2 0 rfl rfl rfl (by kernel_rfl) rfl rfl rfl rfl fun _ w3 h12 s3 _=>h12.sn [4,3,0,1] rfl fun h13=>hK6 _ _<|wp_ret ?_
  try simp only [Exit.then,Exit.inBlock]
  refine rC h13 s3 0 Tryz.underlying28 rfl rfl rfl rfl ?_
  have hq1:rmdirF F x.p1=(F,errR 15):=bx
  rw [hq1]
  exact ⟨none,0,na,nc,ea,ec,oa,oc,rfl,(Sep.tail_un (xs:=[_,_,_,_]) (s3.pk [2,3,4,5,6] rfl)).ownNil 0 9 1⟩
 ·skip
  have hp2:¬ (x.p1=[47]):=(dF hc1)
  refine wcF h9 rfl hc1<|h9.sk [4,3,0,1] rfl fun h14=>wp_skip<|hK4 _ _<|sqr fun _ hK7=>mv h14 rfl fun _ h15=>fav h15 rfl (fz_api_Call_1 _ _) fun _ h16=>ldv h16 s1 1 Tryz.underlying9 rfl rfl rfl rfl fun _ h17=>cl h17 rfl cz_commonsref06_Fs_Find (findRef_s (F:=F) (s1.pk [2,3,4,5,0,1,6] rfl) hz0 hok (by omega)) fun _ v2 w4 r2 h18=>?_
  obtain ⟨rfl,s4⟩:=r2
  have hfl64:=FsC.find_lt (F:=F) (FsOk.toFsC hok) x.p1
  refine mvs 5 h18 rfl fun _ h19=>h19.sn [6,5,4,3,0,1] rfl fun h20=>hK7 _ _<|sq fun _ hK8=>sqr fun _ hK9=>mv h20 rfl fun _ h21=>bv h21 (z:=.bool (decide ((findF F x.p1).1≠0))) rfl (cNe _ _ _ _ rfl) fun _ h22=>h22.sn [22,6,5,4,3,0,1] rfl fun h23=>hK9 _ _ ?_
  rcases bC (decide ((findF F x.p1).1≠0)) with hc2 | hc2
  ·skip
   have hp3:(findF F x.p1).1≠0:=(dT hc2)
   refine wcT h23 rfl hc2<|h23.sk [6,5,4,3,0,1] rfl fun h24=>sqr fun _ hK10=>mv h24 rfl fun _ h25=>cl h25 rfl cz_commonsref06_fails (fails_s s4 ((findF F x.p1).1)) fun _ v3 w5 r3 h26=>?_
   obtain ⟨rfl,s5⟩:=r3
   refine stA h26 s5 4 rfl rfl rfl (by kernel_rfl) rfl rfl rfl rfl fun _ w6 h27 s6 _=>h27.sn [6,5,4,3,0,1] rfl fun h28=>hK10 _ _<|wp_ret ?_
   try simp only [Exit.then,Exit.inBlock]
   refine rC h28 s6 4 Tryz.underlying28 rfl rfl rfl rfl ?_
   have hq2:rmdirF F x.p1=(F,errR (findF F x.p1).1):=bx
   rw [hq2]
   exact ⟨none,0,na,nc,ea,ec,oa,oc,rfl,(Sep.tail_un (xs:=[_,_,_,_]) (s6.pk [0,1,2,3,6] rfl)).ownNil 0 9 1⟩
  ·skip
   have hp4:¬ ((findF F x.p1).1≠0):=(dF hc2)
   refine wcF h23 rfl hc2<|h23.sk [6,5,4,3,0,1] rfl fun h29=>wp_skip<|hK8 _ _<|sq fun _ hK11=>sqr fun _ hK12=>mvs 2 h29 rfl fun _ h30=>fav h30 rfl (fz_commonsref06_Fs_0 _ _) fun _ h31=>ldv h31 s4 0 Tryz.underlying44 rfl rfl rfl rfl fun _ h32=>mv h32 rfl fun _ h33=>?_
   obtain ⟨q118,hq3⟩:=own_addr (s4.get 1 rfl:Own _ _ _ _ _ _ _ _)
   refine sv1 h33 rfl (v:=.pointer (some ⟨q118,((findF F x.p1).2)*3,none⟩)) (rindexA h33 rfl rfl rfl (fun w=>ixO Tryz.underlying44 (by kernel_rfl) (sz:=3) (hq3 (by omega)) (j:=(findF F x.p1).2) rfl (by omega) (by omega) w)) fun _ h34=>sv1 h34 rfl (v:=.pointer (some ⟨q118,((findF F x.p1).2)*3+0,none⟩)) (rfa h34 rfl rfl (fun w=>fz_commonsref06_Node_0 q118 (((findF F x.p1).2)*3) w)) fun _ h35=>sw1 h35 rfl (v:=.bool ((F.N.getD ((findF F x.p1).2) nilN).dir)) (rld h35 rfl rfl (ldOSc nodC_len Tryz.underlying4 rfl (s4.get 1 rfl:Own _ _ _ _ _ _ _ _) (hq3 (by omega)) nilN (j:=((findF F x.p1).2)) (f:=0) (by omega) (by decide) rfl rfl)) fun _ h36=>mv h36 rfl fun _ h37=>h37.sn [33,6,5,4,3,0,1] rfl fun h38=>hK12 _ _ ?_
   rcases bC ((F.N.getD ((findF F x.p1).2) nilN).dir) with hc3 | hc3
   ·skip
    refine wcF h38 rfl (bNotT hc3)<|h38.sk [6,5,4,3,0,1] rfl fun h39=>wp_skip<|hK11 _ _<|sq fun _ hK13=>sqr fun _ hK14=>mvs 2 h39 rfl fun _ h40=>cl h40 rfl cz_commonsref06_Fs_count (count_s (F:=F) (d:=(findF F x.p1).2) s4 hz0) fun _ v4 w8 r4 h41=>?_
    obtain ⟨rfl,s7⟩:=r4
    refine bv h41 (z:=.bool (decide (((cntE F.E ((findF F x.p1).2):Nat):Int)>0))) rfl (cGt _ _ _ _ rfl) fun _ h42=>h42.sn [38,6,5,4,3,0,1] rfl fun h43=>hK14 _ _ ?_
    rcases bC (decide (((cntE F.E ((findF F x.p1).2):Nat):Int)>0)) with hc4 | hc4
    ·skip
     have hp5:((cntE F.E ((findF F x.p1).2):Nat):Int)>0:=(dT hc4)
     refine wcT h43 rfl hc4<|h43.sk [6,5,4,3,0,1] rfl fun h44=>sqr fun _ hK15=>cl h44 rfl cz_commonsref06_fails (fails_s s7 14) fun _ v5 w9 r5 h45=>?_
     obtain ⟨rfl,s9⟩:=r5
     refine stA h45 s9 4 rfl rfl rfl (by kernel_rfl) rfl rfl rfl rfl fun _ w10 h46 s10 _=>h46.sn [6,5,4,3,0,1] rfl fun h47=>hK15 _ _<|wp_ret ?_
     try simp only [Exit.then,Exit.inBlock]
     refine rC h47 s10 4 Tryz.underlying28 rfl rfl rfl rfl ?_
     have hq4:rmdirF F x.p1=(F,errR 14):=bx
     rw [hq4]
     exact ⟨none,0,na,nc,ea,ec,oa,oc,rfl,(Sep.tail_un (xs:=[_,_,_,_]) (s10.pk [0,1,2,3,6] rfl)).ownNil 0 9 1⟩
    ·skip
     have hp6:¬ (((cntE F.E ((findF F x.p1).2):Nat):Int)>0):=(dF hc4)
     refine wcF h43 rfl hc4<|h43.sk [6,5,4,3,0,1] rfl fun h48=>wp_skip<|hK13 _ _<|sqr fun _ hK16=>mv h48 rfl fun _ h49=>fav h49 rfl (fz_api_Call_1 _ _) fun _ h50=>ldv h50 s7 5 Tryz.underlying9 rfl rfl rfl rfl fun _ h51=>cl h51 rfl cz_commonsref06_Fs_Place (placeRef_s (F:=F) s7 hz0 hok (by omega)) fun _ v6 w11 r6 h52=>?_
     obtain ⟨rfl,s11⟩:=r6
     refine mvs 7 h52 rfl fun _ h53=>h53.sn [8,7,6,5,4,3,0,1] rfl fun h54=>hK16 _ _<|sqr fun _ hK17=>mvs 3 h54 rfl fun _ h55=>cl h55 rfl cz_commonsref06_Fs_take (take_s (F:=F) s11 hz0 ((placeF F x.p1).2.1) ((placeF F x.p1).2.2)) fun _ v7 w12 r7 h56=>?_
     obtain ⟨nax205,ncx206,eax207,ecx208,oax209,ocx210,rfl,s12⟩:=r7
     have hN218:(takeF F ((placeF F x.p1).2.1) ((placeF F x.p1).2.2)).N.length=F.N.length:=rfl
     have hO219:(takeF F ((placeF F x.p1).2.1) ((placeF F x.p1).2.2)).O.length=F.O.length:=rfl
     refine h56.sn [8,7,6,5,4,3,0,1] rfl fun h57=>hK17 _ _<|sqr fun _ hK18=>bu h57 (v:=.agg zL.toArray) rfl (fun w=>by kernel_rfl) fun _ h58=>stA h58 s12 4 rfl rfl rfl (by kernel_rfl) rfl rfl rfl rfl fun _ w13 h59 s13 _=>h59.sn [8,7,6,5,4,3,0,1] rfl fun h60=>hK18 _ _<|wp_ret ?_
     try simp only [Exit.then,Exit.inBlock]
     refine rC h60 s13 4 Tryz.underlying28 rfl rfl rfl rfl ?_
     have hq5:rmdirF F x.p1=(takeF F (placeF F x.p1).2.1 (placeF F x.p1).2.2,errR 0):=bx
     rw [hq5]
     exact ⟨none,0,nax205,ncx206,eax207,ecx208,oax209,ocx210,rfl,(Sep.tail_un (xs:=[_,_,_,_]) (s13.pk [0,1,2,3,6] rfl)).ownNil 0 9 1⟩
   ·skip
    refine wcT h38 rfl (bNotF hc3)<|h38.sk [6,5,4,3,0,1] rfl fun h61=>sqr fun _ hK19=>cl h61 rfl cz_commonsref06_fails (fails_s s4 12) fun _ v8 w14 r8 h62=>?_
    obtain ⟨rfl,s14⟩:=r8
    refine stA h62 s14 4 rfl rfl rfl (by kernel_rfl) rfl rfl rfl rfl fun _ w15 h63 s15 _=>h63.sn [6,5,4,3,0,1] rfl fun h64=>hK19 _ _<|wp_ret ?_
    try simp only [Exit.then,Exit.inBlock]
    refine rC h64 s15 4 Tryz.underlying28 rfl rfl rfl rfl ?_
    have hq6:rmdirF F x.p1=(F,errR 12):=bx
    rw [hq6]
    exact ⟨none,0,na,nc,ea,ec,oa,oc,rfl,(Sep.tail_un (xs:=[_,_,_,_]) (s15.pk [0,1,2,3,6] rfl)).ownNil 0 9 1⟩

set_option maxHeartbeats 4000000 in
theorem listRef_s {w:World} {df:Nat} {na ea oa:Option Addr} {nc ec oc:Nat} {F:FsM} {R:List Ch} {x:CallM} (hS0:Sep w ((dP df na nc ea ec oa oc F)++R)) (hz:SmF F) (hok:FsOk F) (h1:x.p1.length≤1000) (h2:x.p2.length≤1000) (h3:x.data.length≤1000) (hk:x.kind=12) :
  CallsR Tryz.prog 23 #[.pointer (some ⟨df,0,none⟩),.agg (cL x).toArray] w (fun v w'=>∃ sa sc na' nc' ea' ec' oa' oc',v=repV (listF F x.p1).2 sa sc∧Sep w' (ownC 0 9 1 sa (listF F x.p1).2.names.length sc ((listF F x.p1).2.names.flatMap sE)::[blkC df 48 [.slice na' (((listF F x.p1).1).N.length) nc',.slice ea' (((listF F x.p1).1).E.length) ec',.slice oa' (((listF F x.p1).1).O.length) oc'],ownC 0 50 3 na' (((listF F x.p1).1).N).length nc' ((((listF F x.p1).1).N).flatMap nodC),ownC 0 79 3 ea' (((listF F x.p1).1).E).length ec' ((((listF F x.p1).1).E).flatMap entC),ownC 0 73 3 oa' (((listF F x.p1).1).O).length oc' ((((listF F x.p1).1).O).flatMap opnC)]++R)):=by
 have hS:=Sep.tail_many (xs:=dP df na nc ea ec oa oc F) hS0;clear hS0
 have hz0:=hz;obtain ⟨hz1,hz2,hz3⟩:F.N.length≤1000∧F.E.length≤1000∧F.O.length≤1000:=hz
 refine enterR Tryz.func23 rfl (N:=51) Tryz.ntmps23 (by show 2≤51;decide) [(0,.pointer (some ⟨df,0,none⟩)),(1,.agg (cL x).toArray)] rfl fun _ h1=>sqr fun _ hK3=>so (wanted_none rfl) fun _ hK1=>xbox h1 rfl rfl rfl rfl rfl (z:=(cL x)) rfl hS fun _ g4 w7 h5 s8 _ _=>hK1 _ _ ?_
 refine so (wanted_none rfl) fun _ hK2=>xalloc h5 rfl rfl rfl rfl (z:=zL) (fun _=>rfl) s8 fun _ g1 w1 h4 s1 _ _=>hK2 _ _ ?_
 refine wpList_nil<|hK3 _ _<|sqr fun _ hK4=>mv h4 rfl fun _ h6=>fav h6 rfl (fz_api_Call_1 _ _) fun _ h7=>ldv h7 s1 1 Tryz.underlying9 rfl rfl rfl rfl fun _ h8=>cl h8 rfl cz_commonsref06_Fs_Find (findRef_s (F:=F) (s1.pk [2,3,4,5,0,1,6] rfl) hz0 hok (by omega)) fun _ v1 w2 r1 h9=>?_
 obtain ⟨rfl,s2⟩:=r1
 have hfl34:=FsC.find_lt (F:=F) (FsOk.toFsC hok) x.p1
 refine mvs 5 h9 rfl fun _ h10=>h10.sn [6,5,4,3,0,1] rfl fun h11=>hK4 _ _<|sq fun _ hK5=>sqr fun _ hK6=>mv h11 rfl fun _ h12=>bv h12 (z:=.bool (decide ((findF F x.p1).1≠0))) rfl (cNe _ _ _ _ rfl) fun _ h13=>h13.sn [16,6,5,4,3,0,1] rfl fun h14=>hK6 _ _ ?_
 rcases bC (decide ((findF F x.p1).1≠0)) with hc1 | hc1
 ·skip
  have hp1:(findF F x.p1).1≠0:=(dT hc1)
  refine wcT h14 rfl hc1<|h14.sk [6,5,4,3,0,1] rfl fun h15=>sqr fun _ hK7=>mv h15 rfl fun _ h16=>cl h16 rfl cz_commonsref06_fails (fails_s s2 ((findF F x.p1).1)) fun _ v2 w3 r2 h17=>?_
  obtain ⟨rfl,s3⟩:=r2
  refine stA h17 s3 4 rfl rfl rfl (by kernel_rfl) rfl rfl rfl rfl fun _ w4 h18 s4 _=>h18.sn [6,5,4,3,0,1] rfl fun h19=>hK7 _ _<|wp_ret ?_
  try simp only [Exit.then,Exit.inBlock]
  refine rC h19 s4 4 Tryz.underlying28 rfl rfl rfl rfl ?_
  have hq1:listF F x.p1=(F,errR (findF F x.p1).1):=bx
  rw [hq1]
  exact ⟨none,0,na,nc,ea,ec,oa,oc,rfl,(Sep.tail_un (xs:=[_,_,_,_]) (s4.pk [0,1,2,3,6] rfl)).ownNil 0 9 1⟩
 ·skip
  have hp2:¬ ((findF F x.p1).1≠0):=(dF hc1)
  refine wcF h14 rfl hc1<|h14.sk [6,5,4,3,0,1] rfl fun h20=>wp_skip<|hK5 _ _<|sqr fun _ hK8=>mvs 2 h20 rfl fun _ h21=>fav h21 rfl (fz_commonsref06_Fs_0 _ _) fun _ h22=>ldv h22 s2 0 Tryz.underlying44 rfl rfl rfl rfl fun _ h23=>mv h23 rfl fun _ h24=>?_
  obtain ⟨q87,hq2⟩:=own_addr (s2.get 1 rfl:Own _ _ _ _ _ _ _ _)
  refine sv1 h24 rfl (v:=.pointer (some ⟨q87,((findF F x.p1).2)*3,none⟩)) (rindexA h24 rfl rfl rfl (fun w=>ixO Tryz.underlying44 (by kernel_rfl) (sz:=3) (hq2 (by omega)) (j:=(findF F x.p1).2) rfl (by omega) (by omega) w)) fun _ h25=>sw1 h25 rfl (v:=.agg #[.bool ((F.N.getD ((findF F x.p1).2) nilN).dir),.string (strB ((F.N.getD ((findF F x.p1).2) nilN).data)),.int .i64 ((F.N.getD ((findF F x.p1).2) nilN).links)]) (rld h25 rfl rfl (ldOS nodC_len Tryz.underlying50 rfl (by kernel_rfl) (s2.get 1 rfl:Own _ _ _ _ _ _ _ _) (hq2 (by omega)) nilN (by omega) rfl)) fun _ h26=>so (wanted_none rfl) fun _ hK9=>xalloc h26 rfl rfl rfl rfl (z:=[.bool false,.string (strB []),.int .i64 0]) (fun _=>rfl) s2 fun _ g2 w5 h27 s5 _ _=>hK9 _ _ ?_
  refine stA h27 s5 0 rfl rfl rfl (by kernel_rfl) rfl rfl rfl rfl fun _ w6 h28 s6 _=>h28.sn [7,6,5,4,3,0,1] rfl fun h29=>hK8 _ _<|sq fun _ hK10=>sqr fun _ hK11=>fav h29 rfl (fz_api_Call_0 _ _) fun _ h30=>ldv h30 s6 6 Tryz.underlying3 rfl rfl rfl rfl fun _ h31=>bv h31 rfl (cEq _ _ _ _ (decide_eq_false (by omega))) fun _ h32=>h32.sn [28,7,6,5,4,3,0,1] rfl fun h33=>hK11 _ _<|wcF h33 rfl rfl ?_
  refine h33.sk [7,6,5,4,3,0,1] rfl fun h34=>wp_skip<|hK10 _ _<|sq fun _ hK12=>sqr fun _ hK13=>fav h34 rfl (fz_commonsref06_Node_0 _ _) fun _ h35=>ldv h35 s6 0 Tryz.underlying4 rfl rfl rfl rfl fun _ h36=>mv h36 rfl fun _ h37=>h37.sn [45,7,6,5,4,3,0,1] rfl fun h38=>hK13 _ _ ?_
  rcases bC ((F.N.getD ((findF F x.p1).2) nilN).dir) with hc2 | hc2
  ·skip
   refine wcF h38 rfl (bNotT hc2)<|h38.sk [7,6,5,4,3,0,1] rfl fun h39=>wp_skip<|hK12 _ _<|sqr fun _ hK14=>mvs 2 h39 rfl fun _ h40=>cl h40 rfl cz_commonsref06_Fs_Names (namesRef_s (F:=F) (d:=(findF F x.p1).2) (s6.pk [1,2,3,4,0,5,6,7] rfl) hz0) fun _ v3 w8 r3 h41=>?_
   obtain ⟨sax135,scx136,rfl,s7⟩:=r3
   refine bu h41 (v:=.agg #[.int .i64 0,.int .i64 0,.string (strB []),.slice sax135 ((sortN (namesOf F.E ((findF F x.p1).2))).length) scx136,.int .i64 0,.int .i64 0,.int .i64 0]) rfl (fun w=>by kernel_rfl) fun _ h42=>stA h42 s7 6 rfl rfl rfl (by kernel_rfl) rfl rfl rfl rfl fun _ w9 h43 s9 _=>h43.sn [7,6,5,4,3,0,1] rfl fun h44=>hK14 _ _<|wp_ret ?_
   try simp only [Exit.then,Exit.inBlock]
   refine rC h44 s9 6 Tryz.underlying28 rfl rfl rfl rfl ?_
   have hq3:listF F x.p1=(F,namesR (sortN (namesOf F.E (findF F x.p1).2))):=bx
   rw [hq3]
   exact ⟨sax135,scx136,na,nc,ea,ec,oa,oc,rfl,Sep.tail_un (xs:=[_,_,_,_,_]) (s9.pk [0,1,2,3,4,8] rfl)⟩
  ·skip
   refine wcT h38 rfl (bNotF hc2)<|h38.sk [7,6,5,4,3,0,1] rfl fun h45=>sqr fun _ hK15=>cl h45 rfl cz_commonsref06_fails (fails_s s6 12) fun _ v4 w10 r4 h46=>?_
   obtain ⟨rfl,s10⟩:=r4
   refine stA h46 s10 5 rfl rfl rfl (by kernel_rfl) rfl rfl rfl rfl fun _ w11 h47 s11 _=>h47.sn [7,6,5,4,3,0,1] rfl fun h48=>hK15 _ _<|wp_ret ?_
   try simp only [Exit.then,Exit.inBlock]
   refine rC h48 s11 5 Tryz.underlying28 rfl rfl rfl rfl ?_
   have hq4:listF F x.p1=(F,errR 12):=bx
   rw [hq4]
   exact ⟨none,0,na,nc,ea,ec,oa,oc,rfl,(Sep.tail_un (xs:=[_,_,_,_]) (s11.pk [1,2,3,4,7] rfl)).ownNil 0 9 1⟩

set_option maxHeartbeats 4000000 in
theorem statRef_s {w:World} {df:Nat} {na ea oa:Option Addr} {nc ec oc:Nat} {F:FsM} {R:List Ch} {x:CallM} (hS0:Sep w ((dP df na nc ea ec oa oc F)++R)) (hz:SmF F) (hok:FsOk F) (h1:x.p1.length≤1000) (h2:x.p2.length≤1000) (h3:x.data.length≤1000) (hk:x.kind=13) :
  CallsR Tryz.prog 23 #[.pointer (some ⟨df,0,none⟩),.agg (cL x).toArray] w (fun v w'=>∃ sa sc na' nc' ea' ec' oa' oc',v=repV (statF F x.p1).2 sa sc∧Sep w' (ownC 0 9 1 sa (statF F x.p1).2.names.length sc ((statF F x.p1).2.names.flatMap sE)::[blkC df 48 [.slice na' (((statF F x.p1).1).N.length) nc',.slice ea' (((statF F x.p1).1).E.length) ec',.slice oa' (((statF F x.p1).1).O.length) oc'],ownC 0 50 3 na' (((statF F x.p1).1).N).length nc' ((((statF F x.p1).1).N).flatMap nodC),ownC 0 79 3 ea' (((statF F x.p1).1).E).length ec' ((((statF F x.p1).1).E).flatMap entC),ownC 0 73 3 oa' (((statF F x.p1).1).O).length oc' ((((statF F x.p1).1).O).flatMap opnC)]++R)):=by
 have hS:=Sep.tail_many (xs:=dP df na nc ea ec oa oc F) hS0;clear hS0
 have hz0:=hz;obtain ⟨hz1,hz2,hz3⟩:F.N.length≤1000∧F.E.length≤1000∧F.O.length≤1000:=hz
 refine enterR Tryz.func23 rfl (N:=51) Tryz.ntmps23 (by show 2≤51;decide) [(0,.pointer (some ⟨df,0,none⟩)),(1,.agg (cL x).toArray)] rfl fun _ h1=>sqr fun _ hK3=>so (wanted_none rfl) fun _ hK1=>xbox h1 rfl rfl rfl rfl rfl (z:=(cL x)) rfl hS fun _ g4 w7 h5 s8 _ _=>hK1 _ _ ?_
 refine so (wanted_none rfl) fun _ hK2=>xalloc h5 rfl rfl rfl rfl (z:=zL) (fun _=>rfl) s8 fun _ g1 w1 h4 s1 _ _=>hK2 _ _ ?_
 refine wpList_nil<|hK3 _ _<|sqr fun _ hK4=>mv h4 rfl fun _ h6=>fav h6 rfl (fz_api_Call_1 _ _) fun _ h7=>ldv h7 s1 1 Tryz.underlying9 rfl rfl rfl rfl fun _ h8=>cl h8 rfl cz_commonsref06_Fs_Find (findRef_s (F:=F) (s1.pk [2,3,4,5,0,1,6] rfl) hz0 hok (by omega)) fun _ v1 w2 r1 h9=>?_
 obtain ⟨rfl,s2⟩:=r1
 have hfl34:=FsC.find_lt (F:=F) (FsOk.toFsC hok) x.p1
 refine mvs 5 h9 rfl fun _ h10=>h10.sn [6,5,4,3,0,1] rfl fun h11=>hK4 _ _<|sq fun _ hK5=>sqr fun _ hK6=>mv h11 rfl fun _ h12=>bv h12 (z:=.bool (decide ((findF F x.p1).1≠0))) rfl (cNe _ _ _ _ rfl) fun _ h13=>h13.sn [16,6,5,4,3,0,1] rfl fun h14=>hK6 _ _ ?_
 rcases bC (decide ((findF F x.p1).1≠0)) with hc1 | hc1
 ·skip
  have hp1:(findF F x.p1).1≠0:=(dT hc1)
  refine wcT h14 rfl hc1<|h14.sk [6,5,4,3,0,1] rfl fun h15=>sqr fun _ hK7=>mv h15 rfl fun _ h16=>cl h16 rfl cz_commonsref06_fails (fails_s s2 ((findF F x.p1).1)) fun _ v2 w3 r2 h17=>?_
  obtain ⟨rfl,s3⟩:=r2
  refine stA h17 s3 4 rfl rfl rfl (by kernel_rfl) rfl rfl rfl rfl fun _ w4 h18 s4 _=>h18.sn [6,5,4,3,0,1] rfl fun h19=>hK7 _ _<|wp_ret ?_
  try simp only [Exit.then,Exit.inBlock]
  refine rC h19 s4 4 Tryz.underlying28 rfl rfl rfl rfl ?_
  have hq1:statF F x.p1=(F,errR (findF F x.p1).1):=bx
  rw [hq1]
  exact ⟨none,0,na,nc,ea,ec,oa,oc,rfl,(Sep.tail_un (xs:=[_,_,_,_]) (s4.pk [0,1,2,3,6] rfl)).ownNil 0 9 1⟩
 ·skip
  have hp2:¬ ((findF F x.p1).1≠0):=(dF hc1)
  refine wcF h14 rfl hc1<|h14.sk [6,5,4,3,0,1] rfl fun h20=>wp_skip<|hK5 _ _<|sqr fun _ hK8=>mvs 2 h20 rfl fun _ h21=>fav h21 rfl (fz_commonsref06_Fs_0 _ _) fun _ h22=>ldv h22 s2 0 Tryz.underlying44 rfl rfl rfl rfl fun _ h23=>mv h23 rfl fun _ h24=>?_
  obtain ⟨q87,hq2⟩:=own_addr (s2.get 1 rfl:Own _ _ _ _ _ _ _ _)
  refine sv1 h24 rfl (v:=.pointer (some ⟨q87,((findF F x.p1).2)*3,none⟩)) (rindexA h24 rfl rfl rfl (fun w=>ixO Tryz.underlying44 (by kernel_rfl) (sz:=3) (hq2 (by omega)) (j:=(findF F x.p1).2) rfl (by omega) (by omega) w)) fun _ h25=>sw1 h25 rfl (v:=.agg #[.bool ((F.N.getD ((findF F x.p1).2) nilN).dir),.string (strB ((F.N.getD ((findF F x.p1).2) nilN).data)),.int .i64 ((F.N.getD ((findF F x.p1).2) nilN).links)]) (rld h25 rfl rfl (ldOS nodC_len Tryz.underlying50 rfl (by kernel_rfl) (s2.get 1 rfl:Own _ _ _ _ _ _ _ _) (hq2 (by omega)) nilN (by omega) rfl)) fun _ h26=>so (wanted_none rfl) fun _ hK9=>xalloc h26 rfl rfl rfl rfl (z:=[.bool false,.string (strB []),.int .i64 0]) (fun _=>rfl) s2 fun _ g2 w5 h27 s5 _ _=>hK9 _ _ ?_
  refine stA h27 s5 0 rfl rfl rfl (by kernel_rfl) rfl rfl rfl rfl fun _ w6 h28 s6 _=>h28.sn [7,6,5,4,3,0,1] rfl fun h29=>hK8 _ _<|sq fun _ hK10=>sqr fun _ hK11=>fav h29 rfl (fz_api_Call_0 _ _) fun _ h30=>ldv h30 s6 6 Tryz.underlying3 rfl rfl rfl rfl fun _ h31=>bv h31 rfl (cEq _ _ _ _ (decide_eq_true (by omega))) fun _ h32=>h32.sn [28,7,6,5,4,3,0,1] rfl fun h33=>hK11 _ _<|wcT h33 rfl rfl ?_
  refine h33.sk [7,6,5,4,3,0,1] rfl fun h34=>sq fun _ hK12=>sqr fun _ hK13=>fav h34 rfl (fz_commonsref06_Node_0 _ _) fun _ h35=>ldv h35 s6 0 Tryz.underlying4 rfl rfl rfl rfl fun _ h36=>h36.sn [30,7,6,5,4,3,0,1] rfl fun h37=>hK13 _ _ ?_
  rcases bC ((F.N.getD ((findF F x.p1).2) nilN).dir) with hc2 | hc2
  ·skip
   refine wcT h37 rfl hc2<|h37.sk [7,6,5,4,3,0,1] rfl fun h38=>sqr fun _ hK14=>mvs 2 h38 rfl fun _ h39=>cl h39 rfl cz_commonsref06_Fs_count (count_s (F:=F) (d:=(findF F x.p1).2) (s6.pk [1,2,3,4,0,5,6,7] rfl) hz0) fun _ v3 w8 r3 h40=>?_
   obtain ⟨rfl,s7⟩:=r3
   refine bu h40 (v:=.agg #[.int .i64 2,.int .i64 1,.int .i64 ((cntE F.E ((findF F x.p1).2):Nat):Int)]) rfl (fun w=>by kernel_rfl) fun _ h41=>bu h41 (v:=.agg #[.int .i64 0,.int .i64 0,.string (strB []),.slice none 0 0,.int .i64 2,.int .i64 1,.int .i64 ((cntE F.E ((findF F x.p1).2):Nat):Int)]) rfl (fun w=>by kernel_rfl) fun _ h42=>stA h42 s7 5 rfl rfl rfl (by kernel_rfl) rfl rfl rfl rfl fun _ w9 h43 s9 _=>h43.sn [7,6,5,4,3,0,1] rfl fun h44=>hK14 _ _<|wp_ret ?_
   try simp only [Exit.then,Exit.inBlock]
   refine rC h44 s9 5 Tryz.underlying28 rfl rfl rfl rfl ?_
   have hq3:statF F x.p1=(F,infoR 2 1 (cntE F.E (findF F x.p1).2)):=bx
   rw [hq3]
   exact ⟨none,0,na,nc,ea,ec,oa,oc,rfl,(Sep.tail_un (xs:=[_,_,_,_]) (s9.pk [0,1,2,3,7] rfl)).ownNil 0 9 1⟩
  ·skip
   refine wcF h37 rfl hc2<|h37.sk [7,6,5,4,3,0,1] rfl fun h45=>wp_skip<|hK12 _ _<|sqr fun _ hK15=>fav h45 rfl (fz_commonsref06_Node_2 _ _) fun _ h46=>ldv h46 s6 0 Tryz.underlying3 rfl rfl rfl rfl fun _ h47=>fav h47 rfl (fz_commonsref06_Node_1 _ _) fun _ h48=>ldv h48 s6 0 Tryz.underlying9 rfl rfl rfl rfl fun _ h49=>sv1 h49 rfl (v:=.int .i64 ((((F.N.getD ((findF F x.p1).2) nilN).data).length:Nat):Int)) (rlenT h49 rfl rfl Tryz.underlying9) fun _ h50=>bu h50 (v:=.agg #[.int .i64 1,.int .i64 ((F.N.getD ((findF F x.p1).2) nilN).links),.int .i64 ((((F.N.getD ((findF F x.p1).2) nilN).data).length:Nat):Int)]) rfl (fun w=>by kernel_rfl) fun _ h51=>?_
   refine bu h51 (v:=.agg #[.int .i64 0,.int .i64 0,.string (strB []),.slice none 0 0,.int .i64 1,.int .i64 ((F.N.getD ((findF F x.p1).2) nilN).links),.int .i64 ((((F.N.getD ((findF F x.p1).2) nilN).data).length:Nat):Int)]) rfl (fun w=>by kernel_rfl) fun _ h52=>stA h52 s6 5 rfl rfl rfl (by kernel_rfl) rfl rfl rfl rfl fun _ w10 h53 s10 _=>h53.sn [7,6,5,4,3,0,1] rfl fun h54=>hK15 _ _<|wp_ret ?_
   try simp only [Exit.then,Exit.inBlock]
   refine rC h54 s10 5 Tryz.underlying28 rfl rfl rfl rfl ?_
   have hq4:statF F x.p1=(F,infoR 1 (F.at (findF F x.p1).2).links (F.at (findF F x.p1).2).data.length):=bx
   rw [hq4]
   exact ⟨none,0,na,nc,ea,ec,oa,oc,rfl,(Sep.tail_un (xs:=[_,_,_,_]) (s10.pk [1,2,3,4,7] rfl)).ownNil 0 9 1⟩

set_option maxHeartbeats 4000000 in
theorem linkRef_s {w:World} {df:Nat} {na ea oa:Option Addr} {nc ec oc:Nat} {F:FsM} {R:List Ch} {x:CallM} (hS0:Sep w ((dP df na nc ea ec oa oc F)++R)) (hz:SmF F) (hok:FsOk F) (h1:x.p1.length≤1000) (h2:x.p2.length≤1000) (h3:x.data.length≤1000)  :
  CallsR Tryz.prog 20 #[.pointer (some ⟨df,0,none⟩),.agg (cL x).toArray] w (fun v w'=>∃ sa sc na' nc' ea' ec' oa' oc',v=repV (linksF F x.p1 x.p2).2 sa sc∧Sep w' (ownC 0 9 1 sa (linksF F x.p1 x.p2).2.names.length sc ((linksF F x.p1 x.p2).2.names.flatMap sE)::[blkC df 48 [.slice na' (((linksF F x.p1 x.p2).1).N.length) nc',.slice ea' (((linksF F x.p1 x.p2).1).E.length) ec',.slice oa' (((linksF F x.p1 x.p2).1).O.length) oc'],ownC 0 50 3 na' (((linksF F x.p1 x.p2).1).N).length nc' ((((linksF F x.p1 x.p2).1).N).flatMap nodC),ownC 0 79 3 ea' (((linksF F x.p1 x.p2).1).E).length ec' ((((linksF F x.p1 x.p2).1).E).flatMap entC),ownC 0 73 3 oa' (((linksF F x.p1 x.p2).1).O).length oc' ((((linksF F x.p1 x.p2).1).O).flatMap opnC)]++R)):=by
 have hS:=Sep.tail_many (xs:=dP df na nc ea ec oa oc F) hS0;clear hS0
 have hz0:=hz;obtain ⟨hz1,hz2,hz3⟩:F.N.length≤1000∧F.E.length≤1000∧F.O.length≤1000:=hz
 refine enterR Tryz.func20 rfl (N:=85) Tryz.ntmps20 (by show 2≤85;decide) [(0,.pointer (some ⟨df,0,none⟩)),(1,.agg (cL x).toArray)] rfl fun _ h1=>sqr fun _ hK3=>so (wanted_none rfl) fun _ hK1=>xbox h1 rfl rfl rfl rfl rfl (z:=(cL x)) rfl hS fun _ g4 w7 h5 s8 _ _=>hK1 _ _ ?_
 refine so (wanted_none rfl) fun _ hK2=>xalloc h5 rfl rfl rfl rfl (z:=zL) (fun _=>rfl) s8 fun _ g1 w1 h4 s1 _ _=>hK2 _ _ ?_
 refine wpList_nil<|hK3 _ _<|sqr fun _ hK4=>sw1 h4 rfl (v:=.agg (cL x).toArray) (rld h4 rfl rfl (ldA Tryz.underlying33 rfl (n:=8) (by kernel_rfl) (s1.get 1 rfl:Blk _ _ _ _) rfl rfl)) fun _ h6=>cl h6 rfl cz_commonsref06_paths (paths_s s1 x.kind x (by omega) (by omega)) fun _ v1 w2 r1 h7=>?_
 obtain ⟨rfl,s2⟩:=r1
 refine mv h7 rfl fun _ h8=>h8.sn [5,4,3,0,1] rfl fun h9=>hK4 _ _<|sq fun _ hK5=>sqr fun _ hK6=>mvs 2 h9 rfl fun _ h10=>h10.sn [14,5,4,3,0,1] rfl fun h11=>hK6 _ _ ?_
 rcases bC (pathsF x) with hc1 | hc1
 ·skip
  refine wcF h11 rfl (bNotT hc1)<|h11.sk [5,4,3,0,1] rfl fun h12=>wp_skip<|hK5 _ _<|sqr fun _ hK7=>mv h12 rfl fun _ h13=>fav h13 rfl (fz_api_Call_1 _ _) fun _ h14=>ldv h14 s2 1 Tryz.underlying9 rfl rfl rfl rfl fun _ h15=>cl h15 rfl cz_commonsref06_Fs_Find (findRef_s (F:=F) (s2.pk [2,3,4,5,0,1,6] rfl) hz0 hok (by omega)) fun _ v2 w3 r2 h16=>?_
  obtain ⟨rfl,s3⟩:=r2
  have hfl57:=FsC.find_lt (F:=F) (FsOk.toFsC hok) x.p1
  refine mvs 5 h16 rfl fun _ h17=>h17.sn [7,6,5,4,3,0,1] rfl fun h18=>hK7 _ _<|sq fun _ hK8=>sqr fun _ hK9=>mv h18 rfl fun _ h19=>bv h19 (z:=.bool (decide ((findF F x.p1).1≠0))) rfl (cNe _ _ _ _ rfl) fun _ h20=>h20.sn [24,7,6,5,4,3,0,1] rfl fun h21=>hK9 _ _ ?_
  rcases bC (decide ((findF F x.p1).1≠0)) with hc2 | hc2
  ·skip
   have hp1:(findF F x.p1).1≠0:=(dT hc2)
   refine wcT h21 rfl hc2<|h21.sk [7,6,5,4,3,0,1] rfl fun h22=>sqr fun _ hK10=>mv h22 rfl fun _ h23=>cl h23 rfl cz_commonsref06_fails (fails_s s3 ((findF F x.p1).1)) fun _ v3 w4 r3 h24=>?_
   obtain ⟨rfl,s4⟩:=r3
   refine stA h24 s4 4 rfl rfl rfl (by kernel_rfl) rfl rfl rfl rfl fun _ w5 h25 s5 _=>h25.sn [7,6,5,4,3,0,1] rfl fun h26=>hK10 _ _<|wp_ret ?_
   try simp only [Exit.then,Exit.inBlock]
   refine rC h26 s5 4 Tryz.underlying28 rfl rfl rfl rfl ?_
   have hq1:linksF F x.p1 x.p2=(F,errR (findF F x.p1).1):=by unfold linksF;rw [if_pos (show (pathO x.p1).isSome=true∧(pathO x.p2).isSome=true from (pathsF_t hc1)),if_neg (by omega)]
   rw [hq1]
   exact ⟨none,0,na,nc,ea,ec,oa,oc,rfl,(Sep.tail_un (xs:=[_,_,_,_]) (s5.pk [0,1,2,3,6] rfl)).ownNil 0 9 1⟩
  ·skip
   have hp2:¬ ((findF F x.p1).1≠0):=(dF hc2)
   refine wcF h21 rfl hc2<|h21.sk [7,6,5,4,3,0,1] rfl fun h27=>wp_skip<|hK8 _ _<|sq fun _ hK11=>sqr fun _ hK12=>mvs 2 h27 rfl fun _ h28=>fav h28 rfl (fz_commonsref06_Fs_0 _ _) fun _ h29=>ldv h29 s3 0 Tryz.underlying44 rfl rfl rfl rfl fun _ h30=>mv h30 rfl fun _ h31=>?_
   obtain ⟨q111,hq2⟩:=own_addr (s3.get 1 rfl:Own _ _ _ _ _ _ _ _)
   refine sv1 h31 rfl (v:=.pointer (some ⟨q111,((findF F x.p1).2)*3,none⟩)) (rindexA h31 rfl rfl rfl (fun w=>ixO Tryz.underlying44 (by kernel_rfl) (sz:=3) (hq2 (by omega)) (j:=(findF F x.p1).2) rfl (by omega) (by omega) w)) fun _ h32=>sv1 h32 rfl (v:=.pointer (some ⟨q111,((findF F x.p1).2)*3+0,none⟩)) (rfa h32 rfl rfl (fun w=>fz_commonsref06_Node_0 q111 (((findF F x.p1).2)*3) w)) fun _ h33=>sw1 h33 rfl (v:=.bool ((F.N.getD ((findF F x.p1).2) nilN).dir)) (rld h33 rfl rfl (ldOSc nodC_len Tryz.underlying4 rfl (s3.get 1 rfl:Own _ _ _ _ _ _ _ _) (hq2 (by omega)) nilN (j:=((findF F x.p1).2)) (f:=0) (by omega) (by decide) rfl rfl)) fun _ h34=>h34.sn [34,7,6,5,4,3,0,1] rfl fun h35=>hK12 _ _ ?_
   rcases bC ((F.N.getD ((findF F x.p1).2) nilN).dir) with hc3 | hc3
   ·skip
    refine wcT h35 rfl hc3<|h35.sk [7,6,5,4,3,0,1] rfl fun h36=>sqr fun _ hK13=>cl h36 rfl cz_commonsref06_fails (fails_s s3 13) fun _ v4 w6 r4 h37=>?_
    obtain ⟨rfl,s6⟩:=r4
    refine stA h37 s6 4 rfl rfl rfl (by kernel_rfl) rfl rfl rfl rfl fun _ w8 h38 s7 _=>h38.sn [7,6,5,4,3,0,1] rfl fun h39=>hK13 _ _<|wp_ret ?_
    try simp only [Exit.then,Exit.inBlock]
    refine rC h39 s7 4 Tryz.underlying28 rfl rfl rfl rfl ?_
    have hq3:linksF F x.p1 x.p2=(F,errR 13):=by unfold linksF;rw [if_pos (show (pathO x.p1).isSome=true∧(pathO x.p2).isSome=true from (pathsF_t hc1)),if_pos (by omega),if_pos (show F.dir (findF F x.p1).2=true from hc3)]
    rw [hq3]
    exact ⟨none,0,na,nc,ea,ec,oa,oc,rfl,(Sep.tail_un (xs:=[_,_,_,_]) (s7.pk [0,1,2,3,6] rfl)).ownNil 0 9 1⟩
   ·skip
    refine wcF h35 rfl hc3<|h35.sk [7,6,5,4,3,0,1] rfl fun h40=>wp_skip<|hK11 _ _<|sq fun _ hK14=>sqr fun _ hK15=>fav h40 rfl (fz_api_Call_2 _ _) fun _ h41=>ldv h41 s3 5 Tryz.underlying9 rfl rfl rfl rfl fun _ h42=>bv h42 (z:=.bool (decide (x.p2=[47]))) rfl (bStrEqL _ _ _ x.p2 [47] rfl) fun _ h43=>h43.sn [38,7,6,5,4,3,0,1] rfl fun h44=>hK15 _ _ ?_
    rcases bC (decide (x.p2=[47])) with hc4 | hc4
    ·skip
     have hp3:x.p2=[47]:=(dT hc4)
     refine wcT h44 rfl hc4<|h44.sk [7,6,5,4,3,0,1] rfl fun h45=>sqr fun _ hK16=>cl h45 rfl cz_commonsref06_fails (fails_s s3 11) fun _ v5 w9 r5 h46=>?_
     obtain ⟨rfl,s9⟩:=r5
     refine stA h46 s9 4 rfl rfl rfl (by kernel_rfl) rfl rfl rfl rfl fun _ w10 h47 s10 _=>h47.sn [7,6,5,4,3,0,1] rfl fun h48=>hK16 _ _<|wp_ret ?_
     try simp only [Exit.then,Exit.inBlock]
     refine rC h48 s10 4 Tryz.underlying28 rfl rfl rfl rfl ?_
     have hq4:linksF F x.p1 x.p2=(F,errR 11):=by unfold linksF;rw [if_pos (show (pathO x.p1).isSome=true∧(pathO x.p2).isSome=true from (pathsF_t hc1)),if_pos (by omega),if_neg (show ¬ (F.dir (findF F x.p1).2=true) from notT1 hc3),if_pos (by omega)]
     rw [hq4]
     exact ⟨none,0,na,nc,ea,ec,oa,oc,rfl,(Sep.tail_un (xs:=[_,_,_,_]) (s10.pk [0,1,2,3,6] rfl)).ownNil 0 9 1⟩
    ·skip
     have hp4:¬ (x.p2=[47]):=(dF hc4)
     refine wcF h44 rfl hc4<|h44.sk [7,6,5,4,3,0,1] rfl fun h49=>wp_skip<|hK14 _ _<|sqr fun _ hK17=>mv h49 rfl fun _ h50=>fav h50 rfl (fz_api_Call_2 _ _) fun _ h51=>ldv h51 s3 5 Tryz.underlying9 rfl rfl rfl rfl fun _ h52=>cl h52 rfl cz_commonsref06_Fs_Place (placeRef_s (F:=F) s3 hz0 hok (by omega)) fun _ v6 w11 r6 h53=>?_
     obtain ⟨rfl,s11⟩:=r6
     refine mvs 7 h53 rfl fun _ h54=>h54.sn [10,9,8,7,6,5,4,3,0,1] rfl fun h55=>hK17 _ _<|sq fun _ hK18=>sqr fun _ hK19=>mv h55 rfl fun _ h56=>bv h56 (z:=.bool (decide ((placeF F x.p2).1≠0))) rfl (cNe _ _ _ _ rfl) fun _ h57=>h57.sn [49,10,9,8,7,6,5,4,3,0,1] rfl fun h58=>hK19 _ _ ?_
     rcases bC (decide ((placeF F x.p2).1≠0)) with hc5 | hc5
     ·skip
      have hp5:(placeF F x.p2).1≠0:=(dT hc5)
      refine wcT h58 rfl hc5<|h58.sk [10,9,8,7,6,5,4,3,0,1] rfl fun h59=>sqr fun _ hK20=>mv h59 rfl fun _ h60=>cl h60 rfl cz_commonsref06_fails (fails_s s11 ((placeF F x.p2).1)) fun _ v7 w12 r7 h61=>?_
      obtain ⟨rfl,s12⟩:=r7
      refine stA h61 s12 4 rfl rfl rfl (by kernel_rfl) rfl rfl rfl rfl fun _ w13 h62 s13 _=>h62.sn [10,9,8,7,6,5,4,3,0,1] rfl fun h63=>hK20 _ _<|wp_ret ?_
      try simp only [Exit.then,Exit.inBlock]
      refine rC h63 s13 4 Tryz.underlying28 rfl rfl rfl rfl ?_
      have hq5:linksF F x.p1 x.p2=(F,errR (placeF F x.p2).1):=by unfold linksF;rw [if_pos (show (pathO x.p1).isSome=true∧(pathO x.p2).isSome=true from (pathsF_t hc1)),if_pos (by omega),if_neg (show ¬ (F.dir (findF F x.p1).2=true) from notT1 hc3),if_neg (by omega),if_neg (by omega)]
      rw [hq5]
      exact ⟨none,0,na,nc,ea,ec,oa,oc,rfl,(Sep.tail_un (xs:=[_,_,_,_]) (s13.pk [0,1,2,3,6] rfl)).ownNil 0 9 1⟩
     ·skip
      have hp6:¬ ((placeF F x.p2).1≠0):=(dF hc5)
      refine wcF h58 rfl hc5<|h58.sk [10,9,8,7,6,5,4,3,0,1] rfl fun h64=>wp_skip<|hK18 _ _<|sq fun _ hK21=>sqr fun _ hK22=>mvs 3 h64 rfl fun _ h65=>?_
      rcases bC ((lookE F.E ((placeF F x.p2).2.1) ((placeF F x.p2).2.2)).isSome) with hc6 | hc6
      ·skip
       obtain ⟨m1,hm1⟩:=Option.isSome_iff_exists.1 hc6
       refine cl h65 rfl cz_commonsref06_Fs_Lookup (lookYes_s (F:=F) s11 hz0 hm1) fun _ v8 w14 r8 h66=>?_
       obtain ⟨rfl,s14⟩:=r8
       refine bv h66 rfl (cGe _ _ _ _ (decide_eq_true (by omega))) fun _ h67=>h67.sn [56,10,9,8,7,6,5,4,3,0,1] rfl fun h68=>hK22 _ _<|wcT h68 rfl rfl<|h68.sk [10,9,8,7,6,5,4,3,0,1] rfl fun h69=>sqr fun _ hK23=>cl h69 rfl cz_commonsref06_fails (fails_s s14 11) fun _ v9 w15 r9 h70=>?_
       obtain ⟨rfl,s15⟩:=r9
       refine stA h70 s15 4 rfl rfl rfl (by kernel_rfl) rfl rfl rfl rfl fun _ w16 h71 s16 _=>h71.sn [10,9,8,7,6,5,4,3,0,1] rfl fun h72=>hK23 _ _<|wp_ret ?_
       try simp only [Exit.then,Exit.inBlock]
       refine rC h72 s16 4 Tryz.underlying28 rfl rfl rfl rfl ?_
       have hq6:linksF F x.p1 x.p2=(F,errR 11):=by unfold linksF;rw [if_pos (show (pathO x.p1).isSome=true∧(pathO x.p2).isSome=true from (pathsF_t hc1)),if_pos (by omega),if_neg (show ¬ (F.dir (findF F x.p1).2=true) from notT1 hc3),if_neg (by omega),if_pos (by omega),if_pos (show (lookE F.E (placeF F x.p2).2.1 (placeF F x.p2).2.2).isSome=true from hc6)]
       rw [hq6]
       exact ⟨none,0,na,nc,ea,ec,oa,oc,rfl,(Sep.tail_un (xs:=[_,_,_,_]) (s16.pk [0,1,2,3,6] rfl)).ownNil 0 9 1⟩
      ·skip
       have hm2:=isNone_of hc6
       refine cl h65 rfl cz_commonsref06_Fs_Lookup (lookNo_s (F:=F) s11 hz0 hm2) fun _ v10 w17 r10 h73=>?_
       obtain ⟨rfl,s17⟩:=r10
       refine bv h73 rfl (cGe _ _ _ _ rfl) fun _ h74=>h74.sn [56,10,9,8,7,6,5,4,3,0,1] rfl fun h75=>hK22 _ _<|wcF h75 rfl rfl<|h75.sk [10,9,8,7,6,5,4,3,0,1] rfl fun h76=>wp_skip<|hK21 _ _<|sq fun _ hK24=>sqr fun _ hK25=>mvs 2 h76 rfl fun _ h77=>fav h77 rfl (fz_commonsref06_Fs_0 _ _) fun _ h78=>ldv h78 s17 0 Tryz.underlying44 rfl rfl rfl rfl fun _ h79=>?_
       refine mv h79 rfl fun _ h80=>sv1 h80 rfl (v:=.pointer (some ⟨q111,((findF F x.p1).2)*3,none⟩)) (rindexA h80 rfl rfl rfl (fun w=>ixO Tryz.underlying44 (by kernel_rfl) (sz:=3) (hq2 (by omega)) (j:=(findF F x.p1).2) rfl (by omega) (by omega) w)) fun _ h81=>sv1 h81 rfl (v:=.pointer (some ⟨q111,((findF F x.p1).2)*3+2,none⟩)) (rfa h81 rfl rfl (fun w=>fz_commonsref06_Node_2 q111 (((findF F x.p1).2)*3) w)) fun _ h82=>sw1 h82 rfl (v:=.int .i64 ((F.N.getD ((findF F x.p1).2) nilN).links)) (rld h82 rfl rfl (ldOSc nodC_len Tryz.underlying3 rfl (s17.get 1 rfl:Own _ _ _ _ _ _ _ _) (hq2 (by omega)) nilN (j:=((findF F x.p1).2)) (f:=2) (by omega) (by decide) rfl rfl)) fun _ h83=>bv h83 (z:=.bool (decide ((F.N.getD ((findF F x.p1).2) nilN).links=20))) rfl (cEq _ _ _ _ rfl) fun _ h84=>h84.sn [66,10,9,8,7,6,5,4,3,0,1] rfl fun h85=>hK25 _ _ ?_
       rcases bC (decide ((F.N.getD ((findF F x.p1).2) nilN).links=20)) with hc7 | hc7
       ·skip
        have hp7:(F.N.getD ((findF F x.p1).2) nilN).links=20:=(dT hc7)
        refine wcT h85 rfl hc7<|h85.sk [10,9,8,7,6,5,4,3,0,1] rfl fun h86=>sqr fun _ hK26=>cl h86 rfl cz_commonsref06_fails (fails_s s17 20) fun _ v11 w18 r11 h87=>?_
        obtain ⟨rfl,s18⟩:=r11
        refine stA h87 s18 4 rfl rfl rfl (by kernel_rfl) rfl rfl rfl rfl fun _ w19 h88 s19 _=>h88.sn [10,9,8,7,6,5,4,3,0,1] rfl fun h89=>hK26 _ _<|wp_ret ?_
        try simp only [Exit.then,Exit.inBlock]
        refine rC h89 s19 4 Tryz.underlying28 rfl rfl rfl rfl ?_
        have hq7:linksF F x.p1 x.p2=(F,errR 20):=by unfold linksF;rw [if_pos (show (pathO x.p1).isSome=true∧(pathO x.p2).isSome=true from (pathsF_t hc1)),if_pos (by omega),if_neg (show ¬ (F.dir (findF F x.p1).2=true) from notT1 hc3),if_neg (by omega),if_pos (by omega),if_neg (show ¬ ((lookE F.E (placeF F x.p2).2.1 (placeF F x.p2).2.2).isSome=true) from notT1 hc6),if_pos (show (F.at (findF F x.p1).2).links=20 from (show (F.N.getD ((findF F x.p1).2) nilN).links=20 by omega))]
        rw [hq7]
        exact ⟨none,0,na,nc,ea,ec,oa,oc,rfl,(Sep.tail_un (xs:=[_,_,_,_]) (s19.pk [0,1,2,3,6] rfl)).ownNil 0 9 1⟩
       ·skip
        have hp8:¬ ((F.N.getD ((findF F x.p1).2) nilN).links=20):=(dF hc7)
        refine wcF h85 rfl hc7<|h85.sk [10,9,8,7,6,5,4,3,0,1] rfl fun h90=>wp_skip<|hK24 _ _<|sqr fun _ hK27=>mvs 4 h90 rfl fun _ h91=>cl h91 rfl cz_commonsref06_Fs_put (put_s (F:=F) s17 hz0 ((placeF F x.p2).2.1) ((placeF F x.p2).2.2) ((findF F x.p1).2)) fun _ v12 w20 r12 h92=>?_
        obtain ⟨nax333,ncx334,eax335,ecx336,oax337,ocx338,rfl,s20⟩:=r12
        have hN346:(putF F ((placeF F x.p2).2.1) ((placeF F x.p2).2.2) ((findF F x.p1).2)).N.length=F.N.length:=rfl
        have hO347:(putF F ((placeF F x.p2).2.1) ((placeF F x.p2).2.2) ((findF F x.p1).2)).O.length=F.O.length:=rfl
        refine h92.sn [10,9,8,7,6,5,4,3,0,1] rfl fun h93=>hK27 _ _<|sq fun _ hK28=>?_
        have hl350:(F.N.getD ((findF F x.p1).2) nilN).links≤20:=FsOk.l20 hok (findF F x.p1).2 (by omega);have hl351:0≤(F.N.getD ((findF F x.p1).2) nilN).links:=FsC.links_ge hok.toFsC (i:=(findF F x.p1).2) (by omega)
        have hl352:((putF F ((placeF F x.p2).2.1) ((placeF F x.p2).2.2) ((findF F x.p1).2)).N.getD ((findF F x.p1).2) nilN).links=(F.N.getD ((findF F x.p1).2) nilN).links:=rfl
        refine wp_region_lit<|mvs 2 h93 rfl fun _ h94=>fav h94 rfl (fz_commonsref06_Fs_0 _ _) fun _ h95=>ldv h95 s20 0 Tryz.underlying44 rfl rfl rfl rfl fun _ h96=>mv h96 rfl fun _ h97=>?_
        obtain ⟨q363,hq8⟩:=own_addr (s20.get 1 rfl:Own _ _ _ _ _ _ _ _)
        refine sv1 h97 rfl (v:=.pointer (some ⟨q363,((findF F x.p1).2)*3,none⟩)) (rindexA h97 rfl rfl rfl (fun w=>ixO Tryz.underlying44 (by kernel_rfl) (sz:=3) (hq8 (by omega)) (j:=(findF F x.p1).2) rfl (by omega) (by omega) w)) fun _ h98=>sv1 h98 rfl (v:=.pointer (some ⟨q363,((findF F x.p1).2)*3+2,none⟩)) (rfa h98 rfl rfl (fun w=>fz_commonsref06_Node_2 q363 (((findF F x.p1).2)*3) w)) fun _ h99=>sw1 h99 rfl (v:=.int .i64 ((((putF F ((placeF F x.p2).2.1) ((placeF F x.p2).2.2) ((findF F x.p1).2)).N).getD ((findF F x.p1).2) nilN).links)) (rld h99 rfl rfl (ldOSc nodC_len Tryz.underlying3 rfl (s20.get 1 rfl:Own _ _ _ _ _ _ _ _) (hq8 (by omega)) nilN (j:=((findF F x.p1).2)) (f:=2) (by omega) (by decide) rfl rfl)) fun _ h100=>bv h100 (z:=.int .i64 ((((putF F ((placeF F x.p2).2.1) ((placeF F x.p2).2.2) ((findF F x.p1).2)).N).getD ((findF F x.p1).2) nilN).links+1)) rfl (bAdd _ _ _ (by omega) (by omega) (by omega)) fun _ h101=>sv1 h101 rfl (v:=.pointer (some ⟨q363,((findF F x.p1).2)*3,none⟩)) (rindexA h101 rfl rfl rfl (fun w=>ixO Tryz.underlying44 (by kernel_rfl) (sz:=3) (hq8 (by omega)) (j:=(findF F x.p1).2) rfl (by omega) (by omega) w)) fun _ h102=>sv1 h102 rfl (v:=.pointer (some ⟨q363,((findF F x.p1).2)*3+2,none⟩)) (rfa h102 rfl rfl (fun w=>fz_commonsref06_Node_2 q363 (((findF F x.p1).2)*3) w)) fun _ h103=>so (wanted_none rfl) fun _ hK29=>xstoreOf nodC_len h103 rfl rfl s20 1 rfl (hq8 (by omega)) rfl rfl rfl rfl nilN (⟨(((putF F ((placeF F x.p2).2.1) ((placeF F x.p2).2.2) ((findF F x.p1).2)).N).getD ((findF F x.p1).2) nilN).dir,(((putF F ((placeF F x.p2).2.1) ((placeF F x.p2).2.2) ((findF F x.p1).2)).N).getD ((findF F x.p1).2) nilN).data,(((putF F ((placeF F x.p2).2.1) ((placeF F x.p2).2.2) ((findF F x.p1).2)).N).getD ((findF F x.p1).2) nilN).links+1⟩:NodeM) rfl (by kernel_rfl) (by omega) (by decide) rfl (n':=(((putF F ((placeF F x.p2).2.1) ((placeF F x.p2).2.2) ((findF F x.p1).2)).N).set ((findF F x.p1).2) (⟨(((putF F ((placeF F x.p2).2.1) ((placeF F x.p2).2.2) ((findF F x.p1).2)).N).getD ((findF F x.p1).2) nilN).dir,(((putF F ((placeF F x.p2).2.1) ((placeF F x.p2).2.2) ((findF F x.p1).2)).N).getD ((findF F x.p1).2) nilN).data,(((putF F ((placeF F x.p2).2.1) ((placeF F x.p2).2.2) ((findF F x.p1).2)).N).getD ((findF F x.p1).2) nilN).links+1⟩:NodeM)).length) (by rw [List.length_set]) fun _ w21 h104 s21=>hK29 _ _ ?_
        have s22:=s21;clear s21
        refine h104.sn [10,9,8,7,6,5,4,3,0,1] rfl fun h105=>hK28 _ _<|sqr fun _ hK30=>bu h105 (v:=.agg zL.toArray) rfl (fun w=>by kernel_rfl) fun _ h106=>stA h106 s22 4 rfl rfl rfl (by kernel_rfl) rfl rfl rfl rfl fun _ w22 h107 s23 _=>h107.sn [10,9,8,7,6,5,4,3,0,1] rfl fun h108=>hK30 _ _<|wp_ret ?_
        try simp only [Exit.then,Exit.inBlock]
        refine rC h108 s23 4 Tryz.underlying28 rfl rfl rfl rfl ?_
        have hq9:linksF F x.p1 x.p2=(linkF (putF F (placeF F x.p2).2.1 (placeF F x.p2).2.2 (findF F x.p1).2) (findF F x.p1).2 1,errR 0):=by unfold linksF;rw [if_pos (show (pathO x.p1).isSome=true∧(pathO x.p2).isSome=true from (pathsF_t hc1)),if_pos (by omega),if_neg (show ¬ (F.dir (findF F x.p1).2=true) from notT1 hc3),if_neg (by omega),if_pos (by omega),if_neg (show ¬ ((lookE F.E (placeF F x.p2).2.1 (placeF F x.p2).2.2).isSome=true) from notT1 hc6),if_neg (show ¬ ((F.at (findF F x.p1).2).links=20) from (show ¬ ((F.N.getD ((findF F x.p1).2) nilN).links=20) by omega))]
        rw [hq9]
        have z395:=Sep.tail_un (xs:=[_,_,_,_]) (s23.pk [0,1,2,3,6] rfl)
        simp only [List.length_set] at z395
        refine ⟨none,0,nax333,ncx334,eax335,ecx336,oax337,ocx338,rfl,Sep.ownNil ?_ 0 9 1⟩
        simp only [linkF,dataF,List.length_set]
        exact z395
 ·skip
  refine wcT h11 rfl (bNotF hc1)<|h11.sk [5,4,3,0,1] rfl fun h109=>sqr fun _ hK31=>cl h109 rfl cz_commonsref06_fails (fails_s s2 15) fun _ v13 w23 r13 h110=>?_
  obtain ⟨rfl,s24⟩:=r13
  refine stA h110 s24 0 rfl rfl rfl (by kernel_rfl) rfl rfl rfl rfl fun _ w24 h111 s25 _=>h111.sn [5,4,3,0,1] rfl fun h112=>hK31 _ _<|wp_ret ?_
  try simp only [Exit.then,Exit.inBlock]
  refine rC h112 s25 0 Tryz.underlying28 rfl rfl rfl rfl ?_
  have hq10:linksF F x.p1 x.p2=(F,errR 15):=by unfold linksF;rw [if_neg (show ¬ ((pathO x.p1).isSome=true∧(pathO x.p2).isSome=true) from (pathsF_f hc1))]
  rw [hq10]
  exact ⟨none,0,na,nc,ea,ec,oa,oc,rfl,(Sep.tail_un (xs:=[_,_,_,_]) (s25.pk [2,3,4,5,6] rfl)).ownNil 0 9 1⟩

end Go.Proofs.YtpdjnefgkcmdnaaGreatDoor
