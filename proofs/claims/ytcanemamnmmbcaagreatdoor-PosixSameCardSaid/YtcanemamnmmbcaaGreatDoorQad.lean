/- Parts of the proof. -/
import Derived.Test.YtcanemamnmmbcaaGreatDoorQac
namespace Go.Proofs.YtcanemamnmmbcaaGreatDoor
open Go.RowKit
set_option linter.unusedSimpArgs false
set_option linter.unusedVariables false
set_option linter.unusedSectionVars false
set_option maxRecDepth 100000
set_option maxHeartbeats 8000000
section
def DD (r:RepM) (sa:Option Addr) (sc:Nat):Value:=.agg #[ν r.e,ν r.fd,σ r.data,.slice sa r.names.length sc,ν r.kind,ν r.links,ν r.size]
theorem AI {b:Bool} (h:b=false):¬ b=true:=fun q=>by rw [h] at q;cases q
theorem BR {x:CallM} (h:Ew x=true):(Ag x.p1).isSome=true∧(Ag x.p2).isSome=true:=by unfold Ew at h;exact Bool.and_eq_true_iff.1 h
theorem MU {x:CallM} (h:Ew x=false):¬ ((Ag x.p1).isSome=true∧(Ag x.p2).isSome=true):=fun q=>by unfold Ew at h;rw [q.1,q.2] at h;cases h
theorem FsC.links_ge {F:FsM} (h:FsC F (fun _=>0)) {i:Nat} (hi:i<F.N.length):0≤(F.at i).links:=by
 obtain ⟨_,k2,k3⟩:=h.k i hi
 cases hd:F.dir i with
 | true=>rw [k2 hd];decide
 | false=>have:=k3 hd;omega
theorem Gz {F:FsM} {d:Nat} {s:ByteArray} (h:SmF F):SmF (As F d s):=⟨h.1,Nat.le_trans (FO _ _ _) h.2.1,h.2.2⟩
theorem MG {w:World} {R:List Ch} (hS:Sep w R) (X Y:List UInt8) (hX:X.length≤1000) (hY:Y.length≤1000):CallsR Tryz.prog 68 #[σ X,σ Y] w (fun v w'=>v=.bool (Da (Ag X) (Ag Y))∧Sep w' R):=
 (Li X Y hX hY w).mono fun e w' ⟨e1,hb⟩=>⟨_,e1,rfl,hS.mono hb⟩
theorem NZ {w:World} {df:Nat} {na ea oa:Option Addr} {nc ec oc:Nat} {F:FsM} {R:List Ch} {x:CallM} (hS0:Sep w ((dP df na nc ea ec oa oc F)++R)) (hz:SmF F) (hok:FsOk F) (h1:x.p1.length≤1000) (h2:x.p2.length≤1000) (h3:x.data.length≤1000)  :
  CallsR Tryz.prog 39 #[π df,.agg (cL x).toArray] w (fun v w'=>∃ sa sc na' nc' ea' ec' oa' oc',v=DD (Bj F x.p1).2 sa sc∧Sep w' (Ai 0 9 1 sa (Bj F x.p1).2.names.length sc ((Bj F x.p1).2.names.flatMap sE)::[Ah df 51 [.slice na' (((Bj F x.p1).1).N.length) nc',.slice ea' (((Bj F x.p1).1).E.length) ec',.slice oa' (((Bj F x.p1).1).O.length) oc'],Ai 0 88 3 na' (((Bj F x.p1).1).N).length nc' ((((Bj F x.p1).1).N).flatMap Ca),Ai 0 114 3 ea' (((Bj F x.p1).1).E).length ec' ((((Bj F x.p1).1).E).flatMap BU),Ai 0 93 3 oa' (((Bj F x.p1).1).O).length oc' ((((Bj F x.p1).1).O).flatMap BQ)]++R)):=by
 have hS:=Sep.tail_many (xs:=dP df na nc ea ec oa oc F) hS0;clear hS0
 have hz0:=hz;obtain ⟨hz1,hz2,hz3⟩:F.N.length≤1000∧F.E.length≤1000∧F.O.length≤1000:=hz
 refine AE Tryz.func39 rfl (N:=53) Tryz.ntmps39 (by show 2≤53;decide) [(0,π df),(1,.agg (cL x).toArray)] rfl fun _ h1=>sqr fun _ hK3=>so (wn rfl) fun _ hK1=>Dc h1 rfl rfl rfl rfl rfl (z:=(cL x)) rfl hS fun _ g4 w7 h5 s8 _ _=>hK1 _ _ ?_
 refine so (wn rfl) fun _ hK2=>BE h5 rfl rfl rfl rfl (z:=zL) (fun _=>rfl) s8 fun _ g1 w1 h4 s1 _ _=>hK2 _ _ ?_
 refine wpList_nil<|hK3 _ _<|sq fun _ hK4=>sqr fun _ hK5=>fav h4 rfl (Ao _ _) fun _ h6=>ldv h6 s1 1 υ9 rfl rfl rfl rfl fun _ h7=>bv h7 (z:=.bool (decide (x.p1=[47]))) rfl (FT _ _ _ x.p1 [47] rfl) fun _ h8=>h8.sn [12,4,3,0,1] rfl fun h9=>hK5 _ _ ?_
 rcases bC (decide (x.p1=[47])) with hc1 | hc1
 ·skip
  have hp1:x.p1=[47]:=(dT hc1)
  refine wcT h9 rfl hc1<|h9.sk [4,3,0,1] rfl fun h10=>sqr fun _ hK6=>cl h10 rfl Ae (AV s1 15) fun _ v1 w2 r1 h11=>?_
  obtain ⟨rfl,s2⟩:=r1
  refine stA h11 s2 0 rfl rfl rfl κ rfl rfl rfl rfl fun _ w3 h12 s3 _=>h12.sn [4,3,0,1] rfl fun h13=>hK6 _ _<|wp_ret ?_
  try simp only [Exit.then,Exit.inBlock]
  refine rC h13 s3 0 υ37 rfl rfl rfl rfl ?_
  have hq1:Bj F x.p1=(F,Av 15):=bx
  rw [hq1]
  exact ⟨none,0,na,nc,ea,ec,oa,oc,rfl,(Sep.tail_un (xs:=[_,_,_,_]) (s3.pk [2,3,4,5,6] rfl)).ownNil 0 9 1⟩
 ·skip
  have hp2:¬ (x.p1=[47]):=(dF hc1)
  refine wcF h9 rfl hc1<|h9.sk [4,3,0,1] rfl fun h14=>wp_skip<|hK4 _ _<|sqr fun _ hK7=>mv h14 rfl fun _ h15=>fav h15 rfl (Ao _ _) fun _ h16=>ldv h16 s1 1 υ9 rfl rfl rfl rfl fun _ h17=>cl h17 rfl Bk (Ec (F:=F) (s1.pk [2,3,4,5,0,1,6] rfl) hz0 hok ω) fun _ v2 w4 r2 h18=>?_
  obtain ⟨rfl,s4⟩:=r2
  have hfl64:=FsC.find_lt (F:=F) (FsOk.toFsC hok) x.p1
  refine mvs 5 h18 rfl fun _ h19=>h19.sn [6,5,4,3,0,1] rfl fun h20=>hK7 _ _<|sq fun _ hK8=>sqr fun _ hK9=>mv h20 rfl fun _ h21=>bv h21 (z:=.bool (decide ((Ab F x.p1).1≠0))) rfl (cNe _ _ _ _ rfl) fun _ h22=>h22.sn [22,6,5,4,3,0,1] rfl fun h23=>hK9 _ _ ?_
  rcases bC (decide ((Ab F x.p1).1≠0)) with hc2 | hc2
  ·skip
   have hp3:(Ab F x.p1).1≠0:=(dT hc2)
   refine wcT h23 rfl hc2<|h23.sk [6,5,4,3,0,1] rfl fun h24=>sqr fun _ hK10=>mv h24 rfl fun _ h25=>cl h25 rfl Ae (AV s4 ((Ab F x.p1).1)) fun _ v3 w5 r3 h26=>?_
   obtain ⟨rfl,s5⟩:=r3
   refine stA h26 s5 4 rfl rfl rfl κ rfl rfl rfl rfl fun _ w6 h27 s6 _=>h27.sn [6,5,4,3,0,1] rfl fun h28=>hK10 _ _<|wp_ret ?_
   try simp only [Exit.then,Exit.inBlock]
   refine rC h28 s6 4 υ37 rfl rfl rfl rfl ?_
   have hq2:Bj F x.p1=(F,Av (Ab F x.p1).1):=bx
   rw [hq2]
   exact ⟨none,0,na,nc,ea,ec,oa,oc,rfl,(Sep.tail_un (xs:=[_,_,_,_]) (s6.pk [0,1,2,3,6] rfl)).ownNil 0 9 1⟩
  ·skip
   have hp4:¬ ((Ab F x.p1).1≠0):=(dF hc2)
   refine wcF h23 rfl hc2<|h23.sk [6,5,4,3,0,1] rfl fun h29=>wp_skip<|hK8 _ _<|sq fun _ hK11=>sqr fun _ hK12=>mvs 2 h29 rfl fun _ h30=>fav h30 rfl (Ak _ _) fun _ h31=>ldv h31 s4 0 υ47 rfl rfl rfl rfl fun _ h32=>mv h32 rfl fun _ h33=>?_
   obtain ⟨q118,hq3⟩:=AT (s4.get 1 rfl:Own _ _ _ _ _ _ _ _)
   refine sv1 h33 rfl (v:=.pointer (some ⟨q118,((Ab F x.p1).2)*3,none⟩)) (Ay h33 rfl rfl rfl (fun w=>ixO υ47 κ (sz:=3) (hq3 ω) (j:=(Ab F x.p1).2) rfl ω ω w)) fun _ h34=>sv1 h34 rfl (v:=.pointer (some ⟨q118,((Ab F x.p1).2)*3+0,none⟩)) (rfa h34 rfl rfl (fun w=>AC q118 (((Ab F x.p1).2)*3) w)) fun _ h35=>sw1 h35 rfl (v:=.bool ((F.N.getD ((Ab F x.p1).2) Ap).dir)) (rld h35 rfl rfl (BJ Bb υ4 rfl (s4.get 1 rfl:Own _ _ _ _ _ _ _ _) (hq3 ω) Ap (j:=((Ab F x.p1).2)) (f:=0) ω (by decide) rfl rfl)) fun _ h36=>mv h36 rfl fun _ h37=>h37.sn [33,6,5,4,3,0,1] rfl fun h38=>hK12 _ _ ?_
   rcases bC ((F.N.getD ((Ab F x.p1).2) Ap).dir) with hc3 | hc3
   ·skip
    refine wcF h38 rfl (Bq hc3)<|h38.sk [6,5,4,3,0,1] rfl fun h39=>wp_skip<|hK11 _ _<|sq fun _ hK13=>sqr fun _ hK14=>mvs 2 h39 rfl fun _ h40=>cl h40 rfl CE (JU (F:=F) (d:=(Ab F x.p1).2) s4 hz0) fun _ v4 w8 r4 h41=>?_
    obtain ⟨rfl,s7⟩:=r4
    refine bv h41 (z:=.bool (decide (((BG F.E ((Ab F x.p1).2):Nat):Int)>0))) rfl (cGt _ _ _ _ rfl) fun _ h42=>h42.sn [38,6,5,4,3,0,1] rfl fun h43=>hK14 _ _ ?_
    rcases bC (decide (((BG F.E ((Ab F x.p1).2):Nat):Int)>0)) with hc4 | hc4
    ·skip
     have hp5:((BG F.E ((Ab F x.p1).2):Nat):Int)>0:=(dT hc4)
     refine wcT h43 rfl hc4<|h43.sk [6,5,4,3,0,1] rfl fun h44=>sqr fun _ hK15=>cl h44 rfl Ae (AV s7 14) fun _ v5 w9 r5 h45=>?_
     obtain ⟨rfl,s9⟩:=r5
     refine stA h45 s9 4 rfl rfl rfl κ rfl rfl rfl rfl fun _ w10 h46 s10 _=>h46.sn [6,5,4,3,0,1] rfl fun h47=>hK15 _ _<|wp_ret ?_
     try simp only [Exit.then,Exit.inBlock]
     refine rC h47 s10 4 υ37 rfl rfl rfl rfl ?_
     have hq4:Bj F x.p1=(F,Av 14):=bx
     rw [hq4]
     exact ⟨none,0,na,nc,ea,ec,oa,oc,rfl,(Sep.tail_un (xs:=[_,_,_,_]) (s10.pk [0,1,2,3,6] rfl)).ownNil 0 9 1⟩
    ·skip
     have hp6:¬ (((BG F.E ((Ab F x.p1).2):Nat):Int)>0):=(dF hc4)
     refine wcF h43 rfl hc4<|h43.sk [6,5,4,3,0,1] rfl fun h48=>wp_skip<|hK13 _ _<|sqr fun _ hK16=>mv h48 rfl fun _ h49=>fav h49 rfl (Ao _ _) fun _ h50=>ldv h50 s7 5 υ9 rfl rfl rfl rfl fun _ h51=>cl h51 rfl AF (Cx (F:=F) s7 hz0 hok ω) fun _ v6 w11 r6 h52=>?_
     obtain ⟨rfl,s11⟩:=r6
     refine mvs 7 h52 rfl fun _ h53=>h53.sn [8,7,6,5,4,3,0,1] rfl fun h54=>hK16 _ _<|sqr fun _ hK17=>mvs 3 h54 rfl fun _ h55=>cl h55 rfl AY (FP (F:=F) s11 hz0 ((Aa F x.p1).2.1) ((Aa F x.p1).2.2)) fun _ v7 w12 r7 h56=>?_
     obtain ⟨nax205,ncx206,eax207,ecx208,oax209,ocx210,rfl,s12⟩:=r7
     have hN218:(As F ((Aa F x.p1).2.1) ((Aa F x.p1).2.2)).N.length=F.N.length:=rfl
     have hO219:(As F ((Aa F x.p1).2.1) ((Aa F x.p1).2.2)).O.length=F.O.length:=rfl
     refine h56.sn [8,7,6,5,4,3,0,1] rfl fun h57=>hK17 _ _<|sqr fun _ hK18=>bu h57 (v:=.agg zL.toArray) rfl (fun w=>κ) fun _ h58=>stA h58 s12 4 rfl rfl rfl κ rfl rfl rfl rfl fun _ w13 h59 s13 _=>h59.sn [8,7,6,5,4,3,0,1] rfl fun h60=>hK18 _ _<|wp_ret ?_
     try simp only [Exit.then,Exit.inBlock]
     refine rC h60 s13 4 υ37 rfl rfl rfl rfl ?_
     have hq5:Bj F x.p1=(As F (Aa F x.p1).2.1 (Aa F x.p1).2.2,Av 0):=bx
     rw [hq5]
     exact ⟨none,0,nax205,ncx206,eax207,ecx208,oax209,ocx210,rfl,(Sep.tail_un (xs:=[_,_,_,_]) (s13.pk [0,1,2,3,6] rfl)).ownNil 0 9 1⟩
   ·skip
    refine wcT h38 rfl (Bt hc3)<|h38.sk [6,5,4,3,0,1] rfl fun h61=>sqr fun _ hK19=>cl h61 rfl Ae (AV s4 12) fun _ v8 w14 r8 h62=>?_
    obtain ⟨rfl,s14⟩:=r8
    refine stA h62 s14 4 rfl rfl rfl κ rfl rfl rfl rfl fun _ w15 h63 s15 _=>h63.sn [6,5,4,3,0,1] rfl fun h64=>hK19 _ _<|wp_ret ?_
    try simp only [Exit.then,Exit.inBlock]
    refine rC h64 s15 4 υ37 rfl rfl rfl rfl ?_
    have hq6:Bj F x.p1=(F,Av 12):=bx
    rw [hq6]
    exact ⟨none,0,na,nc,ea,ec,oa,oc,rfl,(Sep.tail_un (xs:=[_,_,_,_]) (s15.pk [0,1,2,3,6] rfl)).ownNil 0 9 1⟩
theorem PD {w:World} {df:Nat} {na ea oa:Option Addr} {nc ec oc:Nat} {F:FsM} {R:List Ch} {x:CallM} (hS0:Sep w ((dP df na nc ea ec oa oc F)++R)) (hz:SmF F) (hok:FsOk F) (h1:x.p1.length≤1000) (h2:x.p2.length≤1000) (h3:x.data.length≤1000) (hk:x.kind=12) :
  CallsR Tryz.prog 43 #[π df,.agg (cL x).toArray] w (fun v w'=>∃ sa sc na' nc' ea' ec' oa' oc',v=DD (Cn F x.p1).2 sa sc∧Sep w' (Ai 0 9 1 sa (Cn F x.p1).2.names.length sc ((Cn F x.p1).2.names.flatMap sE)::[Ah df 51 [.slice na' (((Cn F x.p1).1).N.length) nc',.slice ea' (((Cn F x.p1).1).E.length) ec',.slice oa' (((Cn F x.p1).1).O.length) oc'],Ai 0 88 3 na' (((Cn F x.p1).1).N).length nc' ((((Cn F x.p1).1).N).flatMap Ca),Ai 0 114 3 ea' (((Cn F x.p1).1).E).length ec' ((((Cn F x.p1).1).E).flatMap BU),Ai 0 93 3 oa' (((Cn F x.p1).1).O).length oc' ((((Cn F x.p1).1).O).flatMap BQ)]++R)):=by
 have hS:=Sep.tail_many (xs:=dP df na nc ea ec oa oc F) hS0;clear hS0
 have hz0:=hz;obtain ⟨hz1,hz2,hz3⟩:F.N.length≤1000∧F.E.length≤1000∧F.O.length≤1000:=hz
 refine AE Tryz.func43 rfl (N:=51) Tryz.ntmps43 (by show 2≤51;decide) [(0,π df),(1,.agg (cL x).toArray)] rfl fun _ h1=>sqr fun _ hK3=>so (wn rfl) fun _ hK1=>Dc h1 rfl rfl rfl rfl rfl (z:=(cL x)) rfl hS fun _ g4 w7 h5 s8 _ _=>hK1 _ _ ?_
 refine so (wn rfl) fun _ hK2=>BE h5 rfl rfl rfl rfl (z:=zL) (fun _=>rfl) s8 fun _ g1 w1 h4 s1 _ _=>hK2 _ _ ?_
 refine wpList_nil<|hK3 _ _<|sqr fun _ hK4=>mv h4 rfl fun _ h6=>fav h6 rfl (Ao _ _) fun _ h7=>ldv h7 s1 1 υ9 rfl rfl rfl rfl fun _ h8=>cl h8 rfl Bk (Ec (F:=F) (s1.pk [2,3,4,5,0,1,6] rfl) hz0 hok ω) fun _ v1 w2 r1 h9=>?_
 obtain ⟨rfl,s2⟩:=r1
 have hfl34:=FsC.find_lt (F:=F) (FsOk.toFsC hok) x.p1
 refine mvs 5 h9 rfl fun _ h10=>h10.sn [6,5,4,3,0,1] rfl fun h11=>hK4 _ _<|sq fun _ hK5=>sqr fun _ hK6=>mv h11 rfl fun _ h12=>bv h12 (z:=.bool (decide ((Ab F x.p1).1≠0))) rfl (cNe _ _ _ _ rfl) fun _ h13=>h13.sn [16,6,5,4,3,0,1] rfl fun h14=>hK6 _ _ ?_
 rcases bC (decide ((Ab F x.p1).1≠0)) with hc1 | hc1
 ·skip
  have hp1:(Ab F x.p1).1≠0:=(dT hc1)
  refine wcT h14 rfl hc1<|h14.sk [6,5,4,3,0,1] rfl fun h15=>sqr fun _ hK7=>mv h15 rfl fun _ h16=>cl h16 rfl Ae (AV s2 ((Ab F x.p1).1)) fun _ v2 w3 r2 h17=>?_
  obtain ⟨rfl,s3⟩:=r2
  refine stA h17 s3 4 rfl rfl rfl κ rfl rfl rfl rfl fun _ w4 h18 s4 _=>h18.sn [6,5,4,3,0,1] rfl fun h19=>hK7 _ _<|wp_ret ?_
  try simp only [Exit.then,Exit.inBlock]
  refine rC h19 s4 4 υ37 rfl rfl rfl rfl ?_
  have hq1:Cn F x.p1=(F,Av (Ab F x.p1).1):=bx
  rw [hq1]
  exact ⟨none,0,na,nc,ea,ec,oa,oc,rfl,(Sep.tail_un (xs:=[_,_,_,_]) (s4.pk [0,1,2,3,6] rfl)).ownNil 0 9 1⟩
 ·skip
  have hp2:¬ ((Ab F x.p1).1≠0):=(dF hc1)
  refine wcF h14 rfl hc1<|h14.sk [6,5,4,3,0,1] rfl fun h20=>wp_skip<|hK5 _ _<|sqr fun _ hK8=>mvs 2 h20 rfl fun _ h21=>fav h21 rfl (Ak _ _) fun _ h22=>ldv h22 s2 0 υ47 rfl rfl rfl rfl fun _ h23=>mv h23 rfl fun _ h24=>?_
  obtain ⟨q87,hq2⟩:=AT (s2.get 1 rfl:Own _ _ _ _ _ _ _ _)
  refine sv1 h24 rfl (v:=.pointer (some ⟨q87,((Ab F x.p1).2)*3,none⟩)) (Ay h24 rfl rfl rfl (fun w=>ixO υ47 κ (sz:=3) (hq2 ω) (j:=(Ab F x.p1).2) rfl ω ω w)) fun _ h25=>sw1 h25 rfl (v:=.agg #[.bool ((F.N.getD ((Ab F x.p1).2) Ap).dir),σ ((F.N.getD ((Ab F x.p1).2) Ap).data),ν ((F.N.getD ((Ab F x.p1).2) Ap).links)]) (rld h25 rfl rfl (Lj Bb υ88 rfl κ (s2.get 1 rfl:Own _ _ _ _ _ _ _ _) (hq2 ω) Ap ω rfl)) fun _ h26=>so (wn rfl) fun _ hK9=>BE h26 rfl rfl rfl rfl (z:=[.bool false,σ [],ν 0]) (fun _=>rfl) s2 fun _ g2 w5 h27 s5 _ _=>hK9 _ _ ?_
  refine stA h27 s5 0 rfl rfl rfl κ rfl rfl rfl rfl fun _ w6 h28 s6 _=>h28.sn [7,6,5,4,3,0,1] rfl fun h29=>hK8 _ _<|sq fun _ hK10=>sqr fun _ hK11=>fav h29 rfl (CG _ _) fun _ h30=>ldv h30 s6 6 υ3 rfl rfl rfl rfl fun _ h31=>bv h31 rfl (cEq _ _ _ _ (decide_eq_false ω)) fun _ h32=>h32.sn [28,7,6,5,4,3,0,1] rfl fun h33=>hK11 _ _<|wcF h33 rfl rfl ?_
  refine h33.sk [7,6,5,4,3,0,1] rfl fun h34=>wp_skip<|hK10 _ _<|sq fun _ hK12=>sqr fun _ hK13=>fav h34 rfl (AC _ _) fun _ h35=>ldv h35 s6 0 υ4 rfl rfl rfl rfl fun _ h36=>mv h36 rfl fun _ h37=>h37.sn [45,7,6,5,4,3,0,1] rfl fun h38=>hK13 _ _ ?_
  rcases bC ((F.N.getD ((Ab F x.p1).2) Ap).dir) with hc2 | hc2
  ·skip
   refine wcF h38 rfl (Bq hc2)<|h38.sk [7,6,5,4,3,0,1] rfl fun h39=>wp_skip<|hK12 _ _<|sqr fun _ hK14=>mvs 2 h39 rfl fun _ h40=>cl h40 rfl Dp (Iw (F:=F) (d:=(Ab F x.p1).2) (s6.pk [1,2,3,4,0,5,6,7] rfl) hz0) fun _ v3 w8 r3 h41=>?_
   obtain ⟨sax135,scx136,rfl,s7⟩:=r3
   refine bu h41 (v:=.agg #[ν 0,ν 0,σ [],.slice sax135 ((Aw (Al F.E ((Ab F x.p1).2))).length) scx136,ν 0,ν 0,ν 0]) rfl (fun w=>κ) fun _ h42=>stA h42 s7 6 rfl rfl rfl κ rfl rfl rfl rfl fun _ w9 h43 s9 _=>h43.sn [7,6,5,4,3,0,1] rfl fun h44=>hK14 _ _<|wp_ret ?_
   try simp only [Exit.then,Exit.inBlock]
   refine rC h44 s9 6 υ37 rfl rfl rfl rfl ?_
   have hq3:Cn F x.p1=(F,NL (Aw (Al F.E (Ab F x.p1).2))):=bx
   rw [hq3]
   exact ⟨sax135,scx136,na,nc,ea,ec,oa,oc,rfl,Sep.tail_un (xs:=[_,_,_,_,_]) (s9.pk [0,1,2,3,4,8] rfl)⟩
  ·skip
   refine wcT h38 rfl (Bt hc2)<|h38.sk [7,6,5,4,3,0,1] rfl fun h45=>sqr fun _ hK15=>cl h45 rfl Ae (AV s6 12) fun _ v4 w10 r4 h46=>?_
   obtain ⟨rfl,s10⟩:=r4
   refine stA h46 s10 5 rfl rfl rfl κ rfl rfl rfl rfl fun _ w11 h47 s11 _=>h47.sn [7,6,5,4,3,0,1] rfl fun h48=>hK15 _ _<|wp_ret ?_
   try simp only [Exit.then,Exit.inBlock]
   refine rC h48 s11 5 υ37 rfl rfl rfl rfl ?_
   have hq4:Cn F x.p1=(F,Av 12):=bx
   rw [hq4]
   exact ⟨none,0,na,nc,ea,ec,oa,oc,rfl,(Sep.tail_un (xs:=[_,_,_,_]) (s11.pk [1,2,3,4,7] rfl)).ownNil 0 9 1⟩
theorem PX {w:World} {df:Nat} {na ea oa:Option Addr} {nc ec oc:Nat} {F:FsM} {R:List Ch} {x:CallM} (hS0:Sep w ((dP df na nc ea ec oa oc F)++R)) (hz:SmF F) (hok:FsOk F) (h1:x.p1.length≤1000) (h2:x.p2.length≤1000) (h3:x.data.length≤1000) (hk:x.kind=13) :
  CallsR Tryz.prog 43 #[π df,.agg (cL x).toArray] w (fun v w'=>∃ sa sc na' nc' ea' ec' oa' oc',v=DD (Cf F x.p1).2 sa sc∧Sep w' (Ai 0 9 1 sa (Cf F x.p1).2.names.length sc ((Cf F x.p1).2.names.flatMap sE)::[Ah df 51 [.slice na' (((Cf F x.p1).1).N.length) nc',.slice ea' (((Cf F x.p1).1).E.length) ec',.slice oa' (((Cf F x.p1).1).O.length) oc'],Ai 0 88 3 na' (((Cf F x.p1).1).N).length nc' ((((Cf F x.p1).1).N).flatMap Ca),Ai 0 114 3 ea' (((Cf F x.p1).1).E).length ec' ((((Cf F x.p1).1).E).flatMap BU),Ai 0 93 3 oa' (((Cf F x.p1).1).O).length oc' ((((Cf F x.p1).1).O).flatMap BQ)]++R)):=by
 have hS:=Sep.tail_many (xs:=dP df na nc ea ec oa oc F) hS0;clear hS0
 have hz0:=hz;obtain ⟨hz1,hz2,hz3⟩:F.N.length≤1000∧F.E.length≤1000∧F.O.length≤1000:=hz
 refine AE Tryz.func43 rfl (N:=51) Tryz.ntmps43 (by show 2≤51;decide) [(0,π df),(1,.agg (cL x).toArray)] rfl fun _ h1=>sqr fun _ hK3=>so (wn rfl) fun _ hK1=>Dc h1 rfl rfl rfl rfl rfl (z:=(cL x)) rfl hS fun _ g4 w7 h5 s8 _ _=>hK1 _ _ ?_
 refine so (wn rfl) fun _ hK2=>BE h5 rfl rfl rfl rfl (z:=zL) (fun _=>rfl) s8 fun _ g1 w1 h4 s1 _ _=>hK2 _ _ ?_
 refine wpList_nil<|hK3 _ _<|sqr fun _ hK4=>mv h4 rfl fun _ h6=>fav h6 rfl (Ao _ _) fun _ h7=>ldv h7 s1 1 υ9 rfl rfl rfl rfl fun _ h8=>cl h8 rfl Bk (Ec (F:=F) (s1.pk [2,3,4,5,0,1,6] rfl) hz0 hok ω) fun _ v1 w2 r1 h9=>?_
 obtain ⟨rfl,s2⟩:=r1
 have hfl34:=FsC.find_lt (F:=F) (FsOk.toFsC hok) x.p1
 refine mvs 5 h9 rfl fun _ h10=>h10.sn [6,5,4,3,0,1] rfl fun h11=>hK4 _ _<|sq fun _ hK5=>sqr fun _ hK6=>mv h11 rfl fun _ h12=>bv h12 (z:=.bool (decide ((Ab F x.p1).1≠0))) rfl (cNe _ _ _ _ rfl) fun _ h13=>h13.sn [16,6,5,4,3,0,1] rfl fun h14=>hK6 _ _ ?_
 rcases bC (decide ((Ab F x.p1).1≠0)) with hc1 | hc1
 ·skip
  have hp1:(Ab F x.p1).1≠0:=(dT hc1)
  refine wcT h14 rfl hc1<|h14.sk [6,5,4,3,0,1] rfl fun h15=>sqr fun _ hK7=>mv h15 rfl fun _ h16=>cl h16 rfl Ae (AV s2 ((Ab F x.p1).1)) fun _ v2 w3 r2 h17=>?_
  obtain ⟨rfl,s3⟩:=r2
  refine stA h17 s3 4 rfl rfl rfl κ rfl rfl rfl rfl fun _ w4 h18 s4 _=>h18.sn [6,5,4,3,0,1] rfl fun h19=>hK7 _ _<|wp_ret ?_
  try simp only [Exit.then,Exit.inBlock]
  refine rC h19 s4 4 υ37 rfl rfl rfl rfl ?_
  have hq1:Cf F x.p1=(F,Av (Ab F x.p1).1):=bx
  rw [hq1]
  exact ⟨none,0,na,nc,ea,ec,oa,oc,rfl,(Sep.tail_un (xs:=[_,_,_,_]) (s4.pk [0,1,2,3,6] rfl)).ownNil 0 9 1⟩
 ·skip
  have hp2:¬ ((Ab F x.p1).1≠0):=(dF hc1)
  refine wcF h14 rfl hc1<|h14.sk [6,5,4,3,0,1] rfl fun h20=>wp_skip<|hK5 _ _<|sqr fun _ hK8=>mvs 2 h20 rfl fun _ h21=>fav h21 rfl (Ak _ _) fun _ h22=>ldv h22 s2 0 υ47 rfl rfl rfl rfl fun _ h23=>mv h23 rfl fun _ h24=>?_
  obtain ⟨q87,hq2⟩:=AT (s2.get 1 rfl:Own _ _ _ _ _ _ _ _)
  refine sv1 h24 rfl (v:=.pointer (some ⟨q87,((Ab F x.p1).2)*3,none⟩)) (Ay h24 rfl rfl rfl (fun w=>ixO υ47 κ (sz:=3) (hq2 ω) (j:=(Ab F x.p1).2) rfl ω ω w)) fun _ h25=>sw1 h25 rfl (v:=.agg #[.bool ((F.N.getD ((Ab F x.p1).2) Ap).dir),σ ((F.N.getD ((Ab F x.p1).2) Ap).data),ν ((F.N.getD ((Ab F x.p1).2) Ap).links)]) (rld h25 rfl rfl (Lj Bb υ88 rfl κ (s2.get 1 rfl:Own _ _ _ _ _ _ _ _) (hq2 ω) Ap ω rfl)) fun _ h26=>so (wn rfl) fun _ hK9=>BE h26 rfl rfl rfl rfl (z:=[.bool false,σ [],ν 0]) (fun _=>rfl) s2 fun _ g2 w5 h27 s5 _ _=>hK9 _ _ ?_
  refine stA h27 s5 0 rfl rfl rfl κ rfl rfl rfl rfl fun _ w6 h28 s6 _=>h28.sn [7,6,5,4,3,0,1] rfl fun h29=>hK8 _ _<|sq fun _ hK10=>sqr fun _ hK11=>fav h29 rfl (CG _ _) fun _ h30=>ldv h30 s6 6 υ3 rfl rfl rfl rfl fun _ h31=>bv h31 rfl (cEq _ _ _ _ (decide_eq_true ω)) fun _ h32=>h32.sn [28,7,6,5,4,3,0,1] rfl fun h33=>hK11 _ _<|wcT h33 rfl rfl ?_
  refine h33.sk [7,6,5,4,3,0,1] rfl fun h34=>sq fun _ hK12=>sqr fun _ hK13=>fav h34 rfl (AC _ _) fun _ h35=>ldv h35 s6 0 υ4 rfl rfl rfl rfl fun _ h36=>h36.sn [30,7,6,5,4,3,0,1] rfl fun h37=>hK13 _ _ ?_
  rcases bC ((F.N.getD ((Ab F x.p1).2) Ap).dir) with hc2 | hc2
  ·skip
   refine wcT h37 rfl hc2<|h37.sk [7,6,5,4,3,0,1] rfl fun h38=>sqr fun _ hK14=>mvs 2 h38 rfl fun _ h39=>cl h39 rfl CE (JU (F:=F) (d:=(Ab F x.p1).2) (s6.pk [1,2,3,4,0,5,6,7] rfl) hz0) fun _ v3 w8 r3 h40=>?_
   obtain ⟨rfl,s7⟩:=r3
   refine bu h40 (v:=.agg #[ν 2,ν 1,ν ((BG F.E ((Ab F x.p1).2):Nat):Int)]) rfl (fun w=>κ) fun _ h41=>bu h41 (v:=.agg #[ν 0,ν 0,σ [],.slice none 0 0,ν 2,ν 1,ν ((BG F.E ((Ab F x.p1).2):Nat):Int)]) rfl (fun w=>κ) fun _ h42=>stA h42 s7 5 rfl rfl rfl κ rfl rfl rfl rfl fun _ w9 h43 s9 _=>h43.sn [7,6,5,4,3,0,1] rfl fun h44=>hK14 _ _<|wp_ret ?_
   try simp only [Exit.then,Exit.inBlock]
   refine rC h44 s9 5 υ37 rfl rfl rfl rfl ?_
   have hq3:Cf F x.p1=(F,JF 2 1 (BG F.E (Ab F x.p1).2)):=bx
   rw [hq3]
   exact ⟨none,0,na,nc,ea,ec,oa,oc,rfl,(Sep.tail_un (xs:=[_,_,_,_]) (s9.pk [0,1,2,3,7] rfl)).ownNil 0 9 1⟩
  ·skip
   refine wcF h37 rfl hc2<|h37.sk [7,6,5,4,3,0,1] rfl fun h45=>wp_skip<|hK12 _ _<|sqr fun _ hK15=>fav h45 rfl (Bf _ _) fun _ h46=>ldv h46 s6 0 υ3 rfl rfl rfl rfl fun _ h47=>fav h47 rfl (Bp _ _) fun _ h48=>ldv h48 s6 0 υ9 rfl rfl rfl rfl fun _ h49=>sv1 h49 rfl (v:=ν ((((F.N.getD ((Ab F x.p1).2) Ap).data).length:Nat):Int)) (CP h49 rfl rfl υ9) fun _ h50=>bu h50 (v:=.agg #[ν 1,ν ((F.N.getD ((Ab F x.p1).2) Ap).links),ν ((((F.N.getD ((Ab F x.p1).2) Ap).data).length:Nat):Int)]) rfl (fun w=>κ) fun _ h51=>?_
   refine bu h51 (v:=.agg #[ν 0,ν 0,σ [],.slice none 0 0,ν 1,ν ((F.N.getD ((Ab F x.p1).2) Ap).links),ν ((((F.N.getD ((Ab F x.p1).2) Ap).data).length:Nat):Int)]) rfl (fun w=>κ) fun _ h52=>stA h52 s6 5 rfl rfl rfl κ rfl rfl rfl rfl fun _ w10 h53 s10 _=>h53.sn [7,6,5,4,3,0,1] rfl fun h54=>hK15 _ _<|wp_ret ?_
   try simp only [Exit.then,Exit.inBlock]
   refine rC h54 s10 5 υ37 rfl rfl rfl rfl ?_
   have hq4:Cf F x.p1=(F,JF 1 (F.at (Ab F x.p1).2).links (F.at (Ab F x.p1).2).data.length):=bx
   rw [hq4]
   exact ⟨none,0,na,nc,ea,ec,oa,oc,rfl,(Sep.tail_un (xs:=[_,_,_,_]) (s10.pk [1,2,3,4,7] rfl)).ownNil 0 9 1⟩
theorem PC {w:World} {df:Nat} {na ea oa:Option Addr} {nc ec oc:Nat} {F:FsM} {R:List Ch} {x:CallM} (hS0:Sep w ((dP df na nc ea ec oa oc F)++R)) (hz:SmF F) (hok:FsOk F) (h1:x.p1.length≤1000) (h2:x.p2.length≤1000) (h3:x.data.length≤1000)  :
  CallsR Tryz.prog 40 #[π df,.agg (cL x).toArray] w (fun v w'=>∃ sa sc na' nc' ea' ec' oa' oc',v=DD (AN F x.p1 x.p2).2 sa sc∧Sep w' (Ai 0 9 1 sa (AN F x.p1 x.p2).2.names.length sc ((AN F x.p1 x.p2).2.names.flatMap sE)::[Ah df 51 [.slice na' (((AN F x.p1 x.p2).1).N.length) nc',.slice ea' (((AN F x.p1 x.p2).1).E.length) ec',.slice oa' (((AN F x.p1 x.p2).1).O.length) oc'],Ai 0 88 3 na' (((AN F x.p1 x.p2).1).N).length nc' ((((AN F x.p1 x.p2).1).N).flatMap Ca),Ai 0 114 3 ea' (((AN F x.p1 x.p2).1).E).length ec' ((((AN F x.p1 x.p2).1).E).flatMap BU),Ai 0 93 3 oa' (((AN F x.p1 x.p2).1).O).length oc' ((((AN F x.p1 x.p2).1).O).flatMap BQ)]++R)):=by
 have hS:=Sep.tail_many (xs:=dP df na nc ea ec oa oc F) hS0;clear hS0
 have hz0:=hz;obtain ⟨hz1,hz2,hz3⟩:F.N.length≤1000∧F.E.length≤1000∧F.O.length≤1000:=hz
 refine AE Tryz.func40 rfl (N:=85) Tryz.ntmps40 (by show 2≤85;decide) [(0,π df),(1,.agg (cL x).toArray)] rfl fun _ h1=>sqr fun _ hK3=>so (wn rfl) fun _ hK1=>Dc h1 rfl rfl rfl rfl rfl (z:=(cL x)) rfl hS fun _ g4 w7 h5 s8 _ _=>hK1 _ _ ?_
 refine so (wn rfl) fun _ hK2=>BE h5 rfl rfl rfl rfl (z:=zL) (fun _=>rfl) s8 fun _ g1 w1 h4 s1 _ _=>hK2 _ _ ?_
 refine wpList_nil<|hK3 _ _<|sqr fun _ hK4=>sw1 h4 rfl (v:=.agg (cL x).toArray) (rld h4 rfl rfl (ldA υ30 rfl (n:=8) κ (s1.get 1 rfl:Blk _ _ _ _) rfl rfl)) fun _ h6=>cl h6 rfl EO (OK s1 x.kind x ω ω) fun _ v1 w2 r1 h7=>?_
 obtain ⟨rfl,s2⟩:=r1
 refine mv h7 rfl fun _ h8=>h8.sn [5,4,3,0,1] rfl fun h9=>hK4 _ _<|sq fun _ hK5=>sqr fun _ hK6=>mvs 2 h9 rfl fun _ h10=>h10.sn [14,5,4,3,0,1] rfl fun h11=>hK6 _ _ ?_
 rcases bC (Ew x) with hc1 | hc1
 ·skip
  refine wcF h11 rfl (Bq hc1)<|h11.sk [5,4,3,0,1] rfl fun h12=>wp_skip<|hK5 _ _<|sqr fun _ hK7=>mv h12 rfl fun _ h13=>fav h13 rfl (Ao _ _) fun _ h14=>ldv h14 s2 1 υ9 rfl rfl rfl rfl fun _ h15=>cl h15 rfl Bk (Ec (F:=F) (s2.pk [2,3,4,5,0,1,6] rfl) hz0 hok ω) fun _ v2 w3 r2 h16=>?_
  obtain ⟨rfl,s3⟩:=r2
  have hfl57:=FsC.find_lt (F:=F) (FsOk.toFsC hok) x.p1
  refine mvs 5 h16 rfl fun _ h17=>h17.sn [7,6,5,4,3,0,1] rfl fun h18=>hK7 _ _<|sq fun _ hK8=>sqr fun _ hK9=>mv h18 rfl fun _ h19=>bv h19 (z:=.bool (decide ((Ab F x.p1).1≠0))) rfl (cNe _ _ _ _ rfl) fun _ h20=>h20.sn [24,7,6,5,4,3,0,1] rfl fun h21=>hK9 _ _ ?_
  rcases bC (decide ((Ab F x.p1).1≠0)) with hc2 | hc2
  ·skip
   have hp1:(Ab F x.p1).1≠0:=(dT hc2)
   refine wcT h21 rfl hc2<|h21.sk [7,6,5,4,3,0,1] rfl fun h22=>sqr fun _ hK10=>mv h22 rfl fun _ h23=>cl h23 rfl Ae (AV s3 ((Ab F x.p1).1)) fun _ v3 w4 r3 h24=>?_
   obtain ⟨rfl,s4⟩:=r3
   refine stA h24 s4 4 rfl rfl rfl κ rfl rfl rfl rfl fun _ w5 h25 s5 _=>h25.sn [7,6,5,4,3,0,1] rfl fun h26=>hK10 _ _<|wp_ret ?_
   try simp only [Exit.then,Exit.inBlock]
   refine rC h26 s5 4 υ37 rfl rfl rfl rfl ?_
   have hq1:AN F x.p1 x.p2=(F,Av (Ab F x.p1).1):=by unfold AN;rw [if_pos (show (Ag x.p1).isSome=true∧(Ag x.p2).isSome=true from (BR hc1)),if_neg ω]
   rw [hq1]
   exact ⟨none,0,na,nc,ea,ec,oa,oc,rfl,(Sep.tail_un (xs:=[_,_,_,_]) (s5.pk [0,1,2,3,6] rfl)).ownNil 0 9 1⟩
  ·skip
   have hp2:¬ ((Ab F x.p1).1≠0):=(dF hc2)
   refine wcF h21 rfl hc2<|h21.sk [7,6,5,4,3,0,1] rfl fun h27=>wp_skip<|hK8 _ _<|sq fun _ hK11=>sqr fun _ hK12=>mvs 2 h27 rfl fun _ h28=>fav h28 rfl (Ak _ _) fun _ h29=>ldv h29 s3 0 υ47 rfl rfl rfl rfl fun _ h30=>mv h30 rfl fun _ h31=>?_
   obtain ⟨q111,hq2⟩:=AT (s3.get 1 rfl:Own _ _ _ _ _ _ _ _)
   refine sv1 h31 rfl (v:=.pointer (some ⟨q111,((Ab F x.p1).2)*3,none⟩)) (Ay h31 rfl rfl rfl (fun w=>ixO υ47 κ (sz:=3) (hq2 ω) (j:=(Ab F x.p1).2) rfl ω ω w)) fun _ h32=>sv1 h32 rfl (v:=.pointer (some ⟨q111,((Ab F x.p1).2)*3+0,none⟩)) (rfa h32 rfl rfl (fun w=>AC q111 (((Ab F x.p1).2)*3) w)) fun _ h33=>sw1 h33 rfl (v:=.bool ((F.N.getD ((Ab F x.p1).2) Ap).dir)) (rld h33 rfl rfl (BJ Bb υ4 rfl (s3.get 1 rfl:Own _ _ _ _ _ _ _ _) (hq2 ω) Ap (j:=((Ab F x.p1).2)) (f:=0) ω (by decide) rfl rfl)) fun _ h34=>h34.sn [34,7,6,5,4,3,0,1] rfl fun h35=>hK12 _ _ ?_
   rcases bC ((F.N.getD ((Ab F x.p1).2) Ap).dir) with hc3 | hc3
   ·skip
    refine wcT h35 rfl hc3<|h35.sk [7,6,5,4,3,0,1] rfl fun h36=>sqr fun _ hK13=>cl h36 rfl Ae (AV s3 13) fun _ v4 w6 r4 h37=>?_
    obtain ⟨rfl,s6⟩:=r4
    refine stA h37 s6 4 rfl rfl rfl κ rfl rfl rfl rfl fun _ w8 h38 s7 _=>h38.sn [7,6,5,4,3,0,1] rfl fun h39=>hK13 _ _<|wp_ret ?_
    try simp only [Exit.then,Exit.inBlock]
    refine rC h39 s7 4 υ37 rfl rfl rfl rfl ?_
    have hq3:AN F x.p1 x.p2=(F,Av 13):=by unfold AN;rw [if_pos (show (Ag x.p1).isSome=true∧(Ag x.p2).isSome=true from (BR hc1)),if_pos ω,if_pos (show F.dir (Ab F x.p1).2=true from hc3)]
    rw [hq3]
    exact ⟨none,0,na,nc,ea,ec,oa,oc,rfl,(Sep.tail_un (xs:=[_,_,_,_]) (s7.pk [0,1,2,3,6] rfl)).ownNil 0 9 1⟩
   ·skip
    refine wcF h35 rfl hc3<|h35.sk [7,6,5,4,3,0,1] rfl fun h40=>wp_skip<|hK11 _ _<|sq fun _ hK14=>sqr fun _ hK15=>fav h40 rfl (AR _ _) fun _ h41=>ldv h41 s3 5 υ9 rfl rfl rfl rfl fun _ h42=>bv h42 (z:=.bool (decide (x.p2=[47]))) rfl (FT _ _ _ x.p2 [47] rfl) fun _ h43=>h43.sn [38,7,6,5,4,3,0,1] rfl fun h44=>hK15 _ _ ?_
    rcases bC (decide (x.p2=[47])) with hc4 | hc4
    ·skip
     have hp3:x.p2=[47]:=(dT hc4)
     refine wcT h44 rfl hc4<|h44.sk [7,6,5,4,3,0,1] rfl fun h45=>sqr fun _ hK16=>cl h45 rfl Ae (AV s3 11) fun _ v5 w9 r5 h46=>?_
     obtain ⟨rfl,s9⟩:=r5
     refine stA h46 s9 4 rfl rfl rfl κ rfl rfl rfl rfl fun _ w10 h47 s10 _=>h47.sn [7,6,5,4,3,0,1] rfl fun h48=>hK16 _ _<|wp_ret ?_
     try simp only [Exit.then,Exit.inBlock]
     refine rC h48 s10 4 υ37 rfl rfl rfl rfl ?_
     have hq4:AN F x.p1 x.p2=(F,Av 11):=by unfold AN;rw [if_pos (show (Ag x.p1).isSome=true∧(Ag x.p2).isSome=true from (BR hc1)),if_pos ω,if_neg (show ¬ (F.dir (Ab F x.p1).2=true) from AI hc3),if_pos ω]
     rw [hq4]
     exact ⟨none,0,na,nc,ea,ec,oa,oc,rfl,(Sep.tail_un (xs:=[_,_,_,_]) (s10.pk [0,1,2,3,6] rfl)).ownNil 0 9 1⟩
    ·skip
     have hp4:¬ (x.p2=[47]):=(dF hc4)
     refine wcF h44 rfl hc4<|h44.sk [7,6,5,4,3,0,1] rfl fun h49=>wp_skip<|hK14 _ _<|sqr fun _ hK17=>mv h49 rfl fun _ h50=>fav h50 rfl (AR _ _) fun _ h51=>ldv h51 s3 5 υ9 rfl rfl rfl rfl fun _ h52=>cl h52 rfl AF (Cx (F:=F) s3 hz0 hok ω) fun _ v6 w11 r6 h53=>?_
     obtain ⟨rfl,s11⟩:=r6
     refine mvs 7 h53 rfl fun _ h54=>h54.sn [10,9,8,7,6,5,4,3,0,1] rfl fun h55=>hK17 _ _<|sq fun _ hK18=>sqr fun _ hK19=>mv h55 rfl fun _ h56=>bv h56 (z:=.bool (decide ((Aa F x.p2).1≠0))) rfl (cNe _ _ _ _ rfl) fun _ h57=>h57.sn [49,10,9,8,7,6,5,4,3,0,1] rfl fun h58=>hK19 _ _ ?_
     rcases bC (decide ((Aa F x.p2).1≠0)) with hc5 | hc5
     ·skip
      have hp5:(Aa F x.p2).1≠0:=(dT hc5)
      refine wcT h58 rfl hc5<|h58.sk [10,9,8,7,6,5,4,3,0,1] rfl fun h59=>sqr fun _ hK20=>mv h59 rfl fun _ h60=>cl h60 rfl Ae (AV s11 ((Aa F x.p2).1)) fun _ v7 w12 r7 h61=>?_
      obtain ⟨rfl,s12⟩:=r7
      refine stA h61 s12 4 rfl rfl rfl κ rfl rfl rfl rfl fun _ w13 h62 s13 _=>h62.sn [10,9,8,7,6,5,4,3,0,1] rfl fun h63=>hK20 _ _<|wp_ret ?_
      try simp only [Exit.then,Exit.inBlock]
      refine rC h63 s13 4 Tryz.underlying37 rfl rfl rfl rfl ?_
      have hq5:AN F x.p1 x.p2=(F,Av (Aa F x.p2).1):=by unfold AN;rw [if_pos (show (Ag x.p1).isSome=true∧(Ag x.p2).isSome=true from (BR hc1)),if_pos ω,if_neg (show ¬ (F.dir (Ab F x.p1).2=true) from AI hc3),if_neg ω,if_neg ω]
      rw [hq5]
      exact ⟨none,0,na,nc,ea,ec,oa,oc,rfl,(Sep.tail_un (xs:=[_,_,_,_]) (s13.pk [0,1,2,3,6] rfl)).ownNil 0 9 1⟩
     ·skip
      have hp6:¬ ((Aa F x.p2).1≠0):=(dF hc5)
      refine wcF h58 rfl hc5<|h58.sk [10,9,8,7,6,5,4,3,0,1] rfl fun h64=>wp_skip<|hK18 _ _<|sq fun _ hK21=>sqr fun _ hK22=>mvs 3 h64 rfl fun _ h65=>?_
      rcases bC ((Aj F.E ((Aa F x.p2).2.1) ((Aa F x.p2).2.2)).isSome) with hc6 | hc6
      ·skip
       obtain ⟨m1,hm1⟩:=Option.isSome_iff_exists.1 hc6
       refine cl h65 rfl AX (Fw (F:=F) s11 hz0 hm1) fun _ v8 w14 r8 h66=>?_
       obtain ⟨rfl,s14⟩:=r8
       refine bv h66 rfl (cGe _ _ _ _ (decide_eq_true ω)) fun _ h67=>h67.sn [56,10,9,8,7,6,5,4,3,0,1] rfl fun h68=>hK22 _ _<|wcT h68 rfl rfl<|h68.sk [10,9,8,7,6,5,4,3,0,1] rfl fun h69=>sqr fun _ hK23=>cl h69 rfl Ae (AV s14 11) fun _ v9 w15 r9 h70=>?_
       obtain ⟨rfl,s15⟩:=r9
       refine stA h70 s15 4 rfl rfl rfl κ rfl rfl rfl rfl fun _ w16 h71 s16 _=>h71.sn [10,9,8,7,6,5,4,3,0,1] rfl fun h72=>hK23 _ _<|wp_ret ?_
       try simp only [Exit.then,Exit.inBlock]
       refine rC h72 s16 4 Tryz.underlying37 rfl rfl rfl rfl ?_
       have hq6:AN F x.p1 x.p2=(F,Av 11):=by unfold AN;rw [if_pos (show (Ag x.p1).isSome=true∧(Ag x.p2).isSome=true from (BR hc1)),if_pos ω,if_neg (show ¬ (F.dir (Ab F x.p1).2=true) from AI hc3),if_neg ω,if_pos ω,if_pos (show (Aj F.E (Aa F x.p2).2.1 (Aa F x.p2).2.2).isSome=true from hc6)]
       rw [hq6]
       exact ⟨none,0,na,nc,ea,ec,oa,oc,rfl,(Sep.tail_un (xs:=[_,_,_,_]) (s16.pk [0,1,2,3,6] rfl)).ownNil 0 9 1⟩
      ·skip
       have hm2:=AG hc6
       refine cl h65 rfl AX (IR (F:=F) s11 hz0 hm2) fun _ v10 w17 r10 h73=>?_
       obtain ⟨rfl,s17⟩:=r10
       refine bv h73 rfl (cGe _ _ _ _ rfl) fun _ h74=>h74.sn [56,10,9,8,7,6,5,4,3,0,1] rfl fun h75=>hK22 _ _<|wcF h75 rfl rfl<|h75.sk [10,9,8,7,6,5,4,3,0,1] rfl fun h76=>wp_skip<|hK21 _ _<|sq fun _ hK24=>sqr fun _ hK25=>mvs 2 h76 rfl fun _ h77=>fav h77 rfl (Ak _ _) fun _ h78=>ldv h78 s17 0 υ47 rfl rfl rfl rfl fun _ h79=>?_
       refine mv h79 rfl fun _ h80=>sv1 h80 rfl (v:=.pointer (some ⟨q111,((Ab F x.p1).2)*3,none⟩)) (Ay h80 rfl rfl rfl (fun w=>ixO υ47 κ (sz:=3) (hq2 ω) (j:=(Ab F x.p1).2) rfl ω ω w)) fun _ h81=>sv1 h81 rfl (v:=.pointer (some ⟨q111,((Ab F x.p1).2)*3+2,none⟩)) (rfa h81 rfl rfl (fun w=>Bf q111 (((Ab F x.p1).2)*3) w)) fun _ h82=>sw1 h82 rfl (v:=ν ((F.N.getD ((Ab F x.p1).2) Ap).links)) (rld h82 rfl rfl (BJ Bb υ3 rfl (s17.get 1 rfl:Own _ _ _ _ _ _ _ _) (hq2 ω) Ap (j:=((Ab F x.p1).2)) (f:=2) ω (by decide) rfl rfl)) fun _ h83=>bv h83 (z:=.bool (decide ((F.N.getD ((Ab F x.p1).2) Ap).links=20))) rfl (cEq _ _ _ _ rfl) fun _ h84=>h84.sn [66,10,9,8,7,6,5,4,3,0,1] rfl fun h85=>hK25 _ _ ?_
       rcases bC (decide ((F.N.getD ((Ab F x.p1).2) Ap).links=20)) with hc7 | hc7
       ·skip
        have hp7:(F.N.getD ((Ab F x.p1).2) Ap).links=20:=(dT hc7)
        refine wcT h85 rfl hc7<|h85.sk [10,9,8,7,6,5,4,3,0,1] rfl fun h86=>sqr fun _ hK26=>cl h86 rfl Ae (AV s17 20) fun _ v11 w18 r11 h87=>?_
        obtain ⟨rfl,s18⟩:=r11
        refine stA h87 s18 4 rfl rfl rfl κ rfl rfl rfl rfl fun _ w19 h88 s19 _=>h88.sn [10,9,8,7,6,5,4,3,0,1] rfl fun h89=>hK26 _ _<|wp_ret ?_
        try simp only [Exit.then,Exit.inBlock]
        refine rC h89 s19 4 Tryz.underlying37 rfl rfl rfl rfl ?_
        have hq7:AN F x.p1 x.p2=(F,Av 20):=by unfold AN;rw [if_pos (show (Ag x.p1).isSome=true∧(Ag x.p2).isSome=true from (BR hc1)),if_pos ω,if_neg (show ¬ (F.dir (Ab F x.p1).2=true) from AI hc3),if_neg ω,if_pos ω,if_neg (show ¬ ((Aj F.E (Aa F x.p2).2.1 (Aa F x.p2).2.2).isSome=true) from AI hc6),if_pos (show (F.at (Ab F x.p1).2).links=20 from (ω:(F.N.getD ((Ab F x.p1).2) Ap).links=20))]
        rw [hq7]
        exact ⟨none,0,na,nc,ea,ec,oa,oc,rfl,(Sep.tail_un (xs:=[_,_,_,_]) (s19.pk [0,1,2,3,6] rfl)).ownNil 0 9 1⟩
       ·skip
        have hp8:¬ ((F.N.getD ((Ab F x.p1).2) Ap).links=20):=(dF hc7)
        refine wcF h85 rfl hc7<|h85.sk [10,9,8,7,6,5,4,3,0,1] rfl fun h90=>wp_skip<|hK24 _ _<|sqr fun _ hK27=>mvs 4 h90 rfl fun _ h91=>cl h91 rfl Bo (IW (F:=F) s17 hz0 ((Aa F x.p2).2.1) ((Aa F x.p2).2.2) ((Ab F x.p1).2)) fun _ v12 w20 r12 h92=>?_
        obtain ⟨nax333,ncx334,eax335,ecx336,oax337,ocx338,rfl,s20⟩:=r12
        have hN346:(Br F ((Aa F x.p2).2.1) ((Aa F x.p2).2.2) ((Ab F x.p1).2)).N.length=F.N.length:=rfl
        have hO347:(Br F ((Aa F x.p2).2.1) ((Aa F x.p2).2.2) ((Ab F x.p1).2)).O.length=F.O.length:=rfl
        refine h92.sn [10,9,8,7,6,5,4,3,0,1] rfl fun h93=>hK27 _ _<|sq fun _ hK28=>?_
        have hl350:(F.N.getD ((Ab F x.p1).2) Ap).links≤20:=FsOk.l20 hok (Ab F x.p1).2 ω;have hl351:0≤(F.N.getD ((Ab F x.p1).2) Ap).links:=FsC.links_ge hok.toFsC (i:=(Ab F x.p1).2) ω
        have hl352:((Br F ((Aa F x.p2).2.1) ((Aa F x.p2).2.2) ((Ab F x.p1).2)).N.getD ((Ab F x.p1).2) Ap).links=(F.N.getD ((Ab F x.p1).2) Ap).links:=rfl
        refine wp_region_lit<|mvs 2 h93 rfl fun _ h94=>fav h94 rfl (Ak _ _) fun _ h95=>ldv h95 s20 0 υ47 rfl rfl rfl rfl fun _ h96=>mv h96 rfl fun _ h97=>?_
        obtain ⟨q363,hq8⟩:=AT (s20.get 1 rfl:Own _ _ _ _ _ _ _ _)
        refine sv1 h97 rfl (v:=.pointer (some ⟨q363,((Ab F x.p1).2)*3,none⟩)) (Ay h97 rfl rfl rfl (fun w=>ixO υ47 κ (sz:=3) (hq8 ω) (j:=(Ab F x.p1).2) rfl ω ω w)) fun _ h98=>sv1 h98 rfl (v:=.pointer (some ⟨q363,((Ab F x.p1).2)*3+2,none⟩)) (rfa h98 rfl rfl (fun w=>Bf q363 (((Ab F x.p1).2)*3) w)) fun _ h99=>sw1 h99 rfl (v:=ν ((((Br F ((Aa F x.p2).2.1) ((Aa F x.p2).2.2) ((Ab F x.p1).2)).N).getD ((Ab F x.p1).2) Ap).links)) (rld h99 rfl rfl (BJ Bb υ3 rfl (s20.get 1 rfl:Own _ _ _ _ _ _ _ _) (hq8 ω) Ap (j:=((Ab F x.p1).2)) (f:=2) ω (by decide) rfl rfl)) fun _ h100=>bv h100 (z:=ν ((((Br F ((Aa F x.p2).2.1) ((Aa F x.p2).2.2) ((Ab F x.p1).2)).N).getD ((Ab F x.p1).2) Ap).links+1)) rfl (DG _ _ _ ω ω ω) fun _ h101=>sv1 h101 rfl (v:=.pointer (some ⟨q363,((Ab F x.p1).2)*3,none⟩)) (Ay h101 rfl rfl rfl (fun w=>ixO υ47 κ (sz:=3) (hq8 ω) (j:=(Ab F x.p1).2) rfl ω ω w)) fun _ h102=>sv1 h102 rfl (v:=.pointer (some ⟨q363,((Ab F x.p1).2)*3+2,none⟩)) (rfa h102 rfl rfl (fun w=>Bf q363 (((Ab F x.p1).2)*3) w)) fun _ h103=>so (wn rfl) fun _ hK29=>FQ Bb h103 rfl rfl s20 1 rfl (hq8 ω) rfl rfl rfl rfl Ap (⟨(((Br F ((Aa F x.p2).2.1) ((Aa F x.p2).2.2) ((Ab F x.p1).2)).N).getD ((Ab F x.p1).2) Ap).dir,(((Br F ((Aa F x.p2).2.1) ((Aa F x.p2).2.2) ((Ab F x.p1).2)).N).getD ((Ab F x.p1).2) Ap).data,(((Br F ((Aa F x.p2).2.1) ((Aa F x.p2).2.2) ((Ab F x.p1).2)).N).getD ((Ab F x.p1).2) Ap).links+1⟩:NodeM) rfl κ ω (by decide) rfl (n':=(((Br F ((Aa F x.p2).2.1) ((Aa F x.p2).2.2) ((Ab F x.p1).2)).N).set ((Ab F x.p1).2) (⟨(((Br F ((Aa F x.p2).2.1) ((Aa F x.p2).2.2) ((Ab F x.p1).2)).N).getD ((Ab F x.p1).2) Ap).dir,(((Br F ((Aa F x.p2).2.1) ((Aa F x.p2).2.2) ((Ab F x.p1).2)).N).getD ((Ab F x.p1).2) Ap).data,(((Br F ((Aa F x.p2).2.1) ((Aa F x.p2).2.2) ((Ab F x.p1).2)).N).getD ((Ab F x.p1).2) Ap).links+1⟩:NodeM)).length) (by rw [List.length_set]) fun _ w21 h104 s21=>hK29 _ _ ?_
        have s22:=s21;clear s21
        refine h104.sn [10,9,8,7,6,5,4,3,0,1] rfl fun h105=>hK28 _ _<|sqr fun _ hK30=>bu h105 (v:=.agg zL.toArray) rfl (fun w=>κ) fun _ h106=>stA h106 s22 4 rfl rfl rfl κ rfl rfl rfl rfl fun _ w22 h107 s23 _=>h107.sn [10,9,8,7,6,5,4,3,0,1] rfl fun h108=>hK30 _ _<|wp_ret ?_
        try simp only [Exit.then,Exit.inBlock]
        refine rC h108 s23 4 υ37 rfl rfl rfl rfl ?_
        have hq9:AN F x.p1 x.p2=(By (Br F (Aa F x.p2).2.1 (Aa F x.p2).2.2 (Ab F x.p1).2) (Ab F x.p1).2 1,Av 0):=by unfold AN;rw [if_pos (show (Ag x.p1).isSome=true∧(Ag x.p2).isSome=true from (BR hc1)),if_pos ω,if_neg (show ¬ (F.dir (Ab F x.p1).2=true) from AI hc3),if_neg ω,if_pos ω,if_neg (show ¬ ((Aj F.E (Aa F x.p2).2.1 (Aa F x.p2).2.2).isSome=true) from AI hc6),if_neg (show ¬ ((F.at (Ab F x.p1).2).links=20) from (ω:¬ ((F.N.getD ((Ab F x.p1).2) Ap).links=20)))]
        rw [hq9]
        have z395:=Sep.tail_un (xs:=[_,_,_,_]) (s23.pk [0,1,2,3,6] rfl)
        simp only [List.length_set] at z395
        refine ⟨none,0,nax333,ncx334,eax335,ecx336,oax337,ocx338,rfl,Sep.ownNil ?_ 0 9 1⟩
        simp only [By,BS,List.length_set]
        exact z395
 ·skip
  refine wcT h11 rfl (Bt hc1)<|h11.sk [5,4,3,0,1] rfl fun h109=>sqr fun _ hK31=>cl h109 rfl Ae (AV s2 15) fun _ v13 w23 r13 h110=>?_
  obtain ⟨rfl,s24⟩:=r13
  refine stA h110 s24 0 rfl rfl rfl κ rfl rfl rfl rfl fun _ w24 h111 s25 _=>h111.sn [5,4,3,0,1] rfl fun h112=>hK31 _ _<|wp_ret ?_
  try simp only [Exit.then,Exit.inBlock]
  refine rC h112 s25 0 υ37 rfl rfl rfl rfl ?_
  have hq10:AN F x.p1 x.p2=(F,Av 15):=by unfold AN;rw [if_neg (show ¬ ((Ag x.p1).isSome=true∧(Ag x.p2).isSome=true) from (MU hc1))]
  rw [hq10]
  exact ⟨none,0,na,nc,ea,ec,oa,oc,rfl,(Sep.tail_un (xs:=[_,_,_,_]) (s25.pk [2,3,4,5,6] rfl)).ownNil 0 9 1⟩
end
section
def SmS (F:FsM):Prop:=F.N.length≤900∧F.E.length≤900∧F.O.length≤900
theorem SmS.sm {F:FsM} (h:SmS F):SmF F:=⟨by have:=h.1;omega,by have:=h.2.1;omega,by have:=h.2.2;omega⟩
theorem SmS.node {F:FsM} (h:SmS F) (b:Bool):SmF (AH F b):=⟨by rw [CN];have:=h.1;omega,by have:=h.2.1;show F.E.length≤_;omega,by have:=h.2.2;show F.O.length≤_;omega⟩
theorem Ir {F:FsM} {c:Int} {i:Nat} (h:Dt F c=((List.range 8).drop i).find? fun fd:Nat=>(Az F.O c (fd:Int)).isNone) (hi:i<8) (hs:(Az F.O c (i:Int)).isSome=true):Dt F c=((List.range 8).drop (i+1)).find? fun fd:Nat=>(Az F.O c (fd:Int)).isNone:=by
 rw [h,List.drop_eq_getElem_cons (by rw [List.length_range];exact hi),List.getElem_range,List.find?_cons]
 cases hq:Az F.O c (i:Int) with
 | none=>rw [hq] at hs;cases hs
 | some m=>rfl
theorem Iq {F:FsM} {c:Int} {i:Nat} (h:Dt F c=((List.range 8).drop i).find? fun fd:Nat=>(Az F.O c (fd:Int)).isNone) (hi:8≤i):Dt F c=none:=by
 rw [h,List.drop_eq_nil_of_le (by rw [List.length_range];exact hi)];rfl
theorem IM {F:FsM} {c:Int} {i:Nat} (h:Dt F c=((List.range 8).drop i).find? fun fd:Nat=>(Az F.O c (fd:Int)).isNone) (hi:i<8) (hs:(Az F.O c (i:Int)).isSome=false):Dt F c=some i:=by
 rw [h,List.drop_eq_getElem_cons (by rw [List.length_range];exact hi),List.getElem_range,List.find?_cons]
 cases hq:Az F.O c (i:Int) with
 | none=>rfl
 | some m=>rw [hq] at hs;cases hs
theorem Qb {O:List OpM} {c fd:Int} {i:Nat} (hi:i<O.length) (h:((O.getD i BL).cl≠c)∨((O.getD i BL).fd≠fd)):Df (O.take (i+1)) c fd=Df (O.take i) c fd++[O.getD i BL]:=by
 unfold Df
 rw [Dk hi BL,List.filter_append]
 congr 1
 rw [List.filter_cons,if_pos (by rw [decide_eq_false (show ¬ ((O.getD i BL).cl=c∧(O.getD i BL).fd=fd) from fun q=>h.elim (fun z=>z q.1) (fun z=>z q.2))];rfl)];rfl
theorem RE {O:List OpM} {c fd:Int} {i:Nat} (hi:i<O.length) (h:¬ ((O.getD i BL).cl≠c)∧¬ ((O.getD i BL).fd≠fd)):Df (O.take (i+1)) c fd=Df (O.take i) c fd:=by
 unfold Df
 rw [Dk hi BL,List.filter_append,List.filter_cons,if_neg (by rw [decide_eq_true (show (O.getD i BL).cl=c∧(O.getD i BL).fd=fd from ⟨Classical.not_not.1 h.1,Classical.not_not.1 h.2⟩)];exact Bool.false_ne_true)]
 simp
theorem Sc {d:List UInt8} {off n:Int} (h:(d.length:Int)≤off) (h2:0≤n):([]:List UInt8)=(d.drop off.toNat).take n.toNat:=by
 rw [List.drop_eq_nil_of_le ω];simp
theorem SV {d:List UInt8} {off n:Int} (h:0≤off) (h2:((d.drop off.toNat).length:Int)≤n):d.drop off.toNat=(d.drop off.toNat).take n.toNat:=by
 rw [List.take_of_length_le ω]
theorem SZ {d b:List UInt8} {off:Int} (h:0≤off):Bc d off.toNat++b++d.drop (off+(b.length:Int)).toNat=CS d off.toNat b:=by
 unfold CS
 rw [show (off+(b.length:Int)).toNat=off.toNat+b.length by omega]
theorem TG {d b:List UInt8} {off:Int} (h:0≤off∧(d.length:Int)≤off+(b.length:Int)):Bc d off.toNat++b++[]=CS d off.toNat b:=by
 unfold CS
 rw [List.drop_eq_nil_of_le ω]
theorem PM {w:World} {df:Nat} {na ea oa:Option Addr} {nc ec oc:Nat} {F:FsM} {R:List Ch} {c:Int} {x:CallM} (hS0:Sep w ((dP df na nc ea ec oa oc F)++R)) (hs:SmS F) (hok:FsOk F) (h1:x.p1.length≤1000) (h2:x.p2.length≤1000) (h3:x.data.length≤1000)  :
  CallsR Tryz.prog 33 #[π df,ν c,.agg (cL x).toArray] w (fun v w'=>∃ sa sc na' nc' ea' ec' oa' oc',v=DD (AS F c x.p1 x.fl).2 sa sc∧Sep w' (Ai 0 9 1 sa (AS F c x.p1 x.fl).2.names.length sc ((AS F c x.p1 x.fl).2.names.flatMap sE)::[Ah df 51 [.slice na' (((AS F c x.p1 x.fl).1).N.length) nc',.slice ea' (((AS F c x.p1 x.fl).1).E.length) ec',.slice oa' (((AS F c x.p1 x.fl).1).O.length) oc'],Ai 0 88 3 na' (((AS F c x.p1 x.fl).1).N).length nc' ((((AS F c x.p1 x.fl).1).N).flatMap Ca),Ai 0 114 3 ea' (((AS F c x.p1 x.fl).1).E).length ec' ((((AS F c x.p1 x.fl).1).E).flatMap BU),Ai 0 93 3 oa' (((AS F c x.p1 x.fl).1).O).length oc' ((((AS F c x.p1 x.fl).1).O).flatMap BQ)]++R)):=by
 have hS:=Sep.tail_many (xs:=dP df na nc ea ec oa oc F) hS0;clear hS0
 have hz:SmF F:=hs.sm
 have hz0:=hz;obtain ⟨hz1,hz2,hz3⟩:F.N.length≤1000∧F.E.length≤1000∧F.O.length≤1000:=hz
 refine AE Tryz.func33 rfl (N:=124) Tryz.ntmps33 (by show 3≤124;decide) [(0,π df),(1,ν c),(2,.agg (cL x).toArray)] rfl fun _ h1=>sqr fun _ hK3=>so (wn rfl) fun _ hK1=>Dc h1 rfl rfl rfl rfl rfl (z:=(cL x)) rfl hS fun _ g4 w7 h5 s8 _ _=>hK1 _ _ ?_
 refine so (wn rfl) fun _ hK2=>BE h5 rfl rfl rfl rfl (z:=zL) (fun _=>rfl) s8 fun _ g1 w1 h4 s1 _ _=>hK2 _ _ ?_
 refine wpList_nil<|hK3 _ _<|sq fun _ hK4=>sqr fun _ hK5=>fav h4 rfl (BI _ _) fun _ h6=>ldv h6 s1 1 υ3 rfl rfl rfl rfl fun _ h7=>bv h7 (z:=.bool (decide (x.fl≠0))) rfl (cNe _ _ _ _ rfl) fun _ h8=>mv h8 rfl fun _ h9=>sg h9 (wT h9 rfl rfl rfl) rfl rfl rfl (fun hC1=>by have hq:=(dT hC1);exact (rfa h9 rfl rfl (fun w=>BI g4 0 w)) _) fun _ h10=>sg h10 (wT h10 rfl rfl rfl) rfl rfl rfl (fun hC2=>by have hq:=(dT hC2);exact (rld h10 rfl (opg rfl hC2) (ldB υ3 rfl (s1.get 1 rfl:Blk _ _ _ _) rfl))) fun _ h11=>sg h11 (wT h11 rfl rfl rfl) rfl rfl rfl (fun hC3=>by have hq:=(dT hC3);exact (BF h11 rfl (opg rfl hC3) rfl (cNe _ _ _ _ rfl)) _) fun _ h12=>sv1 h12 rfl (Ej h12 rfl (E:=(decide (x.fl≠0))) (F:=(decide (x.fl≠1))) rfl rfl rfl (fun e=>if_pos (by rw [e];try rfl))) fun _ h13=>?_
 refine mv h13 rfl fun _ h14=>sg h14 (wT h14 rfl rfl rfl) rfl rfl rfl (fun hC4=>by have hq:=(And.intro (dT (AA hC4).1) (dT (AA hC4).2));exact (rfa h14 rfl rfl (fun w=>BI g4 0 w)) _) fun _ h15=>sg h15 (wT h15 rfl rfl rfl) rfl rfl rfl (fun hC5=>by have hq:=(And.intro (dT (AA hC5).1) (dT (AA hC5).2));exact (rld h15 rfl (opg rfl hC5) (ldB υ3 rfl (s1.get 1 rfl:Blk _ _ _ _) rfl))) fun _ h16=>sg h16 (wT h16 rfl rfl rfl) rfl rfl rfl (fun hC6=>by have hq:=(And.intro (dT (AA hC6).1) (dT (AA hC6).2));exact (BF h16 rfl (opg rfl hC6) rfl (cNe _ _ _ _ rfl)) _) fun _ h17=>sv1 h17 rfl (Ej h17 rfl (E:=((decide (x.fl≠0))&&(decide (x.fl≠1)))) (F:=(decide (x.fl≠3))) rfl rfl rfl (fun e=>if_pos (by rw [e];try rfl))) fun _ h18=>h18.sn [25,6,5,0,1,2] rfl fun h19=>hK5 _ _ ?_
 rcases bC (((decide (x.fl≠0))&&(decide (x.fl≠1)))&&(decide (x.fl≠3))) with hc1 | hc1
 ·skip
  have hp1:((x.fl≠0)∧(x.fl≠1))∧(x.fl≠3):=(And.intro (And.intro (dT (AA (AA hc1).1).1) (dT (AA (AA hc1).1).2)) (dT (AA hc1).2))
  refine wcT h19 rfl hc1<|h19.sk [6,5,0,1,2] rfl fun h20=>sqr fun _ hK6=>cl h20 rfl Ae (AV s1 15) fun _ v1 w2 r1 h21=>?_
  obtain ⟨rfl,s2⟩:=r1
  refine stA h21 s2 0 rfl rfl rfl κ rfl rfl rfl rfl fun _ w3 h22 s3 _=>h22.sn [6,5,0,1,2] rfl fun h23=>hK6 _ _<|wp_ret ?_
  try simp only [Exit.then,Exit.inBlock]
  refine rC h23 s3 0 υ37 rfl rfl rfl rfl ?_
  have hq1:AS F c x.p1 x.fl=(F,Av 15):=bx
  rw [hq1]
  exact ⟨none,0,na,nc,ea,ec,oa,oc,rfl,(Sep.tail_un (xs:=[_,_,_,_]) (s3.pk [2,3,4,5,6] rfl)).ownNil 0 9 1⟩
 ·skip
  have hp2:((¬ (x.fl≠0))∨(¬ (x.fl≠1)))∨(¬ (x.fl≠3)):=((IG hc1).imp (fun q=>((IG q).imp (fun q=>(dF q)) (fun q=>(dF q)))) (fun q=>(dF q)))
  refine wcF h19 rfl hc1<|h19.sk [6,5,0,1,2] rfl fun h24=>wp_skip<|hK4 _ _<|sqr fun _ hK7=>mv h24 rfl fun _ h25=>wpList_nil<|hK7 _ _<|sq fun _ hK8=>wp_block ?_
  refine DK (fun (i:Nat) a' w'=>Kn 124 [(7,ν (i:Int)),(6,π g1),(5,π g4),(0,π df),(1,ν c),(2,.agg (cL x).toArray)] a'∧Sep w' [Ah g1 37 zL,Ah g4 30 (cL x),Ah df 51 [.slice na F.N.length nc,.slice ea F.E.length ec,.slice oa F.O.length oc],Ai 0 88 3 na F.N.length nc (F.N.flatMap Ca),Ai 0 114 3 ea F.E.length ec (F.E.flatMap BU),Ai 0 93 3 oa F.O.length oc (F.O.flatMap BQ),Ch.many R]∧(Dt F c=((List.range 8).drop i).find? fun fd:Nat=>(Az F.O c (fd:Int)).isNone)∧(i≤8)) (fun (i:Nat)=>8-i) 0 ⟨h25.subs rfl,s1,rfl,ω⟩ ?_
  rintro i1 a1 w4 ⟨h26,s4,hfr85,hi886⟩ K1 hK9
  refine sq fun _ hK10=>sqr fun _ hK11=>mv h26 rfl fun _ h27=>bv h27 (z:=.bool (decide ((i1:Int)<8))) rfl (cLt _ _ _ _ rfl) fun _ h28=>mv h28 rfl fun _ h29=>sg h29 (wT h29 rfl rfl rfl) rfl rfl rfl (fun hC7=>by have hq:=(dT hC7);exact (Aq h29 rfl rfl) _) fun _ h30=>sg h30 (wT h30 rfl rfl rfl) rfl rfl rfl (fun hC8=>by have hq:=(dT hC8);exact (Aq h30 rfl rfl) _) fun _ h31=>sg h31 (wT h31 rfl rfl rfl) rfl rfl rfl (fun hC9=>by have hq:=(dT hC9);exact (Aq h31 rfl rfl) _) fun _ h32=>?_
  rcases bC (decide ((i1:Int)<8)) with hc2 | hc2
  ·skip
   have hp3:(i1:Int)<8:=(dT hc2)
   rcases bC ((Az F.O c (i1:Int)).isSome) with hc3 | hc3
   ·skip
    obtain ⟨m1,hm1⟩:=Option.isSome_iff_exists.1 hc3
    refine so ((wT h32 rfl rfl rfl).trans hc2) fun _ hK12=>CK h32 rfl rfl rfl (xs:=[.tmp 30,.tmp 31,.tmp 32]) rfl AZ rfl (vs:=[π df,ν c,ν (i1:Int)]) (Gt (opg rfl hc2) (Gt (opg rfl hc2) (Gt (opg rfl hc2) rfl))) (args:=#[π df,ν c,ν (i1:Int)]) rfl (Hy (F:=F) (s4.pk [2,3,4,5,0,1,6] rfl) hz0 hm1) fun _ v2 w5 r2 h33=>hK12 _ _ ?_
    obtain ⟨rfl,s5⟩:=r2
    refine sv h33 ((wT h33 rfl rfl rfl).trans hc2) rfl rfl rfl (BF h33 rfl rfl rfl (cGe _ _ _ _ (decide_eq_true ω))) fun _ h34=>sv1 h34 rfl (BO h34 rfl (E:=(decide ((i1:Int)<8))) (b:=true) rfl hc2 rfl) fun _ h35=>h35.sn [35,7,6,5,0,1,2] rfl fun h36=>hK11 _ _<|wcT h36 rfl rfl<|h36.sk [7,6,5,0,1,2] rfl fun h37=>wp_skip<|hK10 _ _<|wp_block ?_
    refine wp_region_lit<|mv h37 rfl fun _ h38=>bv h38 (z:=ν ((i1+1:Nat):Int)) rfl (DG _ _ _ ω ω ω) fun _ h39=>h39.sk [37,36,6,5,0,1,2] rfl fun h40=>mv h40 rfl fun _ h41=>h41.sk [7,6,5,0,1,2] rfl fun h42=>wpList_nil ?_
    exact hK9 (i1+1) _ _ ⟨h42.subs rfl,(s5.pk [4,5,0,1,2,3,6] rfl),(Ir hfr85 ω hc3),ω⟩ ω
   ·skip
    have hm2:=AG hc3
    refine so ((wT h32 rfl rfl rfl).trans hc2) fun _ hK13=>CK h32 rfl rfl rfl (xs:=[.tmp 30,.tmp 31,.tmp 32]) rfl AZ rfl (vs:=[π df,ν c,ν (i1:Int)]) (Gt (opg rfl hc2) (Gt (opg rfl hc2) (Gt (opg rfl hc2) rfl))) (args:=#[π df,ν c,ν (i1:Int)]) rfl (Jq (F:=F) (s4.pk [2,3,4,5,0,1,6] rfl) hz0 hm2) fun _ v3 w6 r3 h43=>hK13 _ _ ?_
    obtain ⟨rfl,s6⟩:=r3
    refine sv h43 ((wT h43 rfl rfl rfl).trans hc2) rfl rfl rfl (BF h43 rfl rfl rfl (cGe _ _ _ _ rfl)) fun _ h44=>sv1 h44 rfl (BO h44 rfl (E:=(decide ((i1:Int)<8))) (b:=true) rfl hc2 rfl) fun _ h45=>h45.sn [35,7,6,5,0,1,2] rfl fun h46=>hK11 _ _<|wcF h46 rfl rfl<|h46.sk [7,6,5,0,1,2] rfl fun h47=>wp_exit ?_
    refine hK8 _ _ ?_
    refine sqr fun _ hK14=>mv h47 rfl fun _ h48=>fav h48 rfl (Ao _ _) fun _ h49=>ldv h49 s6 5 υ9 rfl rfl rfl rfl fun _ h50=>cl h50 rfl Bk (Ec (F:=F) s6 hz0 hok ω) fun _ v4 w8 r4 h51=>?_
    obtain ⟨rfl,s7⟩:=r4
    have hfl161:=FsC.find_lt (F:=F) (FsOk.toFsC hok) x.p1
    refine mvs 5 h51 rfl fun _ h52=>h52.sn [9,8,7,6,5,0,1,2] rfl fun h53=>hK14 _ _<|sq fun _ hK15=>sqr fun _ hK16=>mv h53 rfl fun _ h54=>bv h54 (z:=.bool (decide ((Ab F x.p1).1=0))) rfl (cEq _ _ _ _ rfl) fun _ h55=>h55.sn [46,9,8,7,6,5,0,1,2] rfl fun h56=>hK16 _ _ ?_
    rcases bC (decide ((Ab F x.p1).1=0)) with hc4 | hc4
    ·skip
     have hp4:(Ab F x.p1).1=0:=(dT hc4)
     refine wcT h56 rfl hc4<|h56.sk [9,8,7,6,5,0,1,2] rfl fun h57=>sq fun _ hK17=>sqr fun _ hK18=>fav h57 rfl (BI _ _) fun _ h58=>ldv h58 s7 5 υ3 rfl rfl rfl rfl fun _ h59=>bv h59 (z:=.bool (decide (x.fl=3))) rfl (cEq _ _ _ _ rfl) fun _ h60=>h60.sn [49,9,8,7,6,5,0,1,2] rfl fun h61=>hK18 _ _ ?_
     rcases bC (decide (x.fl=3)) with hc5 | hc5
     ·skip
      have hp5:x.fl=3:=(dT hc5)
      refine wcT h61 rfl hc5<|h61.sk [9,8,7,6,5,0,1,2] rfl fun h62=>sqr fun _ hK19=>cl h62 rfl Ae (AV s7 11) fun _ v5 w9 r5 h63=>?_
      obtain ⟨rfl,s9⟩:=r5
      refine stA h63 s9 4 rfl rfl rfl κ rfl rfl rfl rfl fun _ w10 h64 s10 _=>h64.sn [9,8,7,6,5,0,1,2] rfl fun h65=>hK19 _ _<|wp_ret ?_
      try simp only [Exit.then,Exit.inBlock]
      refine rC h65 s10 4 Tryz.underlying37 rfl rfl rfl rfl ?_
      have hq2:AS F c x.p1 x.fl=(F,Av 11):=bx
      rw [hq2]
      exact ⟨none,0,na,nc,ea,ec,oa,oc,rfl,(Sep.tail_un (xs:=[_,_,_,_]) (s10.pk [0,1,2,3,6] rfl)).ownNil 0 9 1⟩
     ·skip
      have hp6:¬ (x.fl=3):=(dF hc5)
      refine wcF h61 rfl hc5<|h61.sk [9,8,7,6,5,0,1,2] rfl fun h66=>wp_skip<|hK17 _ _<|sq fun _ hK20=>sqr fun _ hK21=>mvs 2 h66 rfl fun _ h67=>fav h67 rfl (Ak _ _) fun _ h68=>ldv h68 s7 0 υ47 rfl rfl rfl rfl fun _ h69=>mv h69 rfl fun _ h70=>?_
      obtain ⟨q225,hq3⟩:=AT (s7.get 1 rfl:Own _ _ _ _ _ _ _ _)
      refine sv1 h70 rfl (Ay h70 rfl rfl rfl (fun w=>ixO υ47 κ (sz:=3) (hq3 ω) (j:=(Ab F x.p1).2) rfl ω ω w)) fun _ h71=>sv1 h71 rfl (rfa h71 rfl rfl (fun w=>AC q225 (((Ab F x.p1).2)*3) w)) fun _ h72=>sw1 h72 rfl (rld h72 rfl rfl (BJ Bb υ4 rfl (s7.get 1 rfl:Own _ _ _ _ _ _ _ _) (hq3 ω) Ap (j:=((Ab F x.p1).2)) (f:=0) ω (by decide) rfl rfl)) fun _ h73=>h73.sn [58,9,8,7,6,5,0,1,2] rfl fun h74=>hK21 _ _ ?_
      rcases bC ((F.N.getD ((Ab F x.p1).2) Ap).dir) with hc6 | hc6
      ·skip
       refine wcT h74 rfl hc6<|h74.sk [9,8,7,6,5,0,1,2] rfl fun h75=>sqr fun _ hK22=>cl h75 rfl Ae (AV s7 13) fun _ v6 w11 r6 h76=>?_
       obtain ⟨rfl,s11⟩:=r6
       refine stA h76 s11 4 rfl rfl rfl κ rfl rfl rfl rfl fun _ w12 h77 s12 _=>h77.sn [9,8,7,6,5,0,1,2] rfl fun h78=>hK22 _ _<|wp_ret ?_
       try simp only [Exit.then,Exit.inBlock]
       refine rC h78 s12 4 Tryz.underlying37 rfl rfl rfl rfl ?_
       have hq4:AS F c x.p1 x.fl=(F,Av 13):=bx
       rw [hq4]
       exact ⟨none,0,na,nc,ea,ec,oa,oc,rfl,(Sep.tail_un (xs:=[_,_,_,_]) (s12.pk [0,1,2,3,6] rfl)).ownNil 0 9 1⟩
      ·skip
       refine wcF h74 rfl hc6<|h74.sk [9,8,7,6,5,0,1,2] rfl fun h79=>wp_skip<|hK20 _ _<|sq fun _ hK23=>sqr fun _ hK24=>mv h79 rfl fun _ h80=>bv h80 rfl (cEq _ _ _ _ (decide_eq_false ω)) fun _ h81=>h81.sn [61,9,8,7,6,5,0,1,2] rfl fun h82=>hK24 _ _<|wcF h82 rfl rfl<|h82.sk [9,8,7,6,5,0,1,2] rfl fun h83=>?_
       refine wp_skip<|hK23 _ _<|sqr fun _ hK25=>mvs 3 h83 rfl fun _ h84=>fav h84 rfl (AB _ _) fun _ h85=>ldv h85 s7 0 υ49 rfl rfl rfl rfl fun _ h86=>mvs 3 h86 rfl fun _ h87=>bu h87 (v:=.agg #[ν c,ν (i1:Int),ν (((Ab F x.p1).2:Nat):Int)]) rfl (fun w=>κ) fun _ h88=>so (wn rfl) fun _ hK26=>Dd h88 rfl rfl rfl (E:=93) (xs:=[(0,.tmp 71)]) rfl (vs:=[(0,.agg #[ν c,ν (i1:Int),ν (((Ab F x.p1).2:Nat):Int)])]) rfl (z:=[ν c,ν (i1:Int),ν (((Ab F x.p1).2:Nat):Int)]) (fun _=>κ) s7 fun _ g2 w13 h89 s13 _ _=>hK26 _ _ ?_
       refine so (wn rfl) fun _ hK27=>EQ DJ h89 rfl rfl rfl rfl EOp s13 4 rfl rfl 0 (y:=(⟨c,(i1:Int),(Ab F x.p1).2⟩:OpM)) rfl rfl rfl (by decide) ω (L':=F.O++[(⟨c,(i1:Int),(Ab F x.p1).2⟩:OpM)]) rfl fun _ p290 c291 w14 h90 s14=>hK27 _ _ ?_
       have s15:=s14.pk [1,2,3,4,5,6,7] rfl;clear s14
       refine mv h90 rfl fun _ h91=>fav h91 rfl (AB _ _) fun _ h92=>st1 h92 s15 0 rfl rfl κ rfl rfl rfl rfl fun _ w15 h93 s16 _=>h93.sn [9,8,7,6,5,0,1,2] rfl fun h94=>hK25 _ _<|sqr fun _ hK28=>mv h94 rfl fun _ h95=>bu h95 (v:=.agg #[ν 0,ν (i1:Int),σ [],.slice none 0 0,ν 0,ν 0,ν 0]) rfl (fun w=>κ) fun _ h96=>stA h96 s16 4 rfl rfl rfl κ rfl rfl rfl rfl fun _ w16 h97 s17 _=>h97.sk [9,8,7,6,5,0,1,2] rfl fun h98=>?_
       refine wpList_nil<|hK28 _ _<|wp_ret ?_
       try simp only [Exit.then,Exit.inBlock]
       refine rC h98 s17 4 Tryz.underlying37 rfl rfl rfl rfl ?_
       have hfree321:Dt F c=some i1:=IM hfr85 ω hc3
       have hq5:AS F c x.p1 x.fl=(fdF F c i1 (Ab F x.p1).2,fdR i1):=bx
       rw [hq5]
       exact ⟨none,0,na,nc,ea,ec,p290,c291,rfl,(Sep.tail_un (xs:=[_,_,_,_]) (s17.pk [0,1,2,3,6] rfl)).ownNil 0 9 1⟩
    ·skip
     have hp7:¬ ((Ab F x.p1).1=0):=(dF hc4)
     refine wcF h56 rfl hc4<|h56.sk [9,8,7,6,5,0,1,2] rfl fun h99=>wp_skip<|hK15 _ _<|sqr fun _ hK29=>mv h99 rfl fun _ h100=>fav h100 rfl (Ao _ _) fun _ h101=>ldv h101 s7 5 υ9 rfl rfl rfl rfl fun _ h102=>cl h102 rfl AF (Cx (F:=F) s7 hz0 hok ω) fun _ v7 w17 r7 h103=>?_
     obtain ⟨rfl,s18⟩:=r7
     refine mvs 7 h103 rfl fun _ h104=>h104.sn [12,11,10,9,8,7,6,5,0,1,2] rfl fun h105=>hK29 _ _<|sq fun _ hK30=>sqr fun _ hK31=>mv h105 rfl fun _ h106=>bv h106 (z:=.bool (decide ((Ab F x.p1).1≠10))) rfl (cNe _ _ _ _ rfl) fun _ h107=>mv h107 rfl fun _ h108=>sg h108 (wF h108 rfl rfl rfl) rfl rfl rfl (fun hC10=>by have hq:=(dF (AW hC10));exact (Aq h108 rfl rfl) _) fun _ h109=>sg h109 (wF h109 rfl rfl rfl) rfl rfl rfl (fun hC11=>by have hq:=(dF (AW hC11));exact (BF h109 rfl (opg rfl hC11) rfl (cNe _ _ _ _ rfl)) _) fun _ h110=>sv1 h110 rfl (Ds h110 rfl (E:=(decide ((Ab F x.p1).1≠10))) (F:=(decide ((Aa F x.p1).1≠0))) rfl rfl rfl (fun e=>if_pos (by rw [e];try rfl))) fun _ h111=>?_
     refine mv h111 rfl fun _ h112=>sg h112 (wF h112 rfl rfl rfl) rfl rfl rfl (fun hC12=>by have hq:=(And.intro (dF (orF (AW hC12)).1) (dF (orF (AW hC12)).2));exact (rfa h112 rfl rfl (fun w=>BI g4 0 w)) _) fun _ h113=>sg h113 (wF h113 rfl rfl rfl) rfl rfl rfl (fun hC13=>by have hq:=(And.intro (dF (orF (AW hC13)).1) (dF (orF (AW hC13)).2));exact (rld h113 rfl (opg rfl hC13) (ldB υ3 rfl (s18.get 5 rfl:Blk _ _ _ _) rfl))) fun _ h114=>sg h114 (wF h114 rfl rfl rfl) rfl rfl rfl (fun hC14=>by have hq:=(And.intro (dF (orF (AW hC14)).1) (dF (orF (AW hC14)).2));exact (BF h114 rfl (opg rfl hC14) rfl (cEq _ _ _ _ rfl)) _) fun _ h115=>sv1 h115 rfl (Ds h115 rfl (E:=((decide ((Ab F x.p1).1≠10))||(decide ((Aa F x.p1).1≠0)))) (F:=(decide (x.fl=0))) rfl rfl rfl (fun e=>if_pos (by rw [e];try rfl))) fun _ h116=>h116.sn [96,12,11,10,9,8,7,6,5,0,1,2] rfl fun h117=>hK31 _ _ ?_
     rcases bC (((decide ((Ab F x.p1).1≠10))||(decide ((Aa F x.p1).1≠0)))||(decide (x.fl=0))) with hc7 | hc7
     ·skip
      have hp8:(((Ab F x.p1).1≠10)∨((Aa F x.p1).1≠0))∨(x.fl=0):=((orT hc7).imp (fun q=>((orT q).imp (fun q=>(dT q)) (fun q=>(dT q)))) (fun q=>(dT q)))
      refine wcT h117 rfl hc7<|h117.sk [12,11,10,9,8,7,6,5,0,1,2] rfl fun h118=>sqr fun _ hK32=>mv h118 rfl fun _ h119=>cl h119 rfl Ae (AV s18 ((Ab F x.p1).1)) fun _ v8 w18 r8 h120=>?_
      obtain ⟨rfl,s19⟩:=r8
      refine stA h120 s19 4 rfl rfl rfl κ rfl rfl rfl rfl fun _ w19 h121 s20 _=>h121.sn [12,11,10,9,8,7,6,5,0,1,2] rfl fun h122=>hK32 _ _<|wp_ret ?_
      try simp only [Exit.then,Exit.inBlock]
      refine rC h122 s20 4 Tryz.underlying37 rfl rfl rfl rfl ?_
      have hq6:AS F c x.p1 x.fl=(F,Av (Ab F x.p1).1):=bx
      rw [hq6]
      exact ⟨none,0,na,nc,ea,ec,oa,oc,rfl,(Sep.tail_un (xs:=[_,_,_,_]) (s20.pk [0,1,2,3,6] rfl)).ownNil 0 9 1⟩
     ·skip
      have hp9:((¬ ((Ab F x.p1).1≠10))∧(¬ ((Aa F x.p1).1≠0)))∧(¬ (x.fl=0)):=(And.intro (And.intro (dF (orF (orF hc7).1).1) (dF (orF (orF hc7).1).2)) (dF (orF hc7).2))
      refine wcF h117 rfl hc7<|h117.sk [12,11,10,9,8,7,6,5,0,1,2] rfl fun h123=>wp_skip<|hK30 _ _<|sq fun _ hK33=>sqr fun _ hK34=>mv h123 rfl fun _ h124=>bv h124 rfl (cEq _ _ _ _ (decide_eq_false ω)) fun _ h125=>h125.sn [100,12,11,10,9,8,7,6,5,0,1,2] rfl fun h126=>hK34 _ _<|wcF h126 rfl rfl<|h126.sk [12,11,10,9,8,7,6,5,0,1,2] rfl fun h127=>?_
      refine wp_skip<|hK33 _ _<|sqr fun _ hK35=>mv h127 rfl fun _ h128=>cl h128 rfl Ez (Rh (F:=F) s18 hz0 false) fun _ v9 w20 r9 h129=>?_
      obtain ⟨nax418,ncx419,eax420,ecx421,oax422,ocx423,rfl,s21⟩:=r9
      have hN431:(AH F false).N.length=F.N.length+1:=List.length_append
      have hO432:(AH F false).O.length=F.O.length:=rfl
      refine h129.sk [103,102,12,11,10,9,7,6,5,0,1,2] rfl fun h130=>mv h130 rfl fun _ h131=>h131.sn [8,12,11,10,9,7,6,5,0,1,2] rfl fun h132=>hK35 _ _<|sqr fun _ hK36=>mvs 4 h132 rfl fun _ h133=>cl h133 rfl Bo (IW (F:=(AH F false)) s21 (SmS.node hs false) ((Aa F x.p1).2.1) ((Aa F x.p1).2.2) F.N.length) fun _ v10 w21 r10 h134=>?_
      obtain ⟨nax446,ncx447,eax448,ecx449,oax450,ocx451,rfl,s22⟩:=r10
      have hN459:(Br (AH F false) ((Aa F x.p1).2.1) ((Aa F x.p1).2.2) F.N.length).N.length=(AH F false).N.length:=rfl
      have hO460:(Br (AH F false) ((Aa F x.p1).2.1) ((Aa F x.p1).2.2) F.N.length).O.length=(AH F false).O.length:=rfl
      refine h134.sn [8,12,11,10,9,7,6,5,0,1,2] rfl fun h135=>hK36 _ _<|sqr fun _ hK37=>mvs 3 h135 rfl fun _ h136=>fav h136 rfl (AB _ _) fun _ h137=>ldv h137 s22 0 υ49 rfl rfl rfl rfl fun _ h138=>mvs 3 h138 rfl fun _ h139=>bu h139 (v:=.agg #[ν c,ν (i1:Int),ν ((F.N.length:Nat):Int)]) rfl (fun w=>κ) fun _ h140=>so (wn rfl) fun _ hK38=>Dd h140 rfl rfl rfl (E:=93) (xs:=[(0,.tmp 117)]) rfl (vs:=[(0,.agg #[ν c,ν (i1:Int),ν ((F.N.length:Nat):Int)])]) rfl (z:=[ν c,ν (i1:Int),ν ((F.N.length:Nat):Int)]) (fun _=>κ) s22 fun _ g3 w22 h141 s23 _ _=>hK38 _ _ ?_
      refine so (wn rfl) fun _ hK39=>EQ DJ h141 rfl rfl rfl rfl EOp s23 4 rfl rfl 0 (y:=(⟨c,(i1:Int),F.N.length⟩:OpM)) rfl rfl rfl (by decide) ω (L':=(Br (AH F false) ((Aa F x.p1).2.1) ((Aa F x.p1).2.2) F.N.length).O++[(⟨c,(i1:Int),F.N.length⟩:OpM)]) rfl fun _ p489 c490 w23 h142 s24=>hK39 _ _ ?_
      have s25:=s24.pk [1,2,3,4,5,6,7] rfl;clear s24
      refine mv h142 rfl fun _ h143=>fav h143 rfl (AB _ _) fun _ h144=>st1 h144 s25 0 rfl rfl κ rfl rfl rfl rfl fun _ w24 h145 s26 _=>h145.sn [8,12,11,10,9,7,6,5,0,1,2] rfl fun h146=>hK37 _ _<|sqr fun _ hK40=>mv h146 rfl fun _ h147=>bu h147 (v:=.agg #[ν 0,ν (i1:Int),σ [],.slice none 0 0,ν 0,ν 0,ν 0]) rfl (fun w=>κ) fun _ h148=>stA h148 s26 4 rfl rfl rfl κ rfl rfl rfl rfl fun _ w25 h149 s27 _=>h149.sk [8,12,11,10,9,7,6,5,0,1,2] rfl fun h150=>?_
      refine wpList_nil<|hK40 _ _<|wp_ret ?_
      try simp only [Exit.then,Exit.inBlock]
      refine rC h150 s27 4 υ37 rfl rfl rfl rfl ?_
      have hfree520:Dt F c=some i1:=IM hfr85 ω hc3
      have hq7:AS F c x.p1 x.fl=(fdF (Br (AH F false) (Aa F x.p1).2.1 (Aa F x.p1).2.2 F.N.length) c i1 F.N.length,fdR i1):=bx
      rw [hq7]
      exact ⟨none,0,nax446,ncx447,eax448,ecx449,p489,c490,rfl,(Sep.tail_un (xs:=[_,_,_,_]) (s27.pk [0,1,2,3,6] rfl)).ownNil 0 9 1⟩
  ·skip
   have hp10:¬ ((i1:Int)<8):=(dF hc2)
   refine su h32 ((wT h32 rfl rfl rfl).trans hc2) rfl rfl rfl fun _ h151=>su h151 ((wT h151 rfl rfl rfl).trans hc2) rfl rfl rfl fun _ h152=>sv1 h152 rfl (BO h152 rfl (E:=(decide ((i1:Int)<8))) (b:=false) rfl hc2 rfl) fun _ h153=>h153.sn [35,7,6,5,0,1,2] rfl fun h154=>hK11 _ _<|wcF h154 rfl rfl<|h154.sk [7,6,5,0,1,2] rfl fun h155=>wp_exit ?_
   refine hK8 _ _ ?_
   refine sqr fun _ hK41=>mv h155 rfl fun _ h156=>fav h156 rfl (Ao _ _) fun _ h157=>ldv h157 s4 1 υ9 rfl rfl rfl rfl fun _ h158=>cl h158 rfl Bk (Ec (F:=F) (s4.pk [2,3,4,5,0,1,6] rfl) hz0 hok ω) fun _ v11 w26 r11 h159=>?_
   obtain ⟨rfl,s28⟩:=r11
   have hfl545:=FsC.find_lt (F:=F) (FsOk.toFsC hok) x.p1
   refine mvs 5 h159 rfl fun _ h160=>h160.sn [9,8,7,6,5,0,1,2] rfl fun h161=>hK41 _ _<|sq fun _ hK42=>sqr fun _ hK43=>mv h161 rfl fun _ h162=>bv h162 (z:=.bool (decide ((Ab F x.p1).1=0))) rfl (cEq _ _ _ _ rfl) fun _ h163=>h163.sn [46,9,8,7,6,5,0,1,2] rfl fun h164=>hK43 _ _ ?_
   rcases bC (decide ((Ab F x.p1).1=0)) with hc8 | hc8
   ·skip
    have hp11:(Ab F x.p1).1=0:=(dT hc8)
    refine wcT h164 rfl hc8<|h164.sk [9,8,7,6,5,0,1,2] rfl fun h165=>sq fun _ hK44=>sqr fun _ hK45=>fav h165 rfl (BI _ _) fun _ h166=>ldv h166 s28 5 υ3 rfl rfl rfl rfl fun _ h167=>bv h167 (z:=.bool (decide (x.fl=3))) rfl (cEq _ _ _ _ rfl) fun _ h168=>h168.sn [49,9,8,7,6,5,0,1,2] rfl fun h169=>hK45 _ _ ?_
    rcases bC (decide (x.fl=3)) with hc9 | hc9
    ·skip
     have hp12:x.fl=3:=(dT hc9)
     refine wcT h169 rfl hc9<|h169.sk [9,8,7,6,5,0,1,2] rfl fun h170=>sqr fun _ hK46=>cl h170 rfl Ae (AV s28 11) fun _ v12 w27 r12 h171=>?_
     obtain ⟨rfl,s29⟩:=r12
     refine stA h171 s29 4 rfl rfl rfl κ rfl rfl rfl rfl fun _ w28 h172 s30 _=>h172.sn [9,8,7,6,5,0,1,2] rfl fun h173=>hK46 _ _<|wp_ret ?_
     try simp only [Exit.then,Exit.inBlock]
     refine rC h173 s30 4 υ37 rfl rfl rfl rfl ?_
     have hq8:AS F c x.p1 x.fl=(F,Av 11):=bx
     rw [hq8]
     exact ⟨none,0,na,nc,ea,ec,oa,oc,rfl,(Sep.tail_un (xs:=[_,_,_,_]) (s30.pk [0,1,2,3,6] rfl)).ownNil 0 9 1⟩
    ·skip
     have hp13:¬ (x.fl=3):=(dF hc9)
     refine wcF h169 rfl hc9<|h169.sk [9,8,7,6,5,0,1,2] rfl fun h174=>wp_skip<|hK44 _ _<|sq fun _ hK47=>sqr fun _ hK48=>mvs 2 h174 rfl fun _ h175=>fav h175 rfl (Ak _ _) fun _ h176=>ldv h176 s28 0 υ47 rfl rfl rfl rfl fun _ h177=>mv h177 rfl fun _ h178=>?_
     obtain ⟨q609,hq9⟩:=AT (s28.get 1 rfl:Own _ _ _ _ _ _ _ _)
     refine sv1 h178 rfl (Ay h178 rfl rfl rfl (fun w=>ixO υ47 κ (sz:=3) (hq9 ω) (j:=(Ab F x.p1).2) rfl ω ω w)) fun _ h179=>sv1 h179 rfl (rfa h179 rfl rfl (fun w=>AC q609 (((Ab F x.p1).2)*3) w)) fun _ h180=>sw1 h180 rfl (rld h180 rfl rfl (BJ Bb υ4 rfl (s28.get 1 rfl:Own _ _ _ _ _ _ _ _) (hq9 ω) Ap (j:=((Ab F x.p1).2)) (f:=0) ω (by decide) rfl rfl)) fun _ h181=>h181.sn [58,9,8,7,6,5,0,1,2] rfl fun h182=>hK48 _ _ ?_
     rcases bC ((F.N.getD ((Ab F x.p1).2) Ap).dir) with hc10 | hc10
     ·skip
      refine wcT h182 rfl hc10<|h182.sk [9,8,7,6,5,0,1,2] rfl fun h183=>sqr fun _ hK49=>cl h183 rfl Ae (AV s28 13) fun _ v13 w29 r13 h184=>?_
      obtain ⟨rfl,s31⟩:=r13
      refine stA h184 s31 4 rfl rfl rfl κ rfl rfl rfl rfl fun _ w30 h185 s32 _=>h185.sn [9,8,7,6,5,0,1,2] rfl fun h186=>hK49 _ _<|wp_ret ?_
      try simp only [Exit.then,Exit.inBlock]
      refine rC h186 s32 4 Tryz.underlying37 rfl rfl rfl rfl ?_
      have hq10:AS F c x.p1 x.fl=(F,Av 13):=bx
      rw [hq10]
      exact ⟨none,0,na,nc,ea,ec,oa,oc,rfl,(Sep.tail_un (xs:=[_,_,_,_]) (s32.pk [0,1,2,3,6] rfl)).ownNil 0 9 1⟩
     ·skip
      refine wcF h182 rfl hc10<|h182.sk [9,8,7,6,5,0,1,2] rfl fun h187=>wp_skip<|hK47 _ _<|sq fun _ hK50=>sqr fun _ hK51=>mv h187 rfl fun _ h188=>bv h188 rfl (cEq _ _ _ _ (decide_eq_true ω)) fun _ h189=>h189.sn [61,9,8,7,6,5,0,1,2] rfl fun h190=>hK51 _ _<|wcT h190 rfl rfl<|h190.sk [9,8,7,6,5,0,1,2] rfl fun h191=>?_
      refine sqr fun _ hK52=>cl h191 rfl Ae (AV s28 17) fun _ v14 w31 r14 h192=>?_
      obtain ⟨rfl,s33⟩:=r14
      refine stA h192 s33 4 rfl rfl rfl κ rfl rfl rfl rfl fun _ w32 h193 s34 _=>h193.sn [9,8,7,6,5,0,1,2] rfl fun h194=>hK52 _ _<|wp_ret ?_
      try simp only [Exit.then,Exit.inBlock]
      refine rC h194 s34 4 Tryz.underlying37 rfl rfl rfl rfl ?_
      have hfree662:Dt F c=none:=Iq hfr85 ω
      have hq11:AS F c x.p1 x.fl=(F,Av 17):=bx
      rw [hq11]
      exact ⟨none,0,na,nc,ea,ec,oa,oc,rfl,(Sep.tail_un (xs:=[_,_,_,_]) (s34.pk [0,1,2,3,6] rfl)).ownNil 0 9 1⟩
   ·skip
    have hp14:¬ ((Ab F x.p1).1=0):=(dF hc8)
    refine wcF h164 rfl hc8<|h164.sk [9,8,7,6,5,0,1,2] rfl fun h195=>wp_skip<|hK42 _ _<|sqr fun _ hK53=>mv h195 rfl fun _ h196=>fav h196 rfl (Ao _ _) fun _ h197=>ldv h197 s28 5 υ9 rfl rfl rfl rfl fun _ h198=>cl h198 rfl AF (Cx (F:=F) s28 hz0 hok ω) fun _ v15 w33 r15 h199=>?_
    obtain ⟨rfl,s35⟩:=r15
    refine mvs 7 h199 rfl fun _ h200=>h200.sn [12,11,10,9,8,7,6,5,0,1,2] rfl fun h201=>hK53 _ _<|sq fun _ hK54=>sqr fun _ hK55=>mv h201 rfl fun _ h202=>bv h202 (z:=.bool (decide ((Ab F x.p1).1≠10))) rfl (cNe _ _ _ _ rfl) fun _ h203=>mv h203 rfl fun _ h204=>sg h204 (wF h204 rfl rfl rfl) rfl rfl rfl (fun hC15=>by have hq:=(dF (AW hC15));exact (Aq h204 rfl rfl) _) fun _ h205=>sg h205 (wF h205 rfl rfl rfl) rfl rfl rfl (fun hC16=>by have hq:=(dF (AW hC16));exact (BF h205 rfl (opg rfl hC16) rfl (cNe _ _ _ _ rfl)) _) fun _ h206=>sv1 h206 rfl (Ds h206 rfl (E:=(decide ((Ab F x.p1).1≠10))) (F:=(decide ((Aa F x.p1).1≠0))) rfl rfl rfl (fun e=>if_pos (by rw [e];try rfl))) fun _ h207=>?_
    refine mv h207 rfl fun _ h208=>sg h208 (wF h208 rfl rfl rfl) rfl rfl rfl (fun hC17=>by have hq:=(And.intro (dF (orF (AW hC17)).1) (dF (orF (AW hC17)).2));exact (rfa h208 rfl rfl (fun w=>BI g4 0 w)) _) fun _ h209=>sg h209 (wF h209 rfl rfl rfl) rfl rfl rfl (fun hC18=>by have hq:=(And.intro (dF (orF (AW hC18)).1) (dF (orF (AW hC18)).2));exact (rld h209 rfl (opg rfl hC18) (ldB υ3 rfl (s35.get 5 rfl:Blk _ _ _ _) rfl))) fun _ h210=>sg h210 (wF h210 rfl rfl rfl) rfl rfl rfl (fun hC19=>by have hq:=(And.intro (dF (orF (AW hC19)).1) (dF (orF (AW hC19)).2));exact (BF h210 rfl (opg rfl hC19) rfl (cEq _ _ _ _ rfl)) _) fun _ h211=>sv1 h211 rfl (Ds h211 rfl (E:=((decide ((Ab F x.p1).1≠10))||(decide ((Aa F x.p1).1≠0)))) (F:=(decide (x.fl=0))) rfl rfl rfl (fun e=>if_pos (by rw [e];try rfl))) fun _ h212=>h212.sn [96,12,11,10,9,8,7,6,5,0,1,2] rfl fun h213=>hK55 _ _ ?_
    rcases bC (((decide ((Ab F x.p1).1≠10))||(decide ((Aa F x.p1).1≠0)))||(decide (x.fl=0))) with hc11 | hc11
    ·skip
     have hp15:(((Ab F x.p1).1≠10)∨((Aa F x.p1).1≠0))∨(x.fl=0):=((orT hc11).imp (fun q=>((orT q).imp (fun q=>(dT q)) (fun q=>(dT q)))) (fun q=>(dT q)))
     refine wcT h213 rfl hc11<|h213.sk [12,11,10,9,8,7,6,5,0,1,2] rfl fun h214=>sqr fun _ hK56=>mv h214 rfl fun _ h215=>cl h215 rfl Ae (AV s35 ((Ab F x.p1).1)) fun _ v16 w34 r16 h216=>?_
     obtain ⟨rfl,s36⟩:=r16
     refine stA h216 s36 4 rfl rfl rfl κ rfl rfl rfl rfl fun _ w35 h217 s37 _=>h217.sn [12,11,10,9,8,7,6,5,0,1,2] rfl fun h218=>hK56 _ _<|wp_ret ?_
     try simp only [Exit.then,Exit.inBlock]
     refine rC h218 s37 4 υ37 rfl rfl rfl rfl ?_
     have hq12:AS F c x.p1 x.fl=(F,Av (Ab F x.p1).1):=bx
     rw [hq12]
     exact ⟨none,0,na,nc,ea,ec,oa,oc,rfl,(Sep.tail_un (xs:=[_,_,_,_]) (s37.pk [0,1,2,3,6] rfl)).ownNil 0 9 1⟩
    ·skip
     have hp16:((¬ ((Ab F x.p1).1≠10))∧(¬ ((Aa F x.p1).1≠0)))∧(¬ (x.fl=0)):=(And.intro (And.intro (dF (orF (orF hc11).1).1) (dF (orF (orF hc11).1).2)) (dF (orF hc11).2))
     refine wcF h213 rfl hc11<|h213.sk [12,11,10,9,8,7,6,5,0,1,2] rfl fun h219=>wp_skip<|hK54 _ _<|sq fun _ hK57=>sqr fun _ hK58=>mv h219 rfl fun _ h220=>bv h220 rfl (cEq _ _ _ _ (decide_eq_true ω)) fun _ h221=>h221.sn [100,12,11,10,9,8,7,6,5,0,1,2] rfl fun h222=>hK58 _ _<|wcT h222 rfl rfl<|h222.sk [12,11,10,9,8,7,6,5,0,1,2] rfl fun h223=>?_
     refine sqr fun _ hK59=>cl h223 rfl Ae (AV s35 17) fun _ v17 w36 r17 h224=>?_
     obtain ⟨rfl,s38⟩:=r17
     refine stA h224 s38 4 rfl rfl rfl κ rfl rfl rfl rfl fun _ w37 h225 s39 _=>h225.sn [12,11,10,9,8,7,6,5,0,1,2] rfl fun h226=>hK59 _ _<|wp_ret ?_
     try simp only [Exit.then,Exit.inBlock]
     refine rC h226 s39 4 υ37 rfl rfl rfl rfl ?_
     have hfree771:Dt F c=none:=Iq hfr85 ω
     have hq13:AS F c x.p1 x.fl=(F,Av 17):=bx
     rw [hq13]
     exact ⟨none,0,na,nc,ea,ec,oa,oc,rfl,(Sep.tail_un (xs:=[_,_,_,_]) (s39.pk [0,1,2,3,6] rfl)).ownNil 0 9 1⟩
theorem Nq {w:World} {df:Nat} {na ea oa:Option Addr} {nc ec oc:Nat} {F:FsM} {R:List Ch} {c:Int} {x:CallM} (hS0:Sep w ((dP df na nc ea ec oa oc F)++R)) (hs:SmS F) (hok:FsOk F) (h1:x.p1.length≤1000) (h2:x.p2.length≤1000) (h3:x.data.length≤1000) (hk:x.kind=2) {m:Nat} (hm:Az F.O c x.fd=some m) :
  CallsR Tryz.prog 34 #[π df,ν c,ν (m:Int),.agg (cL x).toArray] w (fun v w'=>∃ sa sc na' nc' ea' ec' oa' oc',v=DD (BK F c x.fd).2 sa sc∧Sep w' (Ai 0 9 1 sa (BK F c x.fd).2.names.length sc ((BK F c x.fd).2.names.flatMap sE)::[Ah df 51 [.slice na' (((BK F c x.fd).1).N.length) nc',.slice ea' (((BK F c x.fd).1).E.length) ec',.slice oa' (((BK F c x.fd).1).O.length) oc'],Ai 0 88 3 na' (((BK F c x.fd).1).N).length nc' ((((BK F c x.fd).1).N).flatMap Ca),Ai 0 114 3 ea' (((BK F c x.fd).1).E).length ec' ((((BK F c x.fd).1).E).flatMap BU),Ai 0 93 3 oa' (((BK F c x.fd).1).O).length oc' ((((BK F c x.fd).1).O).flatMap BQ)]++R)):=by
 have hS:=Sep.tail_many (xs:=dP df na nc ea ec oa oc F) hS0;clear hS0
 have hz:SmF F:=hs.sm
 have hz0:=hz;obtain ⟨hz1,hz2,hz3⟩:F.N.length≤1000∧F.E.length≤1000∧F.O.length≤1000:=hz
 obtain ⟨hml,hmd⟩:=hok.toFsC.look_fd hm
 have hdl:(F.N.getD m Ap).data.length≤256:=(hok.k m hml).1
 refine AE Tryz.func34 rfl (N:=196) Tryz.ntmps34 (by show 4≤196;decide) [(0,π df),(1,ν c),(2,ν (m:Int)),(3,.agg (cL x).toArray)] rfl fun _ h1=>sqr fun _ hK3=>so (wn rfl) fun _ hK1=>Dc h1 rfl rfl rfl rfl rfl (z:=(cL x)) rfl hS fun _ g4 w7 h5 s8 _ _=>hK1 _ _ ?_
 refine so (wn rfl) fun _ hK2=>BE h5 rfl rfl rfl rfl (z:=zL) (fun _=>rfl) s8 fun _ g1 w2 h4 s1 _ _=>hK2 _ _ ?_
 refine wpList_nil<|hK3 _ _<|sqr fun _ hK4=>mvs 2 h4 rfl fun _ h6=>fav h6 rfl (Ak _ _) fun _ h7=>ldv h7 s1 2 υ47 rfl rfl rfl rfl fun _ h8=>mv h8 rfl fun _ h9=>?_
 obtain ⟨q31,hq1⟩:=AT (s1.get 3 rfl:Own _ _ _ _ _ _ _ _)
 refine sv1 h9 rfl (Ay h9 rfl rfl rfl (fun w=>ixO υ47 κ (sz:=3) (hq1 ω) (j:=m) rfl ω ω w)) fun _ h10=>sv1 h10 rfl (rfa h10 rfl rfl (fun w=>Bp q31 (m*3) w)) fun _ h11=>sw1 h11 rfl (rld h11 rfl rfl (BJ Bb υ9 rfl (s1.get 3 rfl:Own _ _ _ _ _ _ _ _) (hq1 ω) Ap (j:=m) (f:=1) ω (by decide) rfl rfl)) fun _ h12=>mv h12 rfl fun _ h13=>h13.sn [9,8,7,0,1,2,3] rfl fun h14=>hK4 _ _<|sq fun _ hK5=>sqr fun _ hK6=>fav h14 rfl (CG _ _) fun _ h15=>ldv h15 s1 1 υ3 rfl rfl rfl rfl fun _ h16=>h16.sk [24,9,8,7,0,1,2,3] rfl fun h17=>?_
 refine wpList_nil<|hK6 _ _<|wp_block ?_
 refine sqr fun _ hK7=>bv h17 rfl (cEq _ _ _ _ (decide_eq_true ω)) fun _ h18=>mv h18 rfl fun _ h19=>h19.sn [25,24,9,8,7,0,1,2,3] rfl fun h20=>hK7 _ _<|wcT h20 rfl rfl<|h20.sk [24,9,8,7,0,1,2,3] rfl fun h21=>sqr fun _ hK8=>mv h21 rfl fun _ h22=>wpList_nil<|hK8 _ _ ?_
 refine sq fun _ hK9=>sqr fun _ hK10=>mv h22 rfl fun _ h23=>wpList_nil<|hK10 _ _<|wp_block ?_
 have s2:=s1.ownNil 0 93 3
 refine Fj (fun (i:Nat) (ra:Option Addr) (rc:Nat) a' w'=>Kn 196 [(11,ν (i:Int)),(10,.slice ra ((Df (F.O.take i) c x.fd).length) rc),(24,ν x.kind),(9,σ ((F.N.getD m Ap).data)),(8,π g1),(7,π g4),(0,π df),(1,ν c),(2,ν (m:Int)),(3,.agg (cL x).toArray)] a'∧Sep w' [Ai 0 93 3 ra (Df (F.O.take i) c x.fd).length rc ((Df (F.O.take i) c x.fd).flatMap BQ),Ah g1 37 zL,Ah g4 30 (cL x),Ah df 51 [.slice na F.N.length nc,.slice ea F.E.length ec,.slice oa F.O.length oc],Ai 0 88 3 na F.N.length nc (F.N.flatMap Ca),Ai 0 114 3 ea F.E.length ec (F.E.flatMap BU),Ai 0 93 3 oa F.O.length oc (F.O.flatMap BQ),Ch.many R]∧((Df (F.O.take i) c x.fd).length≤i)) (fun (i:Nat) (ra:Option Addr) (rc:Nat)=>F.O.length-i) 0 none 0 ⟨h23.subs rfl,s2,Nat.le_refl 0⟩ ?_
 rintro i1 ra71 rc72 a1 w3 ⟨h24,s3,hrl69⟩ K1 hK11
 refine sq fun _ hK12=>sqr fun _ hK13=>mvs 3 h24 rfl fun _ h25=>fav h25 rfl (AB _ _) fun _ h26=>ldv h26 s3 3 υ49 rfl rfl rfl rfl fun _ h27=>sv1 h27 rfl (CR h27 rfl rfl υ49) fun _ h28=>bv h28 (z:=.bool (decide ((i1:Int)<(F.O.length:Int)))) rfl (cLt _ _ _ _ rfl) fun _ h29=>h29.sn [33,11,10,24,9,8,7,0,1,2,3] rfl fun h30=>hK13 _ _ ?_
 rcases bC (decide ((i1:Int)<(F.O.length:Int))) with hc1 | hc1
 ·skip
  have hp1:(i1:Int)<(F.O.length:Int):=(dT hc1)
  refine wcT h30 rfl hc1<|h30.sk [11,10,24,9,8,7,0,1,2,3] rfl fun h31=>wp_skip<|hK12 _ _<|sq fun _ hK14=>wp_block ?_
  refine sq fun _ hK15=>?_
  have s4:=s3.drew
  refine wp_region_held_drew (S:=fun w'=>Sep w' [Ai 0 93 3 ra71 (Df (F.O.take i1) c x.fd).length rc72 ((Df (F.O.take i1) c x.fd).flatMap BQ),Ah g1 37 zL,Ah g4 30 (cL x),Ah df 51 [.slice na F.N.length nc,.slice ea F.E.length ec,.slice oa F.O.length oc],Ai 0 88 3 na F.N.length nc (F.N.flatMap Ca),Ai 0 114 3 ea F.E.length ec (F.E.flatMap BU),Ai 0 93 3 oa F.O.length oc (F.O.flatMap BQ),Ch.many R]) κ s4 (fun hq2=>?_)
  refine tv1 hq2 h31 0 rfl rfl (fun w1 _=>(Aq h31 rfl rfl) w1) fun _ h32=>?_
  refine tv1 hq2 h32 1 rfl rfl (fun w1 _=>(CJ h32 rfl rfl) w1) fun _ h33=>?_
  refine tv1 hq2 h33 2 rfl rfl (fun w1 _=>(rfa h33 rfl rfl (fun w=>AB df 0 w)) w1) fun _ h34=>?_
  refine tv1 hq2 h34 3 rfl rfl (fun w1 hSw=>(rld h34 rfl rfl (ldB υ49 rfl (hSw.get 3 rfl:Blk _ _ _ _) rfl))) fun _ h35=>?_
  refine tv1 hq2 h35 4 rfl rfl (fun w1 _=>(Aq h35 rfl rfl) w1) fun _ h36=>?_
  obtain ⟨q107,hq3⟩:=AT (s4.get 6 rfl:Own _ _ _ _ _ _ _ _)
  refine tv1 hq2 h36 5 rfl rfl (v:=.pointer (some ⟨q107,i1*3,none⟩)) (fun w1 _=>(Ay h36 rfl rfl rfl (fun w=>ixO υ49 κ (sz:=3) (hq3 ω) (j:=i1) rfl ω ω w)) w1) fun _ h37=>?_
  refine tv1 hq2 h37 6 rfl rfl (fun w1 _=>(rfa h37 rfl rfl (fun w=>DH q107 (i1*3) w)) w1) fun _ h38=>?_
  refine tv1 hq2 h38 7 rfl rfl (fun w1 hSw=>(rld h38 rfl rfl (BJ DJ υ3 rfl (hSw.get 6 rfl:Own _ _ _ _ _ _ _ _) (hq3 ω) BL (j:=i1) (f:=0) ω (by decide) rfl rfl))) fun _ h39=>?_
  refine tv1 hq2 h39 8 rfl rfl (fun w1 _=>(Aq h39 rfl rfl) w1) fun _ h40=>?_
  refine tv1 hq2 h40 9 rfl rfl (fun w1 _=>(BF h40 rfl rfl rfl (cNe _ _ _ _ rfl)) w1) fun _ h41=>?_
  refine tv1 hq2 h41 10 rfl rfl (fun w1 _=>(Aq h41 rfl rfl) w1) fun _ h42=>?_
  refine tgv hq2 h42 11 rfl rfl rfl rfl κ κ κ (fun _ _ _ _ h=>h) (wF h42 rfl rfl rfl) (v:=π df) (fun w1 hSw hC1=>by have hq:=(dF (AW hC1));exact (Aq h42 rfl rfl) w1) fun _ h43=>?_
  refine tgv hq2 h43 12 rfl rfl rfl rfl κ κ κ (fun _ _ _ _ h=>h) (wF h43 rfl rfl rfl) (v:=π df) (fun w1 hSw hC2=>by have hq:=(dF (AW hC2));exact (CJ h43 rfl (opg rfl hC2)) w1) fun _ h44=>?_
  refine tgv hq2 h44 13 rfl rfl rfl rfl κ κ κ (fun _ _ _ _ h=>h) (wF h44 rfl rfl rfl) (v:=.pointer (some ⟨df,2,none⟩)) (fun w1 hSw hC3=>by have hq:=(dF (AW hC3));exact (rfa h44 rfl (opg rfl hC3) (fun w=>AB df 0 w)) w1) fun _ h45=>?_
  refine tgv hq2 h45 14 rfl rfl rfl rfl κ κ κ (fun _ _ _ _ h=>h) (wF h45 rfl rfl rfl) (v:=.slice oa F.O.length oc) (fun w1 hSw hC4=>by have hq:=(dF (AW hC4));exact (rld h45 rfl (opg rfl hC4) (ldB υ49 rfl (hSw.get 3 rfl:Blk _ _ _ _) rfl))) fun _ h46=>?_
  refine tgv hq2 h46 15 rfl rfl rfl rfl κ κ κ (fun _ _ _ _ h=>h) (wF h46 rfl rfl rfl) (v:=ν (i1:Int)) (fun w1 hSw hC5=>by have hq:=(dF (AW hC5));exact (Aq h46 rfl rfl) w1) fun _ h47=>?_
  refine tgv hq2 h47 16 rfl rfl rfl rfl κ κ κ (fun _ _ _ _ h=>h) (wF h47 rfl rfl rfl) (v:=.pointer (some ⟨q107,i1*3,none⟩)) (fun w1 hSw hC6=>by have hq:=(dF (AW hC6));exact (Ay h47 rfl (opg rfl hC6) (opg rfl hC6) (fun w=>ixO υ49 κ (sz:=3) (hq3 ω) (j:=i1) rfl ω ω w)) w1) fun _ h48=>?_
  refine tgv hq2 h48 17 rfl rfl rfl rfl κ κ κ (fun _ _ _ _ h=>h) (wF h48 rfl rfl rfl) (v:=.pointer (some ⟨q107,i1*3+1,none⟩)) (fun w1 hSw hC7=>by have hq:=(dF (AW hC7));exact (rfa h48 rfl (opg rfl hC7) (fun w=>EI q107 (i1*3) w)) w1) fun _ h49=>?_
  refine tgv hq2 h49 18 rfl rfl rfl rfl κ κ κ (fun _ _ _ _ h=>h) (wF h49 rfl rfl rfl) (v:=ν ((F.O.getD i1 BL).fd)) (fun w1 hSw hC8=>by have hq:=(dF (AW hC8));exact (rld h49 rfl (opg rfl hC8) (BJ DJ υ3 rfl (hSw.get 6 rfl:Own _ _ _ _ _ _ _ _) (hq3 ω) BL (j:=i1) (f:=1) ω (by decide) rfl rfl))) fun _ h50=>?_
  refine tgv hq2 h50 19 rfl rfl rfl rfl κ κ κ (fun _ _ _ _ h=>h) (wF h50 rfl rfl rfl) (v:=.pointer (some ⟨g4,4,none⟩)) (fun w1 hSw hC9=>by have hq:=(dF (AW hC9));exact (rfa h50 rfl rfl (fun w=>BX g4 0 w)) w1) fun _ h51=>?_
  refine tgv hq2 h51 20 rfl rfl rfl rfl κ κ κ (fun _ _ _ _ h=>h) (wF h51 rfl rfl rfl) (v:=ν x.fd) (fun w1 hSw hC10=>by have hq:=(dF (AW hC10));exact (rld h51 rfl (opg rfl hC10) (ldB υ3 rfl (hSw.get 2 rfl:Blk _ _ _ _) rfl))) fun _ h52=>?_
  refine tgv hq2 h52 21 rfl rfl rfl rfl κ κ κ (fun _ _ _ _ h=>h) (wF h52 rfl rfl rfl) (v:=.bool (decide ((F.O.getD i1 BL).fd≠x.fd))) (fun w1 hSw hC11=>by have hq:=(dF (AW hC11));exact (BF h52 rfl (opg rfl hC11) (opg rfl hC11) (cNe _ _ _ _ rfl)) w1) fun _ h53=>?_
  refine tv1 hq2 h53 22 rfl rfl (fun w1 _=>(Ds h53 rfl (E:=(decide ((F.O.getD i1 BL).cl≠c))) (F:=(decide ((F.O.getD i1 BL).fd≠x.fd))) rfl rfl rfl (fun e=>if_pos (by rw [e];try rfl))) w1) fun _ h54=>?_
  refine h54.sk [58,11,10,24,9,8,7,0,1,2,3] rfl fun h55=>?_
  refine wpAnyH_done κ ?_ _
  refine hK15 _ _ ?_
  rcases bC ((decide ((F.O.getD i1 BL).cl≠c))||(decide ((F.O.getD i1 BL).fd≠x.fd))) with hc2 | hc2
  ·skip
   have hp2:((F.O.getD i1 BL).cl≠c)∨((F.O.getD i1 BL).fd≠x.fd):=((orT hc2).imp (fun q=>(dT q)) (fun q=>(dT q)))
   refine wcT h55 rfl hc2<|h55.sk [11,10,24,9,8,7,0,1,2,3] rfl fun h56=>wp_region_lit<|mvs 3 h56 rfl fun _ h57=>fav h57 rfl (AB _ _) fun _ h58=>ldv h58 s4 3 υ49 rfl rfl rfl rfl fun _ h59=>mv h59 rfl fun _ h60=>sv1 h60 rfl (Ay h60 rfl rfl rfl (fun w=>ixO υ49 κ (sz:=3) (hq3 ω) (j:=i1) rfl ω ω w)) fun _ h61=>sw1 h61 rfl (rld h61 rfl rfl (Lj DJ υ93 rfl κ (s4.get 6 rfl:Own _ _ _ _ _ _ _ _) (hq3 ω) BL ω rfl)) fun _ h62=>so (wn rfl) fun _ hK16=>Dd h62 rfl rfl rfl (E:=93) (xs:=[(0,.tmp 66)]) rfl (vs:=[(0,.agg #[ν ((F.O.getD i1 BL).cl),ν ((F.O.getD i1 BL).fd),ν ((F.O.getD i1 BL).nd:Int)])]) rfl (z:=[ν ((F.O.getD i1 BL).cl),ν ((F.O.getD i1 BL).fd),ν ((F.O.getD i1 BL).nd:Int)]) (fun _=>κ) s4 fun _ g2 w4 h63 s5 _ _=>hK16 _ _ ?_
   refine so (wn rfl) fun _ hK17=>EQ DJ h63 rfl rfl rfl rfl EOp s5 1 rfl rfl 0 (y:=(⟨(F.O.getD i1 BL).cl,(F.O.getD i1 BL).fd,(F.O.getD i1 BL).nd⟩:OpM)) rfl rfl rfl (by decide) ω (L':=Df (F.O.take (i1+1)) c x.fd) (Qb ω hp2).symm fun _ p184 c185 w5 h64 s6=>hK17 _ _ ?_
   have s7:=s6.pk [1,2,3,4,5,6,7,8] rfl;clear s6
   refine h64.sk [68,67,66,65,64,63,62,61,60,59,11,24,9,8,7,0,1,2,3] rfl fun h65=>mv h65 rfl fun _ h66=>h66.sn [10,11,24,9,8,7,0,1,2,3] rfl fun h67=>hK14 _ _<|wp_region_lit<|mv h67 rfl fun _ h68=>bv h68 (z:=ν ((i1+1:Nat):Int)) rfl (DG _ _ _ ω ω ω) fun _ h69=>h69.sk [35,34,10,24,9,8,7,0,1,2,3] rfl fun h70=>mv h70 rfl fun _ h71=>h71.sk [11,10,24,9,8,7,0,1,2,3] rfl fun h72=>?_
   refine wpList_nil ?_
   exact hK11 (i1+1) p184 c185 _ _ ⟨h72.subs rfl,s7,(Nat.le_trans (List.length_filter_le ..) (by rw [List.length_take];omega))⟩ ω
  ·skip
   have hp3:(¬ ((F.O.getD i1 BL).cl≠c))∧(¬ ((F.O.getD i1 BL).fd≠x.fd)):=(And.intro (dF (orF hc2).1) (dF (orF hc2).2))
   refine wcF h55 rfl hc2<|h55.sk [11,10,24,9,8,7,0,1,2,3] rfl fun h73=>wp_skip<|hK14 _ _<|wp_region_lit<|mv h73 rfl fun _ h74=>bv h74 (z:=ν ((i1+1:Nat):Int)) rfl (DG _ _ _ ω ω ω) fun _ h75=>h75.sk [35,34,10,24,9,8,7,0,1,2,3] rfl fun h76=>mv h76 rfl fun _ h77=>h77.sk [11,10,24,9,8,7,0,1,2,3] rfl fun h78=>wpList_nil ?_
   have e1:Df (F.O.take (i1+1)) c x.fd=Df (F.O.take i1) c x.fd:=RE ω hp3
   rw [← e1] at h78 s4
   exact hK11 (i1+1) ra71 rc72 _ _ ⟨h78.subs rfl,s4,(Nat.le_trans (List.length_filter_le ..) (by rw [List.length_take];omega))⟩ ω
 ·skip
  have hp4:¬ ((i1:Int)<(F.O.length:Int)):=(dF hc1)
  refine wcF h30 rfl hc1<|h30.sk [11,10,24,9,8,7,0,1,2,3] rfl fun h79=>wp_exit ?_
  refine hK9 _ _ ?_
  refine wp_region_lit<|mvs 3 h79 rfl fun _ h80=>fav h80 rfl (AB _ _) fun _ h81=>st1 h81 s3 3 rfl rfl κ rfl rfl rfl rfl fun _ w6 h82 s9 _=>h82.sn [11,10,24,9,8,7,0,1,2,3] rfl fun h83=>hK5 _ _<|sqr fun _ hK18=>bu h83 (v:=.agg zL.toArray) rfl (fun w=>κ) fun _ h84=>stA h84 s9 1 rfl rfl rfl κ rfl rfl rfl rfl fun _ w8 h85 s10 _=>h85.sk [11,10,24,9,8,7,0,1,2,3] rfl fun h86=>?_
  refine wpList_nil<|hK18 _ _<|wp_ret ?_
  try simp only [Exit.then,Exit.inBlock]
  refine rC h86 s10 1 υ37 rfl rfl rfl rfl ?_
  have hq4:BK F c x.fd=({ F with O:=Df F.O c x.fd },Av 0):=bx
  rw [hq4]
  have hw8243:Df (F.O.take i1) c x.fd=Df F.O c x.fd:=by rw [List.take_of_length_le ω]
  rw [hw8243] at s10
  exact ⟨none,0,na,nc,ea,ec,ra71,rc72,rfl,(Sep.tail_un (xs:=[_,_,_,_]) (s10.pk [3,4,5,0,7] rfl)).ownNil 0 9 1⟩
theorem PQ {w:World} {df:Nat} {na ea oa:Option Addr} {nc ec oc:Nat} {F:FsM} {R:List Ch} {c:Int} {x:CallM} (hS0:Sep w ((dP df na nc ea ec oa oc F)++R)) (hs:SmS F) (hok:FsOk F) (h1:x.p1.length≤1000) (h2:x.p2.length≤1000) (h3:x.data.length≤1000) (hk:x.kind=3) {m:Nat} (hm:Az F.O c x.fd=some m) :
  CallsR Tryz.prog 34 #[π df,ν c,ν (m:Int),.agg (cL x).toArray] w (fun v w'=>∃ sa sc na' nc' ea' ec' oa' oc',v=DD (BV F c x.fd x.off x.n).2 sa sc∧Sep w' (Ai 0 9 1 sa (BV F c x.fd x.off x.n).2.names.length sc ((BV F c x.fd x.off x.n).2.names.flatMap sE)::[Ah df 51 [.slice na' (((BV F c x.fd x.off x.n).1).N.length) nc',.slice ea' (((BV F c x.fd x.off x.n).1).E.length) ec',.slice oa' (((BV F c x.fd x.off x.n).1).O.length) oc'],Ai 0 88 3 na' (((BV F c x.fd x.off x.n).1).N).length nc' ((((BV F c x.fd x.off x.n).1).N).flatMap Ca),Ai 0 114 3 ea' (((BV F c x.fd x.off x.n).1).E).length ec' ((((BV F c x.fd x.off x.n).1).E).flatMap BU),Ai 0 93 3 oa' (((BV F c x.fd x.off x.n).1).O).length oc' ((((BV F c x.fd x.off x.n).1).O).flatMap BQ)]++R)):=by
 have hS:=Sep.tail_many (xs:=dP df na nc ea ec oa oc F) hS0;clear hS0
 have hz:SmF F:=hs.sm
 have hz0:=hz;obtain ⟨hz1,hz2,hz3⟩:F.N.length≤1000∧F.E.length≤1000∧F.O.length≤1000:=hz
 obtain ⟨hml,hmd⟩:=hok.toFsC.look_fd hm
 have hdl:(F.N.getD m Ap).data.length≤256:=(hok.k m hml).1
 refine AE Tryz.func34 rfl (N:=196) Tryz.ntmps34 (by show 4≤196;decide) [(0,π df),(1,ν c),(2,ν (m:Int)),(3,.agg (cL x).toArray)] rfl fun _ h1=>sqr fun _ hK3=>so (wn rfl) fun _ hK1=>Dc h1 rfl rfl rfl rfl rfl (z:=(cL x)) rfl hS fun _ g4 w7 h5 s8 _ _=>hK1 _ _ ?_
 refine so (wn rfl) fun _ hK2=>BE h5 rfl rfl rfl rfl (z:=zL) (fun _=>rfl) s8 fun _ g1 w1 h4 s1 _ _=>hK2 _ _ ?_
 refine wpList_nil<|hK3 _ _<|sqr fun _ hK4=>mvs 2 h4 rfl fun _ h6=>fav h6 rfl (Ak _ _) fun _ h7=>ldv h7 s1 2 υ47 rfl rfl rfl rfl fun _ h8=>mv h8 rfl fun _ h9=>?_
 obtain ⟨q31,hq1⟩:=AT (s1.get 3 rfl:Own _ _ _ _ _ _ _ _)
 refine sv1 h9 rfl (Ay h9 rfl rfl rfl (fun w=>ixO υ47 κ (sz:=3) (hq1 ω) (j:=m) rfl ω ω w)) fun _ h10=>sv1 h10 rfl (rfa h10 rfl rfl (fun w=>Bp q31 (m*3) w)) fun _ h11=>sw1 h11 rfl (rld h11 rfl rfl (BJ Bb υ9 rfl (s1.get 3 rfl:Own _ _ _ _ _ _ _ _) (hq1 ω) Ap (j:=m) (f:=1) ω (by decide) rfl rfl)) fun _ h12=>mv h12 rfl fun _ h13=>h13.sn [9,8,7,0,1,2,3] rfl fun h14=>hK4 _ _<|sq fun _ hK5=>sqr fun _ hK6=>fav h14 rfl (CG _ _) fun _ h15=>ldv h15 s1 1 υ3 rfl rfl rfl rfl fun _ h16=>h16.sk [24,9,8,7,0,1,2,3] rfl fun h17=>?_
 refine wpList_nil<|hK6 _ _<|wp_block ?_
 refine sqr fun _ hK7=>bv h17 rfl (cEq _ _ _ _ (decide_eq_false ω)) fun _ h18=>mv h18 rfl fun _ h19=>h19.sn [25,24,9,8,7,0,1,2,3] rfl fun h20=>hK7 _ _<|wcF h20 rfl rfl<|h20.sk [24,9,8,7,0,1,2,3] rfl fun h21=>sqr fun _ hK8=>bv h21 rfl (cEq _ _ _ _ (decide_eq_true ω)) fun _ h22=>mv h22 rfl fun _ h23=>?_
 refine h23.sn [73,24,9,8,7,0,1,2,3] rfl fun h24=>hK8 _ _<|wcT h24 rfl rfl<|h24.sk [24,9,8,7,0,1,2,3] rfl fun h25=>sq fun _ hK9=>sqr fun _ hK10=>fav h25 rfl (Bl _ _) fun _ h26=>ldv h26 s1 1 υ3 rfl rfl rfl rfl fun _ h27=>bv h27 (z:=.bool (decide (x.off<0))) rfl (cLt _ _ _ _ rfl) fun _ h28=>mv h28 rfl fun _ h29=>sg h29 (wF h29 rfl rfl rfl) rfl rfl rfl (fun hC1=>by have hq:=(dF (AW hC1));exact (rfa h29 rfl rfl (fun w=>Bv g4 0 w)) _) fun _ h30=>?_
 refine sg h30 (wF h30 rfl rfl rfl) rfl rfl rfl (fun hC2=>by have hq:=(dF (AW hC2));exact (rld h30 rfl (opg rfl hC2) (ldB υ3 rfl (s1.get 1 rfl:Blk _ _ _ _) rfl))) fun _ h31=>sg h31 (wF h31 rfl rfl rfl) rfl rfl rfl (fun hC3=>by have hq:=(dF (AW hC3));exact (BF h31 rfl (opg rfl hC3) rfl (cLt _ _ _ _ rfl)) _) fun _ h32=>sv1 h32 rfl (Ds h32 rfl (E:=(decide (x.off<0))) (F:=(decide (x.n<0))) rfl rfl rfl (fun e=>if_pos (by rw [e];try rfl))) fun _ h33=>mv h33 rfl fun _ h34=>sg h34 (wF h34 rfl rfl rfl) rfl rfl rfl (fun hC4=>by have hq:=(And.intro (dF (orF (AW hC4)).1) (dF (orF (AW hC4)).2));exact (rfa h34 rfl rfl (fun w=>Bv g4 0 w)) _) fun _ h35=>sg h35 (wF h35 rfl rfl rfl) rfl rfl rfl (fun hC5=>by have hq:=(And.intro (dF (orF (AW hC5)).1) (dF (orF (AW hC5)).2));exact (rld h35 rfl (opg rfl hC5) (ldB υ3 rfl (s1.get 1 rfl:Blk _ _ _ _) rfl))) fun _ h36=>sg h36 (wF h36 rfl rfl rfl) rfl rfl rfl (fun hC6=>by have hq:=(And.intro (dF (orF (AW hC6)).1) (dF (orF (AW hC6)).2));exact (BF h36 rfl (opg rfl hC6) rfl (cGt _ _ _ _ rfl)) _) fun _ h37=>sv1 h37 rfl (Ds h37 rfl (E:=((decide (x.off<0))||(decide (x.n<0)))) (F:=(decide (x.n>64))) rfl rfl rfl (fun e=>if_pos (by rw [e];try rfl))) fun _ h38=>h38.sn [87,24,9,8,7,0,1,2,3] rfl fun h39=>hK10 _ _ ?_
 rcases bC (((decide (x.off<0))||(decide (x.n<0)))||(decide (x.n>64))) with hc1 | hc1
 ·skip
  have hp1:((x.off<0)∨(x.n<0))∨(x.n>64):=((orT hc1).imp (fun q=>((orT q).imp (fun q=>(dT q)) (fun q=>(dT q)))) (fun q=>(dT q)))
  refine wcT h39 rfl hc1<|h39.sk [24,9,8,7,0,1,2,3] rfl fun h40=>sqr fun _ hK11=>cl h40 rfl Ae (AV s1 15) fun _ v1 w2 r1 h41=>?_
  obtain ⟨rfl,s2⟩:=r1
  refine stA h41 s2 0 rfl rfl rfl κ rfl rfl rfl rfl fun _ w3 h42 s3 _=>h42.sn [24,9,8,7,0,1,2,3] rfl fun h43=>hK11 _ _<|wp_ret ?_
  try simp only [Exit.then,Exit.inBlock]
  refine rC h43 s3 0 υ37 rfl rfl rfl rfl ?_
  have hq2:BV F c x.fd x.off x.n=(F,Av 15):=bx
  rw [hq2]
  exact ⟨none,0,na,nc,ea,ec,oa,oc,rfl,(Sep.tail_un (xs:=[_,_,_,_]) (s3.pk [2,3,4,5,6] rfl)).ownNil 0 9 1⟩
 ·skip
  have hp2:((¬ (x.off<0))∧(¬ (x.n<0)))∧(¬ (x.n>64)):=(And.intro (And.intro (dF (orF (orF hc1).1).1) (dF (orF (orF hc1).1).2)) (dF (orF hc1).2))
  refine wcF h39 rfl hc1<|h39.sk [24,9,8,7,0,1,2,3] rfl fun h44=>wp_skip<|hK9 _ _<|sq fun _ hK12=>sqr fun _ hK13=>fav h44 rfl (Bl _ _) fun _ h45=>ldv h45 s1 1 υ3 rfl rfl rfl rfl fun _ h46=>mv h46 rfl fun _ h47=>sv1 h47 rfl (CP h47 rfl rfl υ9) fun _ h48=>bv h48 (z:=.bool (decide (x.off≥((((F.N.getD m Ap).data).length:Nat):Int)))) rfl (cGe _ _ _ _ rfl) fun _ h49=>h49.sk [93,24,9,8,7,0,1,2,3] rfl fun h50=>?_
  refine wpList_nil<|hK13 _ _ ?_
  rcases bC (decide (x.off≥((((F.N.getD m Ap).data).length:Nat):Int))) with hc2 | hc2
  ·skip
   have hp3:x.off≥((((F.N.getD m Ap).data).length:Nat):Int):=(dT hc2)
   refine wcT h50 rfl hc2<|h50.sk [24,9,8,7,0,1,2,3] rfl fun h51=>sqr fun _ hK14=>bu h51 (v:=.agg zL.toArray) rfl (fun w=>κ) fun _ h52=>stA h52 s1 0 rfl rfl rfl κ rfl rfl rfl rfl fun _ w4 h53 s4 _=>h53.sn [24,9,8,7,0,1,2,3] rfl fun h54=>hK14 _ _<|wp_ret ?_
   try simp only [Exit.then,Exit.inBlock]
   refine rC h54 s4 0 υ37 rfl rfl rfl rfl ?_
   have hq3:BV F c x.fd x.off x.n=(F,FU (((F.at m).data.drop x.off.toNat).take x.n.toNat)):=bx
   rw [hq3]
   exact ⟨none,0,na,nc,ea,ec,oa,oc,(congrArg (fun z=>DD (FU z) none 0) (Sc (d:=(F.N.getD m Ap).data) ω ω)),(Sep.tail_un (xs:=[_,_,_,_]) (s4.pk [2,3,4,5,6] rfl)).ownNil 0 9 1⟩
  ·skip
   have hp4:¬ (x.off≥((((F.N.getD m Ap).data).length:Nat):Int)):=(dF hc2)
   refine wcF h50 rfl hc2<|h50.sk [24,9,8,7,0,1,2,3] rfl fun h55=>wp_skip<|hK12 _ _<|sqr fun _ hK15=>mv h55 rfl fun _ h56=>fav h56 rfl (Bl _ _) fun _ h57=>ldv h57 s1 1 υ3 rfl rfl rfl rfl fun _ h58=>sv1 h58 rfl (EK h58 rfl rfl (vl:=(some (ν x.off))) (vh:=none) rfl rfl (fun w=>(fun w=>((slT 9 υ9 ((F.N.getD m Ap).data) (a:=(x.off).toNat) (b:=((F.N.getD m Ap).data).length) (.inr ⟨_,rfl,ω⟩) (.inl ⟨rfl,rfl⟩) ω ω) w).trans (by rw [List.take_length])) w)) fun _ h59=>mv h59 rfl fun _ h60=>h60.sk [12,24,9,8,7,0,1,2,3] rfl fun h61=>?_
   refine wpList_nil<|hK15 _ _<|sq fun _ hK16=>sqr fun _ hK17=>mv h61 rfl fun _ h62=>sv1 h62 rfl (CP h62 rfl rfl υ9) fun _ h63=>fav h63 rfl (Bv _ _) fun _ h64=>ldv h64 s1 1 υ3 rfl rfl rfl rfl fun _ h65=>bv h65 (z:=.bool (decide ((((((F.N.getD m Ap).data).drop ((x.off).toNat)).length:Nat):Int)>x.n))) rfl (cGt _ _ _ _ rfl) fun _ h66=>h66.sn [103,12,24,9,8,7,0,1,2,3] rfl fun h67=>hK17 _ _ ?_
   rcases bC (decide ((((((F.N.getD m Ap).data).drop ((x.off).toNat)).length:Nat):Int)>x.n)) with hc3 | hc3
   ·skip
    have hp5:(((((F.N.getD m Ap).data).drop ((x.off).toNat)).length:Nat):Int)>x.n:=(dT hc3)
    refine wcT h67 rfl hc3<|h67.sk [12,24,9,8,7,0,1,2,3] rfl fun h68=>wp_region_lit<|mv h68 rfl fun _ h69=>fav h69 rfl (Bv _ _) fun _ h70=>ldv h70 s1 1 υ3 rfl rfl rfl rfl fun _ h71=>sv1 h71 rfl (EK h71 rfl rfl (vl:=none) (vh:=(some (ν x.n))) rfl rfl (fun w=>(fun w=>((slT 9 υ9 (((F.N.getD m Ap).data).drop ((x.off).toNat)) (a:=0) (b:=(x.n).toNat) (.inl ⟨rfl,rfl⟩) (.inr ⟨_,rfl,ω⟩) ω ω) w).trans (by rw [List.drop_zero])) w)) fun _ h72=>h72.sk [107,106,105,104,24,9,8,7,0,1,2,3] rfl fun h73=>mv h73 rfl fun _ h74=>h74.sk [12,24,9,8,7,0,1,2,3] rfl fun h75=>?_
    refine wpList_nil<|hK16 _ _<|sqr fun _ hK18=>mv h75 rfl fun _ h76=>bu h76 (v:=.agg #[ν 0,ν 0,σ ((((F.N.getD m Ap).data).drop ((x.off).toNat)).take ((x.n).toNat)),.slice none 0 0,ν 0,ν 0,ν 0]) rfl (fun w=>κ) fun _ h77=>stA h77 s1 0 rfl rfl rfl κ rfl rfl rfl rfl fun _ w5 h78 s5 _=>h78.sn [12,24,9,8,7,0,1,2,3] rfl fun h79=>hK18 _ _<|wp_ret ?_
    try simp only [Exit.then,Exit.inBlock]
    refine rC h79 s5 0 υ37 rfl rfl rfl rfl ?_
    have hq4:BV F c x.fd x.off x.n=(F,FU (((F.at m).data.drop x.off.toNat).take x.n.toNat)):=bx
    rw [hq4]
    exact ⟨none,0,na,nc,ea,ec,oa,oc,rfl,(Sep.tail_un (xs:=[_,_,_,_]) (s5.pk [2,3,4,5,6] rfl)).ownNil 0 9 1⟩
   ·skip
    have hp6:¬ ((((((F.N.getD m Ap).data).drop ((x.off).toNat)).length:Nat):Int)>x.n):=(dF hc3)
    refine wcF h67 rfl hc3<|h67.sk [12,24,9,8,7,0,1,2,3] rfl fun h80=>wp_skip<|hK16 _ _<|sqr fun _ hK19=>mv h80 rfl fun _ h81=>bu h81 (v:=.agg #[ν 0,ν 0,σ (((F.N.getD m Ap).data).drop ((x.off).toNat)),.slice none 0 0,ν 0,ν 0,ν 0]) rfl (fun w=>κ) fun _ h82=>stA h82 s1 0 rfl rfl rfl κ rfl rfl rfl rfl fun _ w6 h83 s6 _=>h83.sn [12,24,9,8,7,0,1,2,3] rfl fun h84=>hK19 _ _<|wp_ret ?_
    try simp only [Exit.then,Exit.inBlock]
    refine rC h84 s6 0 υ37 rfl rfl rfl rfl ?_
    have hq5:BV F c x.fd x.off x.n=(F,FU (((F.at m).data.drop x.off.toNat).take x.n.toNat)):=bx
    rw [hq5]
    exact ⟨none,0,na,nc,ea,ec,oa,oc,(congrArg (fun z=>DD (FU z) none 0) (SV (d:=(F.N.getD m Ap).data) ω ω)),(Sep.tail_un (xs:=[_,_,_,_]) (s6.pk [2,3,4,5,6] rfl)).ownNil 0 9 1⟩
theorem Om {w:World} {df:Nat} {na ea oa:Option Addr} {nc ec oc:Nat} {F:FsM} {R:List Ch} {c:Int} {x:CallM} (hS0:Sep w ((dP df na nc ea ec oa oc F)++R)) (hs:SmS F) (hok:FsOk F) (h1:x.p1.length≤1000) (h2:x.p2.length≤1000) (h3:x.data.length≤1000) (hk:x.kind=4) {m:Nat} (hm:Az F.O c x.fd=some m) :
  CallsR Tryz.prog 34 #[π df,ν c,ν (m:Int),.agg (cL x).toArray] w (fun v w'=>∃ sa sc na' nc' ea' ec' oa' oc',v=DD (Bd F c x.fd x.off x.data).2 sa sc∧Sep w' (Ai 0 9 1 sa (Bd F c x.fd x.off x.data).2.names.length sc ((Bd F c x.fd x.off x.data).2.names.flatMap sE)::[Ah df 51 [.slice na' (((Bd F c x.fd x.off x.data).1).N.length) nc',.slice ea' (((Bd F c x.fd x.off x.data).1).E.length) ec',.slice oa' (((Bd F c x.fd x.off x.data).1).O.length) oc'],Ai 0 88 3 na' (((Bd F c x.fd x.off x.data).1).N).length nc' ((((Bd F c x.fd x.off x.data).1).N).flatMap Ca),Ai 0 114 3 ea' (((Bd F c x.fd x.off x.data).1).E).length ec' ((((Bd F c x.fd x.off x.data).1).E).flatMap BU),Ai 0 93 3 oa' (((Bd F c x.fd x.off x.data).1).O).length oc' ((((Bd F c x.fd x.off x.data).1).O).flatMap BQ)]++R)):=by
 have hS:=Sep.tail_many (xs:=dP df na nc ea ec oa oc F) hS0;clear hS0
 have hz:SmF F:=hs.sm
 have hz0:=hz;obtain ⟨hz1,hz2,hz3⟩:F.N.length≤1000∧F.E.length≤1000∧F.O.length≤1000:=hz
 obtain ⟨hml,hmd⟩:=hok.toFsC.look_fd hm
 have hdl:(F.N.getD m Ap).data.length≤256:=(hok.k m hml).1
 refine AE Tryz.func34 rfl (N:=196) Tryz.ntmps34 (by show 4≤196;decide) [(0,π df),(1,ν c),(2,ν (m:Int)),(3,.agg (cL x).toArray)] rfl fun _ h1=>sqr fun _ hK3=>so (wn rfl) fun _ hK1=>Dc h1 rfl rfl rfl rfl rfl (z:=(cL x)) rfl hS fun _ g4 w7 h5 s8 _ _=>hK1 _ _ ?_
 refine so (wn rfl) fun _ hK2=>BE h5 rfl rfl rfl rfl (z:=zL) (fun _=>rfl) s8 fun _ g1 w2 h4 s1 _ _=>hK2 _ _ ?_
 refine wpList_nil<|hK3 _ _<|sqr fun _ hK4=>mvs 2 h4 rfl fun _ h6=>fav h6 rfl (Ak _ _) fun _ h7=>ldv h7 s1 2 υ47 rfl rfl rfl rfl fun _ h8=>mv h8 rfl fun _ h9=>?_
 obtain ⟨q31,hq1⟩:=AT (s1.get 3 rfl:Own _ _ _ _ _ _ _ _)
 refine sv1 h9 rfl (Ay h9 rfl rfl rfl (fun w=>ixO υ47 κ (sz:=3) (hq1 ω) (j:=m) rfl ω ω w)) fun _ h10=>sv1 h10 rfl (rfa h10 rfl rfl (fun w=>Bp q31 (m*3) w)) fun _ h11=>sw1 h11 rfl (rld h11 rfl rfl (BJ Bb υ9 rfl (s1.get 3 rfl:Own _ _ _ _ _ _ _ _) (hq1 ω) Ap (j:=m) (f:=1) ω (by decide) rfl rfl)) fun _ h12=>mv h12 rfl fun _ h13=>h13.sn [9,8,7,0,1,2,3] rfl fun h14=>hK4 _ _<|sq fun _ hK5=>sqr fun _ hK6=>fav h14 rfl (CG _ _) fun _ h15=>ldv h15 s1 1 υ3 rfl rfl rfl rfl fun _ h16=>h16.sk [24,9,8,7,0,1,2,3] rfl fun h17=>?_
 refine wpList_nil<|hK6 _ _<|wp_block ?_
 refine sqr fun _ hK7=>bv h17 rfl (cEq _ _ _ _ (decide_eq_false ω)) fun _ h18=>mv h18 rfl fun _ h19=>h19.sn [25,24,9,8,7,0,1,2,3] rfl fun h20=>hK7 _ _<|wcF h20 rfl rfl<|h20.sk [24,9,8,7,0,1,2,3] rfl fun h21=>sqr fun _ hK8=>bv h21 rfl (cEq _ _ _ _ (decide_eq_false ω)) fun _ h22=>mv h22 rfl fun _ h23=>?_
 refine h23.sn [73,24,9,8,7,0,1,2,3] rfl fun h24=>hK8 _ _<|wcF h24 rfl rfl<|h24.sk [24,9,8,7,0,1,2,3] rfl fun h25=>sqr fun _ hK9=>bv h25 rfl (cEq _ _ _ _ (decide_eq_true ω)) fun _ h26=>mv h26 rfl fun _ h27=>h27.sn [110,24,9,8,7,0,1,2,3] rfl fun h28=>hK9 _ _<|wcT h28 rfl rfl ?_
 refine h28.sk [24,9,8,7,0,1,2,3] rfl fun h29=>sq fun _ hK10=>sqr fun _ hK11=>fav h29 rfl (Bl _ _) fun _ h30=>ldv h30 s1 1 υ3 rfl rfl rfl rfl fun _ h31=>bv h31 (z:=.bool (decide (x.off<0))) rfl (cLt _ _ _ _ rfl) fun _ h32=>mv h32 rfl fun _ h33=>sg h33 (wF h33 rfl rfl rfl) rfl rfl rfl (fun hC1=>by have hq:=(dF (AW hC1));exact (rfa h33 rfl rfl (fun w=>AM g4 0 w)) _) fun _ h34=>sg h34 (wF h34 rfl rfl rfl) rfl rfl rfl (fun hC2=>by have hq:=(dF (AW hC2));exact (rld h34 rfl (opg rfl hC2) (ldB υ9 rfl (s1.get 1 rfl:Blk _ _ _ _) rfl))) fun _ h35=>sg h35 (wF h35 rfl rfl rfl) rfl rfl rfl (fun hC3=>by have hq:=(dF (AW hC3));exact (CP h35 rfl (opg rfl hC3) υ9) _) fun _ h36=>sg h36 (wF h36 rfl rfl rfl) rfl rfl rfl (fun hC4=>by have hq:=(dF (AW hC4));exact (BF h36 rfl (opg rfl hC4) rfl (cGt _ _ _ _ rfl)) _) fun _ h37=>?_
 refine sv1 h37 rfl (Ds h37 rfl (E:=(decide (x.off<0))) (F:=(decide ((x.data.length:Int)>64))) rfl rfl rfl (fun e=>if_pos (by rw [e];try rfl))) fun _ h38=>h38.sn [120,24,9,8,7,0,1,2,3] rfl fun h39=>hK11 _ _ ?_
 rcases bC ((decide (x.off<0))||(decide ((x.data.length:Int)>64))) with hc1 | hc1
 ·skip
  have hp1:(x.off<0)∨((x.data.length:Int)>64):=((orT hc1).imp (fun q=>(dT q)) (fun q=>(dT q)))
  refine wcT h39 rfl hc1<|h39.sk [24,9,8,7,0,1,2,3] rfl fun h40=>sqr fun _ hK12=>cl h40 rfl Ae (AV s1 15) fun _ v1 w3 r1 h41=>?_
  obtain ⟨rfl,s2⟩:=r1
  refine stA h41 s2 0 rfl rfl rfl κ rfl rfl rfl rfl fun _ w4 h42 s3 _=>h42.sn [24,9,8,7,0,1,2,3] rfl fun h43=>hK12 _ _<|wp_ret ?_
  try simp only [Exit.then,Exit.inBlock]
  refine rC h43 s3 0 υ37 rfl rfl rfl rfl ?_
  have hq2:Bd F c x.fd x.off x.data=(F,Av 15):=bx
  rw [hq2]
  exact ⟨none,0,na,nc,ea,ec,oa,oc,rfl,(Sep.tail_un (xs:=[_,_,_,_]) (s3.pk [2,3,4,5,6] rfl)).ownNil 0 9 1⟩
 ·skip
  have hp2:(¬ (x.off<0))∧(¬ ((x.data.length:Int)>64)):=(And.intro (dF (orF hc1).1) (dF (orF hc1).2))
  refine wcF h39 rfl hc1<|h39.sk [24,9,8,7,0,1,2,3] rfl fun h44=>wp_skip<|hK10 _ _<|sq fun _ hK13=>sqr fun _ hK14=>fav h44 rfl (AM _ _) fun _ h45=>ldv h45 s1 1 υ9 rfl rfl rfl rfl fun _ h46=>sv1 h46 rfl (CP h46 rfl rfl υ9) fun _ h47=>bv h47 (z:=.bool (decide ((x.data.length:Int)=0))) rfl (cEq _ _ _ _ rfl) fun _ h48=>h48.sn [125,24,9,8,7,0,1,2,3] rfl fun h49=>hK14 _ _ ?_
  rcases bC (decide ((x.data.length:Int)=0)) with hc2 | hc2
  ·skip
   have hp3:(x.data.length:Int)=0:=(dT hc2)
   refine wcT h49 rfl hc2<|h49.sk [24,9,8,7,0,1,2,3] rfl fun h50=>sqr fun _ hK15=>bu h50 (v:=.agg zL.toArray) rfl (fun w=>κ) fun _ h51=>stA h51 s1 0 rfl rfl rfl κ rfl rfl rfl rfl fun _ w5 h52 s4 _=>h52.sn [24,9,8,7,0,1,2,3] rfl fun h53=>hK15 _ _<|wp_ret ?_
   try simp only [Exit.then,Exit.inBlock]
   refine rC h53 s4 0 υ37 rfl rfl rfl rfl ?_
   have hq3:Bd F c x.fd x.off x.data=(F,Av 0):=bx
   rw [hq3]
   exact ⟨none,0,na,nc,ea,ec,oa,oc,rfl,(Sep.tail_un (xs:=[_,_,_,_]) (s4.pk [2,3,4,5,6] rfl)).ownNil 0 9 1⟩
  ·skip
   have hp4:¬ ((x.data.length:Int)=0):=(dF hc2)
   refine wcF h49 rfl hc2<|h49.sk [24,9,8,7,0,1,2,3] rfl fun h54=>wp_skip<|hK13 _ _<|sq fun _ hK16=>sqr fun _ hK17=>fav h54 rfl (Bl _ _) fun _ h55=>ldv h55 s1 1 υ3 rfl rfl rfl rfl fun _ h56=>bv h56 (z:=.bool (decide (x.off>256))) rfl (cGt _ _ _ _ rfl) fun _ h57=>mv h57 rfl fun _ h58=>sg h58 (wF h58 rfl rfl rfl) rfl rfl rfl (fun hC5=>by have hq:=(dF (AW hC5));exact (rfa h58 rfl rfl (fun w=>Bl g4 0 w)) _) fun _ h59=>sg h59 (wF h59 rfl rfl rfl) rfl rfl rfl (fun hC6=>by have hq:=(dF (AW hC6));exact (rld h59 rfl (opg rfl hC6) (ldB υ3 rfl (s1.get 1 rfl:Blk _ _ _ _) rfl))) fun _ h60=>?_
   refine sg h60 (wF h60 rfl rfl rfl) rfl rfl rfl (v:=.pointer (some ⟨g4,7,none⟩)) (fun hC7=>by have hq:=(dF (AW hC7));exact (rfa h60 rfl rfl (fun w=>AM g4 0 w)) _) fun _ h61=>sg h61 (wF h61 rfl rfl rfl) rfl rfl rfl (v:=σ x.data) (fun hC8=>by have hq:=(dF (AW hC8));exact (rld h61 rfl (opg rfl hC8) (ldB υ9 rfl (s1.get 1 rfl:Blk _ _ _ _) rfl))) fun _ h62=>sg h62 (wF h62 rfl rfl rfl) rfl rfl rfl (v:=ν (x.data.length:Int)) (fun hC9=>by have hq:=(dF (AW hC9));exact (CP h62 rfl (opg rfl hC9) υ9) _) fun _ h63=>sg h63 (wF h63 rfl rfl rfl) rfl rfl rfl (v:=ν (x.off+(x.data.length:Int))) (fun hC10=>by have hq:=(dF (AW hC10));exact (BF h63 rfl (opg rfl hC10) (opg rfl hC10) (DG _ _ _ ω ω ω)) _) fun _ h64=>sg h64 (wF h64 rfl rfl rfl) rfl rfl rfl (v:=.bool (decide (x.off+(x.data.length:Int)>256))) (fun hC11=>by have hq:=(dF (AW hC11));exact (BF h64 rfl (opg rfl hC11) rfl (cGt _ _ _ _ rfl)) _) fun _ h65=>sv1 h65 rfl (v:=.bool ((decide (x.off>256))||(decide (x.off+(x.data.length:Int)>256)))) (Ds h65 rfl (E:=(decide (x.off>256))) (F:=(decide (x.off+(x.data.length:Int)>256))) rfl rfl rfl (fun e=>if_pos (by rw [e];try rfl))) fun _ h66=>h66.sn [138,24,9,8,7,0,1,2,3] rfl fun h67=>hK17 _ _ ?_
   rcases bC ((decide (x.off>256))||(decide (x.off+(x.data.length:Int)>256))) with hc3 | hc3
   ·skip
    have hp5:(x.off>256)∨(x.off+(x.data.length:Int)>256):=((orT hc3).imp (fun q=>(dT q)) (fun q=>(dT q)))
    refine wcT h67 rfl hc3<|h67.sk [24,9,8,7,0,1,2,3] rfl fun h68=>sqr fun _ hK18=>cl h68 rfl Ae (AV s1 19) fun _ v2 w6 r2 h69=>?_
    obtain ⟨rfl,s5⟩:=r2
    refine stA h69 s5 0 rfl rfl rfl κ rfl rfl rfl rfl fun _ w8 h70 s6 _=>h70.sn [24,9,8,7,0,1,2,3] rfl fun h71=>hK18 _ _<|wp_ret ?_
    try simp only [Exit.then,Exit.inBlock]
    refine rC h71 s6 0 υ37 rfl rfl rfl rfl ?_
    have hq4:Bd F c x.fd x.off x.data=(F,Av 19):=bx
    rw [hq4]
    exact ⟨none,0,na,nc,ea,ec,oa,oc,rfl,(Sep.tail_un (xs:=[_,_,_,_]) (s6.pk [2,3,4,5,6] rfl)).ownNil 0 9 1⟩
   ·skip
    have hp6:(¬ (x.off>256))∧(¬ (x.off+(x.data.length:Int)>256)):=(And.intro (dF (orF hc3).1) (dF (orF hc3).2))
    refine wcF h67 rfl hc3<|h67.sk [24,9,8,7,0,1,2,3] rfl fun h72=>wp_skip<|hK16 _ _<|sqr fun _ hK19=>mv h72 rfl fun _ h73=>fav h73 rfl (Bl _ _) fun _ h74=>ldv h74 s1 1 υ3 rfl rfl rfl rfl fun _ h75=>cl h75 rfl EN ((by have z:=OR s1 ((F.N.getD m Ap).data) (n:=(x.off).toNat) ω ω;rw [show (((x.off).toNat:Nat):Int)=x.off by omega] at z;exact z)) fun _ v3 w9 r3 h76=>?_
    obtain ⟨rfl,s7⟩:=r3
    have hs212:=Ed ((F.N.getD m Ap).data) ((x.off).toNat)
    refine mv h76 rfl fun _ h77=>h77.sn [13,24,9,8,7,0,1,2,3] rfl fun h78=>hK19 _ _<|sqr fun _ hK20=>mv h78 rfl fun _ h79=>wpList_nil<|hK20 _ _<|sq fun _ hK21=>sqr fun _ hK22=>mv h79 rfl fun _ h80=>sv1 h80 rfl (CP h80 rfl rfl υ9) fun _ h81=>fav h81 rfl (Bl _ _) fun _ h82=>?_
    refine ldv h82 s7 1 υ3 rfl rfl rfl rfl fun _ h83=>fav h83 rfl (AM _ _) fun _ h84=>ldv h84 s7 1 υ9 rfl rfl rfl rfl fun _ h85=>sv1 h85 rfl (CP h85 rfl rfl υ9) fun _ h86=>bv h86 (z:=ν (x.off+(x.data.length:Int))) rfl (DG _ _ _ ω ω ω) fun _ h87=>bv h87 (z:=.bool (decide (((((F.N.getD m Ap).data).length:Nat):Int)>x.off+(x.data.length:Int)))) rfl (cGt _ _ _ _ rfl) fun _ h88=>h88.sn [152,14,13,24,9,8,7,0,1,2,3] rfl fun h89=>hK22 _ _ ?_
    rcases bC (decide (((((F.N.getD m Ap).data).length:Nat):Int)>x.off+(x.data.length:Int))) with hc4 | hc4
    ·skip
     have hp7:((((F.N.getD m Ap).data).length:Nat):Int)>x.off+(x.data.length:Int):=(dT hc4)
     refine wcT h89 rfl hc4<|h89.sk [14,13,24,9,8,7,0,1,2,3] rfl fun h90=>wp_region_lit<|mv h90 rfl fun _ h91=>fav h91 rfl (Bl _ _) fun _ h92=>ldv h92 s7 1 υ3 rfl rfl rfl rfl fun _ h93=>fav h93 rfl (AM _ _) fun _ h94=>ldv h94 s7 1 υ9 rfl rfl rfl rfl fun _ h95=>sv1 h95 rfl (CP h95 rfl rfl υ9) fun _ h96=>bv h96 (z:=ν (x.off+(x.data.length:Int))) rfl (DG _ _ _ ω ω ω) fun _ h97=>?_
     refine sv1 h97 rfl (EK h97 rfl rfl (vl:=(some (ν (x.off+(x.data.length:Int))))) (vh:=none) rfl rfl (fun w=>(fun w=>((slT 9 υ9 ((F.N.getD m Ap).data) (a:=(x.off+(x.data.length:Int)).toNat) (b:=((F.N.getD m Ap).data).length) (.inr ⟨_,rfl,ω⟩) (.inl ⟨rfl,rfl⟩) ω ω) w).trans (by rw [List.take_length])) w)) fun _ h98=>h98.sk [160,159,158,157,156,155,154,153,13,24,9,8,7,0,1,2,3] rfl fun h99=>mv h99 rfl fun _ h100=>h100.sn [14,13,24,9,8,7,0,1,2,3] rfl fun h101=>hK21 _ _ ?_
     have s9:=s7.drew
     refine wp_region_held_drew (S:=fun w'=>Sep w' [Ah g1 37 zL,Ah g4 30 (cL x),Ah df 51 [.slice na F.N.length nc,.slice ea F.E.length ec,.slice oa F.O.length oc],Ai 0 114 3 ea F.E.length ec (F.E.flatMap BU),Ai 0 93 3 oa F.O.length oc (F.O.flatMap BQ),Ch.many R]) κ (s9.pk [0,1,2,4,5,6] rfl) (fun hq5=>?_)
     refine tv1 hq5 h101 0 rfl rfl (fun w1 _=>(Aq h101 rfl rfl) w1) fun _ h102=>?_
     refine tv1 hq5 h102 1 rfl rfl (fun w1 _=>(CJ h102 rfl rfl) w1) fun _ h103=>?_
     refine tv1 hq5 h103 2 rfl rfl (fun w1 _=>(rfa h103 rfl rfl (fun w=>Ak df 0 w)) w1) fun _ h104=>?_
     refine tv1 hq5 h104 3 rfl rfl (fun w1 hSw=>(rld h104 rfl rfl (ldB υ47 rfl (hSw.get 2 rfl:Blk _ _ _ _) rfl))) fun _ h105=>?_
     refine tv1 hq5 h105 4 rfl rfl (fun w1 _=>(Aq h105 rfl rfl) w1) fun _ h106=>?_
     refine tv1 hq5 h106 5 rfl rfl (fun w1 _=>(Aq h106 rfl rfl) w1) fun _ h107=>?_
     refine tv1 hq5 h107 6 rfl rfl (fun w1 _=>(rfa h107 rfl rfl (fun w=>AM g4 0 w)) w1) fun _ h108=>?_
     refine tv1 hq5 h108 7 rfl rfl (fun w1 hSw=>(rld h108 rfl rfl (ldB υ9 rfl (hSw.get 1 rfl:Blk _ _ _ _) rfl))) fun _ h109=>?_
     refine tv1 hq5 h109 8 rfl rfl (fun w1 _=>(BF h109 rfl rfl rfl (DQ _ _ _ (Bc ((F.N.getD m Ap).data) ((x.off).toNat)) x.data (by (try simp only [List.length_append,List.length_take,List.length_drop,List.length_cons,List.length_nil]);omega))) w1) fun _ h110=>?_
     refine tv1 hq5 h110 9 rfl rfl (fun w1 _=>(Aq h110 rfl rfl) w1) fun _ h111=>?_
     refine tv1 hq5 h111 10 rfl rfl (fun w1 _=>(BF h111 rfl rfl rfl (DQ _ _ _ ((Bc ((F.N.getD m Ap).data) ((x.off).toNat))++x.data) (((F.N.getD m Ap).data).drop ((x.off+(x.data.length:Int)).toNat)) (by (try simp only [List.length_append,List.length_take,List.length_drop,List.length_cons,List.length_nil]);omega))) w1) fun _ h112=>?_
     refine tv1 hq5 h112 11 rfl rfl (v:=.pointer (some ⟨q31,m*3,none⟩)) (fun w1 _=>(Ay h112 rfl rfl rfl (fun w=>ixO υ47 κ (sz:=3) (hq1 ω) (j:=m) rfl ω ω w)) w1) fun _ h113=>?_
     refine tv1 hq5 h113 12 rfl rfl (fun w1 _=>(rfa h113 rfl rfl (fun w=>Bp q31 (m*3) w)) w1) fun _ h114=>?_
     refine to_ 13 rfl (wn rfl) κ fun _ hK23=>FQ Bb h114 rfl rfl s9 3 rfl (hq1 ω) rfl rfl rfl rfl Ap (⟨(F.N.getD m Ap).dir,((Bc ((F.N.getD m Ap).data) ((x.off).toNat))++x.data)++(((F.N.getD m Ap).data).drop ((x.off+(x.data.length:Int)).toNat)),(F.N.getD m Ap).links⟩:NodeM) rfl κ ω (by decide) rfl (n':=(F.N.set m (⟨(F.N.getD m Ap).dir,((Bc ((F.N.getD m Ap).data) ((x.off).toNat))++x.data)++(((F.N.getD m Ap).data).drop ((x.off+(x.data.length:Int)).toNat)),(F.N.getD m Ap).links⟩:NodeM)).length) (by rw [List.length_set]) fun _ w10 h115 s10=>?_
     have s11:=s10;clear s10
     refine hK23 _ _ (s11.pk [0,1,2,4,5,6] rfl) fun hq6=>h115.sk [14,13,24,9,8,7,0,1,2,3] rfl fun h116=>?_
     refine wpAnyH_done κ ?_ _
     refine hK5 _ _ ?_
     refine sqr fun _ hK24=>bu h116 (v:=.agg zL.toArray) rfl (fun w=>κ) fun _ h117=>stA h117 s11 0 rfl rfl rfl κ rfl rfl rfl rfl fun _ w11 h118 s12 _=>h118.sn [14,13,24,9,8,7,0,1,2,3] rfl fun h119=>hK24 _ _<|wp_ret ?_
     try simp only [Exit.then,Exit.inBlock]
     refine rC h119 s12 0 υ37 rfl rfl rfl rfl ?_
     have hq7:Bd F c x.fd x.off x.data=(BS F m (CS (F.at m).data x.off.toNat x.data),Av 0):=bx
     rw [hq7]
     have hd310:((Bc ((F.N.getD m Ap).data) ((x.off).toNat))++x.data)++(((F.N.getD m Ap).data).drop ((x.off+(x.data.length:Int)).toNat))=CS (F.at m).data x.off.toNat x.data:=SZ ω
     rw [hd310] at s12
     have z311:=Sep.tail_un (xs:=[_,_,_,_]) (s12.pk [2,3,4,5,6] rfl)
     simp only [List.length_set] at z311
     refine ⟨none,0,na,nc,ea,ec,oa,oc,rfl,Sep.ownNil ?_ 0 9 1⟩
     simp only [By,BS,List.length_set]
     exact z311
    ·skip
     have hp8:¬ (((((F.N.getD m Ap).data).length:Nat):Int)>x.off+(x.data.length:Int)):=(dF hc4)
     refine wcF h89 rfl hc4<|h89.sk [14,13,24,9,8,7,0,1,2,3] rfl fun h120=>wp_skip<|hK21 _ _ ?_
     have s13:=s7.drew
     refine wp_region_held_drew (S:=fun w'=>Sep w' [Ah g1 37 zL,Ah g4 30 (cL x),Ah df 51 [.slice na F.N.length nc,.slice ea F.E.length ec,.slice oa F.O.length oc],Ai 0 114 3 ea F.E.length ec (F.E.flatMap BU),Ai 0 93 3 oa F.O.length oc (F.O.flatMap BQ),Ch.many R]) κ (s13.pk [0,1,2,4,5,6] rfl) (fun hq8=>?_)
     refine tv1 hq8 h120 0 rfl rfl (fun w1 _=>(Aq h120 rfl rfl) w1) fun _ h121=>?_
     refine tv1 hq8 h121 1 rfl rfl (fun w1 _=>(CJ h121 rfl rfl) w1) fun _ h122=>?_
     refine tv1 hq8 h122 2 rfl rfl (fun w1 _=>(rfa h122 rfl rfl (fun w=>Ak df 0 w)) w1) fun _ h123=>?_
     refine tv1 hq8 h123 3 rfl rfl (fun w1 hSw=>(rld h123 rfl rfl (ldB υ47 rfl (hSw.get 2 rfl:Blk _ _ _ _) rfl))) fun _ h124=>?_
     refine tv1 hq8 h124 4 rfl rfl (fun w1 _=>(Aq h124 rfl rfl) w1) fun _ h125=>?_
     refine tv1 hq8 h125 5 rfl rfl (fun w1 _=>(Aq h125 rfl rfl) w1) fun _ h126=>?_
     refine tv1 hq8 h126 6 rfl rfl (fun w1 _=>(rfa h126 rfl rfl (fun w=>AM g4 0 w)) w1) fun _ h127=>?_
     refine tv1 hq8 h127 7 rfl rfl (fun w1 hSw=>(rld h127 rfl rfl (ldB υ9 rfl (hSw.get 1 rfl:Blk _ _ _ _) rfl))) fun _ h128=>?_
     refine tv1 hq8 h128 8 rfl rfl (fun w1 _=>(BF h128 rfl rfl rfl (DQ _ _ _ (Bc ((F.N.getD m Ap).data) ((x.off).toNat)) x.data (by (try simp only [List.length_append,List.length_take,List.length_drop,List.length_cons,List.length_nil]);omega))) w1) fun _ h129=>?_
     refine tv1 hq8 h129 9 rfl rfl (fun w1 _=>(Aq h129 rfl rfl) w1) fun _ h130=>?_
     refine tv1 hq8 h130 10 rfl rfl (fun w1 _=>(BF h130 rfl rfl rfl (DQ _ _ _ ((Bc ((F.N.getD m Ap).data) ((x.off).toNat))++x.data) [] (by (try simp only [List.length_append,List.length_take,List.length_drop,List.length_cons,List.length_nil]);omega))) w1) fun _ h131=>?_
     refine tv1 hq8 h131 11 rfl rfl (v:=.pointer (some ⟨q31,m*3,none⟩)) (fun w1 _=>(Ay h131 rfl rfl rfl (fun w=>ixO υ47 κ (sz:=3) (hq1 ω) (j:=m) rfl ω ω w)) w1) fun _ h132=>?_
     refine tv1 hq8 h132 12 rfl rfl (fun w1 _=>(rfa h132 rfl rfl (fun w=>Bp q31 (m*3) w)) w1) fun _ h133=>?_
     refine to_ 13 rfl (wn rfl) κ fun _ hK25=>FQ Bb h133 rfl rfl s13 3 rfl (hq1 ω) rfl rfl rfl rfl Ap (⟨(F.N.getD m Ap).dir,((Bc ((F.N.getD m Ap).data) ((x.off).toNat))++x.data)++[],(F.N.getD m Ap).links⟩:NodeM) rfl κ ω (by decide) rfl (n':=(F.N.set m (⟨(F.N.getD m Ap).dir,((Bc ((F.N.getD m Ap).data) ((x.off).toNat))++x.data)++[],(F.N.getD m Ap).links⟩:NodeM)).length) (by rw [List.length_set]) fun _ w12 h134 s14=>?_
     have s15:=s14;clear s14
     refine hK25 _ _ (s15.pk [0,1,2,4,5,6] rfl) fun hq9=>h134.sk [14,13,24,9,8,7,0,1,2,3] rfl fun h135=>?_
     refine wpAnyH_done κ ?_ _
     refine hK5 _ _ ?_
     refine sqr fun _ hK26=>bu h135 (v:=.agg zL.toArray) rfl (fun w=>κ) fun _ h136=>stA h136 s15 0 rfl rfl rfl κ rfl rfl rfl rfl fun _ w13 h137 s16 _=>h137.sn [14,13,24,9,8,7,0,1,2,3] rfl fun h138=>hK26 _ _<|wp_ret ?_
     try simp only [Exit.then,Exit.inBlock]
     refine rC h138 s16 0 υ37 rfl rfl rfl rfl ?_
     have hq10:Bd F c x.fd x.off x.data=(BS F m (CS (F.at m).data x.off.toNat x.data),Av 0):=bx
     rw [hq10]
     have hd361:((Bc ((F.N.getD m Ap).data) ((x.off).toNat))++x.data)++[]=CS (F.at m).data x.off.toNat x.data:=TG ω
     rw [hd361] at s16
     have z362:=Sep.tail_un (xs:=[_,_,_,_]) (s16.pk [2,3,4,5,6] rfl)
     simp only [List.length_set] at z362
     refine ⟨none,0,na,nc,ea,ec,oa,oc,rfl,Sep.ownNil ?_ 0 9 1⟩
     simp only [By,BS,List.length_set]
     exact z362
theorem Ol {w:World} {df:Nat} {na ea oa:Option Addr} {nc ec oc:Nat} {F:FsM} {R:List Ch} {c:Int} {x:CallM} (hS0:Sep w ((dP df na nc ea ec oa oc F)++R)) (hs:SmS F) (hok:FsOk F) (h1:x.p1.length≤1000) (h2:x.p2.length≤1000) (h3:x.data.length≤1000) (hk:x.kind=5) {m:Nat} (hm:Az F.O c x.fd=some m) :
  CallsR Tryz.prog 34 #[π df,ν c,ν (m:Int),.agg (cL x).toArray] w (fun v w'=>∃ sa sc na' nc' ea' ec' oa' oc',v=DD (BD F c x.fd x.n).2 sa sc∧Sep w' (Ai 0 9 1 sa (BD F c x.fd x.n).2.names.length sc ((BD F c x.fd x.n).2.names.flatMap sE)::[Ah df 51 [.slice na' (((BD F c x.fd x.n).1).N.length) nc',.slice ea' (((BD F c x.fd x.n).1).E.length) ec',.slice oa' (((BD F c x.fd x.n).1).O.length) oc'],Ai 0 88 3 na' (((BD F c x.fd x.n).1).N).length nc' ((((BD F c x.fd x.n).1).N).flatMap Ca),Ai 0 114 3 ea' (((BD F c x.fd x.n).1).E).length ec' ((((BD F c x.fd x.n).1).E).flatMap BU),Ai 0 93 3 oa' (((BD F c x.fd x.n).1).O).length oc' ((((BD F c x.fd x.n).1).O).flatMap BQ)]++R)):=by
 have hS:=Sep.tail_many (xs:=dP df na nc ea ec oa oc F) hS0;clear hS0
 have hz:SmF F:=hs.sm
 have hz0:=hz;obtain ⟨hz1,hz2,hz3⟩:F.N.length≤1000∧F.E.length≤1000∧F.O.length≤1000:=hz
 obtain ⟨hml,hmd⟩:=hok.toFsC.look_fd hm
 have hdl:(F.N.getD m Ap).data.length≤256:=(hok.k m hml).1
 refine AE Tryz.func34 rfl (N:=196) Tryz.ntmps34 (by show 4≤196;decide) [(0,π df),(1,ν c),(2,ν (m:Int)),(3,.agg (cL x).toArray)] rfl fun _ h1=>sqr fun _ hK3=>so (wn rfl) fun _ hK1=>Dc h1 rfl rfl rfl rfl rfl (z:=(cL x)) rfl hS fun _ g4 w7 h5 s8 _ _=>hK1 _ _ ?_
 refine so (wn rfl) fun _ hK2=>BE h5 rfl rfl rfl rfl (z:=zL) (fun _=>rfl) s8 fun _ g1 w2 h4 s1 _ _=>hK2 _ _ ?_
 refine wpList_nil<|hK3 _ _<|sqr fun _ hK4=>mvs 2 h4 rfl fun _ h6=>fav h6 rfl (Ak _ _) fun _ h7=>ldv h7 s1 2 υ47 rfl rfl rfl rfl fun _ h8=>mv h8 rfl fun _ h9=>?_
 obtain ⟨q31,hq1⟩:=AT (s1.get 3 rfl:Own _ _ _ _ _ _ _ _)
 refine sv1 h9 rfl (Ay h9 rfl rfl rfl (fun w=>ixO υ47 κ (sz:=3) (hq1 ω) (j:=m) rfl ω ω w)) fun _ h10=>sv1 h10 rfl (rfa h10 rfl rfl (fun w=>Bp q31 (m*3) w)) fun _ h11=>sw1 h11 rfl (rld h11 rfl rfl (BJ Bb υ9 rfl (s1.get 3 rfl:Own _ _ _ _ _ _ _ _) (hq1 ω) Ap (j:=m) (f:=1) ω (by decide) rfl rfl)) fun _ h12=>mv h12 rfl fun _ h13=>h13.sn [9,8,7,0,1,2,3] rfl fun h14=>hK4 _ _<|sq fun _ hK5=>sqr fun _ hK6=>fav h14 rfl (CG _ _) fun _ h15=>ldv h15 s1 1 υ3 rfl rfl rfl rfl fun _ h16=>h16.sk [24,9,8,7,0,1,2,3] rfl fun h17=>?_
 refine wpList_nil<|hK6 _ _<|wp_block ?_
 refine sqr fun _ hK7=>bv h17 rfl (cEq _ _ _ _ (decide_eq_false ω)) fun _ h18=>mv h18 rfl fun _ h19=>h19.sn [25,24,9,8,7,0,1,2,3] rfl fun h20=>hK7 _ _<|wcF h20 rfl rfl<|h20.sk [24,9,8,7,0,1,2,3] rfl fun h21=>sqr fun _ hK8=>bv h21 rfl (cEq _ _ _ _ (decide_eq_false ω)) fun _ h22=>mv h22 rfl fun _ h23=>?_
 refine h23.sn [73,24,9,8,7,0,1,2,3] rfl fun h24=>hK8 _ _<|wcF h24 rfl rfl<|h24.sk [24,9,8,7,0,1,2,3] rfl fun h25=>sqr fun _ hK9=>bv h25 rfl (cEq _ _ _ _ (decide_eq_false ω)) fun _ h26=>mv h26 rfl fun _ h27=>h27.sn [110,24,9,8,7,0,1,2,3] rfl fun h28=>hK9 _ _<|wcF h28 rfl rfl ?_
 refine h28.sk [24,9,8,7,0,1,2,3] rfl fun h29=>sqr fun _ hK10=>bv h29 rfl (cEq _ _ _ _ (decide_eq_true ω)) fun _ h30=>mv h30 rfl fun _ h31=>h31.sn [174,24,9,8,7,0,1,2,3] rfl fun h32=>hK10 _ _<|wcT h32 rfl rfl<|h32.sk [24,9,8,7,0,1,2,3] rfl fun h33=>sq fun _ hK11=>sqr fun _ hK12=>fav h33 rfl (Bv _ _) fun _ h34=>?_
 refine ldv h34 s1 1 υ3 rfl rfl rfl rfl fun _ h35=>bv h35 (z:=.bool (decide (x.n<0))) rfl (cLt _ _ _ _ rfl) fun _ h36=>h36.sn [178,24,9,8,7,0,1,2,3] rfl fun h37=>hK12 _ _ ?_
 rcases bC (decide (x.n<0)) with hc1 | hc1
 ·skip
  have hp1:x.n<0:=(dT hc1)
  refine wcT h37 rfl hc1<|h37.sk [24,9,8,7,0,1,2,3] rfl fun h38=>sqr fun _ hK13=>cl h38 rfl Ae (AV s1 15) fun _ v1 w3 r1 h39=>?_
  obtain ⟨rfl,s2⟩:=r1
  refine stA h39 s2 0 rfl rfl rfl κ rfl rfl rfl rfl fun _ w4 h40 s3 _=>h40.sn [24,9,8,7,0,1,2,3] rfl fun h41=>hK13 _ _<|wp_ret ?_
  try simp only [Exit.then,Exit.inBlock]
  refine rC h41 s3 0 υ37 rfl rfl rfl rfl ?_
  have hq2:BD F c x.fd x.n=(F,Av 15):=bx
  rw [hq2]
  exact ⟨none,0,na,nc,ea,ec,oa,oc,rfl,(Sep.tail_un (xs:=[_,_,_,_]) (s3.pk [2,3,4,5,6] rfl)).ownNil 0 9 1⟩
 ·skip
  have hp2:¬ (x.n<0):=(dF hc1)
  refine wcF h37 rfl hc1<|h37.sk [24,9,8,7,0,1,2,3] rfl fun h42=>wp_skip<|hK11 _ _<|sq fun _ hK14=>sqr fun _ hK15=>fav h42 rfl (Bv _ _) fun _ h43=>ldv h43 s1 1 υ3 rfl rfl rfl rfl fun _ h44=>bv h44 (z:=.bool (decide (x.n>256))) rfl (cGt _ _ _ _ rfl) fun _ h45=>h45.sn [182,24,9,8,7,0,1,2,3] rfl fun h46=>hK15 _ _ ?_
  rcases bC (decide (x.n>256)) with hc2 | hc2
  ·skip
   have hp3:x.n>256:=(dT hc2)
   refine wcT h46 rfl hc2<|h46.sk [24,9,8,7,0,1,2,3] rfl fun h47=>sqr fun _ hK16=>cl h47 rfl Ae (AV s1 19) fun _ v2 w5 r2 h48=>?_
   obtain ⟨rfl,s4⟩:=r2
   refine stA h48 s4 0 rfl rfl rfl κ rfl rfl rfl rfl fun _ w6 h49 s5 _=>h49.sn [24,9,8,7,0,1,2,3] rfl fun h50=>hK16 _ _<|wp_ret ?_
   try simp only [Exit.then,Exit.inBlock]
   refine rC h50 s5 0 υ37 rfl rfl rfl rfl ?_
   have hq3:BD F c x.fd x.n=(F,Av 19):=bx
   rw [hq3]
   exact ⟨none,0,na,nc,ea,ec,oa,oc,rfl,(Sep.tail_un (xs:=[_,_,_,_]) (s5.pk [2,3,4,5,6] rfl)).ownNil 0 9 1⟩
  ·skip
   have hp4:¬ (x.n>256):=(dF hc2)
   refine wcF h46 rfl hc2<|h46.sk [24,9,8,7,0,1,2,3] rfl fun h51=>wp_skip<|hK14 _ _ ?_
   have s6:=s1.drew
   refine wp_region_held_drew (S:=fun w'=>Sep w' [Ah g1 37 zL,Ah g4 30 (cL x),Ah df 51 [.slice na F.N.length nc,.slice ea F.E.length ec,.slice oa F.O.length oc],Ai 0 114 3 ea F.E.length ec (F.E.flatMap BU),Ai 0 93 3 oa F.O.length oc (F.O.flatMap BQ),Ch.many R]) κ (s6.pk [0,1,2,4,5,6] rfl) (fun hq4=>?_)
   refine tv1 hq4 h51 0 rfl rfl (fun w1 _=>(Aq h51 rfl rfl) w1) fun _ h52=>?_
   refine tv1 hq4 h52 1 rfl rfl (fun w1 _=>(CJ h52 rfl rfl) w1) fun _ h53=>?_
   refine tv1 hq4 h53 2 rfl rfl (fun w1 _=>(rfa h53 rfl rfl (fun w=>Ak df 0 w)) w1) fun _ h54=>?_
   refine tv1 hq4 h54 3 rfl rfl (fun w1 hSw=>(rld h54 rfl rfl (ldB υ47 rfl (hSw.get 2 rfl:Blk _ _ _ _) rfl))) fun _ h55=>?_
   refine tv1 hq4 h55 4 rfl rfl (fun w1 _=>(Aq h55 rfl rfl) w1) fun _ h56=>?_
   refine tv1 hq4 h56 5 rfl rfl (fun w1 _=>(Aq h56 rfl rfl) w1) fun _ h57=>?_
   refine tv1 hq4 h57 6 rfl rfl (fun w1 _=>(rfa h57 rfl rfl (fun w=>Bv g4 0 w)) w1) fun _ h58=>?_
   refine tv1 hq4 h58 7 rfl rfl (fun w1 hSw=>(rld h58 rfl rfl (ldB υ3 rfl (hSw.get 1 rfl:Blk _ _ _ _) rfl))) fun _ h59=>?_
   refine to_ 8 rfl (wn rfl) κ fun _ hK17=>CK h59 rfl rfl rfl (xs:=[.tmp 189,.tmp 191]) rfl EN rfl (vs:=[σ ((F.N.getD m Ap).data),ν x.n]) rfl (args:=#[σ ((F.N.getD m Ap).data),ν x.n]) rfl ((by have z:=OR s6 ((F.N.getD m Ap).data) (n:=(x.n).toNat) ω ω;rw [show (((x.n).toNat:Nat):Int)=x.n by omega] at z;exact z)) fun _ v3 w8 r3 h60=>?_
   obtain ⟨rfl,s7⟩:=r3
   have hs163:=Ed ((F.N.getD m Ap).data) ((x.n).toNat)
   refine hK17 _ _ (s7.pk [0,1,2,4,5,6] rfl) fun hq5=>?_
   refine tv1 hq5 h60 9 rfl rfl (v:=.pointer (some ⟨q31,m*3,none⟩)) (fun w1 _=>(Ay h60 rfl rfl rfl (fun w=>ixO υ47 κ (sz:=3) (hq1 ω) (j:=m) rfl ω ω w)) w1) fun _ h61=>?_
   refine tv1 hq5 h61 10 rfl rfl (fun w1 _=>(rfa h61 rfl rfl (fun w=>Bp q31 (m*3) w)) w1) fun _ h62=>?_
   refine to_ 11 rfl (wn rfl) κ fun _ hK18=>FQ Bb h62 rfl rfl s7 3 rfl (hq1 ω) rfl rfl rfl rfl Ap (⟨(F.N.getD m Ap).dir,Bc ((F.N.getD m Ap).data) ((x.n).toNat),(F.N.getD m Ap).links⟩:NodeM) rfl κ ω (by decide) rfl (n':=(F.N.set m (⟨(F.N.getD m Ap).dir,Bc ((F.N.getD m Ap).data) ((x.n).toNat),(F.N.getD m Ap).links⟩:NodeM)).length) (by rw [List.length_set]) fun _ w9 h63 s9=>?_
   have s10:=s9;clear s9
   refine hK18 _ _ (s10.pk [0,1,2,4,5,6] rfl) fun hq6=>h63.sk [24,9,8,7,0,1,2,3] rfl fun h64=>?_
   refine wpAnyH_done κ ?_ _
   refine hK5 _ _ ?_
   refine sqr fun _ hK19=>bu h64 (v:=.agg zL.toArray) rfl (fun w=>κ) fun _ h65=>stA h65 s10 0 rfl rfl rfl κ rfl rfl rfl rfl fun _ w10 h66 s11 _=>h66.sn [24,9,8,7,0,1,2,3] rfl fun h67=>hK19 _ _<|wp_ret ?_
   try simp only [Exit.then,Exit.inBlock]
   refine rC h67 s11 0 υ37 rfl rfl rfl rfl ?_
   have hq7:BD F c x.fd x.n=(BS F m (Bc (F.at m).data x.n.toNat),Av 0):=bx
   rw [hq7]
   have z187:=Sep.tail_un (xs:=[_,_,_,_]) (s11.pk [2,3,4,5,6] rfl)
   simp only [List.length_set] at z187
   refine ⟨none,0,na,nc,ea,ec,oa,oc,rfl,Sep.ownNil ?_ 0 9 1⟩
   simp only [By,BS,List.length_set]
   exact z187
theorem PZ {w:World} {df:Nat} {na ea oa:Option Addr} {nc ec oc:Nat} {F:FsM} {R:List Ch} {c:Int} {x:CallM} (hS0:Sep w ((dP df na nc ea ec oa oc F)++R)) (hs:SmS F) (hok:FsOk F) (h1:x.p1.length≤1000) (h2:x.p2.length≤1000) (h3:x.data.length≤1000) (hk:x.kind=6) {m:Nat} (hm:Az F.O c x.fd=some m) :
  CallsR Tryz.prog 34 #[π df,ν c,ν (m:Int),.agg (cL x).toArray] w (fun v w'=>∃ sa sc na' nc' ea' ec' oa' oc',v=DD (Cw F c x.fd).2 sa sc∧Sep w' (Ai 0 9 1 sa (Cw F c x.fd).2.names.length sc ((Cw F c x.fd).2.names.flatMap sE)::[Ah df 51 [.slice na' (((Cw F c x.fd).1).N.length) nc',.slice ea' (((Cw F c x.fd).1).E.length) ec',.slice oa' (((Cw F c x.fd).1).O.length) oc'],Ai 0 88 3 na' (((Cw F c x.fd).1).N).length nc' ((((Cw F c x.fd).1).N).flatMap Ca),Ai 0 114 3 ea' (((Cw F c x.fd).1).E).length ec' ((((Cw F c x.fd).1).E).flatMap BU),Ai 0 93 3 oa' (((Cw F c x.fd).1).O).length oc' ((((Cw F c x.fd).1).O).flatMap BQ)]++R)):=by
 have hS:=Sep.tail_many (xs:=dP df na nc ea ec oa oc F) hS0;clear hS0
 have hz:SmF F:=hs.sm
 have hz0:=hz;obtain ⟨hz1,hz2,hz3⟩:F.N.length≤1000∧F.E.length≤1000∧F.O.length≤1000:=hz
 obtain ⟨hml,hmd⟩:=hok.toFsC.look_fd hm
 have hdl:(F.N.getD m Ap).data.length≤256:=(hok.k m hml).1
 refine AE Tryz.func34 rfl (N:=196) Tryz.ntmps34 (by show 4≤196;decide) [(0,π df),(1,ν c),(2,ν (m:Int)),(3,.agg (cL x).toArray)] rfl fun _ h1=>sqr fun _ hK3=>so (wn rfl) fun _ hK1=>Dc h1 rfl rfl rfl rfl rfl (z:=(cL x)) rfl hS fun _ g4 w7 h5 s8 _ _=>hK1 _ _ ?_
 refine so (wn rfl) fun _ hK2=>BE h5 rfl rfl rfl rfl (z:=zL) (fun _=>rfl) s8 fun _ g1 w1 h4 s1 _ _=>hK2 _ _ ?_
 refine wpList_nil<|hK3 _ _<|sqr fun _ hK4=>mvs 2 h4 rfl fun _ h6=>fav h6 rfl (Ak _ _) fun _ h7=>ldv h7 s1 2 υ47 rfl rfl rfl rfl fun _ h8=>mv h8 rfl fun _ h9=>?_
 obtain ⟨q31,hq1⟩:=AT (s1.get 3 rfl:Own _ _ _ _ _ _ _ _)
 refine sv1 h9 rfl (Ay h9 rfl rfl rfl (fun w=>ixO υ47 κ (sz:=3) (hq1 ω) (j:=m) rfl ω ω w)) fun _ h10=>sv1 h10 rfl (rfa h10 rfl rfl (fun w=>Bp q31 (m*3) w)) fun _ h11=>sw1 h11 rfl (rld h11 rfl rfl (BJ Bb υ9 rfl (s1.get 3 rfl:Own _ _ _ _ _ _ _ _) (hq1 ω) Ap (j:=m) (f:=1) ω (by decide) rfl rfl)) fun _ h12=>mv h12 rfl fun _ h13=>h13.sn [9,8,7,0,1,2,3] rfl fun h14=>hK4 _ _<|sq fun _ hK5=>sqr fun _ hK6=>fav h14 rfl (CG _ _) fun _ h15=>ldv h15 s1 1 υ3 rfl rfl rfl rfl fun _ h16=>h16.sk [24,9,8,7,0,1,2,3] rfl fun h17=>?_
 refine wpList_nil<|hK6 _ _<|wp_block ?_
 refine sqr fun _ hK7=>bv h17 rfl (cEq _ _ _ _ (decide_eq_false ω)) fun _ h18=>mv h18 rfl fun _ h19=>h19.sn [25,24,9,8,7,0,1,2,3] rfl fun h20=>hK7 _ _<|wcF h20 rfl rfl<|h20.sk [24,9,8,7,0,1,2,3] rfl fun h21=>sqr fun _ hK8=>bv h21 rfl (cEq _ _ _ _ (decide_eq_false ω)) fun _ h22=>mv h22 rfl fun _ h23=>?_
 refine h23.sn [73,24,9,8,7,0,1,2,3] rfl fun h24=>hK8 _ _<|wcF h24 rfl rfl<|h24.sk [24,9,8,7,0,1,2,3] rfl fun h25=>sqr fun _ hK9=>bv h25 rfl (cEq _ _ _ _ (decide_eq_false ω)) fun _ h26=>mv h26 rfl fun _ h27=>h27.sn [110,24,9,8,7,0,1,2,3] rfl fun h28=>hK9 _ _<|wcF h28 rfl rfl ?_
 refine h28.sk [24,9,8,7,0,1,2,3] rfl fun h29=>sqr fun _ hK10=>bv h29 rfl (cEq _ _ _ _ (decide_eq_false ω)) fun _ h30=>mv h30 rfl fun _ h31=>h31.sn [174,24,9,8,7,0,1,2,3] rfl fun h32=>hK10 _ _<|wcF h32 rfl rfl<|h32.sk [24,9,8,7,0,1,2,3] rfl fun h33=>wp_skip<|hK5 _ _<|sq fun _ hK11=>wp_region_lit ?_
 refine bu h33 (v:=.agg zL.toArray) rfl (fun w=>κ) fun _ h34=>stA h34 s1 0 rfl rfl rfl κ rfl rfl rfl rfl fun _ w2 h35 s2 _=>h35.sn [24,9,8,7,0,1,2,3] rfl fun h36=>hK11 _ _<|wp_ret ?_
 try simp only [Exit.then,Exit.inBlock]
 refine rC h36 s2 0 υ37 rfl rfl rfl rfl ?_
 have hq2:Cw F c x.fd=(F,Av 0):=bx
 rw [hq2]
 exact ⟨none,0,na,nc,ea,ec,oa,oc,rfl,(Sep.tail_un (xs:=[_,_,_,_]) (s2.pk [2,3,4,5,6] rfl)).ownNil 0 9 1⟩
end
end Go.Proofs.YtcanemamnmmbcaaGreatDoor
