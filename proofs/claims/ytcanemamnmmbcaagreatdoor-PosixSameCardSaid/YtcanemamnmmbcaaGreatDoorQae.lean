/- Parts of the proof. -/
import Derived.DeepKeys4
import Derived.Maps.OwnSet
import Derived.Maps.RangeWalk
import Derived.Test.YtcanemamnmmbcaaGreatDoorQad
namespace Go.Proofs.YtcanemamnmmbcaaGreatDoor
open Go.RowKit
set_option linter.unusedSimpArgs false
set_option linter.unusedVariables false
set_option linter.unusedSectionVars false
set_option maxRecDepth 100000
set_option maxHeartbeats 8000000
section
theorem IN {F:FsM} {d m:Nat} {s:ByteArray} (h:SmF F):SmF (Af F d s m):=⟨by rw [Is];exact h.1,by rw [DI];exact Nat.le_trans (FO _ _ _) h.2.1,by rw [Ko];exact h.2.2⟩
theorem MW {w:World} {df:Nat} {na ea oa:Option Addr} {nc ec oc:Nat} {F:FsM} {R:List Ch} {c:Int} {x:CallM} (hS0:Sep w ((dP df na nc ea ec oa oc F)++R)) (hs:SmS F) (hok:FsOk F) (h1:x.p1.length≤1000) (h2:x.p2.length≤1000) (h3:x.data.length≤1000)  :
  CallsR Tryz.prog 42 #[π df,.agg (cL x).toArray] w (fun v w'=>∃ sa sc na' nc' ea' ec' oa' oc',v=DD (An F x.p1 x.p2).2 sa sc∧Sep w' (Ai 0 9 1 sa (An F x.p1 x.p2).2.names.length sc ((An F x.p1 x.p2).2.names.flatMap sE)::[Ah df 51 [.slice na' (((An F x.p1 x.p2).1).N.length) nc',.slice ea' (((An F x.p1 x.p2).1).E.length) ec',.slice oa' (((An F x.p1 x.p2).1).O.length) oc'],Ai 0 88 3 na' (((An F x.p1 x.p2).1).N).length nc' ((((An F x.p1 x.p2).1).N).flatMap Ca),Ai 0 114 3 ea' (((An F x.p1 x.p2).1).E).length ec' ((((An F x.p1 x.p2).1).E).flatMap BU),Ai 0 93 3 oa' (((An F x.p1 x.p2).1).O).length oc' ((((An F x.p1 x.p2).1).O).flatMap BQ)]++R)):=by
 have hS:=Sep.tail_many (xs:=dP df na nc ea ec oa oc F) hS0;clear hS0
 have hz:SmF F:=hs.sm
 have hz0:=hz;obtain ⟨hz1,hz2,hz3⟩:F.N.length≤1000∧F.E.length≤1000∧F.O.length≤1000:=hz
 refine AE Tryz.func42 rfl (N:=164) Tryz.ntmps42 (by show 2≤164;decide) [(0,π df),(1,.agg (cL x).toArray)] rfl fun _ h1=>sqr fun _ hK3=>so (wn rfl) fun _ hK1=>Dc h1 rfl rfl rfl rfl rfl (z:=(cL x)) rfl hS fun _ g4 w7 h5 s8 _ _=>hK1 _ _ ?_
 refine so (wn rfl) fun _ hK2=>BE h5 rfl rfl rfl rfl (z:=zL) (fun _=>rfl) s8 fun _ g1 w1 h4 s1 _ _=>hK2 _ _ ?_
 refine wpList_nil<|hK3 _ _<|sqr fun _ hK4=>sw1 h4 rfl (v:=.agg (cL x).toArray) (rld h4 rfl rfl (ldA υ30 rfl (n:=8) κ (s1.get 1 rfl:Blk _ _ _ _) rfl rfl)) fun _ h6=>cl h6 rfl EO (OK s1 x.kind x ω ω) fun _ v1 w2 r1 h7=>?_
 obtain ⟨rfl,s2⟩:=r1
 refine mv h7 rfl fun _ h8=>h8.sn [5,4,3,0,1] rfl fun h9=>hK4 _ _<|sq fun _ hK5=>sqr fun _ hK6=>mvs 3 h9 rfl fun _ h10=>sg h10 (wF h10 rfl rfl rfl) rfl rfl rfl (v:=.pointer (some ⟨g4,1,none⟩)) (fun hC1=>by have hq:=(DC (AW hC1));exact (rfa h10 rfl rfl (fun w=>Ao g4 0 w)) _) fun _ h11=>sg h11 (wF h11 rfl rfl rfl) rfl rfl rfl (v:=σ x.p1) (fun hC2=>by have hq:=(DC (AW hC2));exact (rld h11 rfl (opg rfl hC2) (ldB υ9 rfl (s2.get 1 rfl:Blk _ _ _ _) rfl))) fun _ h12=>sg h12 (wF h12 rfl rfl rfl) rfl rfl rfl (v:=.bool (decide (x.p1=[47]))) (fun hC3=>by have hq:=(DC (AW hC3));exact (BF h12 rfl (opg rfl hC3) rfl (FT _ _ _ x.p1 [47] rfl)) _) fun _ h13=>sv1 h13 rfl (v:=.bool ((!(Ew x))||(decide (x.p1=[47])))) (Ds h13 rfl (E:=(!(Ew x))) (F:=(decide (x.p1=[47]))) rfl rfl rfl (fun e=>if_pos (by rw [e];try rfl))) fun _ h14=>mv h14 rfl fun _ h15=>?_
 refine sg h15 (wF h15 rfl rfl rfl) rfl rfl rfl (v:=.pointer (some ⟨g4,2,none⟩)) (fun hC4=>by have hq:=(And.intro (DC (orF (AW hC4)).1) (dF (orF (AW hC4)).2));exact (rfa h15 rfl rfl (fun w=>AR g4 0 w)) _) fun _ h16=>sg h16 (wF h16 rfl rfl rfl) rfl rfl rfl (v:=σ x.p2) (fun hC5=>by have hq:=(And.intro (DC (orF (AW hC5)).1) (dF (orF (AW hC5)).2));exact (rld h16 rfl (opg rfl hC5) (ldB υ9 rfl (s2.get 1 rfl:Blk _ _ _ _) rfl))) fun _ h17=>sg h17 (wF h17 rfl rfl rfl) rfl rfl rfl (v:=.bool (decide (x.p2=[47]))) (fun hC6=>by have hq:=(And.intro (DC (orF (AW hC6)).1) (dF (orF (AW hC6)).2));exact (BF h17 rfl (opg rfl hC6) rfl (FT _ _ _ x.p2 [47] rfl)) _) fun _ h18=>sv1 h18 rfl (v:=.bool (((!(Ew x))||(decide (x.p1=[47])))||(decide (x.p2=[47])))) (Ds h18 rfl (E:=((!(Ew x))||(decide (x.p1=[47])))) (F:=(decide (x.p2=[47]))) rfl rfl rfl (fun e=>if_pos (by rw [e];try rfl))) fun _ h19=>h19.sn [29,5,4,3,0,1] rfl fun h20=>hK6 _ _ ?_
 rcases bC (((!(Ew x))||(decide (x.p1=[47])))||(decide (x.p2=[47]))) with hc1 | hc1
 ·skip
  have hp1:(((Ew x)=false)∨(x.p1=[47]))∨(x.p2=[47]):=((orT hc1).imp (fun q=>((orT q).imp (fun q=>(AW q)) (fun q=>(dT q)))) (fun q=>(dT q)))
  refine wcT h20 rfl hc1<|h20.sk [5,4,3,0,1] rfl fun h21=>sqr fun _ hK7=>cl h21 rfl Ae (AV s2 15) fun _ v2 w3 r2 h22=>?_
  obtain ⟨rfl,s3⟩:=r2
  refine stA h22 s3 0 rfl rfl rfl κ rfl rfl rfl rfl fun _ w4 h23 s4 _=>h23.sn [5,4,3,0,1] rfl fun h24=>hK7 _ _<|wp_ret ?_
  try simp only [Exit.then,Exit.inBlock]
  refine rC h24 s4 0 υ37 rfl rfl rfl rfl ?_
  have hq1:An F x.p1 x.p2=(F,Av 15):=by unfold An;rw [if_neg (show ¬ (((Ag x.p1).isSome=true∧(Ag x.p2).isSome=true)∧¬ x.p1=[47]∧¬ x.p2=[47]) from (fun q=>hp1.elim (fun z=>z.elim (fun z=>MU z q.1) q.2.1) q.2.2))]
  rw [hq1]
  exact ⟨none,0,na,nc,ea,ec,oa,oc,rfl,(Sep.tail_un (xs:=[_,_,_,_]) (s4.pk [2,3,4,5,6] rfl)).ownNil 0 9 1⟩
 ·skip
  have hp2:(((Ew x)=true)∧(¬ (x.p1=[47])))∧(¬ (x.p2=[47])):=(And.intro (And.intro (DC (orF (orF hc1).1).1) (dF (orF (orF hc1).1).2)) (dF (orF hc1).2))
  refine wcF h20 rfl hc1<|h20.sk [5,4,3,0,1] rfl fun h25=>wp_skip<|hK5 _ _<|sqr fun _ hK8=>mv h25 rfl fun _ h26=>fav h26 rfl (Ao _ _) fun _ h27=>ldv h27 s2 1 υ9 rfl rfl rfl rfl fun _ h28=>cl h28 rfl Bk (Ec (F:=F) (s2.pk [2,3,4,5,0,1,6] rfl) hz0 hok ω) fun _ v3 w5 r3 h29=>?_
  obtain ⟨rfl,s5⟩:=r3
  have hfl101:=FsC.find_lt (F:=F) (FsOk.toFsC hok) x.p1
  refine mvs 5 h29 rfl fun _ h30=>h30.sn [7,6,5,4,3,0,1] rfl fun h31=>hK8 _ _<|sq fun _ hK9=>sqr fun _ hK10=>mv h31 rfl fun _ h32=>bv h32 (z:=.bool (decide ((Ab F x.p1).1≠0))) rfl (cNe _ _ _ _ rfl) fun _ h33=>h33.sn [39,7,6,5,4,3,0,1] rfl fun h34=>hK10 _ _ ?_
  rcases bC (decide ((Ab F x.p1).1≠0)) with hc2 | hc2
  ·skip
   have hp3:(Ab F x.p1).1≠0:=(dT hc2)
   refine wcT h34 rfl hc2<|h34.sk [7,6,5,4,3,0,1] rfl fun h35=>sqr fun _ hK11=>mv h35 rfl fun _ h36=>cl h36 rfl Ae (AV s5 ((Ab F x.p1).1)) fun _ v4 w6 r4 h37=>?_
   obtain ⟨rfl,s6⟩:=r4
   refine stA h37 s6 4 rfl rfl rfl κ rfl rfl rfl rfl fun _ w8 h38 s7 _=>h38.sn [7,6,5,4,3,0,1] rfl fun h39=>hK11 _ _<|wp_ret ?_
   try simp only [Exit.then,Exit.inBlock]
   refine rC h39 s7 4 υ37 rfl rfl rfl rfl ?_
   have hq2:An F x.p1 x.p2=(F,Av (Ab F x.p1).1):=by unfold An;rw [if_pos (show ((Ag x.p1).isSome=true∧(Ag x.p2).isSome=true)∧¬ x.p1=[47]∧¬ x.p2=[47] from ⟨BR (DC (orF (orF hc1).1).1),(dF (orF (orF hc1).1).2),(dF (orF hc1).2)⟩),if_neg ω]
   rw [hq2]
   exact ⟨none,0,na,nc,ea,ec,oa,oc,rfl,(Sep.tail_un (xs:=[_,_,_,_]) (s7.pk [0,1,2,3,6] rfl)).ownNil 0 9 1⟩
  ·skip
   have hp4:¬ ((Ab F x.p1).1≠0):=(dF hc2)
   refine wcF h34 rfl hc2<|h34.sk [7,6,5,4,3,0,1] rfl fun h40=>wp_skip<|hK9 _ _<|sqr fun _ hK12=>mvs 2 h40 rfl fun _ h41=>fav h41 rfl (Ak _ _) fun _ h42=>ldv h42 s5 0 υ47 rfl rfl rfl rfl fun _ h43=>mv h43 rfl fun _ h44=>?_
   obtain ⟨q154,hq3⟩:=AT (s5.get 1 rfl:Own _ _ _ _ _ _ _ _)
   refine sv1 h44 rfl (v:=.pointer (some ⟨q154,((Ab F x.p1).2)*3,none⟩)) (Ay h44 rfl rfl rfl (fun w=>ixO υ47 κ (sz:=3) (hq3 ω) (j:=(Ab F x.p1).2) rfl ω ω w)) fun _ h45=>sv1 h45 rfl (v:=.pointer (some ⟨q154,((Ab F x.p1).2)*3+0,none⟩)) (rfa h45 rfl rfl (fun w=>AC q154 (((Ab F x.p1).2)*3) w)) fun _ h46=>sw1 h46 rfl (v:=.bool ((F.N.getD ((Ab F x.p1).2) Ap).dir)) (rld h46 rfl rfl (BJ Bb υ4 rfl (s5.get 1 rfl:Own _ _ _ _ _ _ _ _) (hq3 ω) Ap (j:=((Ab F x.p1).2)) (f:=0) ω (by decide) rfl rfl)) fun _ h47=>mv h47 rfl fun _ h48=>h48.sn [8,7,6,5,4,3,0,1] rfl fun h49=>hK12 _ _<|sq fun _ hK13=>sqr fun _ hK14=>mvs 2 h49 rfl fun _ h50=>sg h50 (wT h50 rfl rfl rfl) rfl rfl rfl (v:=.pointer (some ⟨g4,1,none⟩)) (fun hC7=>(rfa h50 rfl rfl (fun w=>Ao g4 0 w)) _) fun _ h51=>sg h51 (wT h51 rfl rfl rfl) rfl rfl rfl (v:=σ x.p1) (fun hC8=>(rld h51 rfl (opg rfl hC8) (ldB υ9 rfl (s5.get 5 rfl:Blk _ _ _ _) rfl))) fun _ h52=>?_
   refine sg h52 (wT h52 rfl rfl rfl) rfl rfl rfl (v:=.pointer (some ⟨g4,2,none⟩)) (fun hC9=>(rfa h52 rfl rfl (fun w=>AR g4 0 w)) _) fun _ h53=>sg h53 (wT h53 rfl rfl rfl) rfl rfl rfl (v:=σ x.p2) (fun hC10=>(rld h53 rfl (opg rfl hC10) (ldB υ9 rfl (s5.get 5 rfl:Blk _ _ _ _) rfl))) fun _ h54=>sg h54 (wT h54 rfl rfl rfl) rfl rfl rfl (v:=.bool (decide (x.p1≠x.p2))) (fun hC11=>(BF h54 rfl (opg rfl hC11) (opg rfl hC11) (Ov _ _ _ x.p1 x.p2 rfl)) _) fun _ h55=>sv1 h55 rfl (v:=.bool (((F.N.getD ((Ab F x.p1).2) Ap).dir)&&(decide (x.p1≠x.p2)))) (Ej h55 rfl (E:=((F.N.getD ((Ab F x.p1).2) Ap).dir)) (F:=(decide (x.p1≠x.p2))) rfl rfl rfl (fun e=>if_pos (by rw [e];try rfl))) fun _ h56=>mv h56 rfl fun _ h57=>sg h57 (wT h57 rfl rfl rfl) rfl rfl rfl (v:=.pointer (some ⟨g4,2,none⟩)) (fun hC12=>by have hq:=(And.intro (AA hC12).1 (dT (AA hC12).2));exact (rfa h57 rfl rfl (fun w=>AR g4 0 w)) _) fun _ h58=>sg h58 (wT h58 rfl rfl rfl) rfl rfl rfl (v:=σ x.p2) (fun hC13=>by have hq:=(And.intro (AA hC13).1 (dT (AA hC13).2));exact (rld h58 rfl (opg rfl hC13) (ldB υ9 rfl (s5.get 5 rfl:Blk _ _ _ _) rfl))) fun _ h59=>sg h59 (wT h59 rfl rfl rfl) rfl rfl rfl (v:=.pointer (some ⟨g4,1,none⟩)) (fun hC14=>by have hq:=(And.intro (AA hC14).1 (dT (AA hC14).2));exact (rfa h59 rfl rfl (fun w=>Ao g4 0 w)) _) fun _ h60=>sg h60 (wT h60 rfl rfl rfl) rfl rfl rfl (v:=σ x.p1) (fun hC15=>by have hq:=(And.intro (AA hC15).1 (dT (AA hC15).2));exact (rld h60 rfl (opg rfl hC15) (ldB υ9 rfl (s5.get 5 rfl:Blk _ _ _ _) rfl))) fun _ h61=>?_
   rcases bC (((F.N.getD ((Ab F x.p1).2) Ap).dir)&&(decide (x.p1≠x.p2))) with hc3 | hc3
   ·skip
    have hp5:(((F.N.getD ((Ab F x.p1).2) Ap).dir)=true)∧(x.p1≠x.p2):=(And.intro (AA hc3).1 (dT (AA hc3).2))
    refine so ((wT h61 rfl rfl rfl).trans hc3) fun _ hK15=>CK h61 rfl rfl rfl (xs:=[.tmp 60,.tmp 62]) rfl GD rfl (vs:=[σ x.p2,σ x.p1]) (Gt (opg rfl hc3) (Gt (opg rfl hc3) rfl)) (args:=#[σ x.p2,σ x.p1]) rfl (MG s5 x.p2 x.p1 ω ω) fun _ v5 w9 r5 h62=>hK15 _ _ ?_
    obtain ⟨rfl,s9⟩:=r5
    refine sv1 h62 rfl (v:=.bool (Da (Ag x.p2) (Ag x.p1))) (BO h62 rfl (E:=(((F.N.getD ((Ab F x.p1).2) Ap).dir)&&(decide (x.p1≠x.p2)))) (b:=true) rfl hc3 rfl) fun _ h63=>h63.sn [64,8,7,6,5,4,3,0,1] rfl fun h64=>hK14 _ _ ?_
    rcases bC (Da (Ag x.p2) (Ag x.p1)) with hc4 | hc4
    ·skip
     refine wcT h64 rfl hc4<|h64.sk [8,7,6,5,4,3,0,1] rfl fun h65=>sqr fun _ hK16=>cl h65 rfl Ae (AV s9 15) fun _ v6 w10 r6 h66=>?_
     obtain ⟨rfl,s10⟩:=r6
     refine stA h66 s10 4 rfl rfl rfl κ rfl rfl rfl rfl fun _ w11 h67 s11 _=>h67.sn [8,7,6,5,4,3,0,1] rfl fun h68=>hK16 _ _<|wp_ret ?_
     try simp only [Exit.then,Exit.inBlock]
     refine rC h68 s11 4 υ37 rfl rfl rfl rfl ?_
     have hq4:An F x.p1 x.p2=(F,Av 15):=by unfold An;rw [if_pos (show ((Ag x.p1).isSome=true∧(Ag x.p2).isSome=true)∧¬ x.p1=[47]∧¬ x.p2=[47] from ⟨BR (DC (orF (orF hc1).1).1),(dF (orF (orF hc1).1).2),(dF (orF hc1).2)⟩),if_pos ω,if_pos (show (F.dir (Ab F x.p1).2=true∧¬ x.p1=x.p2)∧Da (Ag x.p2) (Ag x.p1)=true from ⟨⟨(AA hc3).1,(dT (AA hc3).2)⟩,hc4⟩)]
     rw [hq4]
     exact ⟨none,0,na,nc,ea,ec,oa,oc,rfl,(Sep.tail_un (xs:=[_,_,_,_]) (s11.pk [0,1,2,3,6] rfl)).ownNil 0 9 1⟩
    ·skip
     refine wcF h64 rfl hc4<|h64.sk [8,7,6,5,4,3,0,1] rfl fun h69=>wp_skip<|hK13 _ _<|sqr fun _ hK17=>mv h69 rfl fun _ h70=>fav h70 rfl (AR _ _) fun _ h71=>ldv h71 s9 5 υ9 rfl rfl rfl rfl fun _ h72=>cl h72 rfl AF (Cx (F:=F) s9 hz0 hok ω) fun _ v7 w12 r7 h73=>?_
     obtain ⟨rfl,s12⟩:=r7
     refine mvs 7 h73 rfl fun _ h74=>h74.sn [11,10,9,8,7,6,5,4,3,0,1] rfl fun h75=>hK17 _ _<|sq fun _ hK18=>sqr fun _ hK19=>mv h75 rfl fun _ h76=>bv h76 (z:=.bool (decide ((Aa F x.p2).1≠0))) rfl (cNe _ _ _ _ rfl) fun _ h77=>h77.sn [75,11,10,9,8,7,6,5,4,3,0,1] rfl fun h78=>hK19 _ _ ?_
     rcases bC (decide ((Aa F x.p2).1≠0)) with hc5 | hc5
     ·skip
      have hp6:(Aa F x.p2).1≠0:=(dT hc5)
      refine wcT h78 rfl hc5<|h78.sk [11,10,9,8,7,6,5,4,3,0,1] rfl fun h79=>sqr fun _ hK20=>mv h79 rfl fun _ h80=>cl h80 rfl Ae (AV s12 ((Aa F x.p2).1)) fun _ v8 w13 r8 h81=>?_
      obtain ⟨rfl,s13⟩:=r8
      refine stA h81 s13 4 rfl rfl rfl κ rfl rfl rfl rfl fun _ w14 h82 s14 _=>h82.sn [11,10,9,8,7,6,5,4,3,0,1] rfl fun h83=>hK20 _ _<|wp_ret ?_
      try simp only [Exit.then,Exit.inBlock]
      refine rC h83 s14 4 υ37 rfl rfl rfl rfl ?_
      have hq5:An F x.p1 x.p2=(F,Av (Aa F x.p2).1):=by unfold An;rw [if_pos (show ((Ag x.p1).isSome=true∧(Ag x.p2).isSome=true)∧¬ x.p1=[47]∧¬ x.p2=[47] from ⟨BR (DC (orF (orF hc1).1).1),(dF (orF (orF hc1).1).2),(dF (orF hc1).2)⟩),if_pos ω,if_neg (show ¬ ((F.dir (Ab F x.p1).2=true∧¬ x.p1=x.p2)∧Da (Ag x.p2) (Ag x.p1)=true) from (fun q=>AI hc4 q.2)),if_neg ω]
      rw [hq5]
      exact ⟨none,0,na,nc,ea,ec,oa,oc,rfl,(Sep.tail_un (xs:=[_,_,_,_]) (s14.pk [0,1,2,3,6] rfl)).ownNil 0 9 1⟩
     ·skip
      have hp7:¬ ((Aa F x.p2).1≠0):=(dF hc5)
      refine wcF h78 rfl hc5<|h78.sk [11,10,9,8,7,6,5,4,3,0,1] rfl fun h84=>wp_skip<|hK18 _ _<|sqr fun _ hK21=>mvs 3 h84 rfl fun _ h85=>?_
      rcases bC ((Aj F.E ((Aa F x.p2).2.1) ((Aa F x.p2).2.2)).isSome) with hc6 | hc6
      ·skip
       obtain ⟨m1,hm1⟩:=Option.isSome_iff_exists.1 hc6
       have hml305:=(FsC.look_lt hok.toFsC hm1).1
       refine cl h85 rfl AX (Fw (F:=F) s12 hz0 hm1) fun _ v9 w15 r9 h86=>?_
       obtain ⟨rfl,s15⟩:=r9
       refine mv h86 rfl fun _ h87=>h87.sn [12,11,10,9,8,7,6,5,4,3,0,1] rfl fun h88=>hK21 _ _<|sq fun _ hK22=>sqr fun _ hK23=>mvs 2 h88 rfl fun _ h89=>bv h89 (z:=.bool (decide ((m1:Int)=(((Ab F x.p1).2:Nat):Int)))) rfl (cEq _ _ _ _ rfl) fun _ h90=>h90.sn [84,12,11,10,9,8,7,6,5,4,3,0,1] rfl fun h91=>hK23 _ _ ?_
       rcases bC (decide ((m1:Int)=(((Ab F x.p1).2:Nat):Int))) with hc7 | hc7
       ·skip
        have hp8:(m1:Int)=(((Ab F x.p1).2:Nat):Int):=(dT hc7)
        refine wcT h91 rfl hc7<|h91.sk [12,11,10,9,8,7,6,5,4,3,0,1] rfl fun h92=>sqr fun _ hK24=>bu h92 (v:=.agg zL.toArray) rfl (fun w=>κ) fun _ h93=>stA h93 s15 4 rfl rfl rfl κ rfl rfl rfl rfl fun _ w16 h94 s16 _=>h94.sn [12,11,10,9,8,7,6,5,4,3,0,1] rfl fun h95=>hK24 _ _<|wp_ret ?_
        try simp only [Exit.then,Exit.inBlock]
        refine rC h95 s16 4 υ37 rfl rfl rfl rfl ?_
        have hq6:An F x.p1 x.p2=(F,Av 0):=by unfold An;rw [if_pos (show ((Ag x.p1).isSome=true∧(Ag x.p2).isSome=true)∧¬ x.p1=[47]∧¬ x.p2=[47] from ⟨BR (DC (orF (orF hc1).1).1),(dF (orF (orF hc1).1).2),(dF (orF hc1).2)⟩),if_pos ω,if_neg (show ¬ ((F.dir (Ab F x.p1).2=true∧¬ x.p1=x.p2)∧Da (Ag x.p2) (Ag x.p1)=true) from (fun q=>AI hc4 q.2)),if_pos ω];unfold Be;rw [hm1];try dsimp only;rw [if_pos ω]
        rw [hq6]
        exact ⟨none,0,na,nc,ea,ec,oa,oc,rfl,(Sep.tail_un (xs:=[_,_,_,_]) (s16.pk [0,1,2,3,6] rfl)).ownNil 0 9 1⟩
       ·skip
        have hp9:¬ ((m1:Int)=(((Ab F x.p1).2:Nat):Int)):=(dF hc7)
        refine wcF h91 rfl hc7<|h91.sk [12,11,10,9,8,7,6,5,4,3,0,1] rfl fun h96=>wp_skip<|hK22 _ _<|sq fun _ hK25=>sqr fun _ hK26=>mv h96 rfl fun _ h97=>bv h97 rfl (cGe _ _ _ _ (decide_eq_true ω)) fun _ h98=>h98.sn [87,12,11,10,9,8,7,6,5,4,3,0,1] rfl fun h99=>hK26 _ _<|wcT h99 rfl rfl<|h99.sk [12,11,10,9,8,7,6,5,4,3,0,1] rfl fun h100=>?_
        refine sq fun _ hK27=>sqr fun _ hK28=>mvs 2 h100 rfl fun _ h101=>sv h101 ((wT h101 rfl rfl rfl).trans (AA hc3).1) rfl rfl rfl (v:=π df) (Aq h101 rfl rfl) fun _ h102=>sv h102 ((wT h102 rfl rfl rfl).trans (AA hc3).1) rfl rfl rfl (v:=π df) (CJ h102 rfl rfl) fun _ h103=>sv h103 ((wT h103 rfl rfl rfl).trans (AA hc3).1) rfl rfl rfl (v:=π df) (rfa h103 rfl rfl (fun w=>Ak df 0 w)) fun _ h104=>sw h104 ((wT h104 rfl rfl rfl).trans (AA hc3).1) rfl rfl rfl (v:=.slice na F.N.length nc) (rld h104 rfl rfl (ldB υ47 rfl (s15.get 0 rfl:Blk _ _ _ _) rfl)) fun _ h105=>sv h105 ((wT h105 rfl rfl rfl).trans (AA hc3).1) rfl rfl rfl (v:=ν (m1:Int)) (Aq h105 rfl rfl) fun _ h106=>sv h106 ((wT h106 rfl rfl rfl).trans (AA hc3).1) rfl rfl rfl (v:=.pointer (some ⟨q154,m1*3,none⟩)) (Ay h106 rfl rfl rfl (fun w=>ixO υ47 κ (sz:=3) (hq3 ω) (j:=m1) rfl ω ω w)) fun _ h107=>sv h107 ((wT h107 rfl rfl rfl).trans (AA hc3).1) rfl rfl rfl (v:=.pointer (some ⟨q154,m1*3+0,none⟩)) (rfa h107 rfl rfl (fun w=>AC q154 (m1*3) w)) fun _ h108=>sw h108 ((wT h108 rfl rfl rfl).trans (AA hc3).1) rfl rfl rfl (v:=.bool ((F.N.getD m1 Ap).dir)) (rld h108 rfl rfl (BJ Bb υ4 rfl (s15.get 1 rfl:Own _ _ _ _ _ _ _ _) (hq3 ω) Ap (j:=m1) (f:=0) ω (by decide) rfl rfl)) fun _ h109=>?_
        refine sv h109 ((wT h109 rfl rfl rfl).trans (AA hc3).1) rfl rfl rfl (v:=.bool (!((F.N.getD m1 Ap).dir))) (Oa h109 rfl (b:=(F.N.getD m1 Ap).dir) rfl) fun _ h110=>sv1 h110 rfl (v:=.bool (!((F.N.getD m1 Ap).dir))) (BO h110 rfl (E:=((F.N.getD ((Ab F x.p1).2) Ap).dir)) (b:=true) rfl (AA hc3).1 rfl) fun _ h111=>h111.sn [99,12,11,10,9,8,7,6,5,4,3,0,1] rfl fun h112=>hK28 _ _ ?_
        rcases bC ((F.N.getD m1 Ap).dir) with hc8 | hc8
        ·skip
         refine wcF h112 rfl (Bq hc8)<|h112.sk [12,11,10,9,8,7,6,5,4,3,0,1] rfl fun h113=>wp_skip<|hK27 _ _<|sq fun _ hK29=>sqr fun _ hK30=>mvs 2 h113 rfl fun _ h114=>sv h114 ((wT h114 rfl rfl rfl).trans (AA hc3).1) rfl rfl rfl (v:=π df) (Aq h114 rfl rfl) fun _ h115=>sv h115 ((wT h115 rfl rfl rfl).trans (AA hc3).1) rfl rfl rfl (v:=ν (m1:Int)) (Aq h115 rfl rfl) fun _ h116=>so ((wT h116 rfl rfl rfl).trans (AA hc3).1) fun _ hK31=>CK h116 rfl rfl rfl (xs:=[.tmp 103,.tmp 104]) rfl CE rfl (vs:=[π df,ν (m1:Int)]) rfl (args:=#[π df,ν (m1:Int)]) rfl (JU (F:=F) (d:=m1) s15 hz0) fun _ v10 w17 r10 h117=>hK31 _ _ ?_
         obtain ⟨rfl,s17⟩:=r10
         refine sv h117 ((wT h117 rfl rfl rfl).trans (AA hc3).1) rfl rfl rfl (v:=.bool (decide (((BG F.E m1:Nat):Int)>0))) (BF h117 rfl rfl rfl (cGt _ _ _ _ rfl)) fun _ h118=>sv1 h118 rfl (v:=.bool (decide (((BG F.E m1:Nat):Int)>0))) (BO h118 rfl (E:=((F.N.getD ((Ab F x.p1).2) Ap).dir)) (b:=true) rfl (AA hc3).1 rfl) fun _ h119=>h119.sn [107,12,11,10,9,8,7,6,5,4,3,0,1] rfl fun h120=>hK30 _ _ ?_
         rcases bC (decide (((BG F.E m1:Nat):Int)>0)) with hc9 | hc9
         ·skip
          have hp10:((BG F.E m1:Nat):Int)>0:=(dT hc9)
          refine wcT h120 rfl hc9<|h120.sk [12,11,10,9,8,7,6,5,4,3,0,1] rfl fun h121=>sqr fun _ hK32=>cl h121 rfl Ae (AV s17 14) fun _ v11 w18 r11 h122=>?_
          obtain ⟨rfl,s18⟩:=r11
          refine stA h122 s18 4 rfl rfl rfl κ rfl rfl rfl rfl fun _ w19 h123 s19 _=>h123.sn [12,11,10,9,8,7,6,5,4,3,0,1] rfl fun h124=>hK32 _ _<|wp_ret ?_
          try simp only [Exit.then,Exit.inBlock]
          refine rC h124 s19 4 Tryz.underlying37 rfl rfl rfl rfl ?_
          have hq7:An F x.p1 x.p2=(F,Av 14):=by unfold An;rw [if_pos (show ((Ag x.p1).isSome=true∧(Ag x.p2).isSome=true)∧¬ x.p1=[47]∧¬ x.p2=[47] from ⟨BR (DC (orF (orF hc1).1).1),(dF (orF (orF hc1).1).2),(dF (orF hc1).2)⟩),if_pos ω,if_neg (show ¬ ((F.dir (Ab F x.p1).2=true∧¬ x.p1=x.p2)∧Da (Ag x.p2) (Ag x.p1)=true) from (fun q=>AI hc4 q.2)),if_pos ω];unfold Be;rw [hm1];try dsimp only;rw [if_neg ω,if_neg (show ¬ (F.dir (Ab F x.p1).2=true∧F.dir m1=false) from (fun q=>AI q.2 hc8)),if_pos (show F.dir (Ab F x.p1).2=true∧0<BG F.E m1 from ⟨(AA hc3).1,ω⟩)]
          rw [hq7]
          exact ⟨none,0,na,nc,ea,ec,oa,oc,rfl,(Sep.tail_un (xs:=[_,_,_,_]) (s19.pk [0,1,2,3,6] rfl)).ownNil 0 9 1⟩
         ·skip
          have hp11:¬ (((BG F.E m1:Nat):Int)>0):=(dF hc9)
          refine wcF h120 rfl hc9<|h120.sk [12,11,10,9,8,7,6,5,4,3,0,1] rfl fun h125=>wp_skip<|hK29 _ _<|sq fun _ hK33=>sqr fun _ hK34=>mvs 3 h125 rfl fun _ h126=>su h126 ((wT h126 rfl rfl rfl).trans (Bq (AA hc3).1)) rfl rfl rfl fun _ h127=>su h127 ((wT h127 rfl rfl rfl).trans (Bq (AA hc3).1)) rfl rfl rfl fun _ h128=>su h128 ((wT h128 rfl rfl rfl).trans (Bq (AA hc3).1)) rfl rfl rfl fun _ h129=>su h129 ((wT h129 rfl rfl rfl).trans (Bq (AA hc3).1)) rfl rfl rfl fun _ h130=>su h130 ((wT h130 rfl rfl rfl).trans (Bq (AA hc3).1)) rfl rfl rfl fun _ h131=>?_
          refine su h131 ((wT h131 rfl rfl rfl).trans (Bq (AA hc3).1)) rfl rfl rfl fun _ h132=>su h132 ((wT h132 rfl rfl rfl).trans (Bq (AA hc3).1)) rfl rfl rfl fun _ h133=>su h133 ((wT h133 rfl rfl rfl).trans (Bq (AA hc3).1)) rfl rfl rfl fun _ h134=>sv1 h134 rfl (v:=.bool false) (BO h134 rfl (E:=(!((F.N.getD ((Ab F x.p1).2) Ap).dir))) (b:=false) rfl (Bq (AA hc3).1) rfl) fun _ h135=>h135.sn [120,12,11,10,9,8,7,6,5,4,3,0,1] rfl fun h136=>hK34 _ _<|wcF h136 rfl rfl<|h136.sk [12,11,10,9,8,7,6,5,4,3,0,1] rfl fun h137=>wp_skip<|hK33 _ _<|sq fun _ hK35=>wp_region_lit ?_
          refine mvs 3 h137 rfl fun _ h138=>cl h138 rfl AY (FP (F:=F) s17 hz0 ((Aa F x.p2).2.1) ((Aa F x.p2).2.2)) fun _ v12 w20 r12 h139=>?_
          obtain ⟨nax457,ncx458,eax459,ecx460,oax461,ocx462,rfl,s20⟩:=r12
          have hN470:(As F ((Aa F x.p2).2.1) ((Aa F x.p2).2.2)).N.length=F.N.length:=rfl
          have hO471:(As F ((Aa F x.p2).2.1) ((Aa F x.p2).2.2)).O.length=F.O.length:=rfl
          refine h139.sn [12,11,10,9,8,7,6,5,4,3,0,1] rfl fun h140=>hK35 _ _<|sq fun _ hK36=>?_
          have hl474:(F.N.getD m1 Ap).links≤20:=hok.l20 m1 ω;have hl475:0≤(F.N.getD m1 Ap).links:=FsC.links_ge hok.toFsC (i:=m1) ω
          have hl476:(((As F ((Aa F x.p2).2.1) ((Aa F x.p2).2.2)).N).getD m1 Ap).links=(F.N.getD m1 Ap).links:=rfl
          refine wp_region_lit<|mvs 2 h140 rfl fun _ h141=>fav h141 rfl (Ak _ _) fun _ h142=>ldv h142 s20 0 υ47 rfl rfl rfl rfl fun _ h143=>mv h143 rfl fun _ h144=>?_
          obtain ⟨q487,hq8⟩:=AT (s20.get 1 rfl:Own _ _ _ _ _ _ _ _)
          refine sv1 h144 rfl (v:=.pointer (some ⟨q487,m1*3,none⟩)) (Ay h144 rfl rfl rfl (fun w=>ixO υ47 κ (sz:=3) (hq8 ω) (j:=m1) rfl ω ω w)) fun _ h145=>sv1 h145 rfl (v:=.pointer (some ⟨q487,m1*3+0,none⟩)) (rfa h145 rfl rfl (fun w=>AC q487 (m1*3) w)) fun _ h146=>sw1 h146 rfl (v:=.bool ((((As F ((Aa F x.p2).2.1) ((Aa F x.p2).2.2)).N).getD m1 Ap).dir)) (rld h146 rfl rfl (BJ Bb υ4 rfl (s20.get 1 rfl:Own _ _ _ _ _ _ _ _) (hq8 ω) Ap (j:=m1) (f:=0) ω (by decide) rfl rfl)) fun _ h147=>mv h147 rfl fun _ h148=>h148.sn [134,12,11,10,9,8,7,6,5,4,3,0,1] rfl fun h149=>hK36 _ _<|wcF h149 rfl (Bq hc8)<|h149.sk [12,11,10,9,8,7,6,5,4,3,0,1] rfl fun h150=>wp_skip<|hK25 _ _<|sq fun _ hK37=>?_
          have hfr500:Af F (Aa F x.p2).2.1 (Aa F x.p2).2.2 m1=As F (Aa F x.p2).2.1 (Aa F x.p2).2.2:=by unfold Af;rw [if_pos (show F.dir m1=true from hc8)]
          have hok501:FsOk (Af F (Aa F x.p2).2.1 (Aa F x.p2).2.2 m1):=hok.freed hm1
          have hz502:SmF (Af F (Aa F x.p2).2.1 (Aa F x.p2).2.2 m1):=IN hz0
          have s21:Sep w20 ([Ah df 51 [.slice nax457 ((Af F (Aa F x.p2).2.1 (Aa F x.p2).2.2 m1).N.length) ncx458,.slice eax459 ((Af F (Aa F x.p2).2.1 (Aa F x.p2).2.2 m1).E.length) ecx460,.slice oax461 ((Af F (Aa F x.p2).2.1 (Aa F x.p2).2.2 m1).O.length) ocx462],Ai 0 88 3 nax457 ((Af F (Aa F x.p2).2.1 (Aa F x.p2).2.2 m1).N).length ncx458 (((Af F (Aa F x.p2).2.1 (Aa F x.p2).2.2 m1).N).flatMap Ca),Ai 0 114 3 eax459 ((Af F (Aa F x.p2).2.1 (Aa F x.p2).2.2 m1).E).length ecx460 (((Af F (Aa F x.p2).2.1 (Aa F x.p2).2.2 m1).E).flatMap BU),Ai 0 93 3 oax461 ((Af F (Aa F x.p2).2.1 (Aa F x.p2).2.2 m1).O).length ocx462 (((Af F (Aa F x.p2).2.1 (Aa F x.p2).2.2 m1).O).flatMap BQ),Ah g1 37 zL,Ah g4 30 (cL x),Ch.many R]):=by
           have z:=s20;rw [hfr500];(try simp only [List.length_set] at z);exact z
          obtain ⟨hz502a,hz502b,hz502c⟩:=hz502;have hz502:SmF (Af F (Aa F x.p2).2.1 (Aa F x.p2).2.2 m1):=⟨hz502a,hz502b,hz502c⟩
          refine wp_region_lit<|mv h150 rfl fun _ h151=>fav h151 rfl (Ao _ _) fun _ h152=>ldv h152 s21 5 υ9 rfl rfl rfl rfl fun _ h153=>cl h153 rfl AF (Cx (F:=(Af F (Aa F x.p2).2.1 (Aa F x.p2).2.2 m1)) s21 hz502 hok501 ω) fun _ v13 w21 r13 h154=>?_
          obtain ⟨rfl,s22⟩:=r13
          refine mvs 7 h154 rfl fun _ h155=>h155.sn [14,13,12,11,10,9,8,7,6,5,4,3,0,1] rfl fun h156=>hK37 _ _<|sqr fun _ hK38=>mvs 3 h156 rfl fun _ h157=>cl h157 rfl AY (FP (F:=(Af F (Aa F x.p2).2.1 (Aa F x.p2).2.2 m1)) s22 hz502 ((Aa (Af F (Aa F x.p2).2.1 (Aa F x.p2).2.2 m1) x.p1).2.1) ((Aa (Af F (Aa F x.p2).2.1 (Aa F x.p2).2.2 m1) x.p1).2.2)) fun _ v14 w22 r14 h158=>?_
          obtain ⟨nax539,ncx540,eax541,ecx542,oax543,ocx544,rfl,s23⟩:=r14
          have hN552:(As (Af F (Aa F x.p2).2.1 (Aa F x.p2).2.2 m1) ((Aa (Af F (Aa F x.p2).2.1 (Aa F x.p2).2.2 m1) x.p1).2.1) ((Aa (Af F (Aa F x.p2).2.1 (Aa F x.p2).2.2 m1) x.p1).2.2)).N.length=(Af F (Aa F x.p2).2.1 (Aa F x.p2).2.2 m1).N.length:=rfl
          have hO553:(As (Af F (Aa F x.p2).2.1 (Aa F x.p2).2.2 m1) ((Aa (Af F (Aa F x.p2).2.1 (Aa F x.p2).2.2 m1) x.p1).2.1) ((Aa (Af F (Aa F x.p2).2.1 (Aa F x.p2).2.2 m1) x.p1).2.2)).O.length=(Af F (Aa F x.p2).2.1 (Aa F x.p2).2.2 m1).O.length:=rfl
          refine h158.sn [14,13,12,11,10,9,8,7,6,5,4,3,0,1] rfl fun h159=>hK38 _ _<|sqr fun _ hK39=>mvs 4 h159 rfl fun _ h160=>cl h160 rfl Bo (IW (F:=(As (Af F (Aa F x.p2).2.1 (Aa F x.p2).2.2 m1) ((Aa (Af F (Aa F x.p2).2.1 (Aa F x.p2).2.2 m1) x.p1).2.1) ((Aa (Af F (Aa F x.p2).2.1 (Aa F x.p2).2.2 m1) x.p1).2.2))) s23 (Gz (d:=(Aa (Af F (Aa F x.p2).2.1 (Aa F x.p2).2.2 m1) x.p1).2.1) (s:=((Aa (Af F (Aa F x.p2).2.1 (Aa F x.p2).2.2 m1) x.p1).2.2)) hz502) ((Aa F x.p2).2.1) ((Aa F x.p2).2.2) ((Ab F x.p1).2)) fun _ v15 w23 r15 h161=>?_
          obtain ⟨nax564,ncx565,eax566,ecx567,oax568,ocx569,rfl,s24⟩:=r15
          have hN577:(Br (As (Af F (Aa F x.p2).2.1 (Aa F x.p2).2.2 m1) ((Aa (Af F (Aa F x.p2).2.1 (Aa F x.p2).2.2 m1) x.p1).2.1) ((Aa (Af F (Aa F x.p2).2.1 (Aa F x.p2).2.2 m1) x.p1).2.2)) ((Aa F x.p2).2.1) ((Aa F x.p2).2.2) ((Ab F x.p1).2)).N.length=(As (Af F (Aa F x.p2).2.1 (Aa F x.p2).2.2 m1) ((Aa (Af F (Aa F x.p2).2.1 (Aa F x.p2).2.2 m1) x.p1).2.1) ((Aa (Af F (Aa F x.p2).2.1 (Aa F x.p2).2.2 m1) x.p1).2.2)).N.length:=rfl
          have hO578:(Br (As (Af F (Aa F x.p2).2.1 (Aa F x.p2).2.2 m1) ((Aa (Af F (Aa F x.p2).2.1 (Aa F x.p2).2.2 m1) x.p1).2.1) ((Aa (Af F (Aa F x.p2).2.1 (Aa F x.p2).2.2 m1) x.p1).2.2)) ((Aa F x.p2).2.1) ((Aa F x.p2).2.2) ((Ab F x.p1).2)).O.length=(As (Af F (Aa F x.p2).2.1 (Aa F x.p2).2.2 m1) ((Aa (Af F (Aa F x.p2).2.1 (Aa F x.p2).2.2 m1) x.p1).2.1) ((Aa (Af F (Aa F x.p2).2.1 (Aa F x.p2).2.2 m1) x.p1).2.2)).O.length:=rfl
          refine h161.sn [14,13,12,11,10,9,8,7,6,5,4,3,0,1] rfl fun h162=>hK39 _ _<|sqr fun _ hK40=>bu h162 (v:=.agg zL.toArray) rfl (fun w=>κ) fun _ h163=>stA h163 s24 4 rfl rfl rfl κ rfl rfl rfl rfl fun _ w24 h164 s25 _=>h164.sn [14,13,12,11,10,9,8,7,6,5,4,3,0,1] rfl fun h165=>hK40 _ _<|wp_ret ?_
          try simp only [Exit.then,Exit.inBlock]
          refine rC h165 s25 4 υ37 rfl rfl rfl rfl ?_
          have hq9:An F x.p1 x.p2=(movedF (Af F (Aa F x.p2).2.1 (Aa F x.p2).2.2 m1) x.p1 (Aa F x.p2).2.1 (Aa F x.p2).2.2 (Ab F x.p1).2,Av 0):=by unfold An;rw [if_pos (show ((Ag x.p1).isSome=true∧(Ag x.p2).isSome=true)∧¬ x.p1=[47]∧¬ x.p2=[47] from ⟨BR (DC (orF (orF hc1).1).1),(dF (orF (orF hc1).1).2),(dF (orF hc1).2)⟩),if_pos ω,if_neg (show ¬ ((F.dir (Ab F x.p1).2=true∧¬ x.p1=x.p2)∧Da (Ag x.p2) (Ag x.p1)=true) from (fun q=>AI hc4 q.2)),if_pos ω];unfold Be;rw [hm1];try dsimp only;rw [if_neg ω,if_neg (show ¬ (F.dir (Ab F x.p1).2=true∧F.dir m1=false) from (fun q=>AI q.2 hc8)),if_neg (show ¬ (F.dir (Ab F x.p1).2=true∧0<BG F.E m1) from (fun q=>absurd q.2 ω)),if_neg (show ¬ (F.dir (Ab F x.p1).2=false∧F.dir m1=true) from (fun q=>AI q.1 (AA hc3).1))]
          rw [hq9]
          exact ⟨none,0,nax564,ncx565,eax566,ecx567,oax568,ocx569,rfl,(Sep.tail_un (xs:=[_,_,_,_]) (s25.pk [0,1,2,3,6] rfl)).ownNil 0 9 1⟩
        ·skip
         refine wcT h112 rfl (Bt hc8)<|h112.sk [12,11,10,9,8,7,6,5,4,3,0,1] rfl fun h166=>sqr fun _ hK41=>cl h166 rfl Ae (AV s15 12) fun _ v16 w25 r16 h167=>?_
         obtain ⟨rfl,s26⟩:=r16
         refine stA h167 s26 4 rfl rfl rfl κ rfl rfl rfl rfl fun _ w26 h168 s27 _=>h168.sn [12,11,10,9,8,7,6,5,4,3,0,1] rfl fun h169=>hK41 _ _<|wp_ret ?_
         try simp only [Exit.then,Exit.inBlock]
         refine rC h169 s27 4 Tryz.underlying37 rfl rfl rfl rfl ?_
         have hq10:An F x.p1 x.p2=(F,Av 12):=by unfold An;rw [if_pos (show ((Ag x.p1).isSome=true∧(Ag x.p2).isSome=true)∧¬ x.p1=[47]∧¬ x.p2=[47] from ⟨BR (DC (orF (orF hc1).1).1),(dF (orF (orF hc1).1).2),(dF (orF hc1).2)⟩),if_pos ω,if_neg (show ¬ ((F.dir (Ab F x.p1).2=true∧¬ x.p1=x.p2)∧Da (Ag x.p2) (Ag x.p1)=true) from (fun q=>AI hc4 q.2)),if_pos ω];unfold Be;rw [hm1];try dsimp only;rw [if_neg ω,if_pos (show F.dir (Ab F x.p1).2=true∧F.dir m1=false from ⟨(AA hc3).1,hc8⟩)]
         rw [hq10]
         exact ⟨none,0,na,nc,ea,ec,oa,oc,rfl,(Sep.tail_un (xs:=[_,_,_,_]) (s27.pk [0,1,2,3,6] rfl)).ownNil 0 9 1⟩
      ·skip
       have hm2:=AG hc6
       refine cl h85 rfl AX (IR (F:=F) s12 hz0 hm2) fun _ v17 w27 r17 h170=>?_
       obtain ⟨rfl,s28⟩:=r17
       refine mv h170 rfl fun _ h171=>h171.sn [12,11,10,9,8,7,6,5,4,3,0,1] rfl fun h172=>hK21 _ _<|sq fun _ hK42=>sqr fun _ hK43=>mvs 2 h172 rfl fun _ h173=>bv h173 rfl (cEq _ _ _ _ (decide_eq_false ω)) fun _ h174=>h174.sn [84,12,11,10,9,8,7,6,5,4,3,0,1] rfl fun h175=>hK43 _ _<|wcF h175 rfl rfl<|h175.sk [12,11,10,9,8,7,6,5,4,3,0,1] rfl fun h176=>?_
       refine wp_skip<|hK42 _ _<|sq fun _ hK44=>sqr fun _ hK45=>mv h176 rfl fun _ h177=>bv h177 rfl (cGe _ _ _ _ rfl) fun _ h178=>h178.sn [87,12,11,10,9,8,7,6,5,4,3,0,1] rfl fun h179=>hK45 _ _<|wcF h179 rfl rfl<|h179.sk [12,11,10,9,8,7,6,5,4,3,0,1] rfl fun h180=>wp_skip<|hK44 _ _<|sq fun _ hK46=>wp_region_lit ?_
       refine mv h180 rfl fun _ h181=>fav h181 rfl (Ao _ _) fun _ h182=>ldv h182 s28 5 υ9 rfl rfl rfl rfl fun _ h183=>cl h183 rfl AF (Cx (F:=F) s28 hz0 hok ω) fun _ v18 w28 r18 h184=>?_
       obtain ⟨rfl,s29⟩:=r18
       refine mvs 7 h184 rfl fun _ h185=>h185.sn [14,13,12,11,10,9,8,7,6,5,4,3,0,1] rfl fun h186=>hK46 _ _<|sqr fun _ hK47=>mvs 3 h186 rfl fun _ h187=>cl h187 rfl AY (FP (F:=F) s29 hz0 ((Aa F x.p1).2.1) ((Aa F x.p1).2.2)) fun _ v19 w29 r19 h188=>?_
       obtain ⟨nax675,ncx676,eax677,ecx678,oax679,ocx680,rfl,s30⟩:=r19
       have hN688:(As F ((Aa F x.p1).2.1) ((Aa F x.p1).2.2)).N.length=F.N.length:=rfl
       have hO689:(As F ((Aa F x.p1).2.1) ((Aa F x.p1).2.2)).O.length=F.O.length:=rfl
       refine h188.sn [14,13,12,11,10,9,8,7,6,5,4,3,0,1] rfl fun h189=>hK47 _ _<|sqr fun _ hK48=>mvs 4 h189 rfl fun _ h190=>cl h190 rfl Bo (IW (F:=(As F ((Aa F x.p1).2.1) ((Aa F x.p1).2.2))) s30 (Gz (d:=(Aa F x.p1).2.1) (s:=((Aa F x.p1).2.2)) hz0) ((Aa F x.p2).2.1) ((Aa F x.p2).2.2) ((Ab F x.p1).2)) fun _ v20 w30 r20 h191=>?_
       obtain ⟨nax700,ncx701,eax702,ecx703,oax704,ocx705,rfl,s31⟩:=r20
       have hN713:(Br (As F ((Aa F x.p1).2.1) ((Aa F x.p1).2.2)) ((Aa F x.p2).2.1) ((Aa F x.p2).2.2) ((Ab F x.p1).2)).N.length=(As F ((Aa F x.p1).2.1) ((Aa F x.p1).2.2)).N.length:=rfl
       have hO714:(Br (As F ((Aa F x.p1).2.1) ((Aa F x.p1).2.2)) ((Aa F x.p2).2.1) ((Aa F x.p2).2.2) ((Ab F x.p1).2)).O.length=(As F ((Aa F x.p1).2.1) ((Aa F x.p1).2.2)).O.length:=rfl
       refine h191.sn [14,13,12,11,10,9,8,7,6,5,4,3,0,1] rfl fun h192=>hK48 _ _<|sqr fun _ hK49=>bu h192 (v:=.agg zL.toArray) rfl (fun w=>κ) fun _ h193=>stA h193 s31 4 rfl rfl rfl κ rfl rfl rfl rfl fun _ w31 h194 s32 _=>h194.sn [14,13,12,11,10,9,8,7,6,5,4,3,0,1] rfl fun h195=>hK49 _ _<|wp_ret ?_
       try simp only [Exit.then,Exit.inBlock]
       refine rC h195 s32 4 υ37 rfl rfl rfl rfl ?_
       have hq11:An F x.p1 x.p2=(movedF F x.p1 (Aa F x.p2).2.1 (Aa F x.p2).2.2 (Ab F x.p1).2,Av 0):=by unfold An;rw [if_pos (show ((Ag x.p1).isSome=true∧(Ag x.p2).isSome=true)∧¬ x.p1=[47]∧¬ x.p2=[47] from ⟨BR (DC (orF (orF hc1).1).1),(dF (orF (orF hc1).1).2),(dF (orF hc1).2)⟩),if_pos ω,if_neg (show ¬ ((F.dir (Ab F x.p1).2=true∧¬ x.p1=x.p2)∧Da (Ag x.p2) (Ag x.p1)=true) from (fun q=>AI hc4 q.2)),if_pos ω];unfold Be;rw [hm2];try dsimp only
       rw [hq11]
       exact ⟨none,0,nax700,ncx701,eax702,ecx703,oax704,ocx705,rfl,(Sep.tail_un (xs:=[_,_,_,_]) (s32.pk [0,1,2,3,6] rfl)).ownNil 0 9 1⟩
   ·skip
    have hp12:(((F.N.getD ((Ab F x.p1).2) Ap).dir)=false)∨(¬ (x.p1≠x.p2)):=((IG hc3).imp (fun q=>q) (fun q=>(dF q)))
    refine su h61 ((wT h61 rfl rfl rfl).trans hc3) rfl rfl rfl fun _ h196=>sv1 h196 rfl (v:=.bool false) (BO h196 rfl (E:=(((F.N.getD ((Ab F x.p1).2) Ap).dir)&&(decide (x.p1≠x.p2)))) (b:=false) rfl hc3 rfl) fun _ h197=>h197.sn [64,8,7,6,5,4,3,0,1] rfl fun h198=>hK14 _ _<|wcF h198 rfl rfl<|h198.sk [8,7,6,5,4,3,0,1] rfl fun h199=>wp_skip<|hK13 _ _<|sqr fun _ hK50=>mv h199 rfl fun _ h200=>fav h200 rfl (AR _ _) fun _ h201=>?_
    refine ldv h201 s5 5 υ9 rfl rfl rfl rfl fun _ h202=>cl h202 rfl AF (Cx (F:=F) s5 hz0 hok ω) fun _ v21 w32 r21 h203=>?_
    obtain ⟨rfl,s33⟩:=r21
    refine mvs 7 h203 rfl fun _ h204=>h204.sn [11,10,9,8,7,6,5,4,3,0,1] rfl fun h205=>hK50 _ _<|sq fun _ hK51=>sqr fun _ hK52=>mv h205 rfl fun _ h206=>bv h206 (z:=.bool (decide ((Aa F x.p2).1≠0))) rfl (cNe _ _ _ _ rfl) fun _ h207=>h207.sn [75,11,10,9,8,7,6,5,4,3,0,1] rfl fun h208=>hK52 _ _ ?_
    rcases bC (decide ((Aa F x.p2).1≠0)) with hc10 | hc10
    ·skip
     have hp13:(Aa F x.p2).1≠0:=(dT hc10)
     refine wcT h208 rfl hc10<|h208.sk [11,10,9,8,7,6,5,4,3,0,1] rfl fun h209=>sqr fun _ hK53=>mv h209 rfl fun _ h210=>cl h210 rfl Ae (AV s33 ((Aa F x.p2).1)) fun _ v22 w33 r22 h211=>?_
     obtain ⟨rfl,s34⟩:=r22
     refine stA h211 s34 4 rfl rfl rfl κ rfl rfl rfl rfl fun _ w34 h212 s35 _=>h212.sn [11,10,9,8,7,6,5,4,3,0,1] rfl fun h213=>hK53 _ _<|wp_ret ?_
     try simp only [Exit.then,Exit.inBlock]
     refine rC h213 s35 4 υ37 rfl rfl rfl rfl ?_
     have hq12:An F x.p1 x.p2=(F,Av (Aa F x.p2).1):=by unfold An;rw [if_pos (show ((Ag x.p1).isSome=true∧(Ag x.p2).isSome=true)∧¬ x.p1=[47]∧¬ x.p2=[47] from ⟨BR (DC (orF (orF hc1).1).1),(dF (orF (orF hc1).1).2),(dF (orF hc1).2)⟩),if_pos ω,if_neg (show ¬ ((F.dir (Ab F x.p1).2=true∧¬ x.p1=x.p2)∧Da (Ag x.p2) (Ag x.p1)=true) from (fun q=>hp12.elim (fun z=>AI z q.1.1) (fun z=>z q.1.2))),if_neg ω]
     rw [hq12]
     exact ⟨none,0,na,nc,ea,ec,oa,oc,rfl,(Sep.tail_un (xs:=[_,_,_,_]) (s35.pk [0,1,2,3,6] rfl)).ownNil 0 9 1⟩
    ·skip
     have hp14:¬ ((Aa F x.p2).1≠0):=(dF hc10)
     refine wcF h208 rfl hc10<|h208.sk [11,10,9,8,7,6,5,4,3,0,1] rfl fun h214=>wp_skip<|hK51 _ _<|sqr fun _ hK54=>mvs 3 h214 rfl fun _ h215=>?_
     rcases bC ((Aj F.E ((Aa F x.p2).2.1) ((Aa F x.p2).2.2)).isSome) with hc11 | hc11
     ·skip
      obtain ⟨m2,hm3⟩:=Option.isSome_iff_exists.1 hc11
      have hml804:=(FsC.look_lt hok.toFsC hm3).1
      refine cl h215 rfl AX (Fw (F:=F) s33 hz0 hm3) fun _ v23 w35 r23 h216=>?_
      obtain ⟨rfl,s36⟩:=r23
      refine mv h216 rfl fun _ h217=>h217.sn [12,11,10,9,8,7,6,5,4,3,0,1] rfl fun h218=>hK54 _ _<|sq fun _ hK55=>sqr fun _ hK56=>mvs 2 h218 rfl fun _ h219=>bv h219 (z:=.bool (decide ((m2:Int)=(((Ab F x.p1).2:Nat):Int)))) rfl (cEq _ _ _ _ rfl) fun _ h220=>h220.sn [84,12,11,10,9,8,7,6,5,4,3,0,1] rfl fun h221=>hK56 _ _ ?_
      rcases bC (decide ((m2:Int)=(((Ab F x.p1).2:Nat):Int))) with hc12 | hc12
      ·skip
       have hp15:(m2:Int)=(((Ab F x.p1).2:Nat):Int):=(dT hc12)
       refine wcT h221 rfl hc12<|h221.sk [12,11,10,9,8,7,6,5,4,3,0,1] rfl fun h222=>sqr fun _ hK57=>bu h222 (v:=.agg zL.toArray) rfl (fun w=>κ) fun _ h223=>stA h223 s36 4 rfl rfl rfl κ rfl rfl rfl rfl fun _ w36 h224 s37 _=>h224.sn [12,11,10,9,8,7,6,5,4,3,0,1] rfl fun h225=>hK57 _ _<|wp_ret ?_
       try simp only [Exit.then,Exit.inBlock]
       refine rC h225 s37 4 υ37 rfl rfl rfl rfl ?_
       have hq13:An F x.p1 x.p2=(F,Av 0):=by unfold An;rw [if_pos (show ((Ag x.p1).isSome=true∧(Ag x.p2).isSome=true)∧¬ x.p1=[47]∧¬ x.p2=[47] from ⟨BR (DC (orF (orF hc1).1).1),(dF (orF (orF hc1).1).2),(dF (orF hc1).2)⟩),if_pos ω,if_neg (show ¬ ((F.dir (Ab F x.p1).2=true∧¬ x.p1=x.p2)∧Da (Ag x.p2) (Ag x.p1)=true) from (fun q=>hp12.elim (fun z=>AI z q.1.1) (fun z=>z q.1.2))),if_pos ω];unfold Be;rw [hm3];try dsimp only;rw [if_pos ω]
       rw [hq13]
       exact ⟨none,0,na,nc,ea,ec,oa,oc,rfl,(Sep.tail_un (xs:=[_,_,_,_]) (s37.pk [0,1,2,3,6] rfl)).ownNil 0 9 1⟩
      ·skip
       have hp16:¬ ((m2:Int)=(((Ab F x.p1).2:Nat):Int)):=(dF hc12)
       refine wcF h221 rfl hc12<|h221.sk [12,11,10,9,8,7,6,5,4,3,0,1] rfl fun h226=>wp_skip<|hK55 _ _<|sq fun _ hK58=>sqr fun _ hK59=>mv h226 rfl fun _ h227=>bv h227 rfl (cGe _ _ _ _ (decide_eq_true ω)) fun _ h228=>h228.sn [87,12,11,10,9,8,7,6,5,4,3,0,1] rfl fun h229=>hK59 _ _<|wcT h229 rfl rfl<|h229.sk [12,11,10,9,8,7,6,5,4,3,0,1] rfl fun h230=>?_
       refine sq fun _ hK60=>sqr fun _ hK61=>mvs 2 h230 rfl fun _ h231=>sg h231 (wT h231 rfl rfl rfl) rfl rfl rfl (v:=π df) (fun hC16=>(Aq h231 rfl rfl) _) fun _ h232=>sg h232 (wT h232 rfl rfl rfl) rfl rfl rfl (v:=π df) (fun hC17=>(CJ h232 rfl (opg rfl hC17)) _) fun _ h233=>sg h233 (wT h233 rfl rfl rfl) rfl rfl rfl (v:=π df) (fun hC18=>(rfa h233 rfl (opg rfl hC18) (fun w=>Ak df 0 w)) _) fun _ h234=>sg h234 (wT h234 rfl rfl rfl) rfl rfl rfl (v:=.slice na F.N.length nc) (fun hC19=>(rld h234 rfl (opg rfl hC19) (ldB υ47 rfl (s36.get 0 rfl:Blk _ _ _ _) rfl))) fun _ h235=>sg h235 (wT h235 rfl rfl rfl) rfl rfl rfl (v:=ν (m2:Int)) (fun hC20=>(Aq h235 rfl rfl) _) fun _ h236=>sg h236 (wT h236 rfl rfl rfl) rfl rfl rfl (v:=.pointer (some ⟨q154,m2*3,none⟩)) (fun hC21=>(Ay h236 rfl (opg rfl hC21) (opg rfl hC21) (fun w=>ixO υ47 κ (sz:=3) (hq3 ω) (j:=m2) rfl ω ω w)) _) fun _ h237=>sg h237 (wT h237 rfl rfl rfl) rfl rfl rfl (v:=.pointer (some ⟨q154,m2*3+0,none⟩)) (fun hC22=>(rfa h237 rfl (opg rfl hC22) (fun w=>AC q154 (m2*3) w)) _) fun _ h238=>sg h238 (wT h238 rfl rfl rfl) rfl rfl rfl (v:=.bool ((F.N.getD m2 Ap).dir)) (fun hC23=>(rld h238 rfl (opg rfl hC23) (BJ Bb υ4 rfl (s36.get 1 rfl:Own _ _ _ _ _ _ _ _) (hq3 ω) Ap (j:=m2) (f:=0) ω (by decide) rfl rfl))) fun _ h239=>?_
       refine sg h239 (wT h239 rfl rfl rfl) rfl rfl rfl (v:=.bool (!((F.N.getD m2 Ap).dir))) (fun hC24=>(Oa h239 rfl (b:=(F.N.getD m2 Ap).dir) (opg rfl hC24)) _) fun _ h240=>sv1 h240 rfl (v:=.bool (((F.N.getD ((Ab F x.p1).2) Ap).dir)&&(!((F.N.getD m2 Ap).dir)))) (Ej h240 rfl (E:=((F.N.getD ((Ab F x.p1).2) Ap).dir)) (F:=(!((F.N.getD m2 Ap).dir))) rfl rfl rfl (fun e=>if_pos (by rw [e];try rfl))) fun _ h241=>h241.sn [99,12,11,10,9,8,7,6,5,4,3,0,1] rfl fun h242=>hK61 _ _ ?_
       rcases bC (((F.N.getD ((Ab F x.p1).2) Ap).dir)&&(!((F.N.getD m2 Ap).dir))) with hc13 | hc13
       ·skip
        have hp17:(((F.N.getD ((Ab F x.p1).2) Ap).dir)=true)∧(((F.N.getD m2 Ap).dir)=false):=(And.intro (AA hc13).1 (AW (AA hc13).2))
        refine wcT h242 rfl hc13<|h242.sk [12,11,10,9,8,7,6,5,4,3,0,1] rfl fun h243=>sqr fun _ hK62=>cl h243 rfl Ae (AV s36 12) fun _ v24 w37 r24 h244=>?_
        obtain ⟨rfl,s38⟩:=r24
        refine stA h244 s38 4 rfl rfl rfl κ rfl rfl rfl rfl fun _ w38 h245 s39 _=>h245.sn [12,11,10,9,8,7,6,5,4,3,0,1] rfl fun h246=>hK62 _ _<|wp_ret ?_
        try simp only [Exit.then,Exit.inBlock]
        refine rC h246 s39 4 υ37 rfl rfl rfl rfl ?_
        have hq14:An F x.p1 x.p2=(F,Av 12):=by unfold An;rw [if_pos (show ((Ag x.p1).isSome=true∧(Ag x.p2).isSome=true)∧¬ x.p1=[47]∧¬ x.p2=[47] from ⟨BR (DC (orF (orF hc1).1).1),(dF (orF (orF hc1).1).2),(dF (orF hc1).2)⟩),if_pos ω,if_neg (show ¬ ((F.dir (Ab F x.p1).2=true∧¬ x.p1=x.p2)∧Da (Ag x.p2) (Ag x.p1)=true) from (fun q=>hp12.elim (fun z=>AI z q.1.1) (fun z=>z q.1.2))),if_pos ω];unfold Be;rw [hm3];try dsimp only;rw [if_neg ω,if_pos (show F.dir (Ab F x.p1).2=true∧F.dir m2=false from ⟨(AA hc13).1,(AW (AA hc13).2)⟩)]
        rw [hq14]
        exact ⟨none,0,na,nc,ea,ec,oa,oc,rfl,(Sep.tail_un (xs:=[_,_,_,_]) (s39.pk [0,1,2,3,6] rfl)).ownNil 0 9 1⟩
       ·skip
        have hp18:(((F.N.getD ((Ab F x.p1).2) Ap).dir)=false)∨(((F.N.getD m2 Ap).dir)=true):=((IG hc13).imp (fun q=>q) (fun q=>(DC q)))
        refine wcF h242 rfl hc13<|h242.sk [12,11,10,9,8,7,6,5,4,3,0,1] rfl fun h247=>wp_skip<|hK60 _ _<|sq fun _ hK63=>sqr fun _ hK64=>mvs 2 h247 rfl fun _ h248=>sg h248 (wT h248 rfl rfl rfl) rfl rfl rfl (v:=π df) (fun hC25=>(Aq h248 rfl rfl) _) fun _ h249=>sg h249 (wT h249 rfl rfl rfl) rfl rfl rfl (v:=ν (m2:Int)) (fun hC26=>(Aq h249 rfl rfl) _) fun _ h250=>?_
        rcases bC ((F.N.getD ((Ab F x.p1).2) Ap).dir) with hc14 | hc14
        ·skip
         refine so ((wT h250 rfl rfl rfl).trans hc14) fun _ hK65=>CK h250 rfl rfl rfl (xs:=[.tmp 103,.tmp 104]) rfl CE rfl (vs:=[π df,ν (m2:Int)]) (Gt (opg rfl hc14) (Gt (opg rfl hc14) rfl)) (args:=#[π df,ν (m2:Int)]) rfl (JU (F:=F) (d:=m2) s36 hz0) fun _ v25 w39 r25 h251=>hK65 _ _ ?_
         obtain ⟨rfl,s40⟩:=r25
         refine sv h251 ((wT h251 rfl rfl rfl).trans hc14) rfl rfl rfl (v:=.bool (decide (((BG F.E m2:Nat):Int)>0))) (BF h251 rfl rfl rfl (cGt _ _ _ _ rfl)) fun _ h252=>sv1 h252 rfl (v:=.bool (decide (((BG F.E m2:Nat):Int)>0))) (BO h252 rfl (E:=((F.N.getD ((Ab F x.p1).2) Ap).dir)) (b:=true) rfl hc14 rfl) fun _ h253=>h253.sn [107,12,11,10,9,8,7,6,5,4,3,0,1] rfl fun h254=>hK64 _ _ ?_
         rcases bC (decide (((BG F.E m2:Nat):Int)>0)) with hc15 | hc15
         ·skip
          have hp19:((BG F.E m2:Nat):Int)>0:=(dT hc15)
          refine wcT h254 rfl hc15<|h254.sk [12,11,10,9,8,7,6,5,4,3,0,1] rfl fun h255=>sqr fun _ hK66=>cl h255 rfl Ae (AV s40 14) fun _ v26 w40 r26 h256=>?_
          obtain ⟨rfl,s41⟩:=r26
          refine stA h256 s41 4 rfl rfl rfl κ rfl rfl rfl rfl fun _ w41 h257 s42 _=>h257.sn [12,11,10,9,8,7,6,5,4,3,0,1] rfl fun h258=>hK66 _ _<|wp_ret ?_
          try simp only [Exit.then,Exit.inBlock]
          refine rC h258 s42 4 Tryz.underlying37 rfl rfl rfl rfl ?_
          have hq15:An F x.p1 x.p2=(F,Av 14):=by unfold An;rw [if_pos (show ((Ag x.p1).isSome=true∧(Ag x.p2).isSome=true)∧¬ x.p1=[47]∧¬ x.p2=[47] from ⟨BR (DC (orF (orF hc1).1).1),(dF (orF (orF hc1).1).2),(dF (orF hc1).2)⟩),if_pos ω,if_neg (show ¬ ((F.dir (Ab F x.p1).2=true∧¬ x.p1=x.p2)∧Da (Ag x.p2) (Ag x.p1)=true) from (fun q=>hp12.elim (fun z=>AI z q.1.1) (fun z=>z q.1.2))),if_pos ω];unfold Be;rw [hm3];try dsimp only;rw [if_neg ω,if_neg (show ¬ (F.dir (Ab F x.p1).2=true∧F.dir m2=false) from (fun q=>hp18.elim (fun z=>AI z q.1) (fun z=>AI q.2 z))),if_pos (show F.dir (Ab F x.p1).2=true∧0<BG F.E m2 from ⟨hc14,ω⟩)]
          rw [hq15]
          exact ⟨none,0,na,nc,ea,ec,oa,oc,rfl,(Sep.tail_un (xs:=[_,_,_,_]) (s42.pk [0,1,2,3,6] rfl)).ownNil 0 9 1⟩
         ·skip
          have hp20:¬ (((BG F.E m2:Nat):Int)>0):=(dF hc15)
          refine wcF h254 rfl hc15<|h254.sk [12,11,10,9,8,7,6,5,4,3,0,1] rfl fun h259=>wp_skip<|hK63 _ _<|sq fun _ hK67=>sqr fun _ hK68=>mvs 3 h259 rfl fun _ h260=>su h260 ((wT h260 rfl rfl rfl).trans (Bq hc14)) rfl rfl rfl fun _ h261=>su h261 ((wT h261 rfl rfl rfl).trans (Bq hc14)) rfl rfl rfl fun _ h262=>su h262 ((wT h262 rfl rfl rfl).trans (Bq hc14)) rfl rfl rfl fun _ h263=>su h263 ((wT h263 rfl rfl rfl).trans (Bq hc14)) rfl rfl rfl fun _ h264=>su h264 ((wT h264 rfl rfl rfl).trans (Bq hc14)) rfl rfl rfl fun _ h265=>?_
          refine su h265 ((wT h265 rfl rfl rfl).trans (Bq hc14)) rfl rfl rfl fun _ h266=>su h266 ((wT h266 rfl rfl rfl).trans (Bq hc14)) rfl rfl rfl fun _ h267=>su h267 ((wT h267 rfl rfl rfl).trans (Bq hc14)) rfl rfl rfl fun _ h268=>sv1 h268 rfl (v:=.bool false) (BO h268 rfl (E:=(!((F.N.getD ((Ab F x.p1).2) Ap).dir))) (b:=false) rfl (Bq hc14) rfl) fun _ h269=>h269.sn [120,12,11,10,9,8,7,6,5,4,3,0,1] rfl fun h270=>hK68 _ _<|wcF h270 rfl rfl<|h270.sk [12,11,10,9,8,7,6,5,4,3,0,1] rfl fun h271=>wp_skip<|hK67 _ _<|sq fun _ hK69=>wp_region_lit ?_
          refine mvs 3 h271 rfl fun _ h272=>cl h272 rfl AY (FP (F:=F) s40 hz0 ((Aa F x.p2).2.1) ((Aa F x.p2).2.2)) fun _ v27 w42 r27 h273=>?_
          obtain ⟨nax987,ncx988,eax989,ecx990,oax991,ocx992,rfl,s43⟩:=r27
          have hN1000:(As F ((Aa F x.p2).2.1) ((Aa F x.p2).2.2)).N.length=F.N.length:=rfl
          have hO1001:(As F ((Aa F x.p2).2.1) ((Aa F x.p2).2.2)).O.length=F.O.length:=rfl
          refine h273.sn [12,11,10,9,8,7,6,5,4,3,0,1] rfl fun h274=>hK69 _ _<|sq fun _ hK70=>?_
          have hl1004:(F.N.getD m2 Ap).links≤20:=hok.l20 m2 ω;have hl1005:0≤(F.N.getD m2 Ap).links:=FsC.links_ge hok.toFsC (i:=m2) ω
          have hl1006:(((As F ((Aa F x.p2).2.1) ((Aa F x.p2).2.2)).N).getD m2 Ap).links=(F.N.getD m2 Ap).links:=rfl
          refine wp_region_lit<|mvs 2 h274 rfl fun _ h275=>fav h275 rfl (Ak _ _) fun _ h276=>ldv h276 s43 0 υ47 rfl rfl rfl rfl fun _ h277=>mv h277 rfl fun _ h278=>?_
          obtain ⟨q1017,hq16⟩:=AT (s43.get 1 rfl:Own _ _ _ _ _ _ _ _)
          refine sv1 h278 rfl (v:=.pointer (some ⟨q1017,m2*3,none⟩)) (Ay h278 rfl rfl rfl (fun w=>ixO υ47 κ (sz:=3) (hq16 ω) (j:=m2) rfl ω ω w)) fun _ h279=>sv1 h279 rfl (v:=.pointer (some ⟨q1017,m2*3+0,none⟩)) (rfa h279 rfl rfl (fun w=>AC q1017 (m2*3) w)) fun _ h280=>sw1 h280 rfl (v:=.bool ((((As F ((Aa F x.p2).2.1) ((Aa F x.p2).2.2)).N).getD m2 Ap).dir)) (rld h280 rfl rfl (BJ Bb υ4 rfl (s43.get 1 rfl:Own _ _ _ _ _ _ _ _) (hq16 ω) Ap (j:=m2) (f:=0) ω (by decide) rfl rfl)) fun _ h281=>mv h281 rfl fun _ h282=>h282.sn [134,12,11,10,9,8,7,6,5,4,3,0,1] rfl fun h283=>hK70 _ _ ?_
          rcases bC ((((As F ((Aa F x.p2).2.1) ((Aa F x.p2).2.2)).N).getD m2 Ap).dir) with hc16 | hc16
          ·skip
           refine wcF h283 rfl (Bq hc16)<|h283.sk [12,11,10,9,8,7,6,5,4,3,0,1] rfl fun h284=>wp_skip<|hK58 _ _<|sq fun _ hK71=>?_
           have hfr1032:Af F (Aa F x.p2).2.1 (Aa F x.p2).2.2 m2=As F (Aa F x.p2).2.1 (Aa F x.p2).2.2:=by unfold Af;rw [if_pos (show F.dir m2=true from hc16)]
           have hok1033:FsOk (Af F (Aa F x.p2).2.1 (Aa F x.p2).2.2 m2):=hok.freed hm3
           have hz1034:SmF (Af F (Aa F x.p2).2.1 (Aa F x.p2).2.2 m2):=IN hz0
           have s44:Sep w42 ([Ah df 51 [.slice nax987 ((Af F (Aa F x.p2).2.1 (Aa F x.p2).2.2 m2).N.length) ncx988,.slice eax989 ((Af F (Aa F x.p2).2.1 (Aa F x.p2).2.2 m2).E.length) ecx990,.slice oax991 ((Af F (Aa F x.p2).2.1 (Aa F x.p2).2.2 m2).O.length) ocx992],Ai 0 88 3 nax987 ((Af F (Aa F x.p2).2.1 (Aa F x.p2).2.2 m2).N).length ncx988 (((Af F (Aa F x.p2).2.1 (Aa F x.p2).2.2 m2).N).flatMap Ca),Ai 0 114 3 eax989 ((Af F (Aa F x.p2).2.1 (Aa F x.p2).2.2 m2).E).length ecx990 (((Af F (Aa F x.p2).2.1 (Aa F x.p2).2.2 m2).E).flatMap BU),Ai 0 93 3 oax991 ((Af F (Aa F x.p2).2.1 (Aa F x.p2).2.2 m2).O).length ocx992 (((Af F (Aa F x.p2).2.1 (Aa F x.p2).2.2 m2).O).flatMap BQ),Ah g1 37 zL,Ah g4 30 (cL x),Ch.many R]):=by
            have z:=s43;rw [hfr1032];(try simp only [List.length_set] at z);exact z
           obtain ⟨hz1034a,hz1034b,hz1034c⟩:=hz1034;have hz1034:SmF (Af F (Aa F x.p2).2.1 (Aa F x.p2).2.2 m2):=⟨hz1034a,hz1034b,hz1034c⟩
           refine wp_region_lit<|mv h284 rfl fun _ h285=>fav h285 rfl (Ao _ _) fun _ h286=>ldv h286 s44 5 υ9 rfl rfl rfl rfl fun _ h287=>cl h287 rfl AF (Cx (F:=(Af F (Aa F x.p2).2.1 (Aa F x.p2).2.2 m2)) s44 hz1034 hok1033 ω) fun _ v28 w43 r28 h288=>?_
           obtain ⟨rfl,s45⟩:=r28
           refine mvs 7 h288 rfl fun _ h289=>h289.sn [14,13,12,11,10,9,8,7,6,5,4,3,0,1] rfl fun h290=>hK71 _ _<|sqr fun _ hK72=>mvs 3 h290 rfl fun _ h291=>cl h291 rfl AY (FP (F:=(Af F (Aa F x.p2).2.1 (Aa F x.p2).2.2 m2)) s45 hz1034 ((Aa (Af F (Aa F x.p2).2.1 (Aa F x.p2).2.2 m2) x.p1).2.1) ((Aa (Af F (Aa F x.p2).2.1 (Aa F x.p2).2.2 m2) x.p1).2.2)) fun _ v29 w44 r29 h292=>?_
           obtain ⟨nax1071,ncx1072,eax1073,ecx1074,oax1075,ocx1076,rfl,s46⟩:=r29
           have hN1084:(As (Af F (Aa F x.p2).2.1 (Aa F x.p2).2.2 m2) ((Aa (Af F (Aa F x.p2).2.1 (Aa F x.p2).2.2 m2) x.p1).2.1) ((Aa (Af F (Aa F x.p2).2.1 (Aa F x.p2).2.2 m2) x.p1).2.2)).N.length=(Af F (Aa F x.p2).2.1 (Aa F x.p2).2.2 m2).N.length:=rfl
           have hO1085:(As (Af F (Aa F x.p2).2.1 (Aa F x.p2).2.2 m2) ((Aa (Af F (Aa F x.p2).2.1 (Aa F x.p2).2.2 m2) x.p1).2.1) ((Aa (Af F (Aa F x.p2).2.1 (Aa F x.p2).2.2 m2) x.p1).2.2)).O.length=(Af F (Aa F x.p2).2.1 (Aa F x.p2).2.2 m2).O.length:=rfl
           refine h292.sn [14,13,12,11,10,9,8,7,6,5,4,3,0,1] rfl fun h293=>hK72 _ _<|sqr fun _ hK73=>mvs 4 h293 rfl fun _ h294=>cl h294 rfl Bo (IW (F:=(As (Af F (Aa F x.p2).2.1 (Aa F x.p2).2.2 m2) ((Aa (Af F (Aa F x.p2).2.1 (Aa F x.p2).2.2 m2) x.p1).2.1) ((Aa (Af F (Aa F x.p2).2.1 (Aa F x.p2).2.2 m2) x.p1).2.2))) s46 (Gz (d:=(Aa (Af F (Aa F x.p2).2.1 (Aa F x.p2).2.2 m2) x.p1).2.1) (s:=((Aa (Af F (Aa F x.p2).2.1 (Aa F x.p2).2.2 m2) x.p1).2.2)) hz1034) ((Aa F x.p2).2.1) ((Aa F x.p2).2.2) ((Ab F x.p1).2)) fun _ v30 w45 r30 h295=>?_
           obtain ⟨nax1096,ncx1097,eax1098,ecx1099,oax1100,ocx1101,rfl,s47⟩:=r30
           have hN1109:(Br (As (Af F (Aa F x.p2).2.1 (Aa F x.p2).2.2 m2) ((Aa (Af F (Aa F x.p2).2.1 (Aa F x.p2).2.2 m2) x.p1).2.1) ((Aa (Af F (Aa F x.p2).2.1 (Aa F x.p2).2.2 m2) x.p1).2.2)) ((Aa F x.p2).2.1) ((Aa F x.p2).2.2) ((Ab F x.p1).2)).N.length=(As (Af F (Aa F x.p2).2.1 (Aa F x.p2).2.2 m2) ((Aa (Af F (Aa F x.p2).2.1 (Aa F x.p2).2.2 m2) x.p1).2.1) ((Aa (Af F (Aa F x.p2).2.1 (Aa F x.p2).2.2 m2) x.p1).2.2)).N.length:=rfl
           have hO1110:(Br (As (Af F (Aa F x.p2).2.1 (Aa F x.p2).2.2 m2) ((Aa (Af F (Aa F x.p2).2.1 (Aa F x.p2).2.2 m2) x.p1).2.1) ((Aa (Af F (Aa F x.p2).2.1 (Aa F x.p2).2.2 m2) x.p1).2.2)) ((Aa F x.p2).2.1) ((Aa F x.p2).2.2) ((Ab F x.p1).2)).O.length=(As (Af F (Aa F x.p2).2.1 (Aa F x.p2).2.2 m2) ((Aa (Af F (Aa F x.p2).2.1 (Aa F x.p2).2.2 m2) x.p1).2.1) ((Aa (Af F (Aa F x.p2).2.1 (Aa F x.p2).2.2 m2) x.p1).2.2)).O.length:=rfl
           refine h295.sn [14,13,12,11,10,9,8,7,6,5,4,3,0,1] rfl fun h296=>hK73 _ _<|sqr fun _ hK74=>bu h296 (v:=.agg zL.toArray) rfl (fun w=>κ) fun _ h297=>stA h297 s47 4 rfl rfl rfl κ rfl rfl rfl rfl fun _ w46 h298 s48 _=>h298.sn [14,13,12,11,10,9,8,7,6,5,4,3,0,1] rfl fun h299=>hK74 _ _<|wp_ret ?_
           try simp only [Exit.then,Exit.inBlock]
           refine rC h299 s48 4 υ37 rfl rfl rfl rfl ?_
           have hq17:An F x.p1 x.p2=(movedF (Af F (Aa F x.p2).2.1 (Aa F x.p2).2.2 m2) x.p1 (Aa F x.p2).2.1 (Aa F x.p2).2.2 (Ab F x.p1).2,Av 0):=by unfold An;rw [if_pos (show ((Ag x.p1).isSome=true∧(Ag x.p2).isSome=true)∧¬ x.p1=[47]∧¬ x.p2=[47] from ⟨BR (DC (orF (orF hc1).1).1),(dF (orF (orF hc1).1).2),(dF (orF hc1).2)⟩),if_pos ω,if_neg (show ¬ ((F.dir (Ab F x.p1).2=true∧¬ x.p1=x.p2)∧Da (Ag x.p2) (Ag x.p1)=true) from (fun q=>hp12.elim (fun z=>AI z q.1.1) (fun z=>z q.1.2))),if_pos ω];unfold Be;rw [hm3];try dsimp only;rw [if_neg ω,if_neg (show ¬ (F.dir (Ab F x.p1).2=true∧F.dir m2=false) from (fun q=>hp18.elim (fun z=>AI z q.1) (fun z=>AI q.2 z))),if_neg (show ¬ (F.dir (Ab F x.p1).2=true∧0<BG F.E m2) from (fun q=>absurd q.2 ω)),if_neg (show ¬ (F.dir (Ab F x.p1).2=false∧F.dir m2=true) from (fun q=>AI q.1 hc14))]
           rw [hq17]
           exact ⟨none,0,nax1096,ncx1097,eax1098,ecx1099,oax1100,ocx1101,rfl,(Sep.tail_un (xs:=[_,_,_,_]) (s48.pk [0,1,2,3,6] rfl)).ownNil 0 9 1⟩
          ·skip
           refine wcT h283 rfl (Bt hc16)<|h283.sk [12,11,10,9,8,7,6,5,4,3,0,1] rfl fun h300=>wp_region_lit<|mvs 2 h300 rfl fun _ h301=>fav h301 rfl (Ak _ _) fun _ h302=>ldv h302 s43 0 υ47 rfl rfl rfl rfl fun _ h303=>mv h303 rfl fun _ h304=>sv1 h304 rfl (v:=.pointer (some ⟨q1017,m2*3,none⟩)) (Ay h304 rfl rfl rfl (fun w=>ixO υ47 κ (sz:=3) (hq16 ω) (j:=m2) rfl ω ω w)) fun _ h305=>sv1 h305 rfl (v:=.pointer (some ⟨q1017,m2*3+2,none⟩)) (rfa h305 rfl rfl (fun w=>Bf q1017 (m2*3) w)) fun _ h306=>sw1 h306 rfl (v:=ν ((((As F ((Aa F x.p2).2.1) ((Aa F x.p2).2.2)).N).getD m2 Ap).links)) (rld h306 rfl rfl (BJ Bb υ3 rfl (s43.get 1 rfl:Own _ _ _ _ _ _ _ _) (hq16 ω) Ap (j:=m2) (f:=2) ω (by decide) rfl rfl)) fun _ h307=>?_
           refine bv h307 (z:=ν ((((As F ((Aa F x.p2).2.1) ((Aa F x.p2).2.2)).N).getD m2 Ap).links-1)) rfl (Ij _ _ _ ω ω ω) fun _ h308=>sv1 h308 rfl (v:=.pointer (some ⟨q1017,m2*3,none⟩)) (Ay h308 rfl rfl rfl (fun w=>ixO υ47 κ (sz:=3) (hq16 ω) (j:=m2) rfl ω ω w)) fun _ h309=>sv1 h309 rfl (v:=.pointer (some ⟨q1017,m2*3+2,none⟩)) (rfa h309 rfl rfl (fun w=>Bf q1017 (m2*3) w)) fun _ h310=>so (wn rfl) fun _ hK75=>FQ Bb h310 rfl rfl s43 1 rfl (hq16 ω) rfl rfl rfl rfl Ap (⟨(((As F ((Aa F x.p2).2.1) ((Aa F x.p2).2.2)).N).getD m2 Ap).dir,(((As F ((Aa F x.p2).2.1) ((Aa F x.p2).2.2)).N).getD m2 Ap).data,(((As F ((Aa F x.p2).2.1) ((Aa F x.p2).2.2)).N).getD m2 Ap).links-1⟩:NodeM) rfl κ ω (by decide) rfl (n':=(((As F ((Aa F x.p2).2.1) ((Aa F x.p2).2.2)).N).set m2 (⟨(((As F ((Aa F x.p2).2.1) ((Aa F x.p2).2.2)).N).getD m2 Ap).dir,(((As F ((Aa F x.p2).2.1) ((Aa F x.p2).2.2)).N).getD m2 Ap).data,(((As F ((Aa F x.p2).2.1) ((Aa F x.p2).2.2)).N).getD m2 Ap).links-1⟩:NodeM)).length) (by rw [List.length_set]) fun _ w47 h311 s49=>hK75 _ _ ?_
           have s50:=s49;clear s49
           refine h311.sn [12,11,10,9,8,7,6,5,4,3,0,1] rfl fun h312=>hK58 _ _<|sq fun _ hK76=>?_
           have hfr1155:Af F (Aa F x.p2).2.1 (Aa F x.p2).2.2 m2=By (As F (Aa F x.p2).2.1 (Aa F x.p2).2.2) m2 (-1):=by unfold Af;rw [if_neg (show ¬ F.dir m2=true from AI hc16)]
           have hok1156:FsOk (Af F (Aa F x.p2).2.1 (Aa F x.p2).2.2 m2):=hok.freed hm3
           have hz1157:SmF (Af F (Aa F x.p2).2.1 (Aa F x.p2).2.2 m2):=IN hz0
           have s51:Sep w47 ([Ah df 51 [.slice nax987 ((Af F (Aa F x.p2).2.1 (Aa F x.p2).2.2 m2).N.length) ncx988,.slice eax989 ((Af F (Aa F x.p2).2.1 (Aa F x.p2).2.2 m2).E.length) ecx990,.slice oax991 ((Af F (Aa F x.p2).2.1 (Aa F x.p2).2.2 m2).O.length) ocx992],Ai 0 88 3 nax987 ((Af F (Aa F x.p2).2.1 (Aa F x.p2).2.2 m2).N).length ncx988 (((Af F (Aa F x.p2).2.1 (Aa F x.p2).2.2 m2).N).flatMap Ca),Ai 0 114 3 eax989 ((Af F (Aa F x.p2).2.1 (Aa F x.p2).2.2 m2).E).length ecx990 (((Af F (Aa F x.p2).2.1 (Aa F x.p2).2.2 m2).E).flatMap BU),Ai 0 93 3 oax991 ((Af F (Aa F x.p2).2.1 (Aa F x.p2).2.2 m2).O).length ocx992 (((Af F (Aa F x.p2).2.1 (Aa F x.p2).2.2 m2).O).flatMap BQ),Ah g1 37 zL,Ah g4 30 (cL x),Ch.many R]):=by
            have z:=s50;rw [hfr1155];(try simp only [List.length_set] at z);simp only [By,List.length_set];exact z
           obtain ⟨hz1157a,hz1157b,hz1157c⟩:=hz1157;have hz1157:SmF (Af F (Aa F x.p2).2.1 (Aa F x.p2).2.2 m2):=⟨hz1157a,hz1157b,hz1157c⟩
           refine wp_region_lit<|mv h312 rfl fun _ h313=>fav h313 rfl (Ao _ _) fun _ h314=>ldv h314 s51 5 υ9 rfl rfl rfl rfl fun _ h315=>cl h315 rfl AF (Cx (F:=(Af F (Aa F x.p2).2.1 (Aa F x.p2).2.2 m2)) s51 hz1157 hok1156 ω) fun _ v31 w48 r31 h316=>?_
           obtain ⟨rfl,s52⟩:=r31
           refine mvs 7 h316 rfl fun _ h317=>h317.sn [14,13,12,11,10,9,8,7,6,5,4,3,0,1] rfl fun h318=>hK76 _ _<|sqr fun _ hK77=>mvs 3 h318 rfl fun _ h319=>cl h319 rfl AY (FP (F:=(Af F (Aa F x.p2).2.1 (Aa F x.p2).2.2 m2)) s52 hz1157 ((Aa (Af F (Aa F x.p2).2.1 (Aa F x.p2).2.2 m2) x.p1).2.1) ((Aa (Af F (Aa F x.p2).2.1 (Aa F x.p2).2.2 m2) x.p1).2.2)) fun _ v32 w49 r32 h320=>?_
           obtain ⟨nax1194,ncx1195,eax1196,ecx1197,oax1198,ocx1199,rfl,s53⟩:=r32
           have hN1207:(As (Af F (Aa F x.p2).2.1 (Aa F x.p2).2.2 m2) ((Aa (Af F (Aa F x.p2).2.1 (Aa F x.p2).2.2 m2) x.p1).2.1) ((Aa (Af F (Aa F x.p2).2.1 (Aa F x.p2).2.2 m2) x.p1).2.2)).N.length=(Af F (Aa F x.p2).2.1 (Aa F x.p2).2.2 m2).N.length:=rfl
           have hO1208:(As (Af F (Aa F x.p2).2.1 (Aa F x.p2).2.2 m2) ((Aa (Af F (Aa F x.p2).2.1 (Aa F x.p2).2.2 m2) x.p1).2.1) ((Aa (Af F (Aa F x.p2).2.1 (Aa F x.p2).2.2 m2) x.p1).2.2)).O.length=(Af F (Aa F x.p2).2.1 (Aa F x.p2).2.2 m2).O.length:=rfl
           refine h320.sn [14,13,12,11,10,9,8,7,6,5,4,3,0,1] rfl fun h321=>hK77 _ _<|sqr fun _ hK78=>mvs 4 h321 rfl fun _ h322=>cl h322 rfl Bo (IW (F:=(As (Af F (Aa F x.p2).2.1 (Aa F x.p2).2.2 m2) ((Aa (Af F (Aa F x.p2).2.1 (Aa F x.p2).2.2 m2) x.p1).2.1) ((Aa (Af F (Aa F x.p2).2.1 (Aa F x.p2).2.2 m2) x.p1).2.2))) s53 (Gz (d:=(Aa (Af F (Aa F x.p2).2.1 (Aa F x.p2).2.2 m2) x.p1).2.1) (s:=((Aa (Af F (Aa F x.p2).2.1 (Aa F x.p2).2.2 m2) x.p1).2.2)) hz1157) ((Aa F x.p2).2.1) ((Aa F x.p2).2.2) ((Ab F x.p1).2)) fun _ v33 w50 r33 h323=>?_
           obtain ⟨nax1219,ncx1220,eax1221,ecx1222,oax1223,ocx1224,rfl,s54⟩:=r33
           have hN1232:(Br (As (Af F (Aa F x.p2).2.1 (Aa F x.p2).2.2 m2) ((Aa (Af F (Aa F x.p2).2.1 (Aa F x.p2).2.2 m2) x.p1).2.1) ((Aa (Af F (Aa F x.p2).2.1 (Aa F x.p2).2.2 m2) x.p1).2.2)) ((Aa F x.p2).2.1) ((Aa F x.p2).2.2) ((Ab F x.p1).2)).N.length=(As (Af F (Aa F x.p2).2.1 (Aa F x.p2).2.2 m2) ((Aa (Af F (Aa F x.p2).2.1 (Aa F x.p2).2.2 m2) x.p1).2.1) ((Aa (Af F (Aa F x.p2).2.1 (Aa F x.p2).2.2 m2) x.p1).2.2)).N.length:=rfl
           have hO1233:(Br (As (Af F (Aa F x.p2).2.1 (Aa F x.p2).2.2 m2) ((Aa (Af F (Aa F x.p2).2.1 (Aa F x.p2).2.2 m2) x.p1).2.1) ((Aa (Af F (Aa F x.p2).2.1 (Aa F x.p2).2.2 m2) x.p1).2.2)) ((Aa F x.p2).2.1) ((Aa F x.p2).2.2) ((Ab F x.p1).2)).O.length=(As (Af F (Aa F x.p2).2.1 (Aa F x.p2).2.2 m2) ((Aa (Af F (Aa F x.p2).2.1 (Aa F x.p2).2.2 m2) x.p1).2.1) ((Aa (Af F (Aa F x.p2).2.1 (Aa F x.p2).2.2 m2) x.p1).2.2)).O.length:=rfl
           refine h323.sn [14,13,12,11,10,9,8,7,6,5,4,3,0,1] rfl fun h324=>hK78 _ _<|sqr fun _ hK79=>bu h324 (v:=.agg zL.toArray) rfl (fun w=>κ) fun _ h325=>stA h325 s54 4 rfl rfl rfl κ rfl rfl rfl rfl fun _ w51 h326 s55 _=>h326.sn [14,13,12,11,10,9,8,7,6,5,4,3,0,1] rfl fun h327=>hK79 _ _<|wp_ret ?_
           try simp only [Exit.then,Exit.inBlock]
           refine rC h327 s55 4 υ37 rfl rfl rfl rfl ?_
           have hq18:An F x.p1 x.p2=(movedF (Af F (Aa F x.p2).2.1 (Aa F x.p2).2.2 m2) x.p1 (Aa F x.p2).2.1 (Aa F x.p2).2.2 (Ab F x.p1).2,Av 0):=by unfold An;rw [if_pos (show ((Ag x.p1).isSome=true∧(Ag x.p2).isSome=true)∧¬ x.p1=[47]∧¬ x.p2=[47] from ⟨BR (DC (orF (orF hc1).1).1),(dF (orF (orF hc1).1).2),(dF (orF hc1).2)⟩),if_pos ω,if_neg (show ¬ ((F.dir (Ab F x.p1).2=true∧¬ x.p1=x.p2)∧Da (Ag x.p2) (Ag x.p1)=true) from (fun q=>hp12.elim (fun z=>AI z q.1.1) (fun z=>z q.1.2))),if_pos ω];unfold Be;rw [hm3];try dsimp only;rw [if_neg ω,if_neg (show ¬ (F.dir (Ab F x.p1).2=true∧F.dir m2=false) from (fun q=>hp18.elim (fun z=>AI z q.1) (fun z=>AI q.2 z))),if_neg (show ¬ (F.dir (Ab F x.p1).2=true∧0<BG F.E m2) from (fun q=>absurd q.2 ω)),if_neg (show ¬ (F.dir (Ab F x.p1).2=false∧F.dir m2=true) from (fun q=>AI q.1 hc14))]
           rw [hq18]
           exact ⟨none,0,nax1219,ncx1220,eax1221,ecx1222,oax1223,ocx1224,rfl,(Sep.tail_un (xs:=[_,_,_,_]) (s55.pk [0,1,2,3,6] rfl)).ownNil 0 9 1⟩
        ·skip
         refine su h250 ((wT h250 rfl rfl rfl).trans hc14) rfl rfl rfl fun _ h328=>su h328 ((wT h328 rfl rfl rfl).trans hc14) rfl rfl rfl fun _ h329=>sv1 h329 rfl (v:=.bool false) (BO h329 rfl (E:=((F.N.getD ((Ab F x.p1).2) Ap).dir)) (b:=false) rfl hc14 rfl) fun _ h330=>h330.sn [107,12,11,10,9,8,7,6,5,4,3,0,1] rfl fun h331=>hK64 _ _<|wcF h331 rfl rfl<|h331.sk [12,11,10,9,8,7,6,5,4,3,0,1] rfl fun h332=>wp_skip<|hK63 _ _<|sq fun _ hK80=>sqr fun _ hK81=>mvs 3 h332 rfl fun _ h333=>?_
         refine sv h333 ((wT h333 rfl rfl rfl).trans (Bt hc14)) rfl rfl rfl (v:=π df) (Aq h333 rfl rfl) fun _ h334=>sv h334 ((wT h334 rfl rfl rfl).trans (Bt hc14)) rfl rfl rfl (v:=π df) (CJ h334 rfl rfl) fun _ h335=>sv h335 ((wT h335 rfl rfl rfl).trans (Bt hc14)) rfl rfl rfl (v:=π df) (rfa h335 rfl rfl (fun w=>Ak df 0 w)) fun _ h336=>sw h336 ((wT h336 rfl rfl rfl).trans (Bt hc14)) rfl rfl rfl (v:=.slice na F.N.length nc) (rld h336 rfl rfl (ldB υ47 rfl (s36.get 0 rfl:Blk _ _ _ _) rfl)) fun _ h337=>sv h337 ((wT h337 rfl rfl rfl).trans (Bt hc14)) rfl rfl rfl (v:=ν (m2:Int)) (Aq h337 rfl rfl) fun _ h338=>sv h338 ((wT h338 rfl rfl rfl).trans (Bt hc14)) rfl rfl rfl (v:=.pointer (some ⟨q154,m2*3,none⟩)) (Ay h338 rfl rfl rfl (fun w=>ixO υ47 κ (sz:=3) (hq3 ω) (j:=m2) rfl ω ω w)) fun _ h339=>sv h339 ((wT h339 rfl rfl rfl).trans (Bt hc14)) rfl rfl rfl (v:=.pointer (some ⟨q154,m2*3+0,none⟩)) (rfa h339 rfl rfl (fun w=>AC q154 (m2*3) w)) fun _ h340=>sw h340 ((wT h340 rfl rfl rfl).trans (Bt hc14)) rfl rfl rfl (v:=.bool ((F.N.getD m2 Ap).dir)) (rld h340 rfl rfl (BJ Bb υ4 rfl (s36.get 1 rfl:Own _ _ _ _ _ _ _ _) (hq3 ω) Ap (j:=m2) (f:=0) ω (by decide) rfl rfl)) fun _ h341=>sv1 h341 rfl (v:=.bool ((F.N.getD m2 Ap).dir)) (BO h341 rfl (E:=(!((F.N.getD ((Ab F x.p1).2) Ap).dir))) (b:=true) rfl (Bt hc14) rfl) fun _ h342=>h342.sk [120,12,11,10,9,8,7,6,5,4,3,0,1] rfl fun h343=>?_
         refine wpList_nil<|hK81 _ _ ?_
         rcases bC ((F.N.getD m2 Ap).dir) with hc17 | hc17
         ·skip
          refine wcT h343 rfl hc17<|h343.sk [12,11,10,9,8,7,6,5,4,3,0,1] rfl fun h344=>sqr fun _ hK82=>cl h344 rfl Ae (AV s36 13) fun _ v34 w52 r34 h345=>?_
          obtain ⟨rfl,s56⟩:=r34
          refine stA h345 s56 4 rfl rfl rfl κ rfl rfl rfl rfl fun _ w53 h346 s57 _=>h346.sn [12,11,10,9,8,7,6,5,4,3,0,1] rfl fun h347=>hK82 _ _<|wp_ret ?_
          try simp only [Exit.then,Exit.inBlock]
          refine rC h347 s57 4 Tryz.underlying37 rfl rfl rfl rfl ?_
          have hq19:An F x.p1 x.p2=(F,Av 13):=by unfold An;rw [if_pos (show ((Ag x.p1).isSome=true∧(Ag x.p2).isSome=true)∧¬ x.p1=[47]∧¬ x.p2=[47] from ⟨BR (DC (orF (orF hc1).1).1),(dF (orF (orF hc1).1).2),(dF (orF hc1).2)⟩),if_pos ω,if_neg (show ¬ ((F.dir (Ab F x.p1).2=true∧¬ x.p1=x.p2)∧Da (Ag x.p2) (Ag x.p1)=true) from (fun q=>hp12.elim (fun z=>AI z q.1.1) (fun z=>z q.1.2))),if_pos ω];unfold Be;rw [hm3];try dsimp only;rw [if_neg ω,if_neg (show ¬ (F.dir (Ab F x.p1).2=true∧F.dir m2=false) from (fun q=>AI hc14 q.1)),if_neg (show ¬ (F.dir (Ab F x.p1).2=true∧0<BG F.E m2) from (fun q=>AI hc14 q.1)),if_pos (show F.dir (Ab F x.p1).2=false∧F.dir m2=true from ⟨hc14,hc17⟩)]
          rw [hq19]
          exact ⟨none,0,na,nc,ea,ec,oa,oc,rfl,(Sep.tail_un (xs:=[_,_,_,_]) (s57.pk [0,1,2,3,6] rfl)).ownNil 0 9 1⟩
         ·skip
          refine wcF h343 rfl hc17<|h343.sk [12,11,10,9,8,7,6,5,4,3,0,1] rfl fun h348=>wp_skip<|hK80 _ _<|sqr fun _ hK83=>mvs 3 h348 rfl fun _ h349=>cl h349 rfl AY (FP (F:=F) s36 hz0 ((Aa F x.p2).2.1) ((Aa F x.p2).2.2)) fun _ v35 w54 r35 h350=>?_
          obtain ⟨nax1310,ncx1311,eax1312,ecx1313,oax1314,ocx1315,rfl,s58⟩:=r35
          have hN1323:(As F ((Aa F x.p2).2.1) ((Aa F x.p2).2.2)).N.length=F.N.length:=rfl
          have hO1324:(As F ((Aa F x.p2).2.1) ((Aa F x.p2).2.2)).O.length=F.O.length:=rfl
          refine h350.sn [12,11,10,9,8,7,6,5,4,3,0,1] rfl fun h351=>hK83 _ _<|sq fun _ hK84=>?_
          have hl1327:(F.N.getD m2 Ap).links≤20:=hok.l20 m2 ω;have hl1328:0≤(F.N.getD m2 Ap).links:=FsC.links_ge hok.toFsC (i:=m2) ω
          have hl1329:(((As F ((Aa F x.p2).2.1) ((Aa F x.p2).2.2)).N).getD m2 Ap).links=(F.N.getD m2 Ap).links:=rfl
          refine wp_region_lit<|mvs 2 h351 rfl fun _ h352=>fav h352 rfl (Ak _ _) fun _ h353=>ldv h353 s58 0 υ47 rfl rfl rfl rfl fun _ h354=>mv h354 rfl fun _ h355=>?_
          obtain ⟨q1340,hq20⟩:=AT (s58.get 1 rfl:Own _ _ _ _ _ _ _ _)
          refine sv1 h355 rfl (v:=.pointer (some ⟨q1340,m2*3,none⟩)) (Ay h355 rfl rfl rfl (fun w=>ixO υ47 κ (sz:=3) (hq20 ω) (j:=m2) rfl ω ω w)) fun _ h356=>sv1 h356 rfl (v:=.pointer (some ⟨q1340,m2*3+0,none⟩)) (rfa h356 rfl rfl (fun w=>AC q1340 (m2*3) w)) fun _ h357=>sw1 h357 rfl (v:=.bool ((((As F ((Aa F x.p2).2.1) ((Aa F x.p2).2.2)).N).getD m2 Ap).dir)) (rld h357 rfl rfl (BJ Bb υ4 rfl (s58.get 1 rfl:Own _ _ _ _ _ _ _ _) (hq20 ω) Ap (j:=m2) (f:=0) ω (by decide) rfl rfl)) fun _ h358=>mv h358 rfl fun _ h359=>h359.sn [134,12,11,10,9,8,7,6,5,4,3,0,1] rfl fun h360=>hK84 _ _<|wcT h360 rfl (Bt hc17)<|h360.sk [12,11,10,9,8,7,6,5,4,3,0,1] rfl fun h361=>wp_region_lit<|mvs 2 h361 rfl fun _ h362=>?_
          refine fav h362 rfl (Ak _ _) fun _ h363=>ldv h363 s58 0 υ47 rfl rfl rfl rfl fun _ h364=>mv h364 rfl fun _ h365=>sv1 h365 rfl (v:=.pointer (some ⟨q1340,m2*3,none⟩)) (Ay h365 rfl rfl rfl (fun w=>ixO υ47 κ (sz:=3) (hq20 ω) (j:=m2) rfl ω ω w)) fun _ h366=>sv1 h366 rfl (v:=.pointer (some ⟨q1340,m2*3+2,none⟩)) (rfa h366 rfl rfl (fun w=>Bf q1340 (m2*3) w)) fun _ h367=>sw1 h367 rfl (v:=ν ((((As F ((Aa F x.p2).2.1) ((Aa F x.p2).2.2)).N).getD m2 Ap).links)) (rld h367 rfl rfl (BJ Bb υ3 rfl (s58.get 1 rfl:Own _ _ _ _ _ _ _ _) (hq20 ω) Ap (j:=m2) (f:=2) ω (by decide) rfl rfl)) fun _ h368=>bv h368 (z:=ν ((((As F ((Aa F x.p2).2.1) ((Aa F x.p2).2.2)).N).getD m2 Ap).links-1)) rfl (Ij _ _ _ ω ω ω) fun _ h369=>sv1 h369 rfl (v:=.pointer (some ⟨q1340,m2*3,none⟩)) (Ay h369 rfl rfl rfl (fun w=>ixO υ47 κ (sz:=3) (hq20 ω) (j:=m2) rfl ω ω w)) fun _ h370=>sv1 h370 rfl (v:=.pointer (some ⟨q1340,m2*3+2,none⟩)) (rfa h370 rfl rfl (fun w=>Bf q1340 (m2*3) w)) fun _ h371=>so (wn rfl) fun _ hK85=>FQ Bb h371 rfl rfl s58 1 rfl (hq20 ω) rfl rfl rfl rfl Ap (⟨(((As F ((Aa F x.p2).2.1) ((Aa F x.p2).2.2)).N).getD m2 Ap).dir,(((As F ((Aa F x.p2).2.1) ((Aa F x.p2).2.2)).N).getD m2 Ap).data,(((As F ((Aa F x.p2).2.1) ((Aa F x.p2).2.2)).N).getD m2 Ap).links-1⟩:NodeM) rfl κ ω (by decide) rfl (n':=(((As F ((Aa F x.p2).2.1) ((Aa F x.p2).2.2)).N).set m2 (⟨(((As F ((Aa F x.p2).2.1) ((Aa F x.p2).2.2)).N).getD m2 Ap).dir,(((As F ((Aa F x.p2).2.1) ((Aa F x.p2).2.2)).N).getD m2 Ap).data,(((As F ((Aa F x.p2).2.1) ((Aa F x.p2).2.2)).N).getD m2 Ap).links-1⟩:NodeM)).length) (by rw [List.length_set]) fun _ w55 h372 s59=>hK85 _ _ ?_
          have s60:=s59;clear s59
          refine h372.sn [12,11,10,9,8,7,6,5,4,3,0,1] rfl fun h373=>hK58 _ _<|sq fun _ hK86=>?_
          have hfr1382:Af F (Aa F x.p2).2.1 (Aa F x.p2).2.2 m2=By (As F (Aa F x.p2).2.1 (Aa F x.p2).2.2) m2 (-1):=by unfold Af;rw [if_neg (show ¬ F.dir m2=true from AI hc17)]
          have hok1383:FsOk (Af F (Aa F x.p2).2.1 (Aa F x.p2).2.2 m2):=hok.freed hm3
          have hz1384:SmF (Af F (Aa F x.p2).2.1 (Aa F x.p2).2.2 m2):=IN hz0
          have s61:Sep w55 ([Ah df 51 [.slice nax1310 ((Af F (Aa F x.p2).2.1 (Aa F x.p2).2.2 m2).N.length) ncx1311,.slice eax1312 ((Af F (Aa F x.p2).2.1 (Aa F x.p2).2.2 m2).E.length) ecx1313,.slice oax1314 ((Af F (Aa F x.p2).2.1 (Aa F x.p2).2.2 m2).O.length) ocx1315],Ai 0 88 3 nax1310 ((Af F (Aa F x.p2).2.1 (Aa F x.p2).2.2 m2).N).length ncx1311 (((Af F (Aa F x.p2).2.1 (Aa F x.p2).2.2 m2).N).flatMap Ca),Ai 0 114 3 eax1312 ((Af F (Aa F x.p2).2.1 (Aa F x.p2).2.2 m2).E).length ecx1313 (((Af F (Aa F x.p2).2.1 (Aa F x.p2).2.2 m2).E).flatMap BU),Ai 0 93 3 oax1314 ((Af F (Aa F x.p2).2.1 (Aa F x.p2).2.2 m2).O).length ocx1315 (((Af F (Aa F x.p2).2.1 (Aa F x.p2).2.2 m2).O).flatMap BQ),Ah g1 37 zL,Ah g4 30 (cL x),Ch.many R]):=by
           have z:=s60;rw [hfr1382];(try simp only [List.length_set] at z);simp only [By,List.length_set];exact z
          obtain ⟨hz1384a,hz1384b,hz1384c⟩:=hz1384;have hz1384:SmF (Af F (Aa F x.p2).2.1 (Aa F x.p2).2.2 m2):=⟨hz1384a,hz1384b,hz1384c⟩
          refine wp_region_lit<|mv h373 rfl fun _ h374=>fav h374 rfl (Ao _ _) fun _ h375=>ldv h375 s61 5 υ9 rfl rfl rfl rfl fun _ h376=>cl h376 rfl AF (Cx (F:=(Af F (Aa F x.p2).2.1 (Aa F x.p2).2.2 m2)) s61 hz1384 hok1383 ω) fun _ v36 w56 r36 h377=>?_
          obtain ⟨rfl,s62⟩:=r36
          refine mvs 7 h377 rfl fun _ h378=>h378.sn [14,13,12,11,10,9,8,7,6,5,4,3,0,1] rfl fun h379=>hK86 _ _<|sqr fun _ hK87=>mvs 3 h379 rfl fun _ h380=>cl h380 rfl AY (FP (F:=(Af F (Aa F x.p2).2.1 (Aa F x.p2).2.2 m2)) s62 hz1384 ((Aa (Af F (Aa F x.p2).2.1 (Aa F x.p2).2.2 m2) x.p1).2.1) ((Aa (Af F (Aa F x.p2).2.1 (Aa F x.p2).2.2 m2) x.p1).2.2)) fun _ v37 w57 r37 h381=>?_
          obtain ⟨nax1421,ncx1422,eax1423,ecx1424,oax1425,ocx1426,rfl,s63⟩:=r37
          have hN1434:(As (Af F (Aa F x.p2).2.1 (Aa F x.p2).2.2 m2) ((Aa (Af F (Aa F x.p2).2.1 (Aa F x.p2).2.2 m2) x.p1).2.1) ((Aa (Af F (Aa F x.p2).2.1 (Aa F x.p2).2.2 m2) x.p1).2.2)).N.length=(Af F (Aa F x.p2).2.1 (Aa F x.p2).2.2 m2).N.length:=rfl
          have hO1435:(As (Af F (Aa F x.p2).2.1 (Aa F x.p2).2.2 m2) ((Aa (Af F (Aa F x.p2).2.1 (Aa F x.p2).2.2 m2) x.p1).2.1) ((Aa (Af F (Aa F x.p2).2.1 (Aa F x.p2).2.2 m2) x.p1).2.2)).O.length=(Af F (Aa F x.p2).2.1 (Aa F x.p2).2.2 m2).O.length:=rfl
          refine h381.sn [14,13,12,11,10,9,8,7,6,5,4,3,0,1] rfl fun h382=>hK87 _ _<|sqr fun _ hK88=>mvs 4 h382 rfl fun _ h383=>cl h383 rfl Bo (IW (F:=(As (Af F (Aa F x.p2).2.1 (Aa F x.p2).2.2 m2) ((Aa (Af F (Aa F x.p2).2.1 (Aa F x.p2).2.2 m2) x.p1).2.1) ((Aa (Af F (Aa F x.p2).2.1 (Aa F x.p2).2.2 m2) x.p1).2.2))) s63 (Gz (d:=(Aa (Af F (Aa F x.p2).2.1 (Aa F x.p2).2.2 m2) x.p1).2.1) (s:=((Aa (Af F (Aa F x.p2).2.1 (Aa F x.p2).2.2 m2) x.p1).2.2)) hz1384) ((Aa F x.p2).2.1) ((Aa F x.p2).2.2) ((Ab F x.p1).2)) fun _ v38 w58 r38 h384=>?_
          obtain ⟨nax1446,ncx1447,eax1448,ecx1449,oax1450,ocx1451,rfl,s64⟩:=r38
          have hN1459:(Br (As (Af F (Aa F x.p2).2.1 (Aa F x.p2).2.2 m2) ((Aa (Af F (Aa F x.p2).2.1 (Aa F x.p2).2.2 m2) x.p1).2.1) ((Aa (Af F (Aa F x.p2).2.1 (Aa F x.p2).2.2 m2) x.p1).2.2)) ((Aa F x.p2).2.1) ((Aa F x.p2).2.2) ((Ab F x.p1).2)).N.length=(As (Af F (Aa F x.p2).2.1 (Aa F x.p2).2.2 m2) ((Aa (Af F (Aa F x.p2).2.1 (Aa F x.p2).2.2 m2) x.p1).2.1) ((Aa (Af F (Aa F x.p2).2.1 (Aa F x.p2).2.2 m2) x.p1).2.2)).N.length:=rfl
          have hO1460:(Br (As (Af F (Aa F x.p2).2.1 (Aa F x.p2).2.2 m2) ((Aa (Af F (Aa F x.p2).2.1 (Aa F x.p2).2.2 m2) x.p1).2.1) ((Aa (Af F (Aa F x.p2).2.1 (Aa F x.p2).2.2 m2) x.p1).2.2)) ((Aa F x.p2).2.1) ((Aa F x.p2).2.2) ((Ab F x.p1).2)).O.length=(As (Af F (Aa F x.p2).2.1 (Aa F x.p2).2.2 m2) ((Aa (Af F (Aa F x.p2).2.1 (Aa F x.p2).2.2 m2) x.p1).2.1) ((Aa (Af F (Aa F x.p2).2.1 (Aa F x.p2).2.2 m2) x.p1).2.2)).O.length:=rfl
          refine h384.sn [14,13,12,11,10,9,8,7,6,5,4,3,0,1] rfl fun h385=>hK88 _ _<|sqr fun _ hK89=>bu h385 (v:=.agg zL.toArray) rfl (fun w=>κ) fun _ h386=>stA h386 s64 4 rfl rfl rfl κ rfl rfl rfl rfl fun _ w59 h387 s65 _=>h387.sn [14,13,12,11,10,9,8,7,6,5,4,3,0,1] rfl fun h388=>hK89 _ _<|wp_ret ?_
          try simp only [Exit.then,Exit.inBlock]
          refine rC h388 s65 4 υ37 rfl rfl rfl rfl ?_
          have hq21:An F x.p1 x.p2=(movedF (Af F (Aa F x.p2).2.1 (Aa F x.p2).2.2 m2) x.p1 (Aa F x.p2).2.1 (Aa F x.p2).2.2 (Ab F x.p1).2,Av 0):=by unfold An;rw [if_pos (show ((Ag x.p1).isSome=true∧(Ag x.p2).isSome=true)∧¬ x.p1=[47]∧¬ x.p2=[47] from ⟨BR (DC (orF (orF hc1).1).1),(dF (orF (orF hc1).1).2),(dF (orF hc1).2)⟩),if_pos ω,if_neg (show ¬ ((F.dir (Ab F x.p1).2=true∧¬ x.p1=x.p2)∧Da (Ag x.p2) (Ag x.p1)=true) from (fun q=>hp12.elim (fun z=>AI z q.1.1) (fun z=>z q.1.2))),if_pos ω];unfold Be;rw [hm3];try dsimp only;rw [if_neg ω,if_neg (show ¬ (F.dir (Ab F x.p1).2=true∧F.dir m2=false) from (fun q=>AI hc14 q.1)),if_neg (show ¬ (F.dir (Ab F x.p1).2=true∧0<BG F.E m2) from (fun q=>AI hc14 q.1)),if_neg (show ¬ (F.dir (Ab F x.p1).2=false∧F.dir m2=true) from (fun q=>AI hc17 q.2))]
          rw [hq21]
          exact ⟨none,0,nax1446,ncx1447,eax1448,ecx1449,oax1450,ocx1451,rfl,(Sep.tail_un (xs:=[_,_,_,_]) (s65.pk [0,1,2,3,6] rfl)).ownNil 0 9 1⟩
     ·skip
      have hm4:=AG hc11
      refine cl h215 rfl AX (IR (F:=F) s33 hz0 hm4) fun _ v39 w60 r39 h389=>?_
      obtain ⟨rfl,s66⟩:=r39
      refine mv h389 rfl fun _ h390=>h390.sn [12,11,10,9,8,7,6,5,4,3,0,1] rfl fun h391=>hK54 _ _<|sq fun _ hK90=>sqr fun _ hK91=>mvs 2 h391 rfl fun _ h392=>bv h392 rfl (cEq _ _ _ _ (decide_eq_false ω)) fun _ h393=>h393.sn [84,12,11,10,9,8,7,6,5,4,3,0,1] rfl fun h394=>hK91 _ _<|wcF h394 rfl rfl<|h394.sk [12,11,10,9,8,7,6,5,4,3,0,1] rfl fun h395=>?_
      refine wp_skip<|hK90 _ _<|sq fun _ hK92=>sqr fun _ hK93=>mv h395 rfl fun _ h396=>bv h396 rfl (cGe _ _ _ _ rfl) fun _ h397=>h397.sn [87,12,11,10,9,8,7,6,5,4,3,0,1] rfl fun h398=>hK93 _ _<|wcF h398 rfl rfl<|h398.sk [12,11,10,9,8,7,6,5,4,3,0,1] rfl fun h399=>wp_skip<|hK92 _ _<|sq fun _ hK94=>wp_region_lit ?_
      refine mv h399 rfl fun _ h400=>fav h400 rfl (Ao _ _) fun _ h401=>ldv h401 s66 5 υ9 rfl rfl rfl rfl fun _ h402=>cl h402 rfl AF (Cx (F:=F) s66 hz0 hok ω) fun _ v40 w61 r40 h403=>?_
      obtain ⟨rfl,s67⟩:=r40
      refine mvs 7 h403 rfl fun _ h404=>h404.sn [14,13,12,11,10,9,8,7,6,5,4,3,0,1] rfl fun h405=>hK94 _ _<|sqr fun _ hK95=>mvs 3 h405 rfl fun _ h406=>cl h406 rfl AY (FP (F:=F) s67 hz0 ((Aa F x.p1).2.1) ((Aa F x.p1).2.2)) fun _ v41 w62 r41 h407=>?_
      obtain ⟨nax1539,ncx1540,eax1541,ecx1542,oax1543,ocx1544,rfl,s68⟩:=r41
      have hN1552:(As F ((Aa F x.p1).2.1) ((Aa F x.p1).2.2)).N.length=F.N.length:=rfl
      have hO1553:(As F ((Aa F x.p1).2.1) ((Aa F x.p1).2.2)).O.length=F.O.length:=rfl
      refine h407.sn [14,13,12,11,10,9,8,7,6,5,4,3,0,1] rfl fun h408=>hK95 _ _<|sqr fun _ hK96=>mvs 4 h408 rfl fun _ h409=>cl h409 rfl Bo (IW (F:=(As F ((Aa F x.p1).2.1) ((Aa F x.p1).2.2))) s68 (Gz (d:=(Aa F x.p1).2.1) (s:=((Aa F x.p1).2.2)) hz0) ((Aa F x.p2).2.1) ((Aa F x.p2).2.2) ((Ab F x.p1).2)) fun _ v42 w63 r42 h410=>?_
      obtain ⟨nax1564,ncx1565,eax1566,ecx1567,oax1568,ocx1569,rfl,s69⟩:=r42
      have hN1577:(Br (As F ((Aa F x.p1).2.1) ((Aa F x.p1).2.2)) ((Aa F x.p2).2.1) ((Aa F x.p2).2.2) ((Ab F x.p1).2)).N.length=(As F ((Aa F x.p1).2.1) ((Aa F x.p1).2.2)).N.length:=rfl
      have hO1578:(Br (As F ((Aa F x.p1).2.1) ((Aa F x.p1).2.2)) ((Aa F x.p2).2.1) ((Aa F x.p2).2.2) ((Ab F x.p1).2)).O.length=(As F ((Aa F x.p1).2.1) ((Aa F x.p1).2.2)).O.length:=rfl
      refine h410.sn [14,13,12,11,10,9,8,7,6,5,4,3,0,1] rfl fun h411=>hK96 _ _<|sqr fun _ hK97=>bu h411 (v:=.agg zL.toArray) rfl (fun w=>κ) fun _ h412=>stA h412 s69 4 rfl rfl rfl κ rfl rfl rfl rfl fun _ w64 h413 s70 _=>h413.sn [14,13,12,11,10,9,8,7,6,5,4,3,0,1] rfl fun h414=>hK97 _ _<|wp_ret ?_
      try simp only [Exit.then,Exit.inBlock]
      refine rC h414 s70 4 υ37 rfl rfl rfl rfl ?_
      have hq22:An F x.p1 x.p2=(movedF F x.p1 (Aa F x.p2).2.1 (Aa F x.p2).2.2 (Ab F x.p1).2,Av 0):=by unfold An;rw [if_pos (show ((Ag x.p1).isSome=true∧(Ag x.p2).isSome=true)∧¬ x.p1=[47]∧¬ x.p2=[47] from ⟨BR (DC (orF (orF hc1).1).1),(dF (orF (orF hc1).1).2),(dF (orF hc1).2)⟩),if_pos ω,if_neg (show ¬ ((F.dir (Ab F x.p1).2=true∧¬ x.p1=x.p2)∧Da (Ag x.p2) (Ag x.p1)=true) from (fun q=>hp12.elim (fun z=>AI z q.1.1) (fun z=>z q.1.2))),if_pos ω];unfold Be;rw [hm4];try dsimp only
      rw [hq22]
      exact ⟨none,0,nax1564,ncx1565,eax1566,ecx1567,oax1568,ocx1569,rfl,(Sep.tail_un (xs:=[_,_,_,_]) (s70.pk [0,1,2,3,6] rfl)).ownNil 0 9 1⟩
end
section
theorem Ma {w:World} {df:Nat} {na ea oa:Option Addr} {nc ec oc:Nat} {F:FsM} {R:List Ch} {c:Int} {x:CallM} (hS0:Sep w ((dP df na nc ea ec oa oc F)++R)) (hs:SmS F) (hok:FsOk F) (h1:x.p1.length≤1000) (h2:x.p2.length≤1000) (h3:x.data.length≤1000) :
  CallsR Tryz.prog 18 #[π df,ν c,.agg (cL x).toArray] w (fun v w'=>∃ sa sc na' nc' ea' ec' oa' oc',v=DD (doF F c x).2 sa sc∧Sep w' (Ai 0 9 1 sa (doF F c x).2.names.length sc ((doF F c x).2.names.flatMap sE)::[Ah df 51 [.slice na' (((doF F c x).1).N.length) nc',.slice ea' (((doF F c x).1).E.length) ec',.slice oa' (((doF F c x).1).O.length) oc'],Ai 0 88 3 na' (((doF F c x).1).N).length nc' ((((doF F c x).1).N).flatMap Ca),Ai 0 114 3 ea' (((doF F c x).1).E).length ec' ((((doF F c x).1).E).flatMap BU),Ai 0 93 3 oa' (((doF F c x).1).O).length oc' ((((doF F c x).1).O).flatMap BQ)]++R)):=by
 have hS:=Sep.tail_many (xs:=dP df na nc ea ec oa oc F) hS0;clear hS0
 have hz:SmF F:=hs.sm
 have hz0:=hz;obtain ⟨hz1,hz2,hz3⟩:F.N.length≤1000∧F.E.length≤1000∧F.O.length≤1000:=hz
 refine AE Tryz.func18 rfl (N:=150) Tryz.ntmps18 (by show 3≤150;decide) [(0,π df),(1,ν c),(2,.agg (cL x).toArray)] rfl fun _ h1=>sqr fun _ hK3=>so (wn rfl) fun _ hK1=>Dc h1 rfl rfl rfl rfl rfl (z:=(cL x)) rfl hS fun _ g4 w7 h5 s8 _ _=>hK1 _ _ ?_
 refine so (wn rfl) fun _ hK2=>BE h5 rfl rfl rfl rfl (z:=zL) (fun _=>rfl) s8 fun _ g1 w1 h4 s1 _ _=>hK2 _ _ ?_
 refine wpList_nil<|hK3 _ _<|sq fun _ hK4=>sqr fun _ hK5=>mv h4 rfl fun _ h6=>bv h6 (z:=.bool (decide (c<1))) rfl (cLt _ _ _ _ rfl) fun _ h7=>mv h7 rfl fun _ h8=>sg h8 (wF h8 rfl rfl rfl) rfl rfl rfl (v:=ν c) (fun hC1=>by have hq:=(dF (AW hC1));exact (Aq h8 rfl rfl) _) fun _ h9=>sg h9 (wF h9 rfl rfl rfl) rfl rfl rfl (v:=.bool (decide (c>8))) (fun hC2=>by have hq:=(dF (AW hC2));exact (BF h9 rfl (opg rfl hC2) rfl (cGt _ _ _ _ rfl)) _) fun _ h10=>sv1 h10 rfl (v:=.bool ((decide (c<1))||(decide (c>8)))) (Ds h10 rfl (E:=(decide (c<1))) (F:=(decide (c>8))) rfl rfl rfl (fun e=>if_pos (by rw [e];try rfl))) fun _ h11=>h11.sk [23,6,5,0,1,2] rfl fun h12=>?_
 clear h1
 refine wpList_nil<|hK5 _ _ ?_
 rcases bC ((decide (c<1))||(decide (c>8))) with hc1 | hc1
 ·skip
  have hp1:(c<1)∨(c>8):=((orT hc1).imp (fun q=>(dT q)) (fun q=>(dT q)))
  refine wcT h12 rfl hc1<|h12.sk [6,5,0,1,2] rfl fun h13=>sqr fun _ hK6=>cl h13 rfl Ae (AV s1 1) fun _ v1 w2 r1 h14=>?_
  obtain ⟨rfl,s2⟩:=r1
  refine stA h14 s2 0 rfl rfl rfl κ rfl rfl rfl rfl fun _ w3 h15 s3 _=>h15.sn [6,5,0,1,2] rfl fun h16=>hK6 _ _<|wp_ret ?_
  try simp only [Exit.then,Exit.inBlock]
  refine rC h16 s3 0 υ37 rfl rfl rfl rfl ?_
  have hq1:doF F c x=(F,Av 1):=bx
  rw [hq1]
  exact ⟨none,0,na,nc,ea,ec,oa,oc,rfl,(Sep.tail_un (xs:=[_,_,_,_]) (s3.pk [2,3,4,5,6] rfl)).ownNil 0 9 1⟩
 ·skip
  have hp2:(¬ (c<1))∧(¬ (c>8)):=(And.intro (dF (orF hc1).1) (dF (orF hc1).2))
  refine wcF h12 rfl hc1<|h12.sk [6,5,0,1,2] rfl fun h17=>wp_skip<|hK4 _ _<|sq fun _ hK7=>sqr fun _ hK8=>fav h17 rfl (CG _ _) fun _ h18=>ldv h18 s1 1 υ3 rfl rfl rfl rfl fun _ h19=>h19.sn [26,6,5,0,1,2] rfl fun h20=>hK8 _ _<|wp_block ?_
  refine sqr fun _ hK9=>bv h20 (z:=.bool (decide (x.kind=1))) rfl (cEq _ _ _ _ rfl) fun _ h21=>mv h21 rfl fun _ h22=>h22.sn [27,26,6,5,0,1,2] rfl fun h23=>hK9 _ _ ?_
  rcases bC (decide (x.kind=1)) with hc2 | hc2
  ·skip
   have hp3:x.kind=1:=(dT hc2)
   refine wcT h23 rfl hc2<|h23.sk [26,6,5,0,1,2] rfl fun h24=>sqr fun _ hK10=>mvs 2 h24 rfl fun _ h25=>sw1 h25 rfl (v:=.agg (cL x).toArray) (rld h25 rfl rfl (ldA υ30 rfl (n:=8) κ (s1.get 1 rfl:Blk _ _ _ _) rfl rfl)) fun _ h26=>cl h26 rfl Gi (PM (F:=F) (s1.pk [2,3,4,5,0,1,6] rfl) hs hok h1 h2 h3) fun _ v2 w4 r2 h27=>?_
   obtain ⟨sax81,scx82,nax83,ncx84,eax85,ecx86,oax87,ocx88,rfl,s4⟩:=r2
   refine stA h27 s4 5 rfl rfl rfl κ rfl rfl rfl rfl fun _ w5 h28 s5 _=>h28.sn [26,6,5,0,1,2] rfl fun h29=>hK10 _ _<|wp_ret ?_
   try simp only [Exit.then,Exit.inBlock]
   refine rC h29 s5 5 υ37 rfl rfl rfl rfl ?_
   have hq2:doF F c x=((AS F c x.p1 x.fl).1,(AS F c x.p1 x.fl).2):=bx
   rw [hq2]
   exact ⟨sax81,scx82,nax83,ncx84,eax85,ecx86,oax87,ocx88,rfl,Sep.tail_un (xs:=[_,_,_,_,_]) (s5.pk [0,1,2,3,4,7] rfl)⟩
  ·skip
   have hp4:¬ (x.kind=1):=(dF hc2)
   refine wcF h23 rfl hc2<|h23.sk [26,6,5,0,1,2] rfl fun h30=>sq fun _ hK11=>sqr fun _ hK12=>bv h30 (z:=.bool (decide (x.kind=2))) rfl (cEq _ _ _ _ rfl) fun _ h31=>mv h31 rfl fun _ h32=>h32.sn [33,26,6,5,0,1,2] rfl fun h33=>hK12 _ _ ?_
   rcases bC (decide (x.kind=2)) with hc3 | hc3
   ·skip
    have hp5:x.kind=2:=(dT hc3)
    refine wcT h33 rfl hc3<|wp_skip<|hK11 _ _<|wcT h33 rfl hc3<|sqr fun _ hK13=>mvs 2 h33 rfl fun _ h34=>fav h34 rfl (BX _ _) fun _ h35=>ldv h35 s1 1 υ3 rfl rfl rfl rfl fun _ h36=>?_
    rcases bC ((Az F.O c x.fd).isSome) with hc4 | hc4
    ·skip
     obtain ⟨m1,hm1⟩:=Option.isSome_iff_exists.1 hc4
     refine cl h36 rfl AZ (Hy (F:=F) (s1.pk [2,3,4,5,0,1,6] rfl) hz0 hm1) fun _ v3 w6 r3 h37=>?_
     obtain ⟨rfl,s6⟩:=r3
     refine mv h37 rfl fun _ h38=>h38.sn [7,33,26,6,5,0,1,2] rfl fun h39=>hK13 _ _<|sq fun _ hK14=>sqr fun _ hK15=>mv h39 rfl fun _ h40=>bv h40 rfl (cLt _ _ _ _ (decide_eq_false ω)) fun _ h41=>h41.sn [45,7,33,26,6,5,0,1,2] rfl fun h42=>hK15 _ _<|wcF h42 rfl rfl<|h42.sk [7,33,26,6,5,0,1,2] rfl fun h43=>?_
     refine wp_skip<|hK14 _ _<|sqr fun _ hK16=>mvs 3 h43 rfl fun _ h44=>sw1 h44 rfl (v:=.agg (cL x).toArray) (rld h44 rfl rfl (ldA υ30 rfl (n:=8) κ (s6.get 5 rfl:Blk _ _ _ _) rfl rfl)) fun _ h45=>cl h45 rfl Cs (Nq (F:=F) s6 hs hok h1 h2 h3 ω hm1) fun _ v4 w8 r4 h46=>?_
     obtain ⟨sax155,scx156,nax157,ncx158,eax159,ecx160,oax161,ocx162,rfl,s7⟩:=r4
     refine stA h46 s7 5 rfl rfl rfl κ rfl rfl rfl rfl fun _ w9 h47 s9 _=>h47.sn [7,33,26,6,5,0,1,2] rfl fun h48=>hK16 _ _<|wp_ret ?_
     try simp only [Exit.then,Exit.inBlock]
     refine rC h48 s9 5 υ37 rfl rfl rfl rfl ?_
     have hq3:doF F c x=((BK F c x.fd).1,(BK F c x.fd).2):=bx
     rw [hq3]
     exact ⟨sax155,scx156,nax157,ncx158,eax159,ecx160,oax161,ocx162,rfl,Sep.tail_un (xs:=[_,_,_,_,_]) (s9.pk [0,1,2,3,4,7] rfl)⟩
    ·skip
     have hm2:=AG hc4
     refine cl h36 rfl AZ (Jq (F:=F) (s1.pk [2,3,4,5,0,1,6] rfl) hz0 hm2) fun _ v5 w10 r5 h49=>?_
     obtain ⟨rfl,s10⟩:=r5
     refine mv h49 rfl fun _ h50=>h50.sn [7,33,26,6,5,0,1,2] rfl fun h51=>hK13 _ _<|sq fun _ hK17=>sqr fun _ hK18=>mv h51 rfl fun _ h52=>bv h52 rfl (cLt _ _ _ _ rfl) fun _ h53=>h53.sn [45,7,33,26,6,5,0,1,2] rfl fun h54=>hK18 _ _<|wcT h54 rfl rfl<|h54.sk [7,33,26,6,5,0,1,2] rfl fun h55=>?_
     refine sqr fun _ hK19=>cl h55 rfl Ae (AV s10 16) fun _ v6 w11 r6 h56=>?_
     obtain ⟨rfl,s11⟩:=r6
     refine stA h56 s11 4 rfl rfl rfl κ rfl rfl rfl rfl fun _ w12 h57 s12 _=>h57.sn [7,33,26,6,5,0,1,2] rfl fun h58=>hK19 _ _<|wp_ret ?_
     try simp only [Exit.then,Exit.inBlock]
     refine rC h58 s12 4 υ37 rfl rfl rfl rfl ?_
     have hq4:doF F c x=(F,Av 16):=bx
     rw [hq4]
     exact ⟨none,0,na,nc,ea,ec,oa,oc,rfl,(Sep.tail_un (xs:=[_,_,_,_]) (s12.pk [0,1,2,3,6] rfl)).ownNil 0 9 1⟩
   ·skip
    have hp6:¬ (x.kind=2):=(dF hc3)
    refine wcF h33 rfl hc3<|sqr fun _ hK20=>bv h33 (z:=.bool (decide (x.kind=3))) rfl (cEq _ _ _ _ rfl) fun _ h59=>h59.sk [35,26,6,5,0,1,2] rfl fun h60=>mv h60 rfl fun _ h61=>h61.sn [33,26,6,5,0,1,2] rfl fun h62=>hK20 _ _ ?_
    rcases bC (decide (x.kind=3)) with hc5 | hc5
    ·skip
     have hp7:x.kind=3:=(dT hc5)
     refine wcT h62 rfl hc5<|wp_skip<|hK11 _ _<|wcT h62 rfl hc5<|sqr fun _ hK21=>mvs 2 h62 rfl fun _ h63=>fav h63 rfl (BX _ _) fun _ h64=>ldv h64 s1 1 υ3 rfl rfl rfl rfl fun _ h65=>?_
     rcases bC ((Az F.O c x.fd).isSome) with hc6 | hc6
     ·skip
      obtain ⟨m2,hm3⟩:=Option.isSome_iff_exists.1 hc6
      refine cl h65 rfl AZ (Hy (F:=F) (s1.pk [2,3,4,5,0,1,6] rfl) hz0 hm3) fun _ v7 w13 r7 h66=>?_
      obtain ⟨rfl,s13⟩:=r7
      refine mv h66 rfl fun _ h67=>h67.sn [7,33,26,6,5,0,1,2] rfl fun h68=>hK21 _ _<|sq fun _ hK22=>sqr fun _ hK23=>mv h68 rfl fun _ h69=>bv h69 rfl (cLt _ _ _ _ (decide_eq_false ω)) fun _ h70=>h70.sn [45,7,33,26,6,5,0,1,2] rfl fun h71=>hK23 _ _<|wcF h71 rfl rfl<|h71.sk [7,33,26,6,5,0,1,2] rfl fun h72=>?_
      refine wp_skip<|hK22 _ _<|sqr fun _ hK24=>mvs 3 h72 rfl fun _ h73=>sw1 h73 rfl (v:=.agg (cL x).toArray) (rld h73 rfl rfl (ldA υ30 rfl (n:=8) κ (s13.get 5 rfl:Blk _ _ _ _) rfl rfl)) fun _ h74=>cl h74 rfl Cs (PQ (F:=F) s13 hs hok h1 h2 h3 ω hm3) fun _ v8 w14 r8 h75=>?_
      obtain ⟨sax264,scx265,nax266,ncx267,eax268,ecx269,oax270,ocx271,rfl,s14⟩:=r8
      refine stA h75 s14 5 rfl rfl rfl κ rfl rfl rfl rfl fun _ w15 h76 s15 _=>h76.sn [7,33,26,6,5,0,1,2] rfl fun h77=>hK24 _ _<|wp_ret ?_
      try simp only [Exit.then,Exit.inBlock]
      refine rC h77 s15 5 υ37 rfl rfl rfl rfl ?_
      have hq5:doF F c x=((BV F c x.fd x.off x.n).1,(BV F c x.fd x.off x.n).2):=bx
      rw [hq5]
      exact ⟨sax264,scx265,nax266,ncx267,eax268,ecx269,oax270,ocx271,rfl,Sep.tail_un (xs:=[_,_,_,_,_]) (s15.pk [0,1,2,3,4,7] rfl)⟩
     ·skip
      have hm4:=AG hc6
      refine cl h65 rfl AZ (Jq (F:=F) (s1.pk [2,3,4,5,0,1,6] rfl) hz0 hm4) fun _ v9 w16 r9 h78=>?_
      obtain ⟨rfl,s16⟩:=r9
      refine mv h78 rfl fun _ h79=>h79.sn [7,33,26,6,5,0,1,2] rfl fun h80=>hK21 _ _<|sq fun _ hK25=>sqr fun _ hK26=>mv h80 rfl fun _ h81=>bv h81 rfl (cLt _ _ _ _ rfl) fun _ h82=>h82.sn [45,7,33,26,6,5,0,1,2] rfl fun h83=>hK26 _ _<|wcT h83 rfl rfl<|h83.sk [7,33,26,6,5,0,1,2] rfl fun h84=>?_
      refine sqr fun _ hK27=>cl h84 rfl Ae (AV s16 16) fun _ v10 w17 r10 h85=>?_
      obtain ⟨rfl,s17⟩:=r10
      refine stA h85 s17 4 rfl rfl rfl κ rfl rfl rfl rfl fun _ w18 h86 s18 _=>h86.sn [7,33,26,6,5,0,1,2] rfl fun h87=>hK27 _ _<|wp_ret ?_
      try simp only [Exit.then,Exit.inBlock]
      refine rC h87 s18 4 υ37 rfl rfl rfl rfl ?_
      have hq6:doF F c x=(F,Av 16):=bx
      rw [hq6]
      exact ⟨none,0,na,nc,ea,ec,oa,oc,rfl,(Sep.tail_un (xs:=[_,_,_,_]) (s18.pk [0,1,2,3,6] rfl)).ownNil 0 9 1⟩
    ·skip
     have hp8:¬ (x.kind=3):=(dF hc5)
     refine wcF h62 rfl hc5<|sqr fun _ hK28=>bv h62 (z:=.bool (decide (x.kind=4))) rfl (cEq _ _ _ _ rfl) fun _ h88=>h88.sk [36,26,6,5,0,1,2] rfl fun h89=>mv h89 rfl fun _ h90=>h90.sn [33,26,6,5,0,1,2] rfl fun h91=>hK28 _ _ ?_
     rcases bC (decide (x.kind=4)) with hc7 | hc7
     ·skip
      have hp9:x.kind=4:=(dT hc7)
      refine wcT h91 rfl hc7<|wp_skip<|hK11 _ _<|wcT h91 rfl hc7<|sqr fun _ hK29=>mvs 2 h91 rfl fun _ h92=>fav h92 rfl (BX _ _) fun _ h93=>ldv h93 s1 1 υ3 rfl rfl rfl rfl fun _ h94=>?_
      rcases bC ((Az F.O c x.fd).isSome) with hc8 | hc8
      ·skip
       obtain ⟨m3,hm5⟩:=Option.isSome_iff_exists.1 hc8
       refine cl h94 rfl AZ (Hy (F:=F) (s1.pk [2,3,4,5,0,1,6] rfl) hz0 hm5) fun _ v11 w19 r11 h95=>?_
       obtain ⟨rfl,s19⟩:=r11
       refine mv h95 rfl fun _ h96=>h96.sn [7,33,26,6,5,0,1,2] rfl fun h97=>hK29 _ _<|sq fun _ hK30=>sqr fun _ hK31=>mv h97 rfl fun _ h98=>bv h98 rfl (cLt _ _ _ _ (decide_eq_false ω)) fun _ h99=>h99.sn [45,7,33,26,6,5,0,1,2] rfl fun h100=>hK31 _ _<|wcF h100 rfl rfl<|h100.sk [7,33,26,6,5,0,1,2] rfl fun h101=>?_
       refine wp_skip<|hK30 _ _<|sqr fun _ hK32=>mvs 3 h101 rfl fun _ h102=>sw1 h102 rfl (v:=.agg (cL x).toArray) (rld h102 rfl rfl (ldA υ30 rfl (n:=8) κ (s19.get 5 rfl:Blk _ _ _ _) rfl rfl)) fun _ h103=>cl h103 rfl Cs (Om (F:=F) s19 hs hok h1 h2 h3 ω hm5) fun _ v12 w20 r12 h104=>?_
       obtain ⟨sax373,scx374,nax375,ncx376,eax377,ecx378,oax379,ocx380,rfl,s20⟩:=r12
       refine stA h104 s20 5 rfl rfl rfl κ rfl rfl rfl rfl fun _ w21 h105 s21 _=>h105.sn [7,33,26,6,5,0,1,2] rfl fun h106=>hK32 _ _<|wp_ret ?_
       try simp only [Exit.then,Exit.inBlock]
       refine rC h106 s21 5 υ37 rfl rfl rfl rfl ?_
       have hq7:doF F c x=((Bd F c x.fd x.off x.data).1,(Bd F c x.fd x.off x.data).2):=bx
       rw [hq7]
       exact ⟨sax373,scx374,nax375,ncx376,eax377,ecx378,oax379,ocx380,rfl,Sep.tail_un (xs:=[_,_,_,_,_]) (s21.pk [0,1,2,3,4,7] rfl)⟩
      ·skip
       have hm6:=AG hc8
       refine cl h94 rfl AZ (Jq (F:=F) (s1.pk [2,3,4,5,0,1,6] rfl) hz0 hm6) fun _ v13 w22 r13 h107=>?_
       obtain ⟨rfl,s22⟩:=r13
       refine mv h107 rfl fun _ h108=>h108.sn [7,33,26,6,5,0,1,2] rfl fun h109=>hK29 _ _<|sq fun _ hK33=>sqr fun _ hK34=>mv h109 rfl fun _ h110=>bv h110 rfl (cLt _ _ _ _ rfl) fun _ h111=>h111.sn [45,7,33,26,6,5,0,1,2] rfl fun h112=>hK34 _ _<|wcT h112 rfl rfl<|h112.sk [7,33,26,6,5,0,1,2] rfl fun h113=>?_
       refine sqr fun _ hK35=>cl h113 rfl Ae (AV s22 16) fun _ v14 w23 r14 h114=>?_
       obtain ⟨rfl,s23⟩:=r14
       refine stA h114 s23 4 rfl rfl rfl κ rfl rfl rfl rfl fun _ w24 h115 s24 _=>h115.sn [7,33,26,6,5,0,1,2] rfl fun h116=>hK35 _ _<|wp_ret ?_
       try simp only [Exit.then,Exit.inBlock]
       refine rC h116 s24 4 υ37 rfl rfl rfl rfl ?_
       have hq8:doF F c x=(F,Av 16):=bx
       rw [hq8]
       exact ⟨none,0,na,nc,ea,ec,oa,oc,rfl,(Sep.tail_un (xs:=[_,_,_,_]) (s24.pk [0,1,2,3,6] rfl)).ownNil 0 9 1⟩
     ·skip
      have hp10:¬ (x.kind=4):=(dF hc7)
      refine wcF h91 rfl hc7<|sqr fun _ hK36=>bv h91 (z:=.bool (decide (x.kind=5))) rfl (cEq _ _ _ _ rfl) fun _ h117=>h117.sk [37,26,6,5,0,1,2] rfl fun h118=>mv h118 rfl fun _ h119=>h119.sn [33,26,6,5,0,1,2] rfl fun h120=>hK36 _ _ ?_
      rcases bC (decide (x.kind=5)) with hc9 | hc9
      ·skip
       have hp11:x.kind=5:=(dT hc9)
       refine wcT h120 rfl hc9<|wp_skip<|hK11 _ _<|wcT h120 rfl hc9<|sqr fun _ hK37=>mvs 2 h120 rfl fun _ h121=>fav h121 rfl (BX _ _) fun _ h122=>ldv h122 s1 1 υ3 rfl rfl rfl rfl fun _ h123=>?_
       rcases bC ((Az F.O c x.fd).isSome) with hc10 | hc10
       ·skip
        obtain ⟨m4,hm7⟩:=Option.isSome_iff_exists.1 hc10
        refine cl h123 rfl AZ (Hy (F:=F) (s1.pk [2,3,4,5,0,1,6] rfl) hz0 hm7) fun _ v15 w25 r15 h124=>?_
        obtain ⟨rfl,s25⟩:=r15
        refine mv h124 rfl fun _ h125=>h125.sn [7,33,26,6,5,0,1,2] rfl fun h126=>hK37 _ _<|sq fun _ hK38=>sqr fun _ hK39=>mv h126 rfl fun _ h127=>bv h127 rfl (cLt _ _ _ _ (decide_eq_false ω)) fun _ h128=>h128.sn [45,7,33,26,6,5,0,1,2] rfl fun h129=>hK39 _ _<|wcF h129 rfl rfl<|h129.sk [7,33,26,6,5,0,1,2] rfl fun h130=>?_
        refine wp_skip<|hK38 _ _<|sqr fun _ hK40=>mvs 3 h130 rfl fun _ h131=>sw1 h131 rfl (v:=.agg (cL x).toArray) (rld h131 rfl rfl (ldA υ30 rfl (n:=8) κ (s25.get 5 rfl:Blk _ _ _ _) rfl rfl)) fun _ h132=>cl h132 rfl Cs (Ol (F:=F) s25 hs hok h1 h2 h3 ω hm7) fun _ v16 w26 r16 h133=>?_
        obtain ⟨sax482,scx483,nax484,ncx485,eax486,ecx487,oax488,ocx489,rfl,s26⟩:=r16
        refine stA h133 s26 5 rfl rfl rfl κ rfl rfl rfl rfl fun _ w27 h134 s27 _=>h134.sn [7,33,26,6,5,0,1,2] rfl fun h135=>hK40 _ _<|wp_ret ?_
        try simp only [Exit.then,Exit.inBlock]
        refine rC h135 s27 5 υ37 rfl rfl rfl rfl ?_
        have hq9:doF F c x=((BD F c x.fd x.n).1,(BD F c x.fd x.n).2):=bx
        rw [hq9]
        exact ⟨sax482,scx483,nax484,ncx485,eax486,ecx487,oax488,ocx489,rfl,Sep.tail_un (xs:=[_,_,_,_,_]) (s27.pk [0,1,2,3,4,7] rfl)⟩
       ·skip
        have hm8:=AG hc10
        refine cl h123 rfl AZ (Jq (F:=F) (s1.pk [2,3,4,5,0,1,6] rfl) hz0 hm8) fun _ v17 w28 r17 h136=>?_
        obtain ⟨rfl,s28⟩:=r17
        refine mv h136 rfl fun _ h137=>h137.sn [7,33,26,6,5,0,1,2] rfl fun h138=>hK37 _ _<|sq fun _ hK41=>sqr fun _ hK42=>mv h138 rfl fun _ h139=>bv h139 rfl (cLt _ _ _ _ rfl) fun _ h140=>h140.sn [45,7,33,26,6,5,0,1,2] rfl fun h141=>hK42 _ _<|wcT h141 rfl rfl<|h141.sk [7,33,26,6,5,0,1,2] rfl fun h142=>?_
        refine sqr fun _ hK43=>cl h142 rfl Ae (AV s28 16) fun _ v18 w29 r18 h143=>?_
        obtain ⟨rfl,s29⟩:=r18
        refine stA h143 s29 4 rfl rfl rfl κ rfl rfl rfl rfl fun _ w30 h144 s30 _=>h144.sn [7,33,26,6,5,0,1,2] rfl fun h145=>hK43 _ _<|wp_ret ?_
        try simp only [Exit.then,Exit.inBlock]
        refine rC h145 s30 4 υ37 rfl rfl rfl rfl ?_
        have hq10:doF F c x=(F,Av 16):=bx
        rw [hq10]
        exact ⟨none,0,na,nc,ea,ec,oa,oc,rfl,(Sep.tail_un (xs:=[_,_,_,_]) (s30.pk [0,1,2,3,6] rfl)).ownNil 0 9 1⟩
      ·skip
       have hp12:¬ (x.kind=5):=(dF hc9)
       refine wcF h120 rfl hc9<|wp_region_lit<|bv h120 (z:=.bool (decide (x.kind=6))) rfl (cEq _ _ _ _ rfl) fun _ h146=>h146.sk [38,26,6,5,0,1,2] rfl fun h147=>mv h147 rfl fun _ h148=>h148.sn [33,26,6,5,0,1,2] rfl fun h149=>hK11 _ _ ?_
       rcases bC (decide (x.kind=6)) with hc11 | hc11
       ·skip
        have hp13:x.kind=6:=(dT hc11)
        refine wcT h149 rfl hc11<|sqr fun _ hK44=>mvs 2 h149 rfl fun _ h150=>fav h150 rfl (BX _ _) fun _ h151=>ldv h151 s1 1 υ3 rfl rfl rfl rfl fun _ h152=>?_
        rcases bC ((Az F.O c x.fd).isSome) with hc12 | hc12
        ·skip
         obtain ⟨m5,hm9⟩:=Option.isSome_iff_exists.1 hc12
         refine cl h152 rfl AZ (Hy (F:=F) (s1.pk [2,3,4,5,0,1,6] rfl) hz0 hm9) fun _ v19 w31 r19 h153=>?_
         obtain ⟨rfl,s31⟩:=r19
         refine mv h153 rfl fun _ h154=>h154.sn [7,33,26,6,5,0,1,2] rfl fun h155=>hK44 _ _<|sq fun _ hK45=>sqr fun _ hK46=>mv h155 rfl fun _ h156=>bv h156 rfl (cLt _ _ _ _ (decide_eq_false ω)) fun _ h157=>h157.sn [45,7,33,26,6,5,0,1,2] rfl fun h158=>hK46 _ _<|wcF h158 rfl rfl<|h158.sk [7,33,26,6,5,0,1,2] rfl fun h159=>?_
         refine wp_skip<|hK45 _ _<|sqr fun _ hK47=>mvs 3 h159 rfl fun _ h160=>sw1 h160 rfl (v:=.agg (cL x).toArray) (rld h160 rfl rfl (ldA υ30 rfl (n:=8) κ (s31.get 5 rfl:Blk _ _ _ _) rfl rfl)) fun _ h161=>cl h161 rfl Cs (PZ (F:=F) s31 hs hok h1 h2 h3 ω hm9) fun _ v20 w32 r20 h162=>?_
         obtain ⟨sax590,scx591,nax592,ncx593,eax594,ecx595,oax596,ocx597,rfl,s32⟩:=r20
         refine stA h162 s32 5 rfl rfl rfl κ rfl rfl rfl rfl fun _ w33 h163 s33 _=>h163.sn [7,33,26,6,5,0,1,2] rfl fun h164=>hK47 _ _<|wp_ret ?_
         try simp only [Exit.then,Exit.inBlock]
         refine rC h164 s33 5 Tryz.underlying37 rfl rfl rfl rfl ?_
         have hq11:doF F c x=((Cw F c x.fd).1,(Cw F c x.fd).2):=bx
         rw [hq11]
         exact ⟨sax590,scx591,nax592,ncx593,eax594,ecx595,oax596,ocx597,rfl,Sep.tail_un (xs:=[_,_,_,_,_]) (s33.pk [0,1,2,3,4,7] rfl)⟩
        ·skip
         have hm10:=AG hc12
         refine cl h152 rfl AZ (Jq (F:=F) (s1.pk [2,3,4,5,0,1,6] rfl) hz0 hm10) fun _ v21 w34 r21 h165=>?_
         obtain ⟨rfl,s34⟩:=r21
         refine mv h165 rfl fun _ h166=>h166.sn [7,33,26,6,5,0,1,2] rfl fun h167=>hK44 _ _<|sq fun _ hK48=>sqr fun _ hK49=>mv h167 rfl fun _ h168=>bv h168 rfl (cLt _ _ _ _ rfl) fun _ h169=>h169.sn [45,7,33,26,6,5,0,1,2] rfl fun h170=>hK49 _ _<|wcT h170 rfl rfl<|h170.sk [7,33,26,6,5,0,1,2] rfl fun h171=>?_
         refine sqr fun _ hK50=>cl h171 rfl Ae (AV s34 16) fun _ v22 w35 r22 h172=>?_
         obtain ⟨rfl,s35⟩:=r22
         refine stA h172 s35 4 rfl rfl rfl κ rfl rfl rfl rfl fun _ w36 h173 s36 _=>h173.sn [7,33,26,6,5,0,1,2] rfl fun h174=>hK50 _ _<|wp_ret ?_
         try simp only [Exit.then,Exit.inBlock]
         refine rC h174 s36 4 Tryz.underlying37 rfl rfl rfl rfl ?_
         have hq12:doF F c x=(F,Av 16):=bx
         rw [hq12]
         exact ⟨none,0,na,nc,ea,ec,oa,oc,rfl,(Sep.tail_un (xs:=[_,_,_,_]) (s36.pk [0,1,2,3,6] rfl)).ownNil 0 9 1⟩
       ·skip
        have hp14:¬ (x.kind=6):=(dF hc11)
        refine wcF h149 rfl hc11<|sqr fun _ hK51=>bv h149 (z:=.bool (decide (x.kind=7))) rfl (cEq _ _ _ _ rfl) fun _ h175=>mv h175 rfl fun _ h176=>h176.sn [52,33,26,6,5,0,1,2] rfl fun h177=>hK51 _ _ ?_
        rcases bC (decide (x.kind=7)) with hc13 | hc13
        ·skip
         have hp15:x.kind=7:=(dT hc13)
         refine wcT h177 rfl hc13<|h177.sk [33,26,6,5,0,1,2] rfl fun h178=>sqr fun _ hK52=>mv h178 rfl fun _ h179=>fav h179 rfl (Ao _ _) fun _ h180=>ldv h180 s1 1 υ9 rfl rfl rfl rfl fun _ h181=>cl h181 rfl Bk (Ec (F:=F) (s1.pk [2,3,4,5,0,1,6] rfl) hz0 hok ω) fun _ v23 w37 r23 h182=>?_
         obtain ⟨rfl,s37⟩:=r23
         have hfl673:=FsC.find_lt (F:=F) (FsOk.toFsC hok) x.p1
         refine mvs 5 h182 rfl fun _ h183=>h183.sn [9,33,26,6,5,0,1,2] rfl fun h184=>hK52 _ _<|sq fun _ hK53=>sqr fun _ hK54=>mv h184 rfl fun _ h185=>bv h185 (z:=.bool (decide ((Ab F x.p1).1=0))) rfl (cEq _ _ _ _ rfl) fun _ h186=>h186.sn [62,9,33,26,6,5,0,1,2] rfl fun h187=>hK54 _ _ ?_
         rcases bC (decide ((Ab F x.p1).1=0)) with hc14 | hc14
         ·skip
          have hp16:(Ab F x.p1).1=0:=(dT hc14)
          refine wcT h187 rfl hc14<|h187.sk [9,33,26,6,5,0,1,2] rfl fun h188=>sqr fun _ hK55=>cl h188 rfl Ae (AV s37 11) fun _ v24 w38 r24 h189=>?_
          obtain ⟨rfl,s38⟩:=r24
          refine stA h189 s38 4 rfl rfl rfl κ rfl rfl rfl rfl fun _ w39 h190 s39 _=>h190.sn [9,33,26,6,5,0,1,2] rfl fun h191=>hK55 _ _<|wp_ret ?_
          try simp only [Exit.then,Exit.inBlock]
          refine rC h191 s39 4 Tryz.underlying37 rfl rfl rfl rfl ?_
          have hq13:doF F c x=(F,Av 11):=bx
          rw [hq13]
          exact ⟨none,0,na,nc,ea,ec,oa,oc,rfl,(Sep.tail_un (xs:=[_,_,_,_]) (s39.pk [0,1,2,3,6] rfl)).ownNil 0 9 1⟩
         ·skip
          have hp17:¬ ((Ab F x.p1).1=0):=(dF hc14)
          refine wcF h187 rfl hc14<|h187.sk [9,33,26,6,5,0,1,2] rfl fun h192=>wp_skip<|hK53 _ _<|sqr fun _ hK56=>mv h192 rfl fun _ h193=>fav h193 rfl (Ao _ _) fun _ h194=>ldv h194 s37 5 υ9 rfl rfl rfl rfl fun _ h195=>cl h195 rfl AF (Cx (F:=F) s37 hz0 hok ω) fun _ v25 w40 r25 h196=>?_
          obtain ⟨rfl,s40⟩:=r25
          refine mvs 7 h196 rfl fun _ h197=>h197.sn [12,11,10,9,33,26,6,5,0,1,2] rfl fun h198=>hK56 _ _<|sq fun _ hK57=>sqr fun _ hK58=>mv h198 rfl fun _ h199=>bv h199 (z:=.bool (decide ((Aa F x.p1).1=0))) rfl (cEq _ _ _ _ rfl) fun _ h200=>h200.sn [73,12,11,10,9,33,26,6,5,0,1,2] rfl fun h201=>hK58 _ _ ?_
          rcases bC (decide ((Aa F x.p1).1=0)) with hc15 | hc15
          ·skip
           have hp18:(Aa F x.p1).1=0:=(dT hc15)
           refine wcT h201 rfl hc15<|h201.sk [12,11,10,9,33,26,6,5,0,1,2] rfl fun h202=>wp_region_lit<|mvs 4 h202 rfl fun _ h203=>cl h203 rfl Ez (Rh (F:=F) s40 hz0 true) fun _ v26 w41 r26 h204=>?_
           obtain ⟨nax760,ncx761,eax762,ecx763,oax764,ocx765,rfl,s41⟩:=r26
           have hN773:(AH F true).N.length=F.N.length+1:=List.length_append
           have hO774:(AH F true).O.length=F.O.length:=rfl
           refine cl h204 rfl Bo (IW (F:=(AH F true)) s41 (SmS.node hs true) ((Aa F x.p1).2.1) ((Aa F x.p1).2.2) F.N.length) fun _ v27 w42 r27 h205=>?_
           obtain ⟨nax775,ncx776,eax777,ecx778,oax779,ocx780,rfl,s42⟩:=r27
           have hN788:(Br (AH F true) ((Aa F x.p1).2.1) ((Aa F x.p1).2.2) F.N.length).N.length=(AH F true).N.length:=rfl
           have hO789:(Br (AH F true) ((Aa F x.p1).2.1) ((Aa F x.p1).2.2) F.N.length).O.length=(AH F true).O.length:=rfl
           refine h205.sn [12,11,10,9,33,26,6,5,0,1,2] rfl fun h206=>hK57 _ _<|sqr fun _ hK59=>mv h206 rfl fun _ h207=>cl h207 rfl Ae (AV s42 ((Aa F x.p1).1)) fun _ v28 w43 r28 h208=>?_
           obtain ⟨rfl,s43⟩:=r28
           refine stA h208 s43 4 rfl rfl rfl κ rfl rfl rfl rfl fun _ w44 h209 s44 _=>h209.sn [12,11,10,9,33,26,6,5,0,1,2] rfl fun h210=>hK59 _ _<|wp_ret ?_
           try simp only [Exit.then,Exit.inBlock]
           refine rC h210 s44 4 Tryz.underlying37 rfl rfl rfl rfl ?_
           have hq14:doF F c x=(Br (AH F true) (Aa F x.p1).2.1 (Aa F x.p1).2.2 F.N.length,Av 0):=bx
           rw [hq14]
           exact ⟨none,0,nax775,ncx776,eax777,ecx778,oax779,ocx780,(by rw [show (Aa F x.p1).1=0 by omega];rfl),(Sep.tail_un (xs:=[_,_,_,_]) (s44.pk [0,1,2,3,6] rfl)).ownNil 0 9 1⟩
          ·skip
           have hp19:¬ ((Aa F x.p1).1=0):=(dF hc15)
           refine wcF h201 rfl hc15<|h201.sk [12,11,10,9,33,26,6,5,0,1,2] rfl fun h211=>wp_skip<|hK57 _ _<|sqr fun _ hK60=>mv h211 rfl fun _ h212=>cl h212 rfl Ae (AV s40 ((Aa F x.p1).1)) fun _ v29 w45 r29 h213=>?_
           obtain ⟨rfl,s45⟩:=r29
           refine stA h213 s45 4 rfl rfl rfl κ rfl rfl rfl rfl fun _ w46 h214 s46 _=>h214.sn [12,11,10,9,33,26,6,5,0,1,2] rfl fun h215=>hK60 _ _<|wp_ret ?_
           try simp only [Exit.then,Exit.inBlock]
           refine rC h215 s46 4 Tryz.underlying37 rfl rfl rfl rfl ?_
           have hq15:doF F c x=(F,Av (Aa F x.p1).1):=bx
           rw [hq15]
           exact ⟨none,0,na,nc,ea,ec,oa,oc,rfl,(Sep.tail_un (xs:=[_,_,_,_]) (s46.pk [0,1,2,3,6] rfl)).ownNil 0 9 1⟩
        ·skip
         have hp20:¬ (x.kind=7):=(dF hc13)
         refine wcF h177 rfl hc13<|h177.sk [33,26,6,5,0,1,2] rfl fun h216=>sqr fun _ hK61=>bv h216 (z:=.bool (decide (x.kind=8))) rfl (cEq _ _ _ _ rfl) fun _ h217=>mv h217 rfl fun _ h218=>h218.sn [82,33,26,6,5,0,1,2] rfl fun h219=>hK61 _ _ ?_
         rcases bC (decide (x.kind=8)) with hc16 | hc16
         ·skip
          have hp21:x.kind=8:=(dT hc16)
          refine wcT h219 rfl hc16<|h219.sk [33,26,6,5,0,1,2] rfl fun h220=>sqr fun _ hK62=>mv h220 rfl fun _ h221=>sw1 h221 rfl (v:=.agg (cL x).toArray) (rld h221 rfl rfl (ldA υ30 rfl (n:=8) κ (s1.get 1 rfl:Blk _ _ _ _) rfl rfl)) fun _ h222=>cl h222 rfl Ga (NZ (F:=F) (s1.pk [2,3,4,5,0,1,6] rfl) hz0 hok h1 h2 h3) fun _ v30 w47 r30 h223=>?_
          obtain ⟨sax845,scx846,nax847,ncx848,eax849,ecx850,oax851,ocx852,rfl,s47⟩:=r30
          refine stA h223 s47 5 rfl rfl rfl κ rfl rfl rfl rfl fun _ w48 h224 s48 _=>h224.sn [33,26,6,5,0,1,2] rfl fun h225=>hK62 _ _<|wp_ret ?_
          try simp only [Exit.then,Exit.inBlock]
          refine rC h225 s48 5 Tryz.underlying37 rfl rfl rfl rfl ?_
          have hq16:doF F c x=((Bj F x.p1).1,(Bj F x.p1).2):=bx
          rw [hq16]
          exact ⟨sax845,scx846,nax847,ncx848,eax849,ecx850,oax851,ocx852,rfl,Sep.tail_un (xs:=[_,_,_,_,_]) (s48.pk [0,1,2,3,4,7] rfl)⟩
         ·skip
          have hp22:¬ (x.kind=8):=(dF hc16)
          refine wcF h219 rfl hc16<|h219.sk [33,26,6,5,0,1,2] rfl fun h226=>sqr fun _ hK63=>bv h226 (z:=.bool (decide (x.kind=9))) rfl (cEq _ _ _ _ rfl) fun _ h227=>mv h227 rfl fun _ h228=>h228.sn [87,33,26,6,5,0,1,2] rfl fun h229=>hK63 _ _ ?_
          rcases bC (decide (x.kind=9)) with hc17 | hc17
          ·skip
           have hp23:x.kind=9:=(dT hc17)
           refine wcT h229 rfl hc17<|h229.sk [33,26,6,5,0,1,2] rfl fun h230=>sqr fun _ hK64=>mv h230 rfl fun _ h231=>sw1 h231 rfl (v:=.agg (cL x).toArray) (rld h231 rfl rfl (ldA υ30 rfl (n:=8) κ (s1.get 1 rfl:Blk _ _ _ _) rfl rfl)) fun _ h232=>cl h232 rfl Gh (PC (F:=F) (s1.pk [2,3,4,5,0,1,6] rfl) hz0 hok h1 h2 h3) fun _ v31 w49 r31 h233=>?_
           obtain ⟨sax884,scx885,nax886,ncx887,eax888,ecx889,oax890,ocx891,rfl,s49⟩:=r31
           refine stA h233 s49 5 rfl rfl rfl κ rfl rfl rfl rfl fun _ w50 h234 s50 _=>h234.sn [33,26,6,5,0,1,2] rfl fun h235=>hK64 _ _<|wp_ret ?_
           try simp only [Exit.then,Exit.inBlock]
           refine rC h235 s50 5 Tryz.underlying37 rfl rfl rfl rfl ?_
           have hq17:doF F c x=((AN F x.p1 x.p2).1,(AN F x.p1 x.p2).2):=bx
           rw [hq17]
           exact ⟨sax884,scx885,nax886,ncx887,eax888,ecx889,oax890,ocx891,rfl,Sep.tail_un (xs:=[_,_,_,_,_]) (s50.pk [0,1,2,3,4,7] rfl)⟩
          ·skip
           have hp24:¬ (x.kind=9):=(dF hc17)
           refine wcF h229 rfl hc17<|h229.sk [33,26,6,5,0,1,2] rfl fun h236=>sqr fun _ hK65=>bv h236 (z:=.bool (decide (x.kind=10))) rfl (cEq _ _ _ _ rfl) fun _ h237=>mv h237 rfl fun _ h238=>h238.sn [92,33,26,6,5,0,1,2] rfl fun h239=>hK65 _ _ ?_
           rcases bC (decide (x.kind=10)) with hc18 | hc18
           ·skip
            have hp25:x.kind=10:=(dT hc18)
            refine wcT h239 rfl hc18<|h239.sk [33,26,6,5,0,1,2] rfl fun h240=>sqr fun _ hK66=>mv h240 rfl fun _ h241=>fav h241 rfl (Ao _ _) fun _ h242=>ldv h242 s1 1 υ9 rfl rfl rfl rfl fun _ h243=>cl h243 rfl Bk (Ec (F:=F) (s1.pk [2,3,4,5,0,1,6] rfl) hz0 hok ω) fun _ v32 w51 r32 h244=>?_
            obtain ⟨rfl,s51⟩:=r32
            have hfl932:=FsC.find_lt (F:=F) (FsOk.toFsC hok) x.p1
            refine mvs 5 h244 rfl fun _ h245=>h245.sn [14,13,33,26,6,5,0,1,2] rfl fun h246=>hK66 _ _<|sq fun _ hK67=>sqr fun _ hK68=>mv h246 rfl fun _ h247=>bv h247 (z:=.bool (decide ((Ab F x.p1).1≠0))) rfl (cNe _ _ _ _ rfl) fun _ h248=>h248.sn [102,14,13,33,26,6,5,0,1,2] rfl fun h249=>hK68 _ _ ?_
            rcases bC (decide ((Ab F x.p1).1≠0)) with hc19 | hc19
            ·skip
             have hp26:(Ab F x.p1).1≠0:=(dT hc19)
             refine wcT h249 rfl hc19<|h249.sk [14,13,33,26,6,5,0,1,2] rfl fun h250=>sqr fun _ hK69=>mv h250 rfl fun _ h251=>cl h251 rfl Ae (AV s51 ((Ab F x.p1).1)) fun _ v33 w52 r33 h252=>?_
             obtain ⟨rfl,s52⟩:=r33
             refine stA h252 s52 4 rfl rfl rfl κ rfl rfl rfl rfl fun _ w53 h253 s53 _=>h253.sn [14,13,33,26,6,5,0,1,2] rfl fun h254=>hK69 _ _<|wp_ret ?_
             try simp only [Exit.then,Exit.inBlock]
             refine rC h254 s53 4 Tryz.underlying37 rfl rfl rfl rfl ?_
             have hq18:doF F c x=(F,Av (Ab F x.p1).1):=bx
             rw [hq18]
             exact ⟨none,0,na,nc,ea,ec,oa,oc,rfl,(Sep.tail_un (xs:=[_,_,_,_]) (s53.pk [0,1,2,3,6] rfl)).ownNil 0 9 1⟩
            ·skip
             have hp27:¬ ((Ab F x.p1).1≠0):=(dF hc19)
             refine wcF h249 rfl hc19<|h249.sk [14,13,33,26,6,5,0,1,2] rfl fun h255=>wp_skip<|hK67 _ _<|sq fun _ hK70=>sqr fun _ hK71=>mvs 2 h255 rfl fun _ h256=>fav h256 rfl (Ak _ _) fun _ h257=>ldv h257 s51 0 υ47 rfl rfl rfl rfl fun _ h258=>mv h258 rfl fun _ h259=>?_
             obtain ⟨q986,hq19⟩:=AT (s51.get 1 rfl:Own _ _ _ _ _ _ _ _)
             refine sv1 h259 rfl (v:=.pointer (some ⟨q986,((Ab F x.p1).2)*3,none⟩)) (Ay h259 rfl rfl rfl (fun w=>ixO υ47 κ (sz:=3) (hq19 ω) (j:=(Ab F x.p1).2) rfl ω ω w)) fun _ h260=>sv1 h260 rfl (v:=.pointer (some ⟨q986,((Ab F x.p1).2)*3+0,none⟩)) (rfa h260 rfl rfl (fun w=>AC q986 (((Ab F x.p1).2)*3) w)) fun _ h261=>sw1 h261 rfl (v:=.bool ((F.N.getD ((Ab F x.p1).2) Ap).dir)) (rld h261 rfl rfl (BJ Bb υ4 rfl (s51.get 1 rfl:Own _ _ _ _ _ _ _ _) (hq19 ω) Ap (j:=((Ab F x.p1).2)) (f:=0) ω (by decide) rfl rfl)) fun _ h262=>h262.sn [112,14,13,33,26,6,5,0,1,2] rfl fun h263=>hK71 _ _ ?_
             rcases bC ((F.N.getD ((Ab F x.p1).2) Ap).dir) with hc20 | hc20
             ·skip
              refine wcT h263 rfl hc20<|h263.sk [14,13,33,26,6,5,0,1,2] rfl fun h264=>sqr fun _ hK72=>cl h264 rfl Ae (AV s51 13) fun _ v34 w54 r34 h265=>?_
              obtain ⟨rfl,s54⟩:=r34
              refine stA h265 s54 4 rfl rfl rfl κ rfl rfl rfl rfl fun _ w55 h266 s55 _=>h266.sn [14,13,33,26,6,5,0,1,2] rfl fun h267=>hK72 _ _<|wp_ret ?_
              try simp only [Exit.then,Exit.inBlock]
              refine rC h267 s55 4 Tryz.underlying37 rfl rfl rfl rfl ?_
              have hq20:doF F c x=(F,Av 13):=bx
              rw [hq20]
              exact ⟨none,0,na,nc,ea,ec,oa,oc,rfl,(Sep.tail_un (xs:=[_,_,_,_]) (s55.pk [0,1,2,3,6] rfl)).ownNil 0 9 1⟩
             ·skip
              refine wcF h263 rfl hc20<|h263.sk [14,13,33,26,6,5,0,1,2] rfl fun h268=>wp_skip<|hK70 _ _<|sqr fun _ hK73=>mv h268 rfl fun _ h269=>fav h269 rfl (Ao _ _) fun _ h270=>ldv h270 s51 5 υ9 rfl rfl rfl rfl fun _ h271=>cl h271 rfl AF (Cx (F:=F) s51 hz0 hok ω) fun _ v35 w56 r35 h272=>?_
              obtain ⟨rfl,s56⟩:=r35
              refine mvs 7 h272 rfl fun _ h273=>h273.sn [16,15,14,13,33,26,6,5,0,1,2] rfl fun h274=>hK73 _ _<|sqr fun _ hK74=>mvs 3 h274 rfl fun _ h275=>cl h275 rfl AY (FP (F:=F) s56 hz0 ((Aa F x.p1).2.1) ((Aa F x.p1).2.2)) fun _ v36 w57 r36 h276=>?_
              obtain ⟨nax1052,ncx1053,eax1054,ecx1055,oax1056,ocx1057,rfl,s57⟩:=r36
              have hN1065:(As F ((Aa F x.p1).2.1) ((Aa F x.p1).2.2)).N.length=F.N.length:=rfl
              have hO1066:(As F ((Aa F x.p1).2.1) ((Aa F x.p1).2.2)).O.length=F.O.length:=rfl
              refine h276.sn [16,15,14,13,33,26,6,5,0,1,2] rfl fun h277=>hK74 _ _<|sq fun _ hK75=>?_
              have hl1069:(F.N.getD ((Ab F x.p1).2) Ap).links≤20:=hok.l20 ((Ab F x.p1).2) ω;have hl1070:0≤(F.N.getD ((Ab F x.p1).2) Ap).links:=FsC.links_ge hok.toFsC (i:=((Ab F x.p1).2)) ω
              have hl1071:(((As F ((Aa F x.p1).2.1) ((Aa F x.p1).2.2)).N).getD ((Ab F x.p1).2) Ap).links=(F.N.getD ((Ab F x.p1).2) Ap).links:=rfl
              refine wp_region_lit<|mvs 2 h277 rfl fun _ h278=>fav h278 rfl (Ak _ _) fun _ h279=>ldv h279 s57 0 υ47 rfl rfl rfl rfl fun _ h280=>mv h280 rfl fun _ h281=>?_
              obtain ⟨q1082,hq21⟩:=AT (s57.get 1 rfl:Own _ _ _ _ _ _ _ _)
              refine sv1 h281 rfl (v:=.pointer (some ⟨q1082,((Ab F x.p1).2)*3,none⟩)) (Ay h281 rfl rfl rfl (fun w=>ixO υ47 κ (sz:=3) (hq21 ω) (j:=(Ab F x.p1).2) rfl ω ω w)) fun _ h282=>sv1 h282 rfl (v:=.pointer (some ⟨q1082,((Ab F x.p1).2)*3+2,none⟩)) (rfa h282 rfl rfl (fun w=>Bf q1082 (((Ab F x.p1).2)*3) w)) fun _ h283=>sw1 h283 rfl (v:=ν ((((As F ((Aa F x.p1).2.1) ((Aa F x.p1).2.2)).N).getD ((Ab F x.p1).2) Ap).links)) (rld h283 rfl rfl (BJ Bb υ3 rfl (s57.get 1 rfl:Own _ _ _ _ _ _ _ _) (hq21 ω) Ap (j:=((Ab F x.p1).2)) (f:=2) ω (by decide) rfl rfl)) fun _ h284=>bv h284 (z:=ν ((((As F ((Aa F x.p1).2.1) ((Aa F x.p1).2.2)).N).getD ((Ab F x.p1).2) Ap).links-1)) rfl (Ij _ _ _ ω ω ω) fun _ h285=>sv1 h285 rfl (v:=.pointer (some ⟨q1082,((Ab F x.p1).2)*3,none⟩)) (Ay h285 rfl rfl rfl (fun w=>ixO υ47 κ (sz:=3) (hq21 ω) (j:=(Ab F x.p1).2) rfl ω ω w)) fun _ h286=>sv1 h286 rfl (v:=.pointer (some ⟨q1082,((Ab F x.p1).2)*3+2,none⟩)) (rfa h286 rfl rfl (fun w=>Bf q1082 (((Ab F x.p1).2)*3) w)) fun _ h287=>so (wn rfl) fun _ hK76=>FQ Bb h287 rfl rfl s57 1 rfl (hq21 ω) rfl rfl rfl rfl Ap (⟨(((As F ((Aa F x.p1).2.1) ((Aa F x.p1).2.2)).N).getD ((Ab F x.p1).2) Ap).dir,(((As F ((Aa F x.p1).2.1) ((Aa F x.p1).2.2)).N).getD ((Ab F x.p1).2) Ap).data,(((As F ((Aa F x.p1).2.1) ((Aa F x.p1).2.2)).N).getD ((Ab F x.p1).2) Ap).links-1⟩:NodeM) rfl κ ω (by decide) rfl (n':=(((As F ((Aa F x.p1).2.1) ((Aa F x.p1).2.2)).N).set ((Ab F x.p1).2) (⟨(((As F ((Aa F x.p1).2.1) ((Aa F x.p1).2.2)).N).getD ((Ab F x.p1).2) Ap).dir,(((As F ((Aa F x.p1).2.1) ((Aa F x.p1).2.2)).N).getD ((Ab F x.p1).2) Ap).data,(((As F ((Aa F x.p1).2.1) ((Aa F x.p1).2.2)).N).getD ((Ab F x.p1).2) Ap).links-1⟩:NodeM)).length) (by rw [List.length_set]) fun _ w58 h288 s58=>hK76 _ _ ?_
              have s59:=s58;clear s58
              refine h288.sn [16,15,14,13,33,26,6,5,0,1,2] rfl fun h289=>hK75 _ _<|sqr fun _ hK77=>bu h289 (v:=.agg zL.toArray) rfl (fun w=>κ) fun _ h290=>stA h290 s59 4 rfl rfl rfl κ rfl rfl rfl rfl fun _ w59 h291 s60 _=>h291.sn [16,15,14,13,33,26,6,5,0,1,2] rfl fun h292=>hK77 _ _<|wp_ret ?_
              try simp only [Exit.then,Exit.inBlock]
              refine rC h292 s60 4 Tryz.underlying37 rfl rfl rfl rfl ?_
              have hq22:doF F c x=(By (As F (Aa F x.p1).2.1 (Aa F x.p1).2.2) (Ab F x.p1).2 (-1),Av 0):=bx
              rw [hq22]
              have z1114:=Sep.tail_un (xs:=[_,_,_,_]) (s60.pk [0,1,2,3,6] rfl)
              simp only [List.length_set] at z1114
              refine ⟨none,0,nax1052,ncx1053,eax1054,ecx1055,oax1056,ocx1057,rfl,Sep.ownNil ?_ 0 9 1⟩
              simp only [By,BS,List.length_set]
              exact z1114
           ·skip
            have hp28:¬ (x.kind=10):=(dF hc18)
            refine wcF h239 rfl hc18<|h239.sk [33,26,6,5,0,1,2] rfl fun h293=>sqr fun _ hK78=>bv h293 (z:=.bool (decide (x.kind=11))) rfl (cEq _ _ _ _ rfl) fun _ h294=>mv h294 rfl fun _ h295=>h295.sn [138,33,26,6,5,0,1,2] rfl fun h296=>hK78 _ _ ?_
            rcases bC (decide (x.kind=11)) with hc21 | hc21
            ·skip
             have hp29:x.kind=11:=(dT hc21)
             refine wcT h296 rfl hc21<|h296.sk [33,26,6,5,0,1,2] rfl fun h297=>sqr fun _ hK79=>mv h297 rfl fun _ h298=>sw1 h298 rfl (v:=.agg (cL x).toArray) (rld h298 rfl rfl (ldA υ30 rfl (n:=8) κ (s1.get 1 rfl:Blk _ _ _ _) rfl rfl)) fun _ h299=>cl h299 rfl FR (MW (c:=0) (F:=F) (s1.pk [2,3,4,5,0,1,6] rfl) hs hok h1 h2 h3) fun _ v37 w60 r37 h300=>?_
             obtain ⟨sax1131,scx1132,nax1133,ncx1134,eax1135,ecx1136,oax1137,ocx1138,rfl,s61⟩:=r37
             refine stA h300 s61 5 rfl rfl rfl κ rfl rfl rfl rfl fun _ w61 h301 s62 _=>h301.sn [33,26,6,5,0,1,2] rfl fun h302=>hK79 _ _<|wp_ret ?_
             try simp only [Exit.then,Exit.inBlock]
             refine rC h302 s62 5 Tryz.underlying37 rfl rfl rfl rfl ?_
             have hq23:doF F c x=((An F x.p1 x.p2).1,(An F x.p1 x.p2).2):=bx
             rw [hq23]
             exact ⟨sax1131,scx1132,nax1133,ncx1134,eax1135,ecx1136,oax1137,ocx1138,rfl,Sep.tail_un (xs:=[_,_,_,_,_]) (s62.pk [0,1,2,3,4,7] rfl)⟩
            ·skip
             have hp30:¬ (x.kind=11):=(dF hc21)
             refine wcF h296 rfl hc21<|h296.sk [33,26,6,5,0,1,2] rfl fun h303=>sq fun _ hK80=>sqr fun _ hK81=>bv h303 (z:=.bool (decide (x.kind=12))) rfl (cEq _ _ _ _ rfl) fun _ h304=>mv h304 rfl fun _ h305=>h305.sn [143,33,26,6,5,0,1,2] rfl fun h306=>hK81 _ _ ?_
             rcases bC (decide (x.kind=12)) with hc22 | hc22
             ·skip
              have hp31:x.kind=12:=(dT hc22)
              refine wcT h306 rfl hc22<|wp_skip<|hK80 _ _<|wcT h306 rfl hc22<|sqr fun _ hK82=>mv h306 rfl fun _ h307=>sw1 h307 rfl (v:=.agg (cL x).toArray) (rld h307 rfl rfl (ldA υ30 rfl (n:=8) κ (s1.get 1 rfl:Blk _ _ _ _) rfl rfl)) fun _ h308=>cl h308 rfl Ek (PD (F:=F) (s1.pk [2,3,4,5,0,1,6] rfl) hz0 hok h1 h2 h3 ω) fun _ v38 w62 r38 h309=>?_
              obtain ⟨sax1170,scx1171,nax1172,ncx1173,eax1174,ecx1175,oax1176,ocx1177,rfl,s63⟩:=r38
              refine stA h309 s63 5 rfl rfl rfl κ rfl rfl rfl rfl fun _ w63 h310 s64 _=>h310.sn [143,33,26,6,5,0,1,2] rfl fun h311=>hK82 _ _<|wp_ret ?_
              try simp only [Exit.then,Exit.inBlock]
              refine rC h311 s64 5 Tryz.underlying37 rfl rfl rfl rfl ?_
              have hq24:doF F c x=((Cn F x.p1).1,(Cn F x.p1).2):=bx
              rw [hq24]
              exact ⟨sax1170,scx1171,nax1172,ncx1173,eax1174,ecx1175,oax1176,ocx1177,rfl,Sep.tail_un (xs:=[_,_,_,_,_]) (s64.pk [0,1,2,3,4,7] rfl)⟩
             ·skip
              have hp32:¬ (x.kind=12):=(dF hc22)
              refine wcF h306 rfl hc22<|wp_region_lit<|bv h306 (z:=.bool (decide (x.kind=13))) rfl (cEq _ _ _ _ rfl) fun _ h312=>h312.sk [145,33,26,6,5,0,1,2] rfl fun h313=>mv h313 rfl fun _ h314=>h314.sn [143,33,26,6,5,0,1,2] rfl fun h315=>hK80 _ _ ?_
              rcases bC (decide (x.kind=13)) with hc23 | hc23
              ·skip
               have hp33:x.kind=13:=(dT hc23)
               refine wcT h315 rfl hc23<|sqr fun _ hK83=>mv h315 rfl fun _ h316=>sw1 h316 rfl (v:=.agg (cL x).toArray) (rld h316 rfl rfl (ldA υ30 rfl (n:=8) κ (s1.get 1 rfl:Blk _ _ _ _) rfl rfl)) fun _ h317=>cl h317 rfl Ek (PX (F:=F) (s1.pk [2,3,4,5,0,1,6] rfl) hz0 hok h1 h2 h3 ω) fun _ v39 w64 r39 h318=>?_
               obtain ⟨sax1207,scx1208,nax1209,ncx1210,eax1211,ecx1212,oax1213,ocx1214,rfl,s65⟩:=r39
               refine stA h318 s65 5 rfl rfl rfl κ rfl rfl rfl rfl fun _ w65 h319 s66 _=>h319.sn [143,33,26,6,5,0,1,2] rfl fun h320=>hK83 _ _<|wp_ret ?_
               try simp only [Exit.then,Exit.inBlock]
               refine rC h320 s66 5 Tryz.underlying37 rfl rfl rfl rfl ?_
               have hq25:doF F c x=((Cf F x.p1).1,(Cf F x.p1).2):=bx
               rw [hq25]
               exact ⟨sax1207,scx1208,nax1209,ncx1210,eax1211,ecx1212,oax1213,ocx1214,rfl,Sep.tail_un (xs:=[_,_,_,_,_]) (s66.pk [0,1,2,3,4,7] rfl)⟩
              ·skip
               have hp34:¬ (x.kind=13):=(dF hc23)
               refine wcF h315 rfl hc23<|wp_skip<|hK7 _ _<|sqr fun _ hK84=>cl h315 rfl Ae (AV s1 15) fun _ v40 w66 r40 h321=>?_
               obtain ⟨rfl,s67⟩:=r40
               refine stA h321 s67 0 rfl rfl rfl κ rfl rfl rfl rfl fun _ w67 h322 s68 _=>h322.sn [143,33,26,6,5,0,1,2] rfl fun h323=>hK84 _ _<|wp_ret ?_
               try simp only [Exit.then,Exit.inBlock]
               refine rC h323 s68 0 υ37 rfl rfl rfl rfl ?_
               have hq26:doF F c x=(F,Av 15):=bx
               rw [hq26]
               exact ⟨none,0,na,nc,ea,ec,oa,oc,rfl,(Sep.tail_un (xs:=[_,_,_,_]) (s68.pk [2,3,4,5,6] rfl)).ownNil 0 9 1⟩
theorem Re {w:World} {R:List Ch} (hS0:Sep w R) :
  CallsR Tryz.prog 25 #[] w (fun v w'=>∃ df na nc,v=π df∧Sep w' ((dP df na nc none 0 none 0 fs0)++R)):=by
 have hS:Sep w [Ch.many R]:=Sep.tail_many (xs:=[]) hS0;clear hS0
 refine AE Tryz.func25 rfl (N:=15) Tryz.ntmps25 (by show 0≤15;decide) [] rfl fun _ h1=>sqr fun _ hK3=>mv h1 rfl fun _ h4=>wpList_nil<|hK3 _ _<|sqr fun _ hK6=>bu h4 (v:=.agg #[.slice none 0 0,.slice none 0 0,.slice none 0 0]) rfl (fun w=>κ) fun _ h7=>so (wn rfl) fun _ hK1=>Dc h7 rfl rfl rfl rfl rfl (z:=[.slice none 0 0,.slice none 0 0,.slice none 0 0]) rfl hS fun _ g9 w1 h2 s1 _ _=>hK1 _ _ ?_
 refine mv h2 rfl fun _ h3=>h3.sn [1,0] rfl fun h5=>hK6 _ _<|sq fun _ hK2=>?_
 have s2:=s1.ownNil 0 88 3
 have s3:Sep w1 [Ai 0 88 3 none ([]:List NodeM).length 0 (([]:List NodeM).flatMap Ca),Ah g9 51 [.slice none 0 0,.slice none 0 0,.slice none 0 0],Ch.many R]:=s2
 refine wp_region_lit<|mvs 3 h5 rfl fun _ h6=>fav h6 rfl (Ak _ _) fun _ h8=>ldv h8 s3 1 υ47 rfl rfl rfl rfl fun _ h9=>bu h9 (v:=.agg #[.bool true,σ [],ν 1]) rfl (fun w=>κ) fun _ h10=>so (wn rfl) fun _ hK4=>Dd h10 rfl rfl rfl (E:=88) (xs:=[(0,.tmp 9)]) rfl (vs:=[(0,.agg #[.bool true,σ [],ν 1])]) rfl (z:=[.bool true,σ [],ν 1]) (fun _=>κ) s3 fun _ g1 w2 h11 s4 _ _=>hK4 _ _ ?_
 refine so (wn rfl) fun _ hK5=>EQ Bb h11 rfl rfl rfl rfl ENd s4 1 rfl rfl 0 (y:=(⟨true,[],1⟩:NodeM)) rfl rfl rfl (by decide) (by decide) (L':=[(⟨true,[],1⟩:NodeM)]) rfl fun _ p43 c44 w3 h12 s5=>hK5 _ _ ?_
 have s6:=s5.pk [1,2,3] rfl;clear s5
 refine mv h12 rfl fun _ h13=>fav h13 rfl (Ak _ _) fun _ h14=>st1 h14 s6 1 rfl rfl κ rfl rfl rfl rfl fun _ w4 h15 s7 _=>h15.sn [1,0] rfl fun h16=>hK2 _ _<|sqr fun _ hK7=>mv h16 rfl fun _ h17=>h17.sk [14,1] rfl fun h18=>mv h18 rfl fun _ h19=>h19.sk [0,1] rfl fun h20=>?_
 refine wpList_nil<|hK7 _ _<|wp_ret ?_
 try simp only [Exit.then,Exit.inBlock]
 refine Bi (v:=π g9) (Ce h20 rfl rfl) h20.defs ?_
 exact ⟨g9,p43,c44,rfl,Sep.tail_un (xs:=[_,_,_,_]) ((((s7.pk [1,0,2] rfl).ownNil 0 93 3).ownNil 0 114 3).pk [2,3,0,1,4] rfl)⟩
end
section
open Go.Maps (Keyed)
theorem QW:laidOutB Tryz.prog=true:=κ
theorem RG:∃ d,Tryz.prog.types.size+1=d+2:=⟨Tryz.prog.types.size-1,by have:1≤Tryz.prog.types.size:=of_decide_eq_true κ;omega⟩
theorem Ox:Tryz.prog.cellsOf 3=1:=κ
theorem MJ (d:Nat) (n:Int) (h:(Lit.int .i64 n).wf=true):Tryz.prog.keyLits (d+1) 3 [.int .i64 n]=some [.int .i64 n]:=by
  unfold Program.keyLits
  rw [υ3]
  simp [h]
theorem IO {d:Nat} {x:Value} {l:List Lit} (h:Tryz.prog.keyLits (d+1) 3 [x]=some l):∃ n,x=.int .i64 n∧(Lit.int .i64 n).wf=true∧l=[.int .i64 n]:=by
  unfold Program.keyLits at h
  rw [υ3] at h
  cases x with
  | int q n=>
    simp only [] at h
    split at h
    · rename_i hc
      obtain ⟨rfl,hw⟩:=hc
      exact ⟨n,rfl,hw,(Option.some.inj h).symm⟩
    · cases h
  | _=>simp at h
theorem RM {α:Type} {cs:Array α} (h:cs.size=2):∃ x y,cs=#[x,y]:=by
  obtain ⟨l⟩:=cs
  match l,h with
  | [x,y],_=>exact ⟨x,y,rfl⟩
structure MapK (ι α:Type) where
  t:TypeId
  k:TypeId
  e:TypeId
  ok:ι→Prop
  kv:ι→Value
  kl:ι→Lit
  av:α→Value
  ad:α→DataW Unit
  R:Value→Option (DataW Unit×List MemPlace)
  z:α
  law:Keyed Tryz.prog k
  und:Tryz.prog.underlying t=some (.map k e)
  key:∀ {i},ok i→keyOf Tryz.prog k (kv i)=some (kl i)
  inv:∀ {v l},keyOf Tryz.prog k v=some l→∃ i,ok i∧v=kv i∧l=kl i
  inj:∀ {i j},ok i→ok j→kl i=kl j→i=j
  Rmk:∀ a,R (av a)=some (ad a,[])
  Rinv:∀ {v d ps},R v=some (d,ps)→∃ a,v=av a∧d=ad a
  dinj:∀ {a b},ad a=ad b→a=b
  zero:∀ w:World,(zeroValue e).run Tryz.prog w=.ok (av z) w
def Uz (i:Int):Lit:=.int .i64 i
section
variable {ι α:Type} (K:MapK ι α) {w:World} {b n r:Nat} {g:ι→Option α}
def MapG (w:World) (b n:Nat) (g:ι→Option α):Prop:=
  ∃ D:DataW Unit,w.ownsMap Tryz.prog K.k K.R b n D∧(∀ i,K.ok i→Maps.has D (K.kl i)=(g i).isSome)∧(∀ i a,K.ok i→g i=some a→∀ z,D.atKey (K.kl i) z=K.ad a)
end
end
section
open Go.Maps (Keyed)
def kV (p:Int×Int):Value:=.agg #[ν p.1,ν p.2]
def kL (p:Int×Int):Lit:=.string (keyBytes [.int .i64 p.1,.int .i64 p.2])
def wfK (p:Int×Int):Prop:=(Lit.int .i64 p.1).wf=true∧(Lit.int .i64 p.2).wf=true
def gV (a:Bool×Int):Value:=.agg #[.bool a.1,ν a.2]
def gD (a:Bool×Int):DataW Unit:=.agg [.lit (.bool a.1),.lit (.int .i64 a.2)]
def gR2:List Value→Option (DataW Unit×List MemPlace)
  | [.bool o,.int .i64 u]=>some (gD (o,u),[])
  | _=>none
def gR:Value→Option (DataW Unit×List MemPlace)
  | .agg cs=>gR2 cs.toList
  | _=>none
def wV (a:Int×Int):Value:=.agg #[ν a.1,ν a.2]
def wD (a:Int×Int):DataW Unit:=.agg [.lit (.int .i64 a.1),.lit (.int .i64 a.2)]
def wR2:List Value→Option (DataW Unit×List MemPlace)
  | [.int .i64 o,.int .i64 u]=>some (wD (o,u),[])
  | _=>none
def wR:Value→Option (DataW Unit×List MemPlace)
  | .agg cs=>wR2 cs.toList
  | _=>none
end
end Go.Proofs.YtcanemamnmmbcaaGreatDoor
