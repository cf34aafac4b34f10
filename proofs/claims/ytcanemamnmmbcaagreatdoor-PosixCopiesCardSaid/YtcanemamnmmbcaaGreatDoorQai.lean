/- Parts of the proof. -/
import Derived.Test.YtcanemamnmmbcaaGreatDoorQah
namespace Go.Proofs.YtcanemamnmmbcaaGreatDoor
open Go.RowKit
set_option linter.unusedSimpArgs false
set_option linter.unusedVariables false
set_option linter.unusedSectionVars false
set_option maxRecDepth 100000
set_option maxHeartbeats 8000000
section
theorem Gj {F:FsM} {k:Nat} (hk:k<F.N.length) (b:Bool):(AL F b).dir k=F.dir k:=by rw [Dr,if_neg ω]
theorem Kz {F:FsM} {k:Nat} (hk:k<F.N.length) (i:Int) (X:List UInt8):Aa (BE F k i) X=Aa F X:=by
 have hw:∀ (L:List ByteArray) (n:Nat),Ao (BE F k i) n L=Ao F n L:=by
  intro L
  induction L with
  | nil=>intro n;rfl
  | cons s L ih=>
   intro n
   unfold Ao
   rw [DE hk,show (BE F k i).E=F.E from rfl]
   split
   ·split
    ·rfl
    ·exact ih _
   ·rfl
 unfold Aa EO
 split
 ·rfl
 ·split
  ·rfl
  ·rw [hw,DE hk]
theorem Sa {F:FsM} {δ:Nat→Int} (h:FsC F δ) {X:List UInt8} (hf:(Ac F X).1=0) (hk:(Ac F X).2=0):X=[47]:=by
 by_cases hp:Ag X=some []
 ·exact Cm.1 hp
 ·have z:=(h.look_lt (Be hf hp).2).2
  omega
theorem GA {X:List UInt8} {L:List ByteArray} (h:X=[47]) (hL:Ag X=some L):L.length=0:=by
 rw [Cm.2 h] at hL
 rw [← Option.some.inj hL];rfl
theorem Ka {F:FsM} {δ:Nat→Int} (h:FsC F δ) {X:List UInt8} (hf:(Ac F X).1=0):KA F (Ac F X).2:=by
 by_cases hp:Ag X=some []
 ·exact .inl (by rw [CV hp];rfl)
 ·obtain ⟨x,hx,_,_,e⟩:=BL (Be hf hp).2
  exact .inr ⟨x,hx,e⟩
theorem JK {F:FsM} {A:AdM} {n k:Nat} (h:AdOk F A n) (hd:F.dir k=true) (hr:KA F k):AR F A k=1:=by unfold AR;rw [if_pos hd];exact h.ld k hd hr
theorem SZ (T:TypeId) (x y:Operand) (w:World):(do eqGuard .and T x y (ν 0) (ν 2);binOp .and T (ν 0) (ν 2):Sem Value).run Tryz.prog w=.ok (ν 0) w:=by rfl
theorem Ta (T:TypeId) (x y:Operand) (w:World):(do eqGuard .and T x y (ν 1) (ν 2);binOp .and T (ν 1) (ν 2):Sem Value).run Tryz.prog w=.ok (ν 0) w:=by rfl
theorem Tb (T:TypeId) (x y:Operand) (w:World):(do eqGuard .and T x y (ν 3) (ν 2);binOp .and T (ν 3) (ν 2):Sem Value).run Tryz.prog w=.ok (ν 2) w:=by rfl
theorem OO {w:World} {cf ob n:Nat} {F:FsM} {A:AdM} {R:List Ch} {c:Int} {x:CallM} (hS0:Sep w ((cP cf ob F A)++R)) (hfo:FsOk F) (hA:AdOk F A n) (hn:n≤900) (hs:SmS F) (h1:x.p1.length≤1000) (h2:x.p2.length≤1000) (h3:x.data.length≤1000) (hwx:wfD (c,x.fd)) (hcl:1≤c∧c≤8) :
  CallsR Tryz.prog 53 #[π cf,ν c,.agg (cL x).toArray] w (fun v w'=>∃ A' sa sc,v=.tuple #[Du (r0 (CC F x.p1).2) sa sc,ν (CC F x.p1).2.e]∧Sep w' (Ak 0 9 1 sa (CC F x.p1).2.names.length sc ((CC F x.p1).2.names.flatMap sE)::(cP cf ob ((CC F x.p1).1) A')++R)∧AdOk (CC F x.p1).1 A' (n+1)):=by
 have hS:=Sep.tail_many (xs:=cP cf ob F A) hS0;clear hS0
 have hz:SmF F:=hs.sm;have hok:=hfo.toFsC
 have hz0:=hz;obtain ⟨hz1,hz2,hz3⟩:F.N.length≤1000∧F.E.length≤1000∧F.O.length≤1000:=hz
 refine AB Tryz.func53 rfl (N:=42) Tryz.ntmps53 (by show 3≤42;decide) [(0,π cf),(1,ν c),(2,.agg (cL x).toArray)] rfl fun _ h1=>sqr fun _ hK3=>so (wn rfl) fun _ hK1=>Cv h1 rfl rfl rfl rfl rfl (z:=(cL x)) rfl hS fun _ g4 w7 h5 s8 _ _=>hK1 _ _ ?_
 refine so (wn rfl) fun _ hK2=>BB h5 rfl rfl rfl rfl (z:=zL) (fun _=>rfl) s8 fun _ g1 w2 h4 s1 _ _=>hK2 _ _ ?_
 refine mv h4 rfl fun _ h6=>h6.sk [7,6,5,0,2] rfl fun h7=>?_
 clear h1
 refine wpList_nil<|hK3 _ _<|sq fun _ hK4=>sqr fun _ hK5=>mv h7 rfl fun _ h8=>fav h8 rfl (An _ _) fun _ h9=>ldv h9 s1 1 υ9 rfl rfl rfl rfl fun _ h10=>?_
 rcases bC (decide ((Ac F x.p1).1=0)) with hc1 | hc1
 ·skip
  have hp1:(Ac F x.p1).1=0:=(dT hc1)
  have hfl33:=FsC.find_lt (F:=F) hok x.p1
  refine cl h10 rfl AZ (Es (cf:=cf) (A:=A) (F:=F) (s1.pk [2,3,4,0,1,5] rfl) hok hz0 ω ω) fun _ v1 w3 r1 h11=>?_
  obtain ⟨rfl,s2⟩:=r1
  refine mvs 5 h11 rfl fun _ h12=>h12.sn [9,7,6,5,0,2] rfl fun h13=>hK5 _ _<|sqr fun _ hK6=>mv h13 rfl fun _ h14=>bv h14 rfl (cEq _ _ _ _ rfl) fun _ h15=>h15.sn [21,9,7,6,5,0,2] rfl fun h16=>hK6 _ _<|wcT h16 rfl rfl<|h16.sk [9,7,6,5,0,2] rfl fun h17=>?_
  refine sqr fun _ hK7=>bu h17 (v:=.agg zL.toArray) rfl (fun w=>κ) fun _ h18=>stA h18 s2 3 rfl rfl rfl κ rfl rfl rfl rfl fun _ w4 h19 s3 _=>h19.sk [22,9,6,5,0,2] rfl fun h20=>mv h20 rfl fun _ h21=>h21.sn [7,9,6,5,0,2] rfl fun h22=>hK7 _ _<|wp_ret ?_
  try simp only [Exit.then,Exit.inBlock]
  refine rCt h22 s3 3 υ37 rfl rfl rfl rfl rfl ?_
  have hq1:CC F x.p1=(F,Au 11):=bx
  rw [hq1]
  exact ⟨A,none,0,rfl,(Sep.tail_un (xs:=[_,_,_]) (s3.pk [0,1,2,5] rfl)).ownNil 0 9 1,hA.mono⟩
 ·skip
  have hp2:¬ ((Ac F x.p1).1=0):=(dF hc1)
  refine cl h10 rfl AZ (Fa (cf:=cf) (A:=A) (F:=F) (s1.pk [2,3,4,0,1,5] rfl) hok hz0 ω ω) fun _ v2 w5 r2 h23=>?_
  obtain ⟨rfl,s4⟩:=r2
  refine mvs 5 h23 rfl fun _ h24=>h24.sn [9,7,6,5,0,2] rfl fun h25=>hK5 _ _<|sqr fun _ hK8=>mv h25 rfl fun _ h26=>bv h26 rfl (cEq _ _ _ _ (decide_eq_false ω)) fun _ h27=>h27.sn [21,9,7,6,5,0,2] rfl fun h28=>hK8 _ _<|wcF h28 rfl rfl<|h28.sk [9,7,6,5,0,2] rfl fun h29=>?_
  refine wp_skip<|hK4 _ _<|sqr fun _ hK9=>mv h29 rfl fun _ h30=>fav h30 rfl (An _ _) fun _ h31=>ldv h31 s4 4 υ9 rfl rfl rfl rfl fun _ h32=>?_
  rcases bC (decide ((Aa F x.p1).1=0)) with hc2 | hc2
  ·skip
   have hp3:(Aa F x.p1).1=0:=(dT hc2)
   have hpl108:=FsC.place (F:=F) (X:=x.p1) hok ω
   have hpl108a:=hpl108.1.1
   refine cl h32 rfl BD (EP (cf:=cf) (A:=A) (F:=F) s4 hok hz0 ω ω) fun _ v3 w6 r3 h33=>?_
   obtain ⟨rfl,s5⟩:=r3
   refine mvs 7 h33 rfl fun _ h34=>h34.sn [12,11,10,9,7,6,5,0,2] rfl fun h35=>hK9 _ _<|sq fun _ hK10=>sqr fun _ hK11=>mv h35 rfl fun _ h36=>bv h36 rfl (cNe _ _ _ _ rfl) fun _ h37=>h37.sn [32,12,11,10,9,7,6,5,0,2] rfl fun h38=>hK11 _ _<|wcF h38 rfl rfl<|h38.sk [12,11,10,9,7,6,5,0,2] rfl fun h39=>?_
   refine wp_skip<|hK10 _ _<|sq fun _ hK12=>?_
   have s6:=s5.drew
   refine wp_region_held_drew (S:=fun w'=>Sep w' [Ah g1 37 zL,Ah g4 30 (cL x),Ch.many R]) κ (s6.pk [3,4,5] rfl) (fun hq2=>?_)
   refine tv1 hq2 h39 0 rfl rfl (fun w1 _=>(Ap h39 rfl rfl) w1) fun _ h40=>?_
   refine tv1 hq2 h40 1 rfl rfl (fun w1 _=>(Cu h40 rfl rfl) w1) fun _ h41=>?_
   refine tv1 hq2 h41 2 rfl rfl (fun w1 _=>(rfa h41 rfl rfl (fun w=>AF (A.ad (Aa F x.p1).2.1) 0 w)) w1) fun _ h42=>?_
   refine tv1 hq2 h42 4 rfl rfl (fun w1 _=>(Ap h42 rfl rfl) w1) fun _ h43=>?_
   refine wpAnyH_ready (rs:=[3,5]) κ (by simp) (toc rfl (wn rfl) (fun K1 hK13=>?_) (toc rfl (wn rfl) (fun K1 hK13=>?_) AllReadyH.nil))
   ·skip
    refine Br h43 rfl rfl rfl (v:=.map (some (A.mb ((Aa F x.p1).2.1)))) (w':=w6.drew) ((rld h43 rfl rfl (NdP.c3 (F:=FsM.nE F) (A:=AdM.nC A) (k:=((Aa F x.p1).2.1)) (s6.get 1 rfl:NdP _ _ _) (show (Aa F x.p1).2.1<F.N.length from ω) hpl108.1.2 υ95 rfl))) fun _ h44=>hK13 _ _ (s6.pk [3,4,5] rfl) fun hq3=>?_
    refine to_ 5 rfl (wn rfl) κ fun _ hK14=>CS h44 rfl rfl rfl (xs:=[]) rfl Fg rfl (vs:=[]) rfl (args:=#[]) rfl (Ku s6) fun a1 v4 w8 r4 h45=>?_
    obtain ⟨gnx155,gmx156,rfl,s7⟩:=r4
    have s9:=Sep.joinD (.inl hok) (s7.pk [0,1,3,2,4,5,6,7] rfl)
    have hold164:∀ k,k<F.N.length→(A.new F.N.length gnx155 gmx156).ad k=A.ad k:=fun k hk=>if_neg ω
    have h46:=hok.n0.1
    have hold164m:∀ k,k<F.N.length→(A.new F.N.length gnx155 gmx156).mb k=A.mb k:=fun k hk=>if_neg ω
    have s10:Sep w8 [Av (AL F true) (A.new F.N.length gnx155 gmx156),Ah cf 65 [π ((A.new F.N.length gnx155 gmx156).ad 0),.map (some ob)],AM KO ob (A.new F.N.length gnx155 gmx156).C (opG F (A.new F.N.length gnx155 gmx156)),Ah g1 37 zL,Ah g4 30 (cL x),Ch.many R]:=by
     have z:=s9;rw [← hold164 0 h46,← LW hok gnx155 gmx156] at z;exact z
    have hgn169:(A.new F.N.length gnx155 gmx156).ad F.N.length=gnx155:=if_pos rfl
    have h47:Kn 42 [(40,π ((A.new F.N.length gnx155 gmx156).ad F.N.length)),(38,.map (some ((A.new F.N.length gnx155 gmx156).mb ((Aa F x.p1).2.1)))),(39,.string ((Aa F x.p1).2.2)),(37,.pointer (some ⟨((A.new F.N.length gnx155 gmx156).ad ((Aa F x.p1).2.1)),3,none⟩)),(36,π ((A.new F.N.length gnx155 gmx156).ad ((Aa F x.p1).2.1))),(35,π ((A.new F.N.length gnx155 gmx156).ad ((Aa F x.p1).2.1))),(12,ν 0),(11,.string ((Aa F x.p1).2.2)),(10,π ((A.new F.N.length gnx155 gmx156).ad ((Aa F x.p1).2.1))),(9,ν ((Ac F x.p1).1)),(7,ν 0),(6,π g1),(5,π g4),(0,π cf),(2,.agg (cL x).toArray)] a1:=by
     rw [hgn169,hold164 _ (ω:(Aa F x.p1).2.1<F.N.length),hold164m _ (ω:(Aa F x.p1).2.1<F.N.length)];exact h45
    have hN170:(AL F true).N.length=F.N.length+1:=CF F _
    refine hK14 _ _ (s10.pk [3,4,5] rfl) fun hq4=>?_
    refine to_ 6 rfl (wn rfl) κ fun _ hK15=>FU (F:=(AL F true)) (A:=(A.new F.N.length gnx155 gmx156)) (F':=(Bu (AL F true) ((Aa F x.p1).2.1) ((Aa F x.p1).2.2) F.N.length)) (k:=((Aa F x.p1).2.1)) (m:=F.N.length) h47 rfl rfl rfl s10 0 rfl rfl rfl rfl ω ((Gj (ω:(Aa F x.p1).2.1<F.N.length) _).trans hpl108.1.2) (CO hpl108.2) (by exact (show A.B<maxLen from Gt hA hn)) rfl (Dc (CN (X:=x.p1) ω ω)) (cs':=[Av (Bu (AL F true) ((Aa F x.p1).2.1) ((Aa F x.p1).2.2) F.N.length) ((A.new F.N.length gnx155 gmx156).inc),Ah cf 65 [π ((A.new F.N.length gnx155 gmx156).ad 0),.map (some ob)],AM KO ob (A.new F.N.length gnx155 gmx156).C (opG F (A.new F.N.length gnx155 gmx156)),Ah g1 37 zL,Ah g4 30 (cL x),Ch.many R]) rfl fun _ w9 h48 s11=>?_
    have hN177:(Bu (AL F true) ((Aa F x.p1).2.1) ((Aa F x.p1).2.2) F.N.length).N.length=(AL F true).N.length:=rfl
    refine hK15 _ _ (s11.pk [3,4,5] rfl) fun hq5=>h48.sk [12,11,10,9,7,6,5,0,2] rfl fun h49=>?_
    refine wpAnyH_done κ ?_ _
    refine hK12 _ _ ?_
    refine sqr fun _ hK16=>bu h49 (v:=.agg zL.toArray) rfl (fun w=>κ) fun _ h50=>stA h50 s11 3 rfl rfl rfl κ rfl rfl rfl rfl fun _ w10 h51 s12 _=>h51.sk [41,12,11,10,9,6,5,0,2] rfl fun h52=>mv h52 rfl fun _ h53=>h53.sn [7,12,11,10,9,6,5,0,2] rfl fun h54=>hK16 _ _<|wp_ret ?_
    try simp only [Exit.then,Exit.inBlock]
    refine rCt h54 s12 3 υ37 rfl rfl rfl rfl rfl ?_
    have hq6:CC F x.p1=(Bu (AL F true) (Aa F x.p1).2.1 (Aa F x.p1).2.2 F.N.length,Au 0):=bx
    rw [hq6]
    exact ⟨(A.new F.N.length gnx155 gmx156).inc,none,0,rfl,(Sep.tail_un (xs:=[_,_,_]) (s12.pk [1,0,2,5] rfl)).ownNil 0 9 1,hA.node _ _ _ _ _⟩
   ·skip
    refine CS h43 rfl rfl rfl (xs:=[]) rfl Fg rfl (vs:=[]) rfl (args:=#[]) rfl (Ku s6) fun a2 v5 w11 r5 h55=>?_
    obtain ⟨gnx194,gmx195,rfl,s13⟩:=r5
    have s14:=Sep.joinD (.inl hok) (s13.pk [0,1,3,2,4,5,6,7] rfl)
    have hold202:∀ k,k<F.N.length→(A.new F.N.length gnx194 gmx195).ad k=A.ad k:=fun k hk=>if_neg ω
    have h56:=hok.n0.1
    have hold202m:∀ k,k<F.N.length→(A.new F.N.length gnx194 gmx195).mb k=A.mb k:=fun k hk=>if_neg ω
    have s15:Sep w11 [Av (AL F true) (A.new F.N.length gnx194 gmx195),Ah cf 65 [π ((A.new F.N.length gnx194 gmx195).ad 0),.map (some ob)],AM KO ob (A.new F.N.length gnx194 gmx195).C (opG F (A.new F.N.length gnx194 gmx195)),Ah g1 37 zL,Ah g4 30 (cL x),Ch.many R]:=by
     have z:=s14;rw [← hold202 0 h56,← LW hok gnx194 gmx195] at z;exact z
    have hgn207:(A.new F.N.length gnx194 gmx195).ad F.N.length=gnx194:=if_pos rfl
    have h57:Kn 42 [(40,π ((A.new F.N.length gnx194 gmx195).ad F.N.length)),(39,.string ((Aa F x.p1).2.2)),(37,.pointer (some ⟨((A.new F.N.length gnx194 gmx195).ad ((Aa F x.p1).2.1)),3,none⟩)),(36,π ((A.new F.N.length gnx194 gmx195).ad ((Aa F x.p1).2.1))),(35,π ((A.new F.N.length gnx194 gmx195).ad ((Aa F x.p1).2.1))),(12,ν 0),(11,.string ((Aa F x.p1).2.2)),(10,π ((A.new F.N.length gnx194 gmx195).ad ((Aa F x.p1).2.1))),(9,ν ((Ac F x.p1).1)),(7,ν 0),(6,π g1),(5,π g4),(0,π cf),(2,.agg (cL x).toArray)] a2:=by
     rw [hgn207,hold202 _ (ω:(Aa F x.p1).2.1<F.N.length)];exact h55
    have hN208:(AL F true).N.length=F.N.length+1:=CF F _
    refine hK13 _ _ (s15.pk [3,4,5] rfl) fun hq7=>?_
    refine to_ 3 rfl (wn rfl) κ fun _ hK17=>Br h57 rfl rfl rfl (v:=.map (some ((A.new F.N.length gnx194 gmx195).mb ((Aa F x.p1).2.1)))) (w':=w11) ((rld h57 rfl rfl (NdP.c3 (F:=FsM.nE (AL F true)) (A:=AdM.nC (A.new F.N.length gnx194 gmx195)) (k:=((Aa F x.p1).2.1)) (s15.get 0 rfl:NdP _ _ _) (show (Aa F x.p1).2.1<(AL F true).N.length from ω) ((Gj (ω:(Aa F x.p1).2.1<F.N.length) _).trans hpl108.1.2) υ95 rfl))) fun _ h58=>hK17 _ _ (s15.pk [3,4,5] rfl) fun hq8=>?_
    refine to_ 6 rfl (wn rfl) κ fun _ hK18=>FU (F:=(AL F true)) (A:=(A.new F.N.length gnx194 gmx195)) (F':=(Bu (AL F true) ((Aa F x.p1).2.1) ((Aa F x.p1).2.2) F.N.length)) (k:=((Aa F x.p1).2.1)) (m:=F.N.length) h58 rfl rfl rfl s15 0 rfl rfl rfl rfl ω ((Gj (ω:(Aa F x.p1).2.1<F.N.length) _).trans hpl108.1.2) (CO hpl108.2) (by exact (show A.B<maxLen from Gt hA hn)) rfl (Dc (CN (X:=x.p1) ω ω)) (cs':=[Av (Bu (AL F true) ((Aa F x.p1).2.1) ((Aa F x.p1).2.2) F.N.length) ((A.new F.N.length gnx194 gmx195).inc),Ah cf 65 [π ((A.new F.N.length gnx194 gmx195).ad 0),.map (some ob)],AM KO ob (A.new F.N.length gnx194 gmx195).C (opG F (A.new F.N.length gnx194 gmx195)),Ah g1 37 zL,Ah g4 30 (cL x),Ch.many R]) rfl fun _ w12 h59 s16=>?_
    have hN219:(Bu (AL F true) ((Aa F x.p1).2.1) ((Aa F x.p1).2.2) F.N.length).N.length=(AL F true).N.length:=rfl
    refine hK18 _ _ (s16.pk [3,4,5] rfl) fun hq9=>h59.sk [12,11,10,9,7,6,5,0,2] rfl fun h60=>?_
    refine wpAnyH_done κ ?_ _
    refine hK12 _ _ ?_
    refine sqr fun _ hK19=>bu h60 (v:=.agg zL.toArray) rfl (fun w=>κ) fun _ h61=>stA h61 s16 3 rfl rfl rfl κ rfl rfl rfl rfl fun _ w13 h62 s17 _=>h62.sk [41,12,11,10,9,6,5,0,2] rfl fun h63=>mv h63 rfl fun _ h64=>h64.sn [7,12,11,10,9,6,5,0,2] rfl fun h65=>hK19 _ _<|wp_ret ?_
    try simp only [Exit.then,Exit.inBlock]
    refine rCt h65 s17 3 υ37 rfl rfl rfl rfl rfl ?_
    have hq10:CC F x.p1=(Bu (AL F true) (Aa F x.p1).2.1 (Aa F x.p1).2.2 F.N.length,Au 0):=bx
    rw [hq10]
    exact ⟨(A.new F.N.length gnx194 gmx195).inc,none,0,rfl,(Sep.tail_un (xs:=[_,_,_]) (s17.pk [1,0,2,5] rfl)).ownNil 0 9 1,hA.node _ _ _ _ _⟩
  ·skip
   have hp4:¬ ((Aa F x.p1).1=0):=(dF hc2)
   refine cl h32 rfl BD (Gl (cf:=cf) (A:=A) (F:=F) s4 hok hz0 ω ω) fun _ v6 w14 r6 h66=>?_
   obtain ⟨rfl,s18⟩:=r6
   refine mvs 7 h66 rfl fun _ h67=>h67.sn [12,11,10,9,7,6,5,0,2] rfl fun h68=>hK9 _ _<|sq fun _ hK20=>sqr fun _ hK21=>mv h68 rfl fun _ h69=>bv h69 rfl (cNe _ _ _ _ (decide_eq_true ω)) fun _ h70=>h70.sn [32,12,11,10,9,7,6,5,0,2] rfl fun h71=>hK21 _ _<|wcT h71 rfl rfl<|h71.sk [12,11,10,9,7,6,5,0,2] rfl fun h72=>?_
   refine sqr fun _ hK22=>bu h72 (v:=.agg zL.toArray) rfl (fun w=>κ) fun _ h73=>mv h73 rfl fun _ h74=>stA h74 s18 3 rfl rfl rfl κ rfl rfl rfl rfl fun _ w15 h75 s19 _=>h75.sk [34,33,12,11,10,9,6,5,0,2] rfl fun h76=>mv h76 rfl fun _ h77=>h77.sn [7,12,11,10,9,6,5,0,2] rfl fun h78=>hK22 _ _<|wp_ret ?_
   try simp only [Exit.then,Exit.inBlock]
   refine rCt h78 s19 3 υ37 rfl rfl rfl rfl rfl ?_
   have hq11:CC F x.p1=(F,Au (Aa F x.p1).1):=bx
   rw [hq11]
   exact ⟨A,none,0,rfl,(Sep.tail_un (xs:=[_,_,_]) (s19.pk [0,1,2,5] rfl)).ownNil 0 9 1,hA.mono⟩
theorem OP {w:World} {cf ob n:Nat} {F:FsM} {A:AdM} {R:List Ch} {c:Int} {x:CallM} (hS0:Sep w ((cP cf ob F A)++R)) (hfo:FsOk F) (hA:AdOk F A n) (hn:n≤900) (hs:SmS F) (h1:x.p1.length≤1000) (h2:x.p2.length≤1000) (h3:x.data.length≤1000) (hwx:wfD (c,x.fd)) (hcl:1≤c∧c≤8) :
  CallsR Tryz.prog 54 #[π cf,ν c,.agg (cL x).toArray] w (fun v w'=>∃ A' sa sc,v=.tuple #[Du (r0 (Bo F x.p1).2) sa sc,ν (Bo F x.p1).2.e]∧Sep w' (Ak 0 9 1 sa (Bo F x.p1).2.names.length sc ((Bo F x.p1).2.names.flatMap sE)::(cP cf ob ((Bo F x.p1).1) A')++R)∧AdOk (Bo F x.p1).1 A' (n+1)):=by
 have hS:=Sep.tail_many (xs:=cP cf ob F A) hS0;clear hS0
 have hz:SmF F:=hs.sm;have hok:=hfo.toFsC
 have hz0:=hz;obtain ⟨hz1,hz2,hz3⟩:F.N.length≤1000∧F.E.length≤1000∧F.O.length≤1000:=hz
 refine AB Tryz.func54 rfl (N:=50) Tryz.ntmps54 (by show 3≤50;decide) [(0,π cf),(1,ν c),(2,.agg (cL x).toArray)] rfl fun _ h1=>sqr fun _ hK3=>so (wn rfl) fun _ hK1=>Cv h1 rfl rfl rfl rfl rfl (z:=(cL x)) rfl hS fun _ g4 w7 h5 s8 _ _=>hK1 _ _ ?_
 refine so (wn rfl) fun _ hK2=>BB h5 rfl rfl rfl rfl (z:=zL) (fun _=>rfl) s8 fun _ g1 w1 h4 s1 _ _=>hK2 _ _ ?_
 refine mv h4 rfl fun _ h6=>h6.sk [7,6,5,0,2] rfl fun h7=>?_
 clear h1
 refine wpList_nil<|hK3 _ _<|sqr fun _ hK4=>mv h7 rfl fun _ h8=>fav h8 rfl (An _ _) fun _ h9=>ldv h9 s1 1 υ9 rfl rfl rfl rfl fun _ h10=>?_
 rcases bC (decide ((Ac F x.p1).1=0)) with hc1 | hc1
 ·skip
  have hp1:(Ac F x.p1).1=0:=(dT hc1)
  have hfl32:=FsC.find_lt (F:=F) hok x.p1
  refine cl h10 rfl AZ (Es (cf:=cf) (A:=A) (F:=F) (s1.pk [2,3,4,0,1,5] rfl) hok hz0 ω ω) fun _ v1 w2 r1 h11=>?_
  obtain ⟨rfl,s2⟩:=r1
  refine mvs 5 h11 rfl fun _ h12=>h12.sn [9,8,7,6,5,0,2] rfl fun h13=>hK4 _ _<|sq fun _ hK5=>wp_block ?_
  refine sqr fun _ hK6=>mvs 3 h13 rfl fun _ h14=>fav h14 rfl (DD _ _) fun _ h15=>ldv h15 s2 0 υ62 rfl rfl rfl rfl fun _ h16=>sw1 h16 rfl (GG h16 rfl rfl rfl (NdP.eq (F:=FsM.nE F) (A:=AdM.nC A) (j:=((Ac F x.p1).2)) (k:=0) (s2.get 1 rfl:NdP _ _ _) (show (Ac F x.p1).2<F.N.length from ω) (show 0<F.N.length from ω) _ _)) fun _ h17=>mv h17 rfl fun _ h18=>h18.sn [17,9,8,7,6,5,0,2] rfl fun h19=>hK6 _ _ ?_
  rcases bC (decide ((Ac F x.p1).2=0)) with hc2 | hc2
  ·skip
   have hp2:(Ac F x.p1).2=0:=(dT hc2)
   refine wcT h19 rfl hc2<|h19.sk [9,8,7,6,5,0,2] rfl fun h20=>sqr fun _ hK7=>bu h20 (v:=.agg zL.toArray) rfl (fun w=>κ) fun _ h21=>stA h21 s2 3 rfl rfl rfl κ rfl rfl rfl rfl fun _ w3 h22 s3 _=>h22.sk [24,9,8,6,5,0,2] rfl fun h23=>mv h23 rfl fun _ h24=>h24.sn [7,9,8,6,5,0,2] rfl fun h25=>hK7 _ _<|wp_ret ?_
   try simp only [Exit.then,Exit.inBlock]
   refine rCt h25 s3 3 υ37 rfl rfl rfl rfl rfl ?_
   have hq1:Bo F x.p1=(F,Au 15):=by unfold Bo;rw [if_pos (show x.p1=[47] from (Sa hok ω (dT hc2)))]
   rw [hq1]
   exact ⟨A,none,0,rfl,(Sep.tail_un (xs:=[_,_,_]) (s3.pk [0,1,2,5] rfl)).ownNil 0 9 1,hA.mono⟩
  ·skip
   have hp3:¬ ((Ac F x.p1).2=0):=(dF hc2)
   refine wcF h19 rfl hc2<|h19.sk [9,8,7,6,5,0,2] rfl fun h26=>sqr fun _ hK8=>mv h26 rfl fun _ h27=>bv h27 rfl (cNe _ _ _ _ rfl) fun _ h28=>mv h28 rfl fun _ h29=>h29.sn [25,9,8,7,6,5,0,2] rfl fun h30=>hK8 _ _<|wcF h30 rfl rfl<|h30.sk [9,8,7,6,5,0,2] rfl fun h31=>?_
   refine sqr fun _ hK9=>mvs 2 h31 rfl fun _ h32=>sv1 h32 rfl (rfa h32 rfl rfl (fun w=>Ay (A.ad (Ac F x.p1).2) 0 w)) fun _ h33=>sw1 h33 rfl (rld h33 rfl rfl (NdP.c0 (F:=FsM.nE F) (A:=AdM.nC A) (k:=((Ac F x.p1).2)) (s2.get 1 rfl:NdP _ _ _) (show (Ac F x.p1).2<F.N.length from ω) υ3 rfl)) fun _ h34=>bv h34 (z:=.bool (!(F.dir ((Ac F x.p1).2)))) rfl (cNe _ _ _ _ (Je _)) fun _ h35=>mv h35 rfl fun _ h36=>h36.sn [30,9,8,7,6,5,0,2] rfl fun h37=>hK9 _ _ ?_
   rcases bC (F.dir ((Ac F x.p1).2)) with hc3 | hc3
   ·skip
    refine wcF h37 rfl (Bq hc3)<|h37.sk [9,8,7,6,5,0,2] rfl fun h38=>sqr fun _ hK10=>mvs 2 h38 rfl fun _ h39=>sv1 h39 rfl (rfa h39 rfl rfl (fun w=>AF (A.ad (Ac F x.p1).2) 0 w)) fun _ h40=>sw1 h40 rfl (rld h40 rfl rfl (NdP.c3 (F:=FsM.nE F) (A:=AdM.nC A) (k:=((Ac F x.p1).2)) (s2.get 1 rfl:NdP _ _ _) (show (Ac F x.p1).2<F.N.length from ω) hc3 υ95 rfl)) fun _ h41=>sw1 h41 rfl (NJ (F:=F) (A:=A) (k:=((Ac F x.p1).2)) h41 rfl rfl (s2.get 1 rfl:NdP _ _ _) hok ω hc3) fun _ h42=>bv h42 (z:=.bool (decide (((BH F.E ((Ac F x.p1).2):Nat):Int)>0))) rfl (cGt _ _ _ _ rfl) fun _ h43=>mv h43 rfl fun _ h44=>h44.sk [37,9,8,7,6,5,0,2] rfl fun h45=>?_
    refine wpList_nil<|hK10 _ _ ?_
    rcases bC (decide (((BH F.E ((Ac F x.p1).2):Nat):Int)>0)) with hc4 | hc4
    ·skip
     have hp4:((BH F.E ((Ac F x.p1).2):Nat):Int)>0:=(dT hc4)
     refine wcT h45 rfl hc4<|h45.sk [9,8,7,6,5,0,2] rfl fun h46=>sqr fun _ hK11=>bu h46 (v:=.agg zL.toArray) rfl (fun w=>κ) fun _ h47=>stA h47 s2 3 rfl rfl rfl κ rfl rfl rfl rfl fun _ w4 h48 s4 _=>h48.sk [44,9,8,6,5,0,2] rfl fun h49=>mv h49 rfl fun _ h50=>h50.sn [7,9,8,6,5,0,2] rfl fun h51=>hK11 _ _<|wp_ret ?_
     try simp only [Exit.then,Exit.inBlock]
     refine rCt h51 s4 3 υ37 rfl rfl rfl rfl rfl ?_
     have hq2:Bo F x.p1=(F,Au 14):=by unfold Bo;rw [if_neg (show ¬ (x.p1=[47]) from (fun q=>dF hc2 (by rw [CV (Cm.2 q)];rfl))),if_pos ω,if_pos (show F.dir (Ac F x.p1).2=true from hc3),if_pos ω]
     rw [hq2]
     exact ⟨A,none,0,rfl,(Sep.tail_un (xs:=[_,_,_]) (s4.pk [0,1,2,5] rfl)).ownNil 0 9 1,hA.mono⟩
    ·skip
     have hp5:¬ (((BH F.E ((Ac F x.p1).2):Nat):Int)>0):=(dF hc4)
     refine wcF h45 rfl hc4<|h45.sk [9,8,7,6,5,0,2] rfl fun h52=>wp_skip<|hK5 _ _<|sq fun _ hK12=>?_
     have hpk149:(Aa F x.p1).1=0:=(Be ω (fun q=>(dF hc2 (by rw [CV q];rfl)))).1
     refine wp_region_lit<|bu h52 (v:=.agg zL.toArray) rfl (fun w=>κ) fun _ h53=>mv h53 rfl fun _ h54=>fav h54 rfl (An _ _) fun _ h55=>ldv h55 s2 4 υ9 rfl rfl rfl rfl fun _ h56=>cl h56 rfl Cl (FC (cf:=cf) (F:=F) (A:=A) s2 hok hz0 ω hpk149) fun _ v2 w5 r2 h57=>?_
     obtain ⟨rfl,s5⟩:=r2
     refine stA h57 s5 3 rfl rfl rfl κ rfl rfl rfl rfl fun _ w6 h58 s6 _=>h58.sk [49,48,47,46,45,9,8,6,5,0,2] rfl fun h59=>mv h59 rfl fun _ h60=>h60.sn [7,9,8,6,5,0,2] rfl fun h61=>hK12 _ _<|wp_ret ?_
     try simp only [Exit.then,Exit.inBlock]
     refine rCt h61 s6 3 υ37 rfl rfl rfl rfl rfl ?_
     have hq3:Bo F x.p1=(Aq F (Aa F x.p1).2.1 (Aa F x.p1).2.2,Au 0):=by unfold Bo;rw [if_neg (show ¬ (x.p1=[47]) from (fun q=>dF hc2 (by rw [CV (Cm.2 q)];rfl))),if_pos ω,if_pos (show F.dir (Ac F x.p1).2=true from hc3),if_neg ω]
     rw [hq3]
     exact ⟨A,none,0,rfl,(Sep.tail_un (xs:=[_,_,_]) (s6.pk [0,1,2,5] rfl)).ownNil 0 9 1,hA.take _ _⟩
   ·skip
    refine wcT h37 rfl (BC hc3)<|h37.sk [9,8,7,6,5,0,2] rfl fun h62=>sqr fun _ hK13=>bu h62 (v:=.agg zL.toArray) rfl (fun w=>κ) fun _ h63=>stA h63 s2 3 rfl rfl rfl κ rfl rfl rfl rfl fun _ w8 h64 s7 _=>h64.sk [36,9,8,6,5,0,2] rfl fun h65=>mv h65 rfl fun _ h66=>h66.sn [7,9,8,6,5,0,2] rfl fun h67=>hK13 _ _<|wp_ret ?_
    try simp only [Exit.then,Exit.inBlock]
    refine rCt h67 s7 3 υ37 rfl rfl rfl rfl rfl ?_
    have hq4:Bo F x.p1=(F,Au 12):=by unfold Bo;rw [if_neg (show ¬ (x.p1=[47]) from (fun q=>dF hc2 (by rw [CV (Cm.2 q)];rfl))),if_pos ω,if_neg (show ¬ (F.dir (Ac F x.p1).2=true) from AH hc3)]
    rw [hq4]
    exact ⟨A,none,0,rfl,(Sep.tail_un (xs:=[_,_,_]) (s7.pk [0,1,2,5] rfl)).ownNil 0 9 1,hA.mono⟩
 ·skip
  have hp6:¬ ((Ac F x.p1).1=0):=(dF hc1)
  refine cl h10 rfl AZ (Fa (cf:=cf) (A:=A) (F:=F) (s1.pk [2,3,4,0,1,5] rfl) hok hz0 ω ω) fun _ v3 w9 r3 h68=>?_
  obtain ⟨rfl,s9⟩:=r3
  refine mvs 5 h68 rfl fun _ h69=>h69.sn [9,8,7,6,5,0,2] rfl fun h70=>hK4 _ _<|sq fun _ hK14=>wp_block ?_
  refine sqr fun _ hK15=>mvs 3 h70 rfl fun _ h71=>fav h71 rfl (DD _ _) fun _ h72=>ldv h72 s9 0 υ62 rfl rfl rfl rfl fun _ h73=>bv h73 rfl (Td _ υ62 _ _ _) fun _ h74=>mv h74 rfl fun _ h75=>h75.sn [17,9,8,7,6,5,0,2] rfl fun h76=>hK15 _ _<|wcF h76 rfl rfl<|h76.sk [9,8,7,6,5,0,2] rfl fun h77=>?_
  refine sqr fun _ hK16=>mv h77 rfl fun _ h78=>bv h78 rfl (cNe _ _ _ _ (decide_eq_true ω)) fun _ h79=>mv h79 rfl fun _ h80=>h80.sn [25,9,8,7,6,5,0,2] rfl fun h81=>hK16 _ _<|wcT h81 rfl rfl<|h81.sk [9,8,7,6,5,0,2] rfl fun h82=>sqr fun _ hK17=>bu h82 (v:=.agg zL.toArray) rfl (fun w=>κ) fun _ h83=>?_
  refine mv h83 rfl fun _ h84=>stA h84 s9 3 rfl rfl rfl κ rfl rfl rfl rfl fun _ w10 h85 s10 _=>h85.sk [29,28,9,8,6,5,0,2] rfl fun h86=>mv h86 rfl fun _ h87=>h87.sn [7,9,8,6,5,0,2] rfl fun h88=>hK17 _ _<|wp_ret ?_
  try simp only [Exit.then,Exit.inBlock]
  refine rCt h88 s10 3 υ37 rfl rfl rfl rfl rfl ?_
  have hq5:Bo F x.p1=(F,Au (Ac F x.p1).1):=by unfold Bo;rw [if_neg (show ¬ (x.p1=[47]) from (fun q=>(ω:¬ (Ac F x.p1).1=0) (by rw [CV (Cm.2 q)];rfl))),if_neg ω]
  rw [hq5]
  exact ⟨A,none,0,rfl,(Sep.tail_un (xs:=[_,_,_]) (s10.pk [0,1,2,5] rfl)).ownNil 0 9 1,hA.mono⟩
theorem Ne {w:World} {cf ob n:Nat} {F:FsM} {A:AdM} {R:List Ch} {c:Int} {x:CallM} (hS0:Sep w ((cP cf ob F A)++R)) (hfo:FsOk F) (hA:AdOk F A n) (hn:n≤900) (hs:SmS F) (h1:x.p1.length≤1000) (h2:x.p2.length≤1000) (h3:x.data.length≤1000) (hwx:wfD (c,x.fd)) (hcl:1≤c∧c≤8) :
  CallsR Tryz.prog 56 #[π cf,ν c,.agg (cL x).toArray] w (fun v w'=>∃ A' sa sc,v=.tuple #[Du (r0 (Cc F x.p1).2) sa sc,ν (Cc F x.p1).2.e]∧Sep w' (Ak 0 9 1 sa (Cc F x.p1).2.names.length sc ((Cc F x.p1).2.names.flatMap sE)::(cP cf ob ((Cc F x.p1).1) A')++R)∧AdOk (Cc F x.p1).1 A' (n+1)):=by
 have hS:=Sep.tail_many (xs:=cP cf ob F A) hS0;clear hS0
 have hz:SmF F:=hs.sm;have hok:=hfo.toFsC
 have hz0:=hz;obtain ⟨hz1,hz2,hz3⟩:F.N.length≤1000∧F.E.length≤1000∧F.O.length≤1000:=hz
 refine AB Tryz.func56 rfl (N:=39) Tryz.ntmps56 (by show 3≤39;decide) [(0,π cf),(1,ν c),(2,.agg (cL x).toArray)] rfl fun _ h1=>sqr fun _ hK3=>so (wn rfl) fun _ hK1=>Cv h1 rfl rfl rfl rfl rfl (z:=(cL x)) rfl hS fun _ g4 w7 h5 s8 _ _=>hK1 _ _ ?_
 refine so (wn rfl) fun _ hK2=>BB h5 rfl rfl rfl rfl (z:=zL) (fun _=>rfl) s8 fun _ g1 w1 h4 s1 _ _=>hK2 _ _ ?_
 refine mv h4 rfl fun _ h6=>h6.sk [7,6,5,0,2] rfl fun h7=>?_
 clear h1
 refine wpList_nil<|hK3 _ _<|sqr fun _ hK4=>mv h7 rfl fun _ h8=>fav h8 rfl (An _ _) fun _ h9=>ldv h9 s1 1 υ9 rfl rfl rfl rfl fun _ h10=>?_
 rcases bC (decide ((Ac F x.p1).1=0)) with hc1 | hc1
 ·skip
  have hp1:(Ac F x.p1).1=0:=(dT hc1)
  have hfl32:=FsC.find_lt (F:=F) hok x.p1
  refine cl h10 rfl AZ (Es (cf:=cf) (A:=A) (F:=F) (s1.pk [2,3,4,0,1,5] rfl) hok hz0 ω ω) fun _ v1 w2 r1 h11=>?_
  obtain ⟨rfl,s2⟩:=r1
  refine mvs 5 h11 rfl fun _ h12=>h12.sn [9,8,7,6,5,0,2] rfl fun h13=>hK4 _ _<|sq fun _ hK5=>sqr fun _ hK6=>mv h13 rfl fun _ h14=>bv h14 rfl (cNe _ _ _ _ rfl) fun _ h15=>h15.sn [18,9,8,7,6,5,0,2] rfl fun h16=>hK6 _ _<|wcF h16 rfl rfl<|h16.sk [9,8,7,6,5,0,2] rfl fun h17=>?_
  refine wp_skip<|hK5 _ _<|sq fun _ hK7=>sqr fun _ hK8=>mvs 2 h17 rfl fun _ h18=>sv1 h18 rfl (rfa h18 rfl rfl (fun w=>Ay (A.ad (Ac F x.p1).2) 0 w)) fun _ h19=>sw1 h19 rfl (rld h19 rfl rfl (NdP.c0 (F:=FsM.nE F) (A:=AdM.nC A) (k:=((Ac F x.p1).2)) (s2.get 1 rfl:NdP _ _ _) (show (Ac F x.p1).2<F.N.length from ω) υ3 rfl)) fun _ h20=>bv h20 (z:=.bool (F.dir ((Ac F x.p1).2))) rfl (cEq _ _ _ _ (GZ _)) fun _ h21=>h21.sn [25,9,8,7,6,5,0,2] rfl fun h22=>hK8 _ _ ?_
  rcases bC (F.dir ((Ac F x.p1).2)) with hc2 | hc2
  ·skip
   refine wcT h22 rfl hc2<|h22.sk [9,8,7,6,5,0,2] rfl fun h23=>sqr fun _ hK9=>bu h23 (v:=.agg zL.toArray) rfl (fun w=>κ) fun _ h24=>stA h24 s2 3 rfl rfl rfl κ rfl rfl rfl rfl fun _ w3 h25 s3 _=>h25.sk [26,9,8,6,5,0,2] rfl fun h26=>mv h26 rfl fun _ h27=>h27.sn [7,9,8,6,5,0,2] rfl fun h28=>hK9 _ _<|wp_ret ?_
   try simp only [Exit.then,Exit.inBlock]
   refine rCt h28 s3 3 υ37 rfl rfl rfl rfl rfl ?_
   have hq1:Cc F x.p1=(F,Au 13):=bx
   rw [hq1]
   exact ⟨A,none,0,rfl,(Sep.tail_un (xs:=[_,_,_]) (s3.pk [0,1,2,5] rfl)).ownNil 0 9 1,hA.mono⟩
  ·skip
   refine wcF h22 rfl hc2<|h22.sk [9,8,7,6,5,0,2] rfl fun h29=>wp_skip<|hK7 _ _<|sq fun _ hK10=>?_
   have hlk92:0≤AR F A ((Ac F x.p1).2)∧AR F A ((Ac F x.p1).2)≤20:=by rw [Ea hc2];exact ⟨FsC.links_ge hfo.toFsC ω,hfo.l20 _ ω⟩
   refine wp_region_lit<|mvs 2 h29 rfl fun _ h30=>sv1 h30 rfl (v:=.pointer (some ⟨(A.ad (Ac F x.p1).2),1,none⟩)) (rfa h30 rfl rfl (fun w=>Bk (A.ad (Ac F x.p1).2) 0 w)) fun _ h31=>sw1 h31 rfl (v:=ν (AR F A ((Ac F x.p1).2))) (rld h31 rfl rfl (NdP.c1 (F:=FsM.nE F) (A:=AdM.nC A) (k:=((Ac F x.p1).2)) (s2.get 1 rfl:NdP _ _ _) (show (Ac F x.p1).2<F.N.length from ω) υ3 rfl)) fun _ h32=>bv h32 (z:=ν (AR F A ((Ac F x.p1).2)-1)) rfl (Ib _ _ _ ω ω ω) fun _ h33=>mv h33 rfl fun _ h34=>sv1 h34 rfl (v:=.pointer (some ⟨(A.ad (Ac F x.p1).2),1,none⟩)) (rfa h34 rfl rfl (fun w=>Bk (A.ad (Ac F x.p1).2) 0 w)) fun _ h35=>so (wn rfl) fun _ hK11=>Ef (F:=F) (A:=A) (F':=(BE F ((Ac F x.p1).2) (-1))) (A':=A) (k:=((Ac F x.p1).2)) (off:=1) h35 rfl rfl s2 1 rfl rfl rfl rfl rfl κ ω (by decide) (Io (i:=(-1)) ω hc2 (by rw [Ea hc2];rfl)) (cs':=[Ah cf 65 [π (A.ad 0),.map (some ob)],Av (BE F ((Ac F x.p1).2) (-1)) A,AM KO ob A.C (opG F A),Ah g1 37 zL,Ah g4 30 (cL x),Ch.many R]) rfl fun _ w4 h36 s4=>hK11 _ _ ?_
   have hN112:(BE F ((Ac F x.p1).2) (-1)).N.length=F.N.length:=List.length_set
   refine h36.sn [9,8,7,6,5,0,2] rfl fun h37=>hK10 _ _<|sq fun _ hK12=>?_
   have hpk115:(Aa F x.p1).1=0:=(Be ω (fun q=>by have z:=hok.root_dir q;rw [hc2] at z;cases z)).1
   have hpl116:Aa (BE F ((Ac F x.p1).2) (-1)) x.p1=Aa F x.p1:=Kz ω _ _
   refine wp_region_lit<|bu h37 (v:=.agg zL.toArray) rfl (fun w=>κ) fun _ h38=>mv h38 rfl fun _ h39=>fav h39 rfl (An _ _) fun _ h40=>ldv h40 s4 4 υ9 rfl rfl rfl rfl fun _ h41=>cl h41 rfl Cl (FC (cf:=cf) (F:=(BE F ((Ac F x.p1).2) (-1))) (A:=A) s4 (FsC.link hok (n:=(Ac F x.p1).2) ω hc2 _) (Mz hz0) ω (by rw [hpl116];exact hpk115)) fun _ v2 w5 r2 h42=>?_
   obtain ⟨rfl,s5⟩:=r2
   have s6:Sep w5 [Ah cf 65 [π (A.ad 0),.map (some ob)],Av (Aq (BE F ((Ac F x.p1).2) (-1)) (Aa F x.p1).2.1 (Aa F x.p1).2.2) A,AM KO ob A.C (opG F A),Ah g1 37 zL,Ah g4 30 (cL x),Ch.many R]:=by have z:=s5;rw [hpl116] at z;exact z
   refine stA h42 s6 3 rfl rfl rfl κ rfl rfl rfl rfl fun _ w6 h43 s7 _=>h43.sk [38,37,36,35,34,9,8,6,5,0,2] rfl fun h44=>mv h44 rfl fun _ h45=>h45.sn [7,9,8,6,5,0,2] rfl fun h46=>hK12 _ _<|wp_ret ?_
   try simp only [Exit.then,Exit.inBlock]
   refine rCt h46 s7 3 υ37 rfl rfl rfl rfl rfl ?_
   have hq2:Cc F x.p1=(BE (Aq F (Aa F x.p1).2.1 (Aa F x.p1).2.2) (Ac F x.p1).2 (-1),Au 0):=bx
   rw [hq2]
   exact ⟨A,none,0,rfl,(Sep.tail_un (xs:=[_,_,_]) (s7.pk [0,1,2,5] rfl)).ownNil 0 9 1,hA.unlink _ _ ω⟩
 ·skip
  have hp2:¬ ((Ac F x.p1).1=0):=(dF hc1)
  refine cl h10 rfl AZ (Fa (cf:=cf) (A:=A) (F:=F) (s1.pk [2,3,4,0,1,5] rfl) hok hz0 ω ω) fun _ v3 w8 r3 h47=>?_
  obtain ⟨rfl,s9⟩:=r3
  refine mvs 5 h47 rfl fun _ h48=>h48.sn [9,8,7,6,5,0,2] rfl fun h49=>hK4 _ _<|sq fun _ hK13=>sqr fun _ hK14=>mv h49 rfl fun _ h50=>bv h50 rfl (cNe _ _ _ _ (decide_eq_true ω)) fun _ h51=>h51.sn [18,9,8,7,6,5,0,2] rfl fun h52=>hK14 _ _<|wcT h52 rfl rfl<|h52.sk [9,8,7,6,5,0,2] rfl fun h53=>?_
  refine sqr fun _ hK15=>bu h53 (v:=.agg zL.toArray) rfl (fun w=>κ) fun _ h54=>mv h54 rfl fun _ h55=>stA h55 s9 3 rfl rfl rfl κ rfl rfl rfl rfl fun _ w9 h56 s10 _=>h56.sk [20,19,9,8,6,5,0,2] rfl fun h57=>mv h57 rfl fun _ h58=>h58.sn [7,9,8,6,5,0,2] rfl fun h59=>hK15 _ _<|wp_ret ?_
  try simp only [Exit.then,Exit.inBlock]
  refine rCt h59 s10 3 υ37 rfl rfl rfl rfl rfl ?_
  have hq3:Cc F x.p1=(F,Au (Ac F x.p1).1):=bx
  rw [hq3]
  exact ⟨A,none,0,rfl,(Sep.tail_un (xs:=[_,_,_]) (s10.pk [0,1,2,5] rfl)).ownNil 0 9 1,hA.mono⟩
theorem Ql {w:World} {cf ob n:Nat} {F:FsM} {A:AdM} {R:List Ch} {c:Int} {x:CallM} (hS0:Sep w ((cP cf ob F A)++R)) (hfo:FsOk F) (hA:AdOk F A n) (hn:n≤900) (hs:SmS F) (h1:x.p1.length≤1000) (h2:x.p2.length≤1000) (h3:x.data.length≤1000) (hwx:wfD (c,x.fd)) (hcl:1≤c∧c≤8) :
  CallsR Tryz.prog 55 #[π cf,ν c,.agg (cL x).toArray] w (fun v w'=>∃ A' sa sc,v=.tuple #[Du (r0 (AQ F x.p1 x.p2).2) sa sc,ν (AQ F x.p1 x.p2).2.e]∧Sep w' (Ak 0 9 1 sa (AQ F x.p1 x.p2).2.names.length sc ((AQ F x.p1 x.p2).2.names.flatMap sE)::(cP cf ob ((AQ F x.p1 x.p2).1) A')++R)∧AdOk (AQ F x.p1 x.p2).1 A' (n+1)):=by
 have hS:=Sep.tail_many (xs:=cP cf ob F A) hS0;clear hS0
 have hz:SmF F:=hs.sm;have hok:=hfo.toFsC
 have hz0:=hz;obtain ⟨hz1,hz2,hz3⟩:F.N.length≤1000∧F.E.length≤1000∧F.O.length≤1000:=hz
 refine AB Tryz.func55 rfl (N:=101) Tryz.ntmps55 (by show 3≤101;decide) [(0,π cf),(1,ν c),(2,.agg (cL x).toArray)] rfl fun _ h1=>sqr fun _ hK3=>so (wn rfl) fun _ hK1=>Cv h1 rfl rfl rfl rfl rfl (z:=(cL x)) rfl hS fun _ g4 w7 h5 s8 _ _=>hK1 _ _ ?_
 refine so (wn rfl) fun _ hK2=>BB h5 rfl rfl rfl rfl (z:=zL) (fun _=>rfl) s8 fun _ g1 w1 h4 s1 _ _=>hK2 _ _ ?_
 refine mv h4 rfl fun _ h6=>h6.sk [7,6,5,0,2] rfl fun h7=>?_
 clear h1
 refine wpList_nil<|hK3 _ _<|sqr fun _ hK4=>fav h7 rfl (An _ _) fun _ h8=>ldv h8 s1 1 υ9 rfl rfl rfl rfl fun _ h9=>?_
 rcases bC ((Ag x.p1).isSome) with hc1 | hc1
 ·skip
  obtain ⟨L30,hL31⟩:=Option.isSome_iff_exists.1 hc1
  have h10:=Dj hL31
  refine cl h9 rfl Cd (Fk (X:=x.p1) s1 ω hL31) fun _ v1 w2 r1 h11=>?_
  obtain ⟨pax33,pcx34,rfl,s2⟩:=r1
  refine mvs 5 h11 rfl fun _ h12=>h12.sn [9,7,6,5,0,2] rfl fun h13=>hK4 _ _<|sqr fun _ hK5=>fav h13 rfl (AS _ _) fun _ h14=>ldv h14 s2 2 υ9 rfl rfl rfl rfl fun _ h15=>?_
  rcases bC ((Ag x.p2).isSome) with hc2 | hc2
  ·skip
   obtain ⟨L60,hL61⟩:=Option.isSome_iff_exists.1 hc2
   have h16:=Dj hL61
   refine cl h15 rfl Cd (Fk (X:=x.p2) s2 ω hL61) fun _ v2 w3 r2 h17=>?_
   obtain ⟨pax63,pcx64,rfl,s3⟩:=r2
   refine mvs 5 h17 rfl fun _ h18=>h18.sn [11,10,9,7,6,5,0,2] rfl fun h19=>hK5 _ _<|sq fun _ hK6=>sqr fun _ hK7=>mv h19 rfl fun _ h20=>bv h20 rfl (cNe _ _ _ _ rfl) fun _ h21=>mv h21 rfl fun _ h22=>sv h22 (wF h22 (E:=false) rfl rfl rfl) rfl rfl rfl (Ap h22 rfl rfl) fun _ h23=>sv h23 (wF h23 (E:=false) rfl rfl rfl) rfl rfl rfl (BG h23 rfl rfl rfl (cNe _ _ _ _ rfl)) fun _ h24=>sv1 h24 rfl (Ed h24 rfl rfl rfl) fun _ h25=>?_
   refine h25.sn [32,11,10,9,7,6,5,0,2] rfl fun h26=>hK7 _ _<|wcF h26 rfl rfl<|h26.sk [11,10,9,7,6,5,0,2] rfl fun h27=>wp_skip<|hK6 _ _<|sqr fun _ hK8=>mv h27 rfl fun _ h28=>fav h28 rfl (An _ _) fun _ h29=>ldv h29 s3 3 υ9 rfl rfl rfl rfl fun _ h30=>?_
   rcases bC (decide ((Ac F x.p1).1=0)) with hc3 | hc3
   ·skip
    have hp1:(Ac F x.p1).1=0:=(dT hc3)
    have hfl108:=FsC.find_lt (F:=F) hok x.p1
    refine cl h30 rfl AZ (Es (cf:=cf) (A:=A) (F:=F) (s3.pk [4,5,6,0,1,2,3,7] rfl) hok hz0 ω ω) fun _ v3 w4 r3 h31=>?_
    obtain ⟨rfl,s4⟩:=r3
    refine mvs 4 h31 rfl fun _ h32=>h32.sk [12,40,39,34,38,37,36,35,11,10,7,6,5,0,2] rfl fun h33=>mv h33 rfl fun _ h34=>h34.sn [9,12,11,10,7,6,5,0,2] rfl fun h35=>hK8 _ _<|sq fun _ hK9=>wp_block ?_
    refine sqr fun _ hK10=>mv h35 rfl fun _ h36=>bv h36 rfl (cNe _ _ _ _ rfl) fun _ h37=>mv h37 rfl fun _ h38=>h38.sn [41,9,12,11,10,7,6,5,0,2] rfl fun h39=>hK10 _ _<|wcF h39 rfl rfl<|h39.sk [9,12,11,10,7,6,5,0,2] rfl fun h40=>sqr fun _ hK11=>mvs 2 h40 rfl fun _ h41=>?_
    refine sv1 h41 rfl (rfa h41 rfl rfl (fun w=>Ay (A.ad (Ac F x.p1).2) 0 w)) fun _ h42=>sw1 h42 rfl (rld h42 rfl rfl (NdP.c0 (F:=FsM.nE F) (A:=AdM.nC A) (k:=((Ac F x.p1).2)) (s4.get 1 rfl:NdP _ _ _) (show (Ac F x.p1).2<F.N.length from ω) υ3 rfl)) fun _ h43=>bv h43 (z:=.bool (F.dir ((Ac F x.p1).2))) rfl (cEq _ _ _ _ (GZ _)) fun _ h44=>mv h44 rfl fun _ h45=>h45.sn [46,9,12,11,10,7,6,5,0,2] rfl fun h46=>hK11 _ _ ?_
    rcases bC (F.dir ((Ac F x.p1).2)) with hc4 | hc4
    ·skip
     refine wcT h46 rfl hc4<|h46.sk [9,12,11,10,7,6,5,0,2] rfl fun h47=>sqr fun _ hK12=>bu h47 (v:=.agg zL.toArray) rfl (fun w=>κ) fun _ h48=>stA h48 s4 5 rfl rfl rfl κ rfl rfl rfl rfl fun _ w5 h49 s5 _=>h49.sk [52,9,12,11,10,6,5,0,2] rfl fun h50=>mv h50 rfl fun _ h51=>h51.sn [7,9,12,11,10,6,5,0,2] rfl fun h52=>hK12 _ _<|wp_ret ?_
     try simp only [Exit.then,Exit.inBlock]
     refine rCt h52 s5 5 υ37 rfl rfl rfl rfl rfl ?_
     have hq1:AQ F x.p1 x.p2=(F,Au 13):=bx
     rw [hq1]
     exact ⟨A,none,0,rfl,(Sep.tail_un (xs:=[_,_,_]) (s5.pk [0,1,2,7] rfl)).ownNil 0 9 1,hA.mono⟩
    ·skip
     refine wcF h46 rfl hc4<|h46.sk [9,12,11,10,7,6,5,0,2] rfl fun h53=>sqr fun _ hK13=>mv h53 rfl fun _ h54=>sv1 h54 rfl (CR h54 rfl rfl υ33) fun _ h55=>bv h55 (z:=.bool (decide ((L60.length:Int)=0))) rfl (cEq _ _ _ _ rfl) fun _ h56=>mv h56 rfl fun _ h57=>h57.sn [53,9,12,11,10,7,6,5,0,2] rfl fun h58=>hK13 _ _ ?_
     rcases bC (decide ((L60.length:Int)=0)) with hc5 | hc5
     ·skip
      have hp2:(L60.length:Int)=0:=(dT hc5)
      refine wcT h58 rfl hc5<|h58.sk [9,12,11,10,7,6,5,0,2] rfl fun h59=>sqr fun _ hK14=>bu h59 (v:=.agg zL.toArray) rfl (fun w=>κ) fun _ h60=>stA h60 s4 5 rfl rfl rfl κ rfl rfl rfl rfl fun _ w6 h61 s6 _=>h61.sk [57,9,12,11,10,6,5,0,2] rfl fun h62=>mv h62 rfl fun _ h63=>h63.sn [7,9,12,11,10,6,5,0,2] rfl fun h64=>hK14 _ _<|wp_ret ?_
      try simp only [Exit.then,Exit.inBlock]
      refine rCt h64 s6 5 υ37 rfl rfl rfl rfl rfl ?_
      have hq2:AQ F x.p1 x.p2=(F,Au 11):=by unfold AQ;rw [if_pos (show (Ag x.p1).isSome=true∧(Ag x.p2).isSome=true from ⟨hc1,hc2⟩),if_pos ω,if_neg (show ¬ (F.dir (Ac F x.p1).2=true) from AH hc4),if_pos (show x.p2=[47] from (Cm.1 (by rw [hL61,List.eq_nil_of_length_eq_zero (ω:L60.length=0)])))]
      rw [hq2]
      exact ⟨A,none,0,rfl,(Sep.tail_un (xs:=[_,_,_]) (s6.pk [0,1,2,7] rfl)).ownNil 0 9 1,hA.mono⟩
     ·skip
      have hp3:¬ ((L60.length:Int)=0):=(dF hc5)
      refine wcF h58 rfl hc5<|h58.sk [9,12,11,10,7,6,5,0,2] rfl fun h65=>wp_skip<|hK9 _ _<|sqr fun _ hK15=>mv h65 rfl fun _ h66=>fav h66 rfl (AS _ _) fun _ h67=>ldv h67 s4 6 υ9 rfl rfl rfl rfl fun _ h68=>?_
      rcases bC (decide ((Aa F x.p2).1=0)) with hc6 | hc6
      ·skip
       have hp4:(Aa F x.p2).1=0:=(dT hc6)
       have hpl209:=FsC.place (F:=F) (X:=x.p2) hok ω
       have hpl209a:=hpl209.1.1
       refine cl h68 rfl BD (EP (cf:=cf) (A:=A) (F:=F) s4 hok hz0 ω ω) fun _ v4 w8 r4 h69=>?_
       obtain ⟨rfl,s7⟩:=r4
       refine mvs 6 h69 rfl fun _ h70=>h70.sk [14,13,65,64,63,58,62,61,60,59,12,11,10,7,6,5,0,2] rfl fun h71=>mv h71 rfl fun _ h72=>h72.sn [9,14,13,12,11,10,7,6,5,0,2] rfl fun h73=>hK15 _ _<|sq fun _ hK16=>wp_block ?_
       refine sqr fun _ hK17=>mv h73 rfl fun _ h74=>bv h74 rfl (cNe _ _ _ _ rfl) fun _ h75=>mv h75 rfl fun _ h76=>h76.sn [66,9,14,13,12,11,10,7,6,5,0,2] rfl fun h77=>hK17 _ _<|wcF h77 rfl rfl<|h77.sk [9,14,13,12,11,10,7,6,5,0,2] rfl fun h78=>sqr fun _ hK18=>mvs 2 h78 rfl fun _ h79=>?_
       refine sv1 h79 rfl (rfa h79 rfl rfl (fun w=>AF (A.ad (Aa F x.p2).2.1) 0 w)) fun _ h80=>sw1 h80 rfl (rld h80 rfl rfl (NdP.c3 (F:=FsM.nE F) (A:=AdM.nC A) (k:=((Aa F x.p2).2.1)) (s7.get 1 rfl:NdP _ _ _) (show (Aa F x.p2).2.1<F.N.length from ω) hpl209.1.2 υ95 rfl)) fun _ h81=>mv h81 rfl fun _ h82=>?_
       rcases bC ((Ai F.E ((Aa F x.p2).2.1) ((Aa F x.p2).2.2)).isSome) with hc7 | hc7
       ·skip
        obtain ⟨m1,hm1⟩:=Option.isSome_iff_exists.1 hc7;have hml258:=FsC.look_lt hok hm1
        refine sw1 h82 rfl (Ds h82 rfl rfl rfl (NdP.lookY (F:=FsM.nE F) (A:=AdM.nC A) (k:=((Aa F x.p2).2.1)) (s7.get 1 rfl:NdP _ _ _) (show (Aa F x.p2).2.1<F.N.length from ω) hpl209.1.2 (CO hpl209.2) hm1)) fun _ h83=>bv h83 rfl (Iz _ υ62 _ _ _) fun _ h84=>mv h84 rfl fun _ h85=>h85.sn [71,9,14,13,12,11,10,7,6,5,0,2] rfl fun h86=>hK18 _ _<|wcT h86 rfl rfl<|h86.sk [9,14,13,12,11,10,7,6,5,0,2] rfl fun h87=>sqr fun _ hK19=>bu h87 (v:=.agg zL.toArray) rfl (fun w=>κ) fun _ h88=>stA h88 s7 5 rfl rfl rfl κ rfl rfl rfl rfl fun _ w9 h89 s9 _=>?_
        refine h89.sk [79,9,14,13,12,11,10,6,5,0,2] rfl fun h90=>mv h90 rfl fun _ h91=>h91.sn [7,9,14,13,12,11,10,6,5,0,2] rfl fun h92=>hK19 _ _<|wp_ret ?_
        try simp only [Exit.then,Exit.inBlock]
        refine rCt h92 s9 5 υ37 rfl rfl rfl rfl rfl ?_
        have hq3:AQ F x.p1 x.p2=(F,Au 11):=by unfold AQ;rw [if_pos (show (Ag x.p1).isSome=true∧(Ag x.p2).isSome=true from ⟨hc1,hc2⟩),if_pos ω,if_neg (show ¬ (F.dir (Ac F x.p1).2=true) from AH hc4),if_neg (show ¬ (x.p2=[47]) from (fun q=>absurd (GA q hL61) ω)),if_pos ω,if_pos (show (Ai F.E (Aa F x.p2).2.1 (Aa F x.p2).2.2).isSome=true from hc7)]
        rw [hq3]
        exact ⟨A,none,0,rfl,(Sep.tail_un (xs:=[_,_,_]) (s9.pk [0,1,2,7] rfl)).ownNil 0 9 1,hA.mono⟩
       ·skip
        have hm2:=AI hc7
        refine sw1 h82 rfl (Ds h82 rfl rfl rfl (NdP.lookN (F:=FsM.nE F) (A:=AdM.nC A) (k:=((Aa F x.p2).2.1)) (s7.get 1 rfl:NdP _ _ _) (show (Aa F x.p2).2.1<F.N.length from ω) hpl209.1.2 (CO hpl209.2) hm2)) fun _ h93=>bv h93 rfl (Iz _ υ62 _ _ _) fun _ h94=>mv h94 rfl fun _ h95=>h95.sn [71,9,14,13,12,11,10,7,6,5,0,2] rfl fun h96=>hK18 _ _<|wcF h96 rfl rfl<|h96.sk [9,14,13,12,11,10,7,6,5,0,2] rfl fun h97=>sq fun _ hK20=>?_
        have hlk292:0≤AR F A ((Ac F x.p1).2)∧AR F A ((Ac F x.p1).2)≤20:=by rw [Ea hc4];exact ⟨FsC.links_ge hfo.toFsC ω,hfo.l20 _ ω⟩
        refine wp_region_lit<|mvs 2 h97 rfl fun _ h98=>sv1 h98 rfl (rfa h98 rfl rfl (fun w=>Bk (A.ad (Ac F x.p1).2) 0 w)) fun _ h99=>sw1 h99 rfl (rld h99 rfl rfl (NdP.c1 (F:=FsM.nE F) (A:=AdM.nC A) (k:=((Ac F x.p1).2)) (s7.get 1 rfl:NdP _ _ _) (show (Ac F x.p1).2<F.N.length from ω) υ3 rfl)) fun _ h100=>bv h100 (z:=.bool (decide (AR F A ((Ac F x.p1).2)≥20))) rfl (cGe _ _ _ _ rfl) fun _ h101=>mv h101 rfl fun _ h102=>h102.sn [80,9,14,13,12,11,10,7,6,5,0,2] rfl fun h103=>hK20 _ _ ?_
        rcases bC (decide (AR F A ((Ac F x.p1).2)≥20)) with hc8 | hc8
        ·skip
         have hp5:AR F A ((Ac F x.p1).2)≥20:=(dT hc8)
         refine wcT h103 rfl hc8<|h103.sk [9,14,13,12,11,10,7,6,5,0,2] rfl fun h104=>sqr fun _ hK21=>bu h104 (v:=.agg zL.toArray) rfl (fun w=>κ) fun _ h105=>stA h105 s7 5 rfl rfl rfl κ rfl rfl rfl rfl fun _ w10 h106 s10 _=>h106.sk [86,9,14,13,12,11,10,6,5,0,2] rfl fun h107=>mv h107 rfl fun _ h108=>h108.sn [7,9,14,13,12,11,10,6,5,0,2] rfl fun h109=>hK21 _ _<|wp_ret ?_
         try simp only [Exit.then,Exit.inBlock]
         refine rCt h109 s10 5 υ37 rfl rfl rfl rfl rfl ?_
         have hq4:AQ F x.p1 x.p2=(F,Au 20):=by unfold AQ;rw [if_pos (show (Ag x.p1).isSome=true∧(Ag x.p2).isSome=true from ⟨hc1,hc2⟩),if_pos ω,if_neg (show ¬ (F.dir (Ac F x.p1).2=true) from AH hc4),if_neg (show ¬ (x.p2=[47]) from (fun q=>absurd (GA q hL61) ω)),if_pos ω,if_neg (show ¬ ((Ai F.E (Aa F x.p2).2.1 (Aa F x.p2).2.2).isSome=true) from AH hc7),if_pos (show (F.at (Ac F x.p1).2).links=20 from ((Ea hc4).symm.trans (ω:AR F A ((Ac F x.p1).2)=20)))]
         rw [hq4]
         exact ⟨A,none,0,rfl,(Sep.tail_un (xs:=[_,_,_]) (s10.pk [0,1,2,7] rfl)).ownNil 0 9 1,hA.mono⟩
        ·skip
         have hp6:¬ (AR F A ((Ac F x.p1).2)≥20):=(dF hc8)
         refine wcF h103 rfl hc8<|h103.sk [9,14,13,12,11,10,7,6,5,0,2] rfl fun h110=>wp_skip<|hK16 _ _<|sqr fun _ hK22=>mvs 2 h110 rfl fun _ h111=>sv1 h111 rfl (rfa h111 rfl rfl (fun w=>AF (A.ad (Aa F x.p2).2.1) 0 w)) fun _ h112=>sw1 h112 rfl (rld h112 rfl rfl (NdP.c3 (F:=FsM.nE F) (A:=AdM.nC A) (k:=((Aa F x.p2).2.1)) (s7.get 1 rfl:NdP _ _ _) (show (Aa F x.p2).2.1<F.N.length from ω) hpl209.1.2 υ95 rfl)) fun _ h113=>mvs 2 h113 rfl fun _ h114=>so (wn rfl) fun _ hK23=>FU (F:=F) (A:=A) (F':=(Bu F ((Aa F x.p2).2.1) ((Aa F x.p2).2.2) ((Ac F x.p1).2))) (k:=((Aa F x.p2).2.1)) (m:=((Ac F x.p1).2)) h114 rfl rfl rfl s7 1 rfl rfl rfl rfl ω hpl209.1.2 (CO hpl209.2) (by exact (show A.B<maxLen from Gt hA hn)) rfl (Dc hm2) (cs':=[Ah cf 65 [π (A.ad 0),.map (some ob)],Av (Bu F ((Aa F x.p2).2.1) ((Aa F x.p2).2.2) ((Ac F x.p1).2)) A.inc,AM KO ob A.C (opG F A),Ak 0 9 1 pax63 L60.length pcx64 (L60.flatMap sE),Ak 0 9 1 pax33 L30.length pcx34 (L30.flatMap sE),Ah g1 37 zL,Ah g4 30 (cL x),Ch.many R]) rfl fun _ w11 h115 s11=>hK23 _ _ ?_
         have hN343:(Bu F ((Aa F x.p2).2.1) ((Aa F x.p2).2.2) ((Ac F x.p1).2)).N.length=F.N.length:=rfl
         refine h115.sn [9,14,13,12,11,10,7,6,5,0,2] rfl fun h116=>hK22 _ _<|sq fun _ hK24=>?_
         have hlk346:AR (Bu F ((Aa F x.p2).2.1) ((Aa F x.p2).2.2) ((Ac F x.p1).2)) A.inc ((Ac F x.p1).2)=AR F A ((Ac F x.p1).2):=rfl
         refine wp_region_lit<|mvs 2 h116 rfl fun _ h117=>sv1 h117 rfl (v:=.pointer (some ⟨(A.ad (Ac F x.p1).2),1,none⟩)) (rfa h117 rfl rfl (fun w=>Bk (A.ad (Ac F x.p1).2) 0 w)) fun _ h118=>sw1 h118 rfl (v:=ν (AR (Bu F ((Aa F x.p2).2.1) ((Aa F x.p2).2.2) ((Ac F x.p1).2)) A.inc ((Ac F x.p1).2))) (rld h118 rfl rfl (NdP.c1 (F:=FsM.nE (Bu F ((Aa F x.p2).2.1) ((Aa F x.p2).2.2) ((Ac F x.p1).2))) (A:=AdM.nC A.inc) (k:=((Ac F x.p1).2)) (s11.get 1 rfl:NdP _ _ _) (show (Ac F x.p1).2<(Bu F ((Aa F x.p2).2.1) ((Aa F x.p2).2.2) ((Ac F x.p1).2)).N.length from ω) υ3 rfl)) fun _ h119=>bv h119 (z:=ν (AR (Bu F ((Aa F x.p2).2.1) ((Aa F x.p2).2.2) ((Ac F x.p1).2)) A.inc ((Ac F x.p1).2)+1)) rfl (Dx _ _ _ ω ω ω) fun _ h120=>mv h120 rfl fun _ h121=>sv1 h121 rfl (v:=.pointer (some ⟨(A.ad (Ac F x.p1).2),1,none⟩)) (rfa h121 rfl rfl (fun w=>Bk (A.ad (Ac F x.p1).2) 0 w)) fun _ h122=>so (wn rfl) fun _ hK25=>Ef (F:=(Bu F ((Aa F x.p2).2.1) ((Aa F x.p2).2.2) ((Ac F x.p1).2))) (A:=A.inc) (F':=(BE (Bu F ((Aa F x.p2).2.1) ((Aa F x.p2).2.2) ((Ac F x.p1).2)) ((Ac F x.p1).2) 1)) (A':=A.inc) (k:=((Ac F x.p1).2)) (off:=1) h122 rfl rfl s11 1 rfl rfl rfl rfl rfl κ ω (by decide) (Io (i:=1) (ω:(Ac F x.p1).2<(Bu F ((Aa F x.p2).2.1) ((Aa F x.p2).2.2) ((Ac F x.p1).2)).N.length) hc4 (by rw [Ea (F:=(Bu F ((Aa F x.p2).2.1) ((Aa F x.p2).2.2) ((Ac F x.p1).2))) hc4])) (cs':=[Ah cf 65 [π (A.ad 0),.map (some ob)],Av (BE (Bu F ((Aa F x.p2).2.1) ((Aa F x.p2).2.2) ((Ac F x.p1).2)) ((Ac F x.p1).2) 1) A.inc,AM KO ob A.C (opG F A),Ak 0 9 1 pax63 L60.length pcx64 (L60.flatMap sE),Ak 0 9 1 pax33 L30.length pcx34 (L30.flatMap sE),Ah g1 37 zL,Ah g4 30 (cL x),Ch.many R]) rfl fun _ w12 h123 s12=>hK25 _ _ ?_
         refine h123.sn [9,14,13,12,11,10,7,6,5,0,2] rfl fun h124=>hK24 _ _<|sqr fun _ hK26=>bu h124 (v:=.agg zL.toArray) rfl (fun w=>κ) fun _ h125=>stA h125 s12 5 rfl rfl rfl κ rfl rfl rfl rfl fun _ w13 h126 s13 _=>h126.sk [100,9,14,13,12,11,10,6,5,0,2] rfl fun h127=>mv h127 rfl fun _ h128=>h128.sn [7,9,14,13,12,11,10,6,5,0,2] rfl fun h129=>hK26 _ _<|wp_ret ?_
         try simp only [Exit.then,Exit.inBlock]
         refine rCt h129 s13 5 υ37 rfl rfl rfl rfl rfl ?_
         have hq5:AQ F x.p1 x.p2=(BE (Bu F (Aa F x.p2).2.1 (Aa F x.p2).2.2 (Ac F x.p1).2) (Ac F x.p1).2 1,Au 0):=by unfold AQ;rw [if_pos (show (Ag x.p1).isSome=true∧(Ag x.p2).isSome=true from ⟨hc1,hc2⟩),if_pos ω,if_neg (show ¬ (F.dir (Ac F x.p1).2=true) from AH hc4),if_neg (show ¬ (x.p2=[47]) from (fun q=>absurd (GA q hL61) ω)),if_pos ω,if_neg (show ¬ ((Ai F.E (Aa F x.p2).2.1 (Aa F x.p2).2.2).isSome=true) from AH hc7),if_neg (show ¬ ((F.at (Ac F x.p1).2).links=20) from (fun q=>absurd ((Ea (A:=A) hc4).trans q) (ω:¬ AR F A ((Ac F x.p1).2)=20)))]
         rw [hq5]
         exact ⟨A.inc,none,0,rfl,(Sep.tail_un (xs:=[_,_,_]) (s13.pk [0,1,2,7] rfl)).ownNil 0 9 1,hA.link _ _ ω hc4⟩
      ·skip
       have hp7:¬ ((Aa F x.p2).1=0):=(dF hc6)
       refine cl h68 rfl BD (Gl (cf:=cf) (A:=A) (F:=F) s4 hok hz0 ω ω) fun _ v5 w14 r5 h130=>?_
       obtain ⟨rfl,s14⟩:=r5
       refine mvs 6 h130 rfl fun _ h131=>h131.sk [14,13,65,64,63,58,62,61,60,59,12,11,10,7,6,5,0,2] rfl fun h132=>mv h132 rfl fun _ h133=>h133.sn [9,14,13,12,11,10,7,6,5,0,2] rfl fun h134=>hK15 _ _<|sq fun _ hK27=>wp_block ?_
       refine sqr fun _ hK28=>mv h134 rfl fun _ h135=>bv h135 rfl (cNe _ _ _ _ (decide_eq_true ω)) fun _ h136=>mv h136 rfl fun _ h137=>h137.sn [66,9,14,13,12,11,10,7,6,5,0,2] rfl fun h138=>hK28 _ _<|wcT h138 rfl rfl<|h138.sk [9,14,13,12,11,10,7,6,5,0,2] rfl fun h139=>sqr fun _ hK29=>bu h139 (v:=.agg zL.toArray) rfl (fun w=>κ) fun _ h140=>?_
       refine mv h140 rfl fun _ h141=>stA h141 s14 5 rfl rfl rfl κ rfl rfl rfl rfl fun _ w15 h142 s15 _=>h142.sk [70,69,9,14,13,12,11,10,6,5,0,2] rfl fun h143=>mv h143 rfl fun _ h144=>h144.sn [7,9,14,13,12,11,10,6,5,0,2] rfl fun h145=>hK29 _ _<|wp_ret ?_
       try simp only [Exit.then,Exit.inBlock]
       refine rCt h145 s15 5 υ37 rfl rfl rfl rfl rfl ?_
       have hq6:AQ F x.p1 x.p2=(F,Au (Aa F x.p2).1):=by unfold AQ;rw [if_pos (show (Ag x.p1).isSome=true∧(Ag x.p2).isSome=true from ⟨hc1,hc2⟩),if_pos ω,if_neg (show ¬ (F.dir (Ac F x.p1).2=true) from AH hc4),if_neg (show ¬ (x.p2=[47]) from (fun q=>absurd (GA q hL61) ω)),if_neg ω]
       rw [hq6]
       exact ⟨A,none,0,rfl,(Sep.tail_un (xs:=[_,_,_]) (s15.pk [0,1,2,7] rfl)).ownNil 0 9 1,hA.mono⟩
   ·skip
    have hp8:¬ ((Ac F x.p1).1=0):=(dF hc3)
    refine cl h30 rfl AZ (Fa (cf:=cf) (A:=A) (F:=F) (s3.pk [4,5,6,0,1,2,3,7] rfl) hok hz0 ω ω) fun _ v6 w16 r6 h146=>?_
    obtain ⟨rfl,s16⟩:=r6
    refine mvs 4 h146 rfl fun _ h147=>h147.sk [12,40,39,34,38,37,36,35,11,10,7,6,5,0,2] rfl fun h148=>mv h148 rfl fun _ h149=>h149.sn [9,12,11,10,7,6,5,0,2] rfl fun h150=>hK8 _ _<|sq fun _ hK30=>wp_block ?_
    refine sqr fun _ hK31=>mv h150 rfl fun _ h151=>bv h151 rfl (cNe _ _ _ _ (decide_eq_true ω)) fun _ h152=>mv h152 rfl fun _ h153=>h153.sn [41,9,12,11,10,7,6,5,0,2] rfl fun h154=>hK31 _ _<|wcT h154 rfl rfl<|h154.sk [9,12,11,10,7,6,5,0,2] rfl fun h155=>sqr fun _ hK32=>bu h155 (v:=.agg zL.toArray) rfl (fun w=>κ) fun _ h156=>?_
    refine mv h156 rfl fun _ h157=>stA h157 s16 5 rfl rfl rfl κ rfl rfl rfl rfl fun _ w17 h158 s17 _=>h158.sk [45,44,9,12,11,10,6,5,0,2] rfl fun h159=>mv h159 rfl fun _ h160=>h160.sn [7,9,12,11,10,6,5,0,2] rfl fun h161=>hK32 _ _<|wp_ret ?_
    try simp only [Exit.then,Exit.inBlock]
    refine rCt h161 s17 5 υ37 rfl rfl rfl rfl rfl ?_
    have hq7:AQ F x.p1 x.p2=(F,Au (Ac F x.p1).1):=bx
    rw [hq7]
    exact ⟨A,none,0,rfl,(Sep.tail_un (xs:=[_,_,_]) (s17.pk [0,1,2,7] rfl)).ownNil 0 9 1,hA.mono⟩
  ·skip
   refine cl h15 rfl Cd (Hc (X:=x.p2) s2 ω (AI hc2)) fun _ v7 w18 r7 h162=>?_
   obtain ⟨pax478,pcx479,rfl,s18⟩:=r7
   refine mvs 5 h162 rfl fun _ h163=>h163.sn [11,10,9,7,6,5,0,2] rfl fun h164=>hK5 _ _<|sq fun _ hK33=>sqr fun _ hK34=>mv h164 rfl fun _ h165=>bv h165 rfl (cNe _ _ _ _ rfl) fun _ h166=>mv h166 rfl fun _ h167=>sv h167 (wF h167 (E:=false) rfl rfl rfl) rfl rfl rfl (Ap h167 rfl rfl) fun _ h168=>sv h168 (wF h168 (E:=false) rfl rfl rfl) rfl rfl rfl (BG h168 rfl rfl rfl (cNe _ _ _ _ rfl)) fun _ h169=>sv1 h169 rfl (Ed h169 rfl rfl rfl) fun _ h170=>?_
   refine h170.sn [32,11,10,9,7,6,5,0,2] rfl fun h171=>hK34 _ _<|wcT h171 rfl rfl<|h171.sk [11,10,9,7,6,5,0,2] rfl fun h172=>sqr fun _ hK35=>bu h172 (v:=.agg zL.toArray) rfl (fun w=>κ) fun _ h173=>stA h173 s18 1 rfl rfl rfl κ rfl rfl rfl rfl fun _ w19 h174 s19 _=>h174.sk [33,11,10,9,6,5,0,2] rfl fun h175=>mv h175 rfl fun _ h176=>h176.sk [7,11,10,9,6,5,0,2] rfl fun h177=>?_
   refine wpList_nil<|hK35 _ _<|wp_ret ?_
   try simp only [Exit.then,Exit.inBlock]
   refine rCt h177 s19 1 υ37 rfl rfl rfl rfl rfl ?_
   have hq8:AQ F x.p1 x.p2=(F,Au 15):=by unfold AQ;rw [if_neg (show ¬ ((Ag x.p1).isSome=true∧(Ag x.p2).isSome=true) from (fun q=>AH hc2 q.2))]
   rw [hq8]
   exact ⟨A,none,0,rfl,(Sep.tail_un (xs:=[_,_,_]) (s19.pk [3,4,5,6] rfl)).ownNil 0 9 1,hA.mono⟩
 ·skip
  refine cl h9 rfl Cd (Hc (X:=x.p1) s1 ω (AI hc1)) fun _ v8 w20 r8 h178=>?_
  obtain ⟨pax529,pcx530,rfl,s20⟩:=r8
  refine mvs 5 h178 rfl fun _ h179=>h179.sn [9,7,6,5,0,2] rfl fun h180=>hK4 _ _<|sqr fun _ hK36=>fav h180 rfl (AS _ _) fun _ h181=>ldv h181 s20 1 υ9 rfl rfl rfl rfl fun _ h182=>?_
  rcases bC ((Ag x.p2).isSome) with hc9 | hc9
  ·skip
   obtain ⟨L556,hL557⟩:=Option.isSome_iff_exists.1 hc9
   have h183:=Dj hL557
   refine cl h182 rfl Cd (Fk (X:=x.p2) s20 ω hL557) fun _ v9 w21 r9 h184=>?_
   obtain ⟨pax559,pcx560,rfl,s21⟩:=r9
   refine mvs 5 h184 rfl fun _ h185=>h185.sn [11,10,9,7,6,5,0,2] rfl fun h186=>hK36 _ _<|sq fun _ hK37=>sqr fun _ hK38=>mv h186 rfl fun _ h187=>bv h187 rfl (cNe _ _ _ _ rfl) fun _ h188=>mv h188 rfl fun _ h189=>su h189 (wF h189 (E:=true) rfl rfl rfl) rfl rfl rfl fun _ h190=>su h190 (wF h190 (E:=true) rfl rfl rfl) rfl rfl rfl fun _ h191=>sv1 h191 rfl (Ed h191 rfl rfl rfl) fun _ h192=>?_
   refine h192.sn [32,11,10,9,7,6,5,0,2] rfl fun h193=>hK38 _ _<|wcT h193 rfl rfl<|h193.sk [11,10,9,7,6,5,0,2] rfl fun h194=>sqr fun _ hK39=>bu h194 (v:=.agg zL.toArray) rfl (fun w=>κ) fun _ h195=>stA h195 s21 1 rfl rfl rfl κ rfl rfl rfl rfl fun _ w22 h196 s22 _=>h196.sk [33,11,10,9,6,5,0,2] rfl fun h197=>mv h197 rfl fun _ h198=>h198.sk [7,11,10,9,6,5,0,2] rfl fun h199=>?_
   refine wpList_nil<|hK39 _ _<|wp_ret ?_
   try simp only [Exit.then,Exit.inBlock]
   refine rCt h199 s22 1 υ37 rfl rfl rfl rfl rfl ?_
   have hq9:AQ F x.p1 x.p2=(F,Au 15):=by unfold AQ;rw [if_neg (show ¬ ((Ag x.p1).isSome=true∧(Ag x.p2).isSome=true) from (fun q=>AH hc1 q.1))]
   rw [hq9]
   exact ⟨A,none,0,rfl,(Sep.tail_un (xs:=[_,_,_]) (s22.pk [3,4,5,6] rfl)).ownNil 0 9 1,hA.mono⟩
  ·skip
   refine cl h182 rfl Cd (Hc (X:=x.p2) s20 ω (AI hc9)) fun _ v10 w23 r10 h200=>?_
   obtain ⟨pax610,pcx611,rfl,s23⟩:=r10
   refine mvs 5 h200 rfl fun _ h201=>h201.sn [11,10,9,7,6,5,0,2] rfl fun h202=>hK36 _ _<|sq fun _ hK40=>sqr fun _ hK41=>mv h202 rfl fun _ h10=>bv h10 rfl (cNe _ _ _ _ rfl) fun _ h203=>mv h203 rfl fun _ h204=>su h204 (wF h204 (E:=true) rfl rfl rfl) rfl rfl rfl fun _ h205=>su h205 (wF h205 (E:=true) rfl rfl rfl) rfl rfl rfl fun _ h206=>sv1 h206 rfl (Ed h206 rfl rfl rfl) fun _ h207=>?_
   refine h207.sn [32,11,10,9,7,6,5,0,2] rfl fun h208=>hK41 _ _<|wcT h208 rfl rfl<|h208.sk [11,10,9,7,6,5,0,2] rfl fun h209=>sqr fun _ hK42=>bu h209 (v:=.agg zL.toArray) rfl (fun w=>κ) fun _ h210=>stA h210 s23 0 rfl rfl rfl κ rfl rfl rfl rfl fun _ w24 h211 s24 _=>h211.sk [33,11,10,9,6,5,0,2] rfl fun h212=>mv h212 rfl fun _ h213=>h213.sk [7,11,10,9,6,5,0,2] rfl fun h214=>?_
   refine wpList_nil<|hK42 _ _<|wp_ret ?_
   try simp only [Exit.then,Exit.inBlock]
   refine rCt h214 s24 0 υ37 rfl rfl rfl rfl rfl ?_
   have hq10:AQ F x.p1 x.p2=(F,Au 15):=by unfold AQ;rw [if_neg (show ¬ ((Ag x.p1).isSome=true∧(Ag x.p2).isSome=true) from (fun q=>AH hc1 q.1))]
   rw [hq10]
   exact ⟨A,none,0,rfl,(Sep.tail_un (xs:=[_,_,_]) (s24.pk [2,3,4,5] rfl)).ownNil 0 9 1,hA.mono⟩
theorem Qp {w:World} {cf ob n:Nat} {F:FsM} {A:AdM} {R:List Ch} {c:Int} {x:CallM} (hS0:Sep w ((cP cf ob F A)++R)) (hfo:FsOk F) (hA:AdOk F A n) (hn:n≤900) (hs:SmS F) (h1:x.p1.length≤1000) (h2:x.p2.length≤1000) (h3:x.data.length≤1000) (hwx:wfD (c,x.fd)) (hcl:1≤c∧c≤8) :
  CallsR Tryz.prog 59 #[π cf,ν c,.agg (cL x).toArray] w (fun v w'=>∃ A' sa sc,v=.tuple #[Du (r0 (Ci F x.p1).2) sa sc,ν (Ci F x.p1).2.e]∧Sep w' (Ak 0 9 1 sa (Ci F x.p1).2.names.length sc ((Ci F x.p1).2.names.flatMap sE)::(cP cf ob ((Ci F x.p1).1) A')++R)∧AdOk (Ci F x.p1).1 A' (n+1)):=by
 have hS:=Sep.tail_many (xs:=cP cf ob F A) hS0;clear hS0
 have hz:SmF F:=hs.sm;have hok:=hfo.toFsC
 have hz0:=hz;obtain ⟨hz1,hz2,hz3⟩:F.N.length≤1000∧F.E.length≤1000∧F.O.length≤1000:=hz
 refine AB Tryz.func59 rfl (N:=48) Tryz.ntmps59 (by show 3≤48;decide) [(0,π cf),(1,ν c),(2,.agg (cL x).toArray)] rfl fun _ h1=>sqr fun _ hK3=>so (wn rfl) fun _ hK1=>Cv h1 rfl rfl rfl rfl rfl (z:=(cL x)) rfl hS fun _ g4 w7 h5 s8 _ _=>hK1 _ _ ?_
 refine so (wn rfl) fun _ hK2=>BB h5 rfl rfl rfl rfl (z:=zL) (fun _=>rfl) s8 fun _ g1 w2 h4 s1 _ _=>hK2 _ _ ?_
 refine mv h4 rfl fun _ h6=>h6.sk [7,6,5,0,2] rfl fun h7=>?_
 clear h1
 refine wpList_nil<|hK3 _ _<|sqr fun _ hK4=>mv h7 rfl fun _ h8=>fav h8 rfl (An _ _) fun _ h9=>ldv h9 s1 1 υ9 rfl rfl rfl rfl fun _ h10=>?_
 rcases bC (decide ((Ac F x.p1).1=0)) with hc1 | hc1
 ·skip
  have hp1:(Ac F x.p1).1=0:=(dT hc1)
  have hfl32:=FsC.find_lt (F:=F) hok x.p1
  refine cl h10 rfl AZ (Es (cf:=cf) (A:=A) (F:=F) (s1.pk [2,3,4,0,1,5] rfl) hok hz0 ω ω) fun _ v1 w3 r1 h11=>?_
  obtain ⟨rfl,s2⟩:=r1
  refine mvs 5 h11 rfl fun _ h12=>h12.sn [9,8,7,6,5,0,2] rfl fun h13=>hK4 _ _<|sq fun _ hK5=>sqr fun _ hK6=>mv h13 rfl fun _ h14=>bv h14 rfl (cNe _ _ _ _ rfl) fun _ h15=>h15.sn [19,9,8,7,6,5,0,2] rfl fun h16=>hK6 _ _<|wcF h16 rfl rfl<|h16.sk [9,8,7,6,5,0,2] rfl fun h17=>?_
  refine wp_skip<|hK5 _ _<|sqr fun _ hK7=>mvs 2 h17 rfl fun _ h18=>sv1 h18 rfl (rfa h18 rfl rfl (fun w=>Bl (A.ad (Ac F x.p1).2) 0 w)) fun _ h19=>sw1 h19 rfl (rld h19 rfl rfl (NdP.c2 (F:=FsM.nE F) (A:=AdM.nC A) (k:=((Ac F x.p1).2)) (s2.get 1 rfl:NdP _ _ _) (show (Ac F x.p1).2<F.N.length from ω) υ9 rfl)) fun _ h20=>sv1 h20 rfl (CH h20 rfl rfl υ9) fun _ h21=>mv h21 rfl fun _ h22=>h22.sn [10,9,8,7,6,5,0,2] rfl fun h23=>hK7 _ _<|sq fun _ hK8=>sq fun _ hK9=>wp_region_lit ?_
  refine mvs 2 h23 rfl fun _ h24=>sv1 h24 rfl (rfa h24 rfl rfl (fun w=>Ay (A.ad (Ac F x.p1).2) 0 w)) fun _ h25=>sw1 h25 rfl (rld h25 rfl rfl (NdP.c0 (F:=FsM.nE F) (A:=AdM.nC A) (k:=((Ac F x.p1).2)) (s2.get 1 rfl:NdP _ _ _) (show (Ac F x.p1).2<F.N.length from ω) υ3 rfl)) fun _ h26=>bv h26 (z:=.bool (F.dir ((Ac F x.p1).2))) rfl (cEq _ _ _ _ (GZ _)) fun _ h27=>h27.sn [31,10,9,8,7,6,5,0,2] rfl fun h28=>hK9 _ _ ?_
  rcases bC (F.dir ((Ac F x.p1).2)) with hc2 | hc2
  ·skip
   refine wcT h28 rfl hc2<|h28.sk [10,9,8,7,6,5,0,2] rfl fun h29=>wp_region_lit<|mvs 2 h29 rfl fun _ h30=>sv1 h30 rfl (rfa h30 rfl rfl (fun w=>AF (A.ad (Ac F x.p1).2) 0 w)) fun _ h31=>sw1 h31 rfl (rld h31 rfl rfl (NdP.c3 (F:=FsM.nE F) (A:=AdM.nC A) (k:=((Ac F x.p1).2)) (s2.get 1 rfl:NdP _ _ _) (show (Ac F x.p1).2<F.N.length from ω) hc2 υ95 rfl)) fun _ h32=>sw1 h32 rfl (NJ (F:=F) (A:=A) (k:=((Ac F x.p1).2)) h32 rfl rfl (s2.get 1 rfl:NdP _ _ _) hok ω hc2) fun _ h33=>h33.sk [36,35,34,33,32,9,8,7,6,5,0,2] rfl fun h34=>mv h34 rfl fun _ h35=>h35.sk [10,9,8,7,6,5,0,2] rfl fun h36=>?_
   refine wpList_nil<|hK8 _ _<|sq fun _ hK10=>?_
   have s3:=s2.drew
   refine wp_region_held_drew (S:=fun w'=>Sep w' [Ah cf 65 [π (A.ad 0),.map (some ob)],Av F A,AM KO ob A.C (opG F A),Ah g4 30 (cL x),Ch.many R]) κ (s3.pk [0,1,2,4,5] rfl) (fun hq1=>?_)
   refine tv1 hq1 h36 0 rfl rfl (v:=π (A.ad (Ac F x.p1).2)) (fun w1 _=>(Ap h36 rfl rfl) w1) fun _ h37=>?_
   refine tv1 hq1 h37 1 rfl rfl (v:=π (A.ad (Ac F x.p1).2)) (fun w1 _=>(Cu h37 rfl rfl) w1) fun _ h38=>?_
   refine tv1 hq1 h38 2 rfl rfl (v:=π (A.ad (Ac F x.p1).2)) (fun w1 _=>(rfa h38 rfl rfl (fun w=>Ay (A.ad (Ac F x.p1).2) 0 w)) w1) fun _ h39=>?_
   refine tv1 hq1 h39 4 rfl rfl (v:=π (A.ad (Ac F x.p1).2)) (fun w1 _=>(Ap h39 rfl rfl) w1) fun _ h40=>?_
   refine tv1 hq1 h40 5 rfl rfl (v:=π (A.ad (Ac F x.p1).2)) (fun w1 _=>(Cu h40 rfl rfl) w1) fun _ h41=>?_
   refine tv1 hq1 h41 6 rfl rfl (v:=.pointer (some ⟨(A.ad (Ac F x.p1).2),1,none⟩)) (fun w1 _=>(rfa h41 rfl rfl (fun w=>Bk (A.ad (Ac F x.p1).2) 0 w)) w1) fun _ h42=>?_
   refine tv1 hq1 h42 8 rfl rfl (v:=ν ((BH F.E ((Ac F x.p1).2):Nat):Int)) (fun w1 _=>(Ap h42 rfl rfl) w1) fun _ h43=>?_
   refine wpAnyH_ready (rs:=[3,7]) κ (by simp) (toc rfl (wn rfl) (fun K1 hK11=>?_) (toc rfl (wn rfl) (fun K1 hK11=>?_) AllReadyH.nil))
   ·skip
    refine Br h43 rfl rfl rfl (v:=ν (AP (F.dir ((Ac F x.p1).2)))) (w':=w3.drew) ((rld h43 rfl rfl (NdP.c0 (F:=FsM.nE F) (A:=AdM.nC A) (k:=((Ac F x.p1).2)) (s3.get 1 rfl:NdP _ _ _) (show (Ac F x.p1).2<F.N.length from ω) υ3 rfl))) fun _ h44=>hK11 _ _ (s3.pk [0,1,2,4,5] rfl) fun hq2=>?_
    refine to_ 7 rfl (wn rfl) κ fun _ hK12=>Br h44 rfl rfl rfl (v:=ν (AR F A ((Ac F x.p1).2))) (w':=w3.drew) ((rld h44 rfl rfl (NdP.c1 (F:=FsM.nE F) (A:=AdM.nC A) (k:=((Ac F x.p1).2)) (s3.get 1 rfl:NdP _ _ _) (show (Ac F x.p1).2<F.N.length from ω) υ3 rfl))) fun _ h45=>hK12 _ _ (s3.pk [0,1,2,4,5] rfl) fun hq3=>?_
    refine tv1 hq3 h45 9 rfl rfl (v:=.agg #[ν (AP (F.dir ((Ac F x.p1).2))),ν (AR F A ((Ac F x.p1).2)),ν ((BH F.E ((Ac F x.p1).2):Nat):Int)]) (fun w1 _=>(CP h45 (xs:=[(0,.tmp 40),(1,.tmp 44),(2,.tmp 45)]) rfl (vs:=[(0,ν (AP (F.dir ((Ac F x.p1).2)))),(1,ν (AR F A ((Ac F x.p1).2))),(2,ν ((BH F.E ((Ac F x.p1).2):Nat):Int))]) rfl (fun w=>κ)) w1) fun _ h46=>?_
    refine tv1 hq3 h46 10 rfl rfl (v:=.agg #[ν 0,ν 0,σ [],.slice none 0 0,ν (AP (F.dir ((Ac F x.p1).2))),ν (AR F A ((Ac F x.p1).2)),ν ((BH F.E ((Ac F x.p1).2):Nat):Int)]) (fun w1 _=>(CP h46 (xs:=[(4,.tmp 46)]) rfl (vs:=[(4,.agg #[ν (AP (F.dir ((Ac F x.p1).2))),ν (AR F A ((Ac F x.p1).2)),ν ((BH F.E ((Ac F x.p1).2):Nat):Int)])]) rfl (fun w=>κ)) w1) fun _ h47=>?_
    refine to_ 11 rfl (wn rfl) κ fun _ hK13=>CQ h47 rfl rfl s3 3 rfl rfl rfl [ν 0,ν 0,σ [],.slice none 0 0,ν (AP (F.dir ((Ac F x.p1).2))),ν (AR F A ((Ac F x.p1).2)),ν ((BH F.E ((Ac F x.p1).2):Nat):Int)] rfl κ rfl (by show 0+7≤7;decide) (L':=[ν 0,ν 0,σ [],.slice none 0 0,ν (AP (F.dir ((Ac F x.p1).2))),ν (AR F A ((Ac F x.p1).2)),ν ((BH F.E ((Ac F x.p1).2):Nat):Int)]) rfl (cs':=[Ah cf 65 [π (A.ad 0),.map (some ob)],Av F A,AM KO ob A.C (opG F A),Ah g1 37 [ν 0,ν 0,σ [],.slice none 0 0,ν (AP (F.dir ((Ac F x.p1).2))),ν (AR F A ((Ac F x.p1).2)),ν ((BH F.E ((Ac F x.p1).2):Nat):Int)],Ah g4 30 (cL x),Ch.many R]) rfl fun _ w4 h48 s4 _=>?_
    refine hK13 _ _ (s4.pk [0,1,2,4,5] rfl) fun hq4=>h48.sk [47,46,44,40,45,43,42,41,39,38,37,10,9,8,6,5,0,2] rfl fun h49=>?_
    refine tv1 hq4 h49 12 rfl rfl (v:=ν 0) (fun w1 _=>(BJ h49 rfl rfl) w1) fun _ h50=>?_
    refine h50.sk [7,10,9,8,6,5,0,2] rfl fun h51=>?_
    refine wpAnyH_done κ ?_ _
    refine hK10 _ _ ?_
    refine wp_ret ?_
    try simp only [Exit.then,Exit.inBlock]
    refine rCt h51 s4 3 υ37 rfl rfl rfl rfl rfl ?_
    have hq5:Ci F x.p1=(F,Jw 2 1 (BH F.E (Ac F x.p1).2)):=bx
    rw [hq5]
    exact ⟨A,none,0,(by rw [hc2,JK hA hc2 (Ka hok ω)];rfl),(Sep.tail_un (xs:=[_,_,_]) (s4.pk [0,1,2,5] rfl)).ownNil 0 9 1,hA.mono⟩
   ·skip
    refine Br h43 rfl rfl rfl (v:=ν (AR F A ((Ac F x.p1).2))) (w':=w3.drew) ((rld h43 rfl rfl (NdP.c1 (F:=FsM.nE F) (A:=AdM.nC A) (k:=((Ac F x.p1).2)) (s3.get 1 rfl:NdP _ _ _) (show (Ac F x.p1).2<F.N.length from ω) υ3 rfl))) fun _ h52=>hK11 _ _ (s3.pk [0,1,2,4,5] rfl) fun hq6=>?_
    refine to_ 3 rfl (wn rfl) κ fun _ hK14=>Br h52 rfl rfl rfl (v:=ν (AP (F.dir ((Ac F x.p1).2)))) (w':=w3.drew) ((rld h52 rfl rfl (NdP.c0 (F:=FsM.nE F) (A:=AdM.nC A) (k:=((Ac F x.p1).2)) (s3.get 1 rfl:NdP _ _ _) (show (Ac F x.p1).2<F.N.length from ω) υ3 rfl))) fun _ h53=>hK14 _ _ (s3.pk [0,1,2,4,5] rfl) fun hq7=>?_
    refine tv1 hq7 h53 9 rfl rfl (v:=.agg #[ν (AP (F.dir ((Ac F x.p1).2))),ν (AR F A ((Ac F x.p1).2)),ν ((BH F.E ((Ac F x.p1).2):Nat):Int)]) (fun w1 _=>(CP h53 (xs:=[(0,.tmp 40),(1,.tmp 44),(2,.tmp 45)]) rfl (vs:=[(0,ν (AP (F.dir ((Ac F x.p1).2)))),(1,ν (AR F A ((Ac F x.p1).2))),(2,ν ((BH F.E ((Ac F x.p1).2):Nat):Int))]) rfl (fun w=>κ)) w1) fun _ h54=>?_
    refine tv1 hq7 h54 10 rfl rfl (v:=.agg #[ν 0,ν 0,σ [],.slice none 0 0,ν (AP (F.dir ((Ac F x.p1).2))),ν (AR F A ((Ac F x.p1).2)),ν ((BH F.E ((Ac F x.p1).2):Nat):Int)]) (fun w1 _=>(CP h54 (xs:=[(4,.tmp 46)]) rfl (vs:=[(4,.agg #[ν (AP (F.dir ((Ac F x.p1).2))),ν (AR F A ((Ac F x.p1).2)),ν ((BH F.E ((Ac F x.p1).2):Nat):Int)])]) rfl (fun w=>κ)) w1) fun _ h55=>?_
    refine to_ 11 rfl (wn rfl) κ fun _ hK15=>CQ h55 rfl rfl s3 3 rfl rfl rfl [ν 0,ν 0,σ [],.slice none 0 0,ν (AP (F.dir ((Ac F x.p1).2))),ν (AR F A ((Ac F x.p1).2)),ν ((BH F.E ((Ac F x.p1).2):Nat):Int)] rfl κ rfl (by show 0+7≤7;decide) (L':=[ν 0,ν 0,σ [],.slice none 0 0,ν (AP (F.dir ((Ac F x.p1).2))),ν (AR F A ((Ac F x.p1).2)),ν ((BH F.E ((Ac F x.p1).2):Nat):Int)]) rfl (cs':=[Ah cf 65 [π (A.ad 0),.map (some ob)],Av F A,AM KO ob A.C (opG F A),Ah g1 37 [ν 0,ν 0,σ [],.slice none 0 0,ν (AP (F.dir ((Ac F x.p1).2))),ν (AR F A ((Ac F x.p1).2)),ν ((BH F.E ((Ac F x.p1).2):Nat):Int)],Ah g4 30 (cL x),Ch.many R]) rfl fun _ w5 h56 s5 _=>?_
    refine hK15 _ _ (s5.pk [0,1,2,4,5] rfl) fun hq8=>h56.sk [47,46,40,44,45,43,42,41,39,38,37,10,9,8,6,5,0,2] rfl fun h57=>?_
    refine tv1 hq8 h57 12 rfl rfl (v:=ν 0) (fun w1 _=>(BJ h57 rfl rfl) w1) fun _ h58=>?_
    refine h58.sk [7,10,9,8,6,5,0,2] rfl fun h59=>?_
    refine wpAnyH_done κ ?_ _
    refine hK10 _ _ ?_
    refine wp_ret ?_
    try simp only [Exit.then,Exit.inBlock]
    refine rCt h59 s5 3 υ37 rfl rfl rfl rfl rfl ?_
    have hq9:Ci F x.p1=(F,Jw 2 1 (BH F.E (Ac F x.p1).2)):=bx
    rw [hq9]
    exact ⟨A,none,0,(by rw [hc2,JK hA hc2 (Ka hok ω)];rfl),(Sep.tail_un (xs:=[_,_,_]) (s5.pk [0,1,2,5] rfl)).ownNil 0 9 1,hA.mono⟩
  ·skip
   refine wcF h28 rfl hc2<|h28.sk [10,9,8,7,6,5,0,2] rfl fun h60=>wp_skip<|hK8 _ _<|sq fun _ hK16=>?_
   have s6:=s2.drew
   refine wp_region_held_drew (S:=fun w'=>Sep w' [Ah cf 65 [π (A.ad 0),.map (some ob)],Av F A,AM KO ob A.C (opG F A),Ah g4 30 (cL x),Ch.many R]) κ (s6.pk [0,1,2,4,5] rfl) (fun hq10=>?_)
   refine tv1 hq10 h60 0 rfl rfl (v:=π (A.ad (Ac F x.p1).2)) (fun w1 _=>(Ap h60 rfl rfl) w1) fun _ h61=>?_
   refine tv1 hq10 h61 1 rfl rfl (v:=π (A.ad (Ac F x.p1).2)) (fun w1 _=>(Cu h61 rfl rfl) w1) fun _ h62=>?_
   refine tv1 hq10 h62 2 rfl rfl (v:=π (A.ad (Ac F x.p1).2)) (fun w1 _=>(rfa h62 rfl rfl (fun w=>Ay (A.ad (Ac F x.p1).2) 0 w)) w1) fun _ h63=>?_
   refine tv1 hq10 h63 4 rfl rfl (v:=π (A.ad (Ac F x.p1).2)) (fun w1 _=>(Ap h63 rfl rfl) w1) fun _ h64=>?_
   refine tv1 hq10 h64 5 rfl rfl (v:=π (A.ad (Ac F x.p1).2)) (fun w1 _=>(Cu h64 rfl rfl) w1) fun _ h65=>?_
   refine tv1 hq10 h65 6 rfl rfl (v:=.pointer (some ⟨(A.ad (Ac F x.p1).2),1,none⟩)) (fun w1 _=>(rfa h65 rfl rfl (fun w=>Bk (A.ad (Ac F x.p1).2) 0 w)) w1) fun _ h66=>?_
   refine tv1 hq10 h66 8 rfl rfl (v:=ν ((((F.at ((Ac F x.p1).2)).data).length:Nat):Int)) (fun w1 _=>(Ap h66 rfl rfl) w1) fun _ h67=>?_
   refine wpAnyH_ready (rs:=[3,7]) κ (by simp) (toc rfl (wn rfl) (fun K2 hK17=>?_) (toc rfl (wn rfl) (fun K2 hK17=>?_) AllReadyH.nil))
   ·skip
    refine Br h67 rfl rfl rfl (v:=ν (AP (F.dir ((Ac F x.p1).2)))) (w':=w3.drew) ((rld h67 rfl rfl (NdP.c0 (F:=FsM.nE F) (A:=AdM.nC A) (k:=((Ac F x.p1).2)) (s6.get 1 rfl:NdP _ _ _) (show (Ac F x.p1).2<F.N.length from ω) υ3 rfl))) fun _ h68=>hK17 _ _ (s6.pk [0,1,2,4,5] rfl) fun hq11=>?_
    refine to_ 7 rfl (wn rfl) κ fun _ hK18=>Br h68 rfl rfl rfl (v:=ν (AR F A ((Ac F x.p1).2))) (w':=w3.drew) ((rld h68 rfl rfl (NdP.c1 (F:=FsM.nE F) (A:=AdM.nC A) (k:=((Ac F x.p1).2)) (s6.get 1 rfl:NdP _ _ _) (show (Ac F x.p1).2<F.N.length from ω) υ3 rfl))) fun _ h69=>hK18 _ _ (s6.pk [0,1,2,4,5] rfl) fun hq12=>?_
    refine tv1 hq12 h69 9 rfl rfl (v:=.agg #[ν (AP (F.dir ((Ac F x.p1).2))),ν (AR F A ((Ac F x.p1).2)),ν ((((F.at ((Ac F x.p1).2)).data).length:Nat):Int)]) (fun w1 _=>(CP h69 (xs:=[(0,.tmp 40),(1,.tmp 44),(2,.tmp 45)]) rfl (vs:=[(0,ν (AP (F.dir ((Ac F x.p1).2)))),(1,ν (AR F A ((Ac F x.p1).2))),(2,ν ((((F.at ((Ac F x.p1).2)).data).length:Nat):Int))]) rfl (fun w=>κ)) w1) fun _ h70=>?_
    refine tv1 hq12 h70 10 rfl rfl (v:=.agg #[ν 0,ν 0,σ [],.slice none 0 0,ν (AP (F.dir ((Ac F x.p1).2))),ν (AR F A ((Ac F x.p1).2)),ν ((((F.at ((Ac F x.p1).2)).data).length:Nat):Int)]) (fun w1 _=>(CP h70 (xs:=[(4,.tmp 46)]) rfl (vs:=[(4,.agg #[ν (AP (F.dir ((Ac F x.p1).2))),ν (AR F A ((Ac F x.p1).2)),ν ((((F.at ((Ac F x.p1).2)).data).length:Nat):Int)])]) rfl (fun w=>κ)) w1) fun _ h71=>?_
    refine to_ 11 rfl (wn rfl) κ fun _ hK19=>CQ h71 rfl rfl s6 3 rfl rfl rfl [ν 0,ν 0,σ [],.slice none 0 0,ν (AP (F.dir ((Ac F x.p1).2))),ν (AR F A ((Ac F x.p1).2)),ν ((((F.at ((Ac F x.p1).2)).data).length:Nat):Int)] rfl κ rfl (by show 0+7≤7;decide) (L':=[ν 0,ν 0,σ [],.slice none 0 0,ν (AP (F.dir ((Ac F x.p1).2))),ν (AR F A ((Ac F x.p1).2)),ν ((((F.at ((Ac F x.p1).2)).data).length:Nat):Int)]) rfl (cs':=[Ah cf 65 [π (A.ad 0),.map (some ob)],Av F A,AM KO ob A.C (opG F A),Ah g1 37 [ν 0,ν 0,σ [],.slice none 0 0,ν (AP (F.dir ((Ac F x.p1).2))),ν (AR F A ((Ac F x.p1).2)),ν ((((F.at ((Ac F x.p1).2)).data).length:Nat):Int)],Ah g4 30 (cL x),Ch.many R]) rfl fun _ w6 h72 s7 _=>?_
    refine hK19 _ _ (s7.pk [0,1,2,4,5] rfl) fun hq13=>h72.sk [47,46,44,40,45,43,42,41,39,38,37,10,9,8,6,5,0,2] rfl fun h73=>?_
    refine tv1 hq13 h73 12 rfl rfl (v:=ν 0) (fun w1 _=>(BJ h73 rfl rfl) w1) fun _ h74=>?_
    refine h74.sk [7,10,9,8,6,5,0,2] rfl fun h75=>?_
    refine wpAnyH_done κ ?_ _
    refine hK16 _ _ ?_
    refine wp_ret ?_
    try simp only [Exit.then,Exit.inBlock]
    refine rCt h75 s7 3 υ37 rfl rfl rfl rfl rfl ?_
    have hq14:Ci F x.p1=(F,Jw 1 (F.at (Ac F x.p1).2).links (F.at (Ac F x.p1).2).data.length):=bx
    rw [hq14]
    exact ⟨A,none,0,(by rw [hc2,Ea hc2];rfl),(Sep.tail_un (xs:=[_,_,_]) (s7.pk [0,1,2,5] rfl)).ownNil 0 9 1,hA.mono⟩
   ·skip
    refine Br h67 rfl rfl rfl (v:=ν (AR F A ((Ac F x.p1).2))) (w':=w3.drew) ((rld h67 rfl rfl (NdP.c1 (F:=FsM.nE F) (A:=AdM.nC A) (k:=((Ac F x.p1).2)) (s6.get 1 rfl:NdP _ _ _) (show (Ac F x.p1).2<F.N.length from ω) υ3 rfl))) fun _ h76=>hK17 _ _ (s6.pk [0,1,2,4,5] rfl) fun hq15=>?_
    refine to_ 3 rfl (wn rfl) κ fun _ hK20=>Br h76 rfl rfl rfl (v:=ν (AP (F.dir ((Ac F x.p1).2)))) (w':=w3.drew) ((rld h76 rfl rfl (NdP.c0 (F:=FsM.nE F) (A:=AdM.nC A) (k:=((Ac F x.p1).2)) (s6.get 1 rfl:NdP _ _ _) (show (Ac F x.p1).2<F.N.length from ω) υ3 rfl))) fun _ h77=>hK20 _ _ (s6.pk [0,1,2,4,5] rfl) fun hq16=>?_
    refine tv1 hq16 h77 9 rfl rfl (v:=.agg #[ν (AP (F.dir ((Ac F x.p1).2))),ν (AR F A ((Ac F x.p1).2)),ν ((((F.at ((Ac F x.p1).2)).data).length:Nat):Int)]) (fun w1 _=>(CP h77 (xs:=[(0,.tmp 40),(1,.tmp 44),(2,.tmp 45)]) rfl (vs:=[(0,ν (AP (F.dir ((Ac F x.p1).2)))),(1,ν (AR F A ((Ac F x.p1).2))),(2,ν ((((F.at ((Ac F x.p1).2)).data).length:Nat):Int))]) rfl (fun w=>κ)) w1) fun _ h78=>?_
    refine tv1 hq16 h78 10 rfl rfl (v:=.agg #[ν 0,ν 0,σ [],.slice none 0 0,ν (AP (F.dir ((Ac F x.p1).2))),ν (AR F A ((Ac F x.p1).2)),ν ((((F.at ((Ac F x.p1).2)).data).length:Nat):Int)]) (fun w1 _=>(CP h78 (xs:=[(4,.tmp 46)]) rfl (vs:=[(4,.agg #[ν (AP (F.dir ((Ac F x.p1).2))),ν (AR F A ((Ac F x.p1).2)),ν ((((F.at ((Ac F x.p1).2)).data).length:Nat):Int)])]) rfl (fun w=>κ)) w1) fun _ h79=>?_
    refine to_ 11 rfl (wn rfl) κ fun _ hK21=>CQ h79 rfl rfl s6 3 rfl rfl rfl [ν 0,ν 0,σ [],.slice none 0 0,ν (AP (F.dir ((Ac F x.p1).2))),ν (AR F A ((Ac F x.p1).2)),ν ((((F.at ((Ac F x.p1).2)).data).length:Nat):Int)] rfl κ rfl (by show 0+7≤7;decide) (L':=[ν 0,ν 0,σ [],.slice none 0 0,ν (AP (F.dir ((Ac F x.p1).2))),ν (AR F A ((Ac F x.p1).2)),ν ((((F.at ((Ac F x.p1).2)).data).length:Nat):Int)]) rfl (cs':=[Ah cf 65 [π (A.ad 0),.map (some ob)],Av F A,AM KO ob A.C (opG F A),Ah g1 37 [ν 0,ν 0,σ [],.slice none 0 0,ν (AP (F.dir ((Ac F x.p1).2))),ν (AR F A ((Ac F x.p1).2)),ν ((((F.at ((Ac F x.p1).2)).data).length:Nat):Int)],Ah g4 30 (cL x),Ch.many R]) rfl fun _ w8 h80 s9 _=>?_
    refine hK21 _ _ (s9.pk [0,1,2,4,5] rfl) fun hq17=>h80.sk [47,46,40,44,45,43,42,41,39,38,37,10,9,8,6,5,0,2] rfl fun h81=>?_
    refine tv1 hq17 h81 12 rfl rfl (v:=ν 0) (fun w1 _=>(BJ h81 rfl rfl) w1) fun _ h82=>?_
    refine h82.sk [7,10,9,8,6,5,0,2] rfl fun h83=>?_
    refine wpAnyH_done κ ?_ _
    refine hK16 _ _ ?_
    refine wp_ret ?_
    try simp only [Exit.then,Exit.inBlock]
    refine rCt h83 s9 3 υ37 rfl rfl rfl rfl rfl ?_
    have hq18:Ci F x.p1=(F,Jw 1 (F.at (Ac F x.p1).2).links (F.at (Ac F x.p1).2).data.length):=bx
    rw [hq18]
    exact ⟨A,none,0,(by rw [hc2,Ea hc2];rfl),(Sep.tail_un (xs:=[_,_,_]) (s9.pk [0,1,2,5] rfl)).ownNil 0 9 1,hA.mono⟩
 ·skip
  have hp2:¬ ((Ac F x.p1).1=0):=(dF hc1)
  refine cl h10 rfl AZ (Fa (cf:=cf) (A:=A) (F:=F) (s1.pk [2,3,4,0,1,5] rfl) hok hz0 ω ω) fun _ v2 w9 r2 h84=>?_
  obtain ⟨rfl,s10⟩:=r2
  refine mvs 5 h84 rfl fun _ h85=>h85.sn [9,8,7,6,5,0,2] rfl fun h86=>hK4 _ _<|sq fun _ hK22=>sqr fun _ hK23=>mv h86 rfl fun _ h87=>bv h87 rfl (cNe _ _ _ _ (decide_eq_true ω)) fun _ h88=>h88.sn [19,9,8,7,6,5,0,2] rfl fun h89=>hK23 _ _<|wcT h89 rfl rfl<|h89.sk [9,8,7,6,5,0,2] rfl fun h90=>?_
  refine sqr fun _ hK24=>bu h90 (v:=.agg zL.toArray) rfl (fun w=>κ) fun _ h91=>mv h91 rfl fun _ h92=>stA h92 s10 3 rfl rfl rfl κ rfl rfl rfl rfl fun _ w10 h93 s11 _=>h93.sk [21,20,9,8,6,5,0,2] rfl fun h94=>mv h94 rfl fun _ h95=>h95.sn [7,9,8,6,5,0,2] rfl fun h96=>hK24 _ _<|wp_ret ?_
  try simp only [Exit.then,Exit.inBlock]
  refine rCt h96 s11 3 υ37 rfl rfl rfl rfl rfl ?_
  have hq19:Ci F x.p1=(F,Au (Ac F x.p1).1):=bx
  rw [hq19]
  exact ⟨A,none,0,rfl,(Sep.tail_un (xs:=[_,_,_]) (s11.pk [0,1,2,5] rfl)).ownNil 0 9 1,hA.mono⟩
theorem NA {w:World} {cf ob n:Nat} {F:FsM} {A:AdM} {R:List Ch} {c:Int} {x:CallM} (hS0:Sep w ((cP cf ob F A)++R)) (hfo:FsOk F) (hA:AdOk F A n) (hn:n≤900) (hs:SmS F) (h1:x.p1.length≤1000) (h2:x.p2.length≤1000) (h3:x.data.length≤1000) (hwx:wfD (c,x.fd)) (hcl:1≤c∧c≤8) (hfl:x.fl=0) (hf:(Ac F x.p1).1=0) (hk:(Ac F x.p1).2<F.N.length) :
  CallsR Tryz.prog 70 #[π cf,ν c,.agg #[ν x.kind,σ x.p1,σ x.p2,ν 0,ν x.fd,ν x.off,ν x.n,σ x.data],π (A.ad (Ac F x.p1).2)] w (fun v w'=>∃ A' sa sc,v=.tuple #[Du (r0 (AT F c x.p1 x.fl).2) sa sc,ν (AT F c x.p1 x.fl).2.e]∧Sep w' (Ak 0 9 1 sa (AT F c x.p1 x.fl).2.names.length sc ((AT F c x.p1 x.fl).2.names.flatMap sE)::(cP cf ob ((AT F c x.p1 x.fl).1) A')++R)∧AdOk (AT F c x.p1 x.fl).1 A' (n+1)):=by
 have hS:=Sep.tail_many (xs:=cP cf ob F A) hS0;clear hS0
 have hz:SmF F:=hs.sm;have hok:=hfo.toFsC
 have hz0:=hz;obtain ⟨hz1,hz2,hz3⟩:F.N.length≤1000∧F.E.length≤1000∧F.O.length≤1000:=hz
 refine AB Tryz.func70 rfl (N:=43) Tryz.ntmps70 (by show 4≤43;decide) [(0,π cf),(1,ν c),(2,.agg #[ν x.kind,σ x.p1,σ x.p2,ν 0,ν x.fd,ν x.off,ν x.n,σ x.data]),(3,π (A.ad (Ac F x.p1).2))] rfl fun _ h1=>sqr fun _ hK3=>so (wn rfl) fun _ hK1=>Cv h1 rfl rfl rfl rfl rfl (z:=[ν x.kind,σ x.p1,σ x.p2,ν 0,ν x.fd,ν x.off,ν x.n,σ x.data]) rfl hS fun _ g4 w7 h5 s8 _ _=>hK1 _ _ ?_
 refine so (wn rfl) fun _ hK2=>BB h5 rfl rfl rfl rfl (z:=zL) (fun _=>rfl) s8 fun _ g1 w1 h4 s1 _ _=>hK2 _ _ ?_
 refine mv h4 rfl fun _ h6=>wpList_nil<|hK3 _ _<|sq fun _ hK4=>sqr fun _ hK5=>fav h6 rfl (BK _ _) fun _ h7=>ldv h7 s1 1 υ3 rfl rfl rfl rfl fun _ h8=>bv h8 (z:=ν 0) rfl (SZ _ _ _) fun _ h9=>bv h9 rfl (cNe _ _ _ _ rfl) fun _ h10=>h10.sk [15,9,8,6,0,1,2,3] rfl fun h11=>?_
 clear h1
 refine wpList_nil<|hK5 _ _<|wcF h11 rfl rfl<|h11.sk [9,8,6,0,1,2,3] rfl fun h12=>wp_skip<|hK4 _ _<|sq fun _ hK6=>sqr fun _ hK7=>mvs 2 h12 rfl fun _ h13=>sv1 h13 rfl (v:=π (A.ad (Ac F x.p1).2)) (rfa h13 rfl rfl (fun w=>Ay (A.ad (Ac F x.p1).2) 0 w)) fun _ h14=>sw1 h14 rfl (v:=ν (AP (F.dir ((Ac F x.p1).2)))) (rld h14 rfl rfl (NdP.c0 (F:=FsM.nE F) (A:=AdM.nC A) (k:=((Ac F x.p1).2)) (s1.get 3 rfl:NdP _ _ _) (show (Ac F x.p1).2<F.N.length from ω) υ3 rfl)) fun _ h15=>bv h15 (z:=.bool (F.dir ((Ac F x.p1).2))) rfl (cEq _ _ _ _ (GZ _)) fun _ h16=>h16.sk [21,9,8,6,0,1,2,3] rfl fun h17=>?_
 refine wpList_nil<|hK7 _ _ ?_
 rcases bC (F.dir ((Ac F x.p1).2)) with hc1 | hc1
 ·skip
  refine wcT h17 rfl hc1<|h17.sk [9,8,6,0,1,2,3] rfl fun h18=>sqr fun _ hK8=>bu h18 (v:=.agg zL.toArray) rfl (fun w=>κ) fun _ h19=>stA h19 s1 0 rfl rfl rfl κ rfl rfl rfl rfl fun _ w2 h20 s2 _=>h20.sk [22,8,6,0,1,2,3] rfl fun h21=>mv h21 rfl fun _ h22=>h22.sn [9,8,6,0,1,2,3] rfl fun h23=>hK8 _ _<|wp_ret ?_
  try simp only [Exit.then,Exit.inBlock]
  refine rCt h23 s2 0 υ37 rfl rfl rfl rfl rfl ?_
  have hq1:AT F c x.p1 x.fl=(F,Au 13):=bx
  rw [hq1]
  exact ⟨A,none,0,rfl,(Sep.tail_un (xs:=[_,_,_]) (s2.pk [2,3,4,5] rfl)).ownNil 0 9 1,hA.mono⟩
 ·skip
  refine wcF h17 rfl hc1<|h17.sk [9,8,6,0,1,2,3] rfl fun h24=>wp_skip<|hK6 _ _<|sqr fun _ hK9=>mvs 2 h24 rfl fun _ h25=>?_
  rcases bC ((Dm F c).isSome) with hc2 | hc2
  ·skip
   obtain ⟨i1,hfree74⟩:=Option.isSome_iff_exists.1 hc2;have hlt75:=(Dk hfree74).2
   refine cl h25 rfl CT (Jb (cf:=cf) (A:=A) (F:=F) (s1.pk [2,3,4,0,1,5] rfl) hok hz0 hcl hfree74) fun _ v1 w3 r1 h26=>?_
   obtain ⟨rfl,s3⟩:=r1
   refine mvs 5 h26 rfl fun _ h27=>h27.sn [11,10,9,8,6,0,1,2,3] rfl fun h28=>hK9 _ _<|sq fun _ hK10=>sqr fun _ hK11=>mv h28 rfl fun _ h29=>bv h29 rfl (cNe _ _ _ _ rfl) fun _ h30=>h30.sn [30,11,10,9,8,6,0,1,2,3] rfl fun h31=>hK11 _ _<|wcF h31 rfl rfl<|h31.sk [11,10,9,8,6,0,1,2,3] rfl fun h32=>?_
   refine wp_skip<|hK10 _ _<|sqr fun _ hK12=>mvs 2 h32 rfl fun _ h33=>fav h33 rfl (BQ _ _) fun _ h34=>ldv h34 s3 0 υ63 rfl rfl rfl rfl fun _ h35=>mvs 2 h35 rfl fun _ h36=>bu h36 (v:=.agg #[ν c,ν (i1:Int)]) rfl (fun w=>κ) fun _ h37=>mv h37 rfl fun _ h38=>so (wn rfl) fun _ hK13=>NX (F:=F) (A:=A) (F':=(fdF F c (i1:Int) ((Ac F x.p1).2))) (m:=((Ac F x.p1).2)) h38 rfl rfl rfl s3 2 rfl rfl rfl rfl ⟨wf_i64 ω ω,wf_i64 ω ω⟩ (by exact (show A.C<maxLen from LM hA hn)) (Gg (Dk hfree74).1) (cs':=[Ah cf 65 [π (A.ad 0),.map (some ob)],Av F A,AM KO ob (A.C+1) (opG (fdF F c (i1:Int) ((Ac F x.p1).2)) A),Ah g1 37 zL,Ah g4 30 [ν x.kind,σ x.p1,σ x.p2,ν 0,ν x.fd,ν x.off,ν x.n,σ x.data],Ch.many R]) rfl fun _ w4 h39 s4=>hK13 _ _ ?_
   refine h39.sn [11,10,9,8,6,0,1,2,3] rfl fun h40=>hK12 _ _<|sqr fun _ hK14=>mv h40 rfl fun _ h41=>bu h41 (v:=.agg #[ν 0,ν (i1:Int),σ [],.slice none 0 0,ν 0,ν 0,ν 0]) rfl (fun w=>κ) fun _ h42=>stA h42 s4 3 rfl rfl rfl κ rfl rfl rfl rfl fun _ w5 h43 s5 _=>h43.sk [42,41,11,10,8,6,0,1,2,3] rfl fun h44=>mv h44 rfl fun _ h45=>h45.sn [9,11,10,8,6,0,1,2,3] rfl fun h46=>hK14 _ _ ?_
   refine wp_ret ?_
   try simp only [Exit.then,Exit.inBlock]
   refine rCt h46 s5 3 υ37 rfl rfl rfl rfl rfl ?_
   have hq2:AT F c x.p1 x.fl=(fdF F c i1 (Ac F x.p1).2,fdR i1):=bx
   rw [hq2]
   exact ⟨A.inC,none,0,rfl,(Sep.tail_un (xs:=[_,_,_]) (s5.pk [0,1,2,5] rfl)).ownNil 0 9 1,hA.fdc _ _ _⟩
  ·skip
   have hfree142:=AI hc2
   refine cl h25 rfl CT (Kd (cf:=cf) (A:=A) (F:=F) (s1.pk [2,3,4,0,1,5] rfl) hok hz0 hcl hfree142) fun _ v2 w6 r2 h47=>?_
   obtain ⟨rfl,s6⟩:=r2
   refine mvs 5 h47 rfl fun _ h48=>h48.sn [11,10,9,8,6,0,1,2,3] rfl fun h49=>hK9 _ _<|sq fun _ hK15=>sqr fun _ hK16=>mv h49 rfl fun _ h50=>bv h50 rfl (cNe _ _ _ _ rfl) fun _ h51=>h51.sn [30,11,10,9,8,6,0,1,2,3] rfl fun h52=>hK16 _ _<|wcT h52 rfl rfl<|h52.sk [11,10,9,8,6,0,1,2,3] rfl fun h53=>?_
   refine sqr fun _ hK17=>bu h53 (v:=.agg zL.toArray) rfl (fun w=>κ) fun _ h54=>mv h54 rfl fun _ h55=>stA h55 s6 3 rfl rfl rfl κ rfl rfl rfl rfl fun _ w8 h56 s7 _=>h56.sk [32,31,11,10,8,6,0,1,2,3] rfl fun h57=>mv h57 rfl fun _ h58=>h58.sn [9,11,10,8,6,0,1,2,3] rfl fun h59=>hK17 _ _<|wp_ret ?_
   try simp only [Exit.then,Exit.inBlock]
   refine rCt h59 s7 3 υ37 rfl rfl rfl rfl rfl ?_
   have hq3:AT F c x.p1 x.fl=(F,Au 17):=bx
   rw [hq3]
   exact ⟨A,none,0,rfl,(Sep.tail_un (xs:=[_,_,_]) (s7.pk [0,1,2,5] rfl)).ownNil 0 9 1,hA.mono⟩
theorem NB {w:World} {cf ob n:Nat} {F:FsM} {A:AdM} {R:List Ch} {c:Int} {x:CallM} (hS0:Sep w ((cP cf ob F A)++R)) (hfo:FsOk F) (hA:AdOk F A n) (hn:n≤900) (hs:SmS F) (h1:x.p1.length≤1000) (h2:x.p2.length≤1000) (h3:x.data.length≤1000) (hwx:wfD (c,x.fd)) (hcl:1≤c∧c≤8) (hfl:x.fl=1) (hf:(Ac F x.p1).1=0) (hk:(Ac F x.p1).2<F.N.length) :
  CallsR Tryz.prog 70 #[π cf,ν c,.agg #[ν x.kind,σ x.p1,σ x.p2,ν 1,ν x.fd,ν x.off,ν x.n,σ x.data],π (A.ad (Ac F x.p1).2)] w (fun v w'=>∃ A' sa sc,v=.tuple #[Du (r0 (AT F c x.p1 x.fl).2) sa sc,ν (AT F c x.p1 x.fl).2.e]∧Sep w' (Ak 0 9 1 sa (AT F c x.p1 x.fl).2.names.length sc ((AT F c x.p1 x.fl).2.names.flatMap sE)::(cP cf ob ((AT F c x.p1 x.fl).1) A')++R)∧AdOk (AT F c x.p1 x.fl).1 A' (n+1)):=by
 have hS:=Sep.tail_many (xs:=cP cf ob F A) hS0;clear hS0
 have hz:SmF F:=hs.sm;have hok:=hfo.toFsC
 have hz0:=hz;obtain ⟨hz1,hz2,hz3⟩:F.N.length≤1000∧F.E.length≤1000∧F.O.length≤1000:=hz
 refine AB Tryz.func70 rfl (N:=43) Tryz.ntmps70 (by show 4≤43;decide) [(0,π cf),(1,ν c),(2,.agg #[ν x.kind,σ x.p1,σ x.p2,ν 1,ν x.fd,ν x.off,ν x.n,σ x.data]),(3,π (A.ad (Ac F x.p1).2))] rfl fun _ h1=>sqr fun _ hK3=>so (wn rfl) fun _ hK1=>Cv h1 rfl rfl rfl rfl rfl (z:=[ν x.kind,σ x.p1,σ x.p2,ν 1,ν x.fd,ν x.off,ν x.n,σ x.data]) rfl hS fun _ g4 w7 h5 s8 _ _=>hK1 _ _ ?_
 refine so (wn rfl) fun _ hK2=>BB h5 rfl rfl rfl rfl (z:=zL) (fun _=>rfl) s8 fun _ g1 w1 h4 s1 _ _=>hK2 _ _ ?_
 refine mv h4 rfl fun _ h6=>wpList_nil<|hK3 _ _<|sq fun _ hK4=>sqr fun _ hK5=>fav h6 rfl (BK _ _) fun _ h7=>ldv h7 s1 1 υ3 rfl rfl rfl rfl fun _ h8=>bv h8 (z:=ν 0) rfl (Ta _ _ _) fun _ h9=>bv h9 rfl (cNe _ _ _ _ rfl) fun _ h10=>h10.sk [15,9,8,6,0,1,2,3] rfl fun h11=>?_
 clear h1
 refine wpList_nil<|hK5 _ _<|wcF h11 rfl rfl<|h11.sk [9,8,6,0,1,2,3] rfl fun h12=>wp_skip<|hK4 _ _<|sq fun _ hK6=>sqr fun _ hK7=>mvs 2 h12 rfl fun _ h13=>sv1 h13 rfl (rfa h13 rfl rfl (fun w=>Ay (A.ad (Ac F x.p1).2) 0 w)) fun _ h14=>sw1 h14 rfl (rld h14 rfl rfl (NdP.c0 (F:=FsM.nE F) (A:=AdM.nC A) (k:=((Ac F x.p1).2)) (s1.get 3 rfl:NdP _ _ _) (show (Ac F x.p1).2<F.N.length from ω) υ3 rfl)) fun _ h15=>bv h15 (z:=.bool (F.dir ((Ac F x.p1).2))) rfl (cEq _ _ _ _ (GZ _)) fun _ h16=>h16.sk [21,9,8,6,0,1,2,3] rfl fun h17=>?_
 refine wpList_nil<|hK7 _ _ ?_
 rcases bC (F.dir ((Ac F x.p1).2)) with hc1 | hc1
 ·skip
  refine wcT h17 rfl hc1<|h17.sk [9,8,6,0,1,2,3] rfl fun h18=>sqr fun _ hK8=>bu h18 (v:=.agg zL.toArray) rfl (fun w=>κ) fun _ h19=>stA h19 s1 0 rfl rfl rfl κ rfl rfl rfl rfl fun _ w2 h20 s2 _=>h20.sk [22,8,6,0,1,2,3] rfl fun h21=>mv h21 rfl fun _ h22=>h22.sn [9,8,6,0,1,2,3] rfl fun h23=>hK8 _ _<|wp_ret ?_
  try simp only [Exit.then,Exit.inBlock]
  refine rCt h23 s2 0 υ37 rfl rfl rfl rfl rfl ?_
  have hq1:AT F c x.p1 x.fl=(F,Au 13):=bx
  rw [hq1]
  exact ⟨A,none,0,rfl,(Sep.tail_un (xs:=[_,_,_]) (s2.pk [2,3,4,5] rfl)).ownNil 0 9 1,hA.mono⟩
 ·skip
  refine wcF h17 rfl hc1<|h17.sk [9,8,6,0,1,2,3] rfl fun h24=>wp_skip<|hK6 _ _<|sqr fun _ hK9=>mvs 2 h24 rfl fun _ h25=>?_
  rcases bC ((Dm F c).isSome) with hc2 | hc2
  ·skip
   obtain ⟨i1,hfree74⟩:=Option.isSome_iff_exists.1 hc2;have hlt75:=(Dk hfree74).2
   refine cl h25 rfl CT (Jb (cf:=cf) (A:=A) (F:=F) (s1.pk [2,3,4,0,1,5] rfl) hok hz0 hcl hfree74) fun _ v1 w3 r1 h26=>?_
   obtain ⟨rfl,s3⟩:=r1
   refine mvs 5 h26 rfl fun _ h27=>h27.sn [11,10,9,8,6,0,1,2,3] rfl fun h28=>hK9 _ _<|sq fun _ hK10=>sqr fun _ hK11=>mv h28 rfl fun _ h29=>bv h29 rfl (cNe _ _ _ _ rfl) fun _ h30=>h30.sn [30,11,10,9,8,6,0,1,2,3] rfl fun h31=>hK11 _ _<|wcF h31 rfl rfl<|h31.sk [11,10,9,8,6,0,1,2,3] rfl fun h32=>?_
   refine wp_skip<|hK10 _ _<|sqr fun _ hK12=>mvs 2 h32 rfl fun _ h33=>fav h33 rfl (BQ _ _) fun _ h34=>ldv h34 s3 0 υ63 rfl rfl rfl rfl fun _ h35=>mvs 2 h35 rfl fun _ h36=>bu h36 (v:=.agg #[ν c,ν (i1:Int)]) rfl (fun w=>κ) fun _ h37=>mv h37 rfl fun _ h38=>so (wn rfl) fun _ hK13=>NX (F:=F) (A:=A) (F':=(fdF F c (i1:Int) ((Ac F x.p1).2))) (m:=((Ac F x.p1).2)) h38 rfl rfl rfl s3 2 rfl rfl rfl rfl ⟨wf_i64 ω ω,wf_i64 ω ω⟩ (by exact (show A.C<maxLen from LM hA hn)) (Gg (Dk hfree74).1) (cs':=[Ah cf 65 [π (A.ad 0),.map (some ob)],Av F A,AM KO ob (A.C+1) (opG (fdF F c (i1:Int) ((Ac F x.p1).2)) A),Ah g1 37 zL,Ah g4 30 [ν x.kind,σ x.p1,σ x.p2,ν 1,ν x.fd,ν x.off,ν x.n,σ x.data],Ch.many R]) rfl fun _ w4 h39 s4=>hK13 _ _ ?_
   refine h39.sn [11,10,9,8,6,0,1,2,3] rfl fun h40=>hK12 _ _<|sqr fun _ hK14=>mv h40 rfl fun _ h41=>bu h41 (v:=.agg #[ν 0,ν (i1:Int),σ [],.slice none 0 0,ν 0,ν 0,ν 0]) rfl (fun w=>κ) fun _ h42=>stA h42 s4 3 rfl rfl rfl κ rfl rfl rfl rfl fun _ w5 h43 s5 _=>h43.sk [42,41,11,10,8,6,0,1,2,3] rfl fun h44=>mv h44 rfl fun _ h45=>h45.sn [9,11,10,8,6,0,1,2,3] rfl fun h46=>hK14 _ _ ?_
   refine wp_ret ?_
   try simp only [Exit.then,Exit.inBlock]
   refine rCt h46 s5 3 υ37 rfl rfl rfl rfl rfl ?_
   have hq2:AT F c x.p1 x.fl=(fdF F c i1 (Ac F x.p1).2,fdR i1):=bx
   rw [hq2]
   exact ⟨A.inC,none,0,rfl,(Sep.tail_un (xs:=[_,_,_]) (s5.pk [0,1,2,5] rfl)).ownNil 0 9 1,hA.fdc _ _ _⟩
  ·skip
   have hfree142:=AI hc2
   refine cl h25 rfl CT (Kd (cf:=cf) (A:=A) (F:=F) (s1.pk [2,3,4,0,1,5] rfl) hok hz0 hcl hfree142) fun _ v2 w6 r2 h47=>?_
   obtain ⟨rfl,s6⟩:=r2
   refine mvs 5 h47 rfl fun _ h48=>h48.sn [11,10,9,8,6,0,1,2,3] rfl fun h49=>hK9 _ _<|sq fun _ hK15=>sqr fun _ hK16=>mv h49 rfl fun _ h50=>bv h50 rfl (cNe _ _ _ _ rfl) fun _ h51=>h51.sn [30,11,10,9,8,6,0,1,2,3] rfl fun h52=>hK16 _ _<|wcT h52 rfl rfl<|h52.sk [11,10,9,8,6,0,1,2,3] rfl fun h53=>?_
   refine sqr fun _ hK17=>bu h53 (v:=.agg zL.toArray) rfl (fun w=>κ) fun _ h54=>mv h54 rfl fun _ h55=>stA h55 s6 3 rfl rfl rfl κ rfl rfl rfl rfl fun _ w8 h56 s7 _=>h56.sk [32,31,11,10,8,6,0,1,2,3] rfl fun h57=>mv h57 rfl fun _ h58=>h58.sn [9,11,10,8,6,0,1,2,3] rfl fun h59=>hK17 _ _<|wp_ret ?_
   try simp only [Exit.then,Exit.inBlock]
   refine rCt h59 s7 3 υ37 rfl rfl rfl rfl rfl ?_
   have hq3:AT F c x.p1 x.fl=(F,Au 17):=bx
   rw [hq3]
   exact ⟨A,none,0,rfl,(Sep.tail_un (xs:=[_,_,_]) (s7.pk [0,1,2,5] rfl)).ownNil 0 9 1,hA.mono⟩
theorem NC {w:World} {cf ob n:Nat} {F:FsM} {A:AdM} {R:List Ch} {c:Int} {x:CallM} (hS0:Sep w ((cP cf ob F A)++R)) (hfo:FsOk F) (hA:AdOk F A n) (hn:n≤900) (hs:SmS F) (h1:x.p1.length≤1000) (h2:x.p2.length≤1000) (h3:x.data.length≤1000) (hwx:wfD (c,x.fd)) (hcl:1≤c∧c≤8) (hfl:x.fl=3) (hf:(Ac F x.p1).1=0) (hk:(Ac F x.p1).2<F.N.length) :
  CallsR Tryz.prog 70 #[π cf,ν c,.agg #[ν x.kind,σ x.p1,σ x.p2,ν 3,ν x.fd,ν x.off,ν x.n,σ x.data],π (A.ad (Ac F x.p1).2)] w (fun v w'=>∃ A' sa sc,v=.tuple #[Du (r0 (AT F c x.p1 x.fl).2) sa sc,ν (AT F c x.p1 x.fl).2.e]∧Sep w' (Ak 0 9 1 sa (AT F c x.p1 x.fl).2.names.length sc ((AT F c x.p1 x.fl).2.names.flatMap sE)::(cP cf ob ((AT F c x.p1 x.fl).1) A')++R)∧AdOk (AT F c x.p1 x.fl).1 A' (n+1)):=by
 have hS:=Sep.tail_many (xs:=cP cf ob F A) hS0;clear hS0
 have hz:SmF F:=hs.sm;have hok:=hfo.toFsC
 have hz0:=hz;obtain ⟨hz1,hz2,hz3⟩:F.N.length≤1000∧F.E.length≤1000∧F.O.length≤1000:=hz
 refine AB Tryz.func70 rfl (N:=43) Tryz.ntmps70 (by show 4≤43;decide) [(0,π cf),(1,ν c),(2,.agg #[ν x.kind,σ x.p1,σ x.p2,ν 3,ν x.fd,ν x.off,ν x.n,σ x.data]),(3,π (A.ad (Ac F x.p1).2))] rfl fun _ h1=>sqr fun _ hK3=>so (wn rfl) fun _ hK1=>Cv h1 rfl rfl rfl rfl rfl (z:=[ν x.kind,σ x.p1,σ x.p2,ν 3,ν x.fd,ν x.off,ν x.n,σ x.data]) rfl hS fun _ g4 w7 h5 s8 _ _=>hK1 _ _ ?_
 refine so (wn rfl) fun _ hK2=>BB h5 rfl rfl rfl rfl (z:=zL) (fun _=>rfl) s8 fun _ g1 w1 h4 s1 _ _=>hK2 _ _ ?_
 refine mv h4 rfl fun _ h6=>wpList_nil<|hK3 _ _<|sq fun _ hK4=>sqr fun _ hK5=>fav h6 rfl (BK _ _) fun _ h7=>ldv h7 s1 1 υ3 rfl rfl rfl rfl fun _ h8=>bv h8 (z:=ν 2) rfl (Tb _ _ _) fun _ h9=>bv h9 rfl (cNe _ _ _ _ rfl) fun _ h10=>h10.sk [15,9,8,6,0,1,2,3] rfl fun h11=>?_
 clear h1
 refine wpList_nil<|hK5 _ _<|wcT h11 rfl rfl<|h11.sk [9,8,6,0,1,2,3] rfl fun h12=>sqr fun _ hK6=>bu h12 (v:=.agg zL.toArray) rfl (fun w=>κ) fun _ h13=>stA h13 s1 0 rfl rfl rfl κ rfl rfl rfl rfl fun _ w2 h14 s2 _=>h14.sk [16,8,6,0,1,2,3] rfl fun h15=>mv h15 rfl fun _ h16=>h16.sn [9,8,6,0,1,2,3] rfl fun h17=>hK6 _ _ ?_
 refine wp_ret ?_
 try simp only [Exit.then,Exit.inBlock]
 refine rCt h17 s2 0 υ37 rfl rfl rfl rfl rfl ?_
 have hq1:AT F c x.p1 x.fl=(F,Au 11):=bx
 rw [hq1]
 exact ⟨A,none,0,rfl,(Sep.tail_un (xs:=[_,_,_]) (s2.pk [2,3,4,5] rfl)).ownNil 0 9 1,hA.mono⟩
theorem Gy {w:World} {cf ob n:Nat} {F:FsM} {A:AdM} {R:List Ch} {c:Int} {x:CallM} (hS0:Sep w ((cP cf ob F A)++R)) (hfo:FsOk F) (hA:AdOk F A n) (hn:n≤900) (hs:SmS F) (h1:x.p1.length≤1000) (h2:x.p2.length≤1000) (h3:x.data.length≤1000) (hwx:wfD (c,x.fd)) (hcl:1≤c∧c≤8) (hfl:x.fl=0∨x.fl=1∨x.fl=3) (hf:(Ac F x.p1).1=0) (hk:(Ac F x.p1).2<F.N.length):CallsR Tryz.prog 70 #[π cf,ν c,.agg (cL x).toArray,π (A.ad (Ac F x.p1).2)] w (fun v w'=>∃ A' sa sc,v=.tuple #[Du (r0 (AT F c x.p1 x.fl).2) sa sc,ν (AT F c x.p1 x.fl).2.e]∧Sep w' (Ak 0 9 1 sa (AT F c x.p1 x.fl).2.names.length sc ((AT F c x.p1 x.fl).2.names.flatMap sE)::(cP cf ob ((AT F c x.p1 x.fl).1) A')++R)∧AdOk (AT F c x.p1 x.fl).1 A' (n+1)):=by
 rcases hfl with e | e | e
 ·have z:=NA hS0 hfo hA hn hs h1 h2 h3 hwx hcl e hf hk;rw [← e] at z;exact z
 ·have z:=NB hS0 hfo hA hn hs h1 h2 h3 hwx hcl e hf hk;rw [← e] at z;exact z
 ·have z:=NC hS0 hfo hA hn hs h1 h2 h3 hwx hcl e hf hk;rw [← e] at z;exact z
theorem Qn {w:World} {cf ob n:Nat} {F:FsM} {A:AdM} {R:List Ch} {c:Int} {x:CallM} (hS0:Sep w ((cP cf ob F A)++R)) (hfo:FsOk F) (hA:AdOk F A n) (hn:n≤900) (hs:SmS F) (h1:x.p1.length≤1000) (h2:x.p2.length≤1000) (h3:x.data.length≤1000) (hwx:wfD (c,x.fd)) (hcl:1≤c∧c≤8) :
  CallsR Tryz.prog 47 #[π cf,ν c,.agg (cL x).toArray] w (fun v w'=>∃ A' sa sc,v=.tuple #[Du (r0 (AT F c x.p1 x.fl).2) sa sc,ν (AT F c x.p1 x.fl).2.e]∧Sep w' (Ak 0 9 1 sa (AT F c x.p1 x.fl).2.names.length sc ((AT F c x.p1 x.fl).2.names.flatMap sE)::(cP cf ob ((AT F c x.p1 x.fl).1) A')++R)∧AdOk (AT F c x.p1 x.fl).1 A' (n+1)):=by
 have hS:=Sep.tail_many (xs:=cP cf ob F A) hS0;clear hS0
 have hz:SmF F:=hs.sm;have hok:=hfo.toFsC
 have hz0:=hz;obtain ⟨hz1,hz2,hz3⟩:F.N.length≤1000∧F.E.length≤1000∧F.O.length≤1000:=hz
 refine AB Tryz.func47 rfl (N:=93) Tryz.ntmps47 (by show 3≤93;decide) [(0,π cf),(1,ν c),(2,.agg (cL x).toArray)] rfl fun _ h1=>sqr fun _ hK3=>so (wn rfl) fun _ hK1=>Cv h1 rfl rfl rfl rfl rfl (z:=(cL x)) rfl hS fun _ g4 w7 h5 s8 _ _=>hK1 _ _ ?_
 refine so (wn rfl) fun _ hK2=>BB h5 rfl rfl rfl rfl (z:=zL) (fun _=>rfl) s8 fun _ g1 w1 h4 s1 _ _=>hK2 _ _ ?_
 refine mv h4 rfl fun _ h6=>wpList_nil<|hK3 _ _<|sq fun _ hK4=>sqr fun _ hK5=>fav h6 rfl (BK _ _) fun _ h7=>ldv h7 s1 1 υ3 rfl rfl rfl rfl fun _ h8=>bv h8 (z:=.bool (decide (x.fl≠0))) rfl (cNe _ _ _ _ rfl) fun _ h9=>mv h9 rfl fun _ h10=>sg h10 (wT h10 rfl rfl rfl) rfl rfl rfl (fun hC1=>by have hq:=(dT hC1);exact rfa h10 rfl rfl (fun w=>BK g4 0 w) _) fun _ h11=>sg h11 (wT h11 rfl rfl rfl) rfl rfl rfl (fun hC2=>by have hq:=(dT hC2);exact (rld h11 rfl (opg rfl hC2) (ldB υ3 rfl (s1.get 1 rfl:Blk _ _ _ _) rfl))) fun _ h12=>sg h12 (wT h12 rfl rfl rfl) rfl rfl rfl (fun hC3=>by have hq:=(dT hC3);exact BG h12 rfl (opg rfl hC3) rfl (cNe _ _ _ _ rfl) _) fun _ h13=>?_
 refine sv1 h13 rfl (DJ h13 rfl (E:=(decide (x.fl≠0))) (F:=(decide (x.fl≠1))) rfl rfl rfl (fun e=>if_pos (by rw [e];try rfl))) fun _ h14=>mv h14 rfl fun _ h15=>sg h15 (wT h15 rfl rfl rfl) rfl rfl rfl (fun hC4=>by have hq:=(And.intro (dT (AA hC4).1) (dT (AA hC4).2));exact rfa h15 rfl rfl (fun w=>BK g4 0 w) _) fun _ h16=>sg h16 (wT h16 rfl rfl rfl) rfl rfl rfl (fun hC5=>by have hq:=(And.intro (dT (AA hC5).1) (dT (AA hC5).2));exact (rld h16 rfl (opg rfl hC5) (ldB υ3 rfl (s1.get 1 rfl:Blk _ _ _ _) rfl))) fun _ h17=>sg h17 (wT h17 rfl rfl rfl) rfl rfl rfl (fun hC6=>by have hq:=(And.intro (dT (AA hC6).1) (dT (AA hC6).2));exact BG h17 rfl (opg rfl hC6) rfl (cNe _ _ _ _ rfl) _) fun _ h18=>sv1 h18 rfl (DJ h18 rfl (E:=((decide (x.fl≠0))&&(decide (x.fl≠1)))) (F:=(decide (x.fl≠3))) rfl rfl rfl (fun e=>if_pos (by rw [e];try rfl))) fun _ h19=>h19.sk [26,7,6,5,0,1,2] rfl fun h20=>?_
 clear h1
 refine wpList_nil<|hK5 _ _ ?_
 rcases bC (((decide (x.fl≠0))&&(decide (x.fl≠1)))&&(decide (x.fl≠3))) with hc1 | hc1
 ·skip
  have hp1:((x.fl≠0)∧(x.fl≠1))∧(x.fl≠3):=(And.intro (And.intro (dT (AA (AA hc1).1).1) (dT (AA (AA hc1).1).2)) (dT (AA hc1).2))
  refine wcT h20 rfl hc1<|h20.sk [7,6,5,0,1,2] rfl fun h21=>sqr fun _ hK6=>bu h21 (v:=.agg zL.toArray) rfl (fun w=>κ) fun _ h22=>stA h22 s1 0 rfl rfl rfl κ rfl rfl rfl rfl fun _ w2 h23 s2 _=>h23.sk [27,6,5,0,1,2] rfl fun h24=>mv h24 rfl fun _ h25=>h25.sn [7,6,5,0,1,2] rfl fun h26=>hK6 _ _<|wp_ret ?_
  try simp only [Exit.then,Exit.inBlock]
  refine rCt h26 s2 0 υ37 rfl rfl rfl rfl rfl ?_
  have hq1:AT F c x.p1 x.fl=(F,Au 15):=bx
  rw [hq1]
  exact ⟨A,none,0,rfl,(Sep.tail_un (xs:=[_,_,_]) (s2.pk [2,3,4,5] rfl)).ownNil 0 9 1,hA.mono⟩
 ·skip
  have hp2:((¬ (x.fl≠0))∨(¬ (x.fl≠1)))∨(¬ (x.fl≠3)):=((Ix hc1).imp (fun q=>((Ix q).imp (fun q=>(dF q)) (fun q=>(dF q)))) (fun q=>(dF q)))
  refine wcF h20 rfl hc1<|h20.sk [7,6,5,0,1,2] rfl fun h27=>wp_skip<|hK4 _ _<|sqr fun _ hK7=>mv h27 rfl fun _ h28=>fav h28 rfl (An _ _) fun _ h29=>ldv h29 s1 1 υ9 rfl rfl rfl rfl fun _ h30=>?_
  rcases bC (decide ((Ac F x.p1).1=0)) with hc2 | hc2
  ·skip
   have hp3:(Ac F x.p1).1=0:=(dT hc2)
   have hfl85:=FsC.find_lt (F:=F) hok x.p1
   refine cl h30 rfl AZ (Es (cf:=cf) (A:=A) (F:=F) (s1.pk [2,3,4,0,1,5] rfl) hok hz0 ω ω) fun _ v1 w3 r1 h31=>?_
   obtain ⟨rfl,s3⟩:=r1
   refine mvs 5 h31 rfl fun _ h32=>h32.sn [9,8,7,6,5,0,1,2] rfl fun h33=>hK7 _ _<|sq fun _ hK8=>sqr fun _ hK9=>mv h33 rfl fun _ h34=>bv h34 rfl (cEq _ _ _ _ rfl) fun _ h35=>h35.sn [36,9,8,7,6,5,0,1,2] rfl fun h36=>hK9 _ _<|wcT h36 rfl rfl<|h36.sk [9,8,7,6,5,0,1,2] rfl fun h37=>?_
   refine sqr fun _ hK10=>mvs 2 h37 rfl fun _ h38=>sw1 h38 rfl (rld h38 rfl rfl (ldA υ30 rfl (n:=8) κ (s3.get 4 rfl:Blk _ _ _ _) rfl rfl)) fun _ h39=>mv h39 rfl fun _ h40=>?_
   rcases bC (decide (x.fl=0)) with hc3 | hc3
   ·skip
    have hp4:x.fl=0:=(dT hc3)
    refine cl h40 rfl Dn (Gy (A:=A) (F:=F) (x:=x) s3 hfo hA hn hs h1 h2 h3 hwx hcl ω ω ω) fun _ v2 w4 r2 h41=>?_
    obtain ⟨Ax124,sax125,scx126,rfl,s4,hAk131⟩:=r2
    refine mvs 2 h41 rfl fun _ h42=>stA h42 s4 4 rfl rfl rfl κ rfl rfl rfl rfl fun _ w5 h43 s5 _=>h43.sk [43,42,41,40,39,38,37,9,8,6,5,0,1,2] rfl fun h44=>mv h44 rfl fun _ h45=>h45.sn [7,9,8,6,5,0,1,2] rfl fun h46=>hK10 _ _<|wp_ret ?_
    try simp only [Exit.then,Exit.inBlock]
    refine rCt h46 s5 4 υ37 rfl rfl rfl rfl rfl ?_
    exact ⟨Ax124,sax125,scx126,rfl,Sep.tail_un (xs:=[_,_,_,_]) (s5.pk [0,1,2,3,6] rfl),hAk131⟩
   ·skip
    have hp5:¬ (x.fl=0):=(dF hc3)
    rcases bC (decide (x.fl=1)) with hc4 | hc4
    ·skip
     have hp6:x.fl=1:=(dT hc4)
     refine cl h40 rfl Dn (Gy (A:=A) (F:=F) (x:=x) s3 hfo hA hn hs h1 h2 h3 hwx hcl ω ω ω) fun _ v3 w6 r3 h47=>?_
     obtain ⟨Ax152,sax153,scx154,rfl,s6,hAk159⟩:=r3
     refine mvs 2 h47 rfl fun _ h48=>stA h48 s6 4 rfl rfl rfl κ rfl rfl rfl rfl fun _ w8 h49 s7 _=>h49.sk [43,42,41,40,39,38,37,9,8,6,5,0,1,2] rfl fun h50=>mv h50 rfl fun _ h51=>h51.sn [7,9,8,6,5,0,1,2] rfl fun h52=>hK10 _ _<|wp_ret ?_
     try simp only [Exit.then,Exit.inBlock]
     refine rCt h52 s7 4 υ37 rfl rfl rfl rfl rfl ?_
     exact ⟨Ax152,sax153,scx154,rfl,Sep.tail_un (xs:=[_,_,_,_]) (s7.pk [0,1,2,3,6] rfl),hAk159⟩
    ·skip
     have hp7:¬ (x.fl=1):=(dF hc4)
     rcases bC (decide (x.fl=3)) with hc5 | hc5
     ·skip
      have hp8:x.fl=3:=(dT hc5)
      refine cl h40 rfl Dn (Gy (A:=A) (F:=F) (x:=x) s3 hfo hA hn hs h1 h2 h3 hwx hcl ω ω ω) fun _ v4 w9 r4 h53=>?_
      obtain ⟨Ax180,sax181,scx182,rfl,s9,hAk187⟩:=r4
      refine mvs 2 h53 rfl fun _ h54=>stA h54 s9 4 rfl rfl rfl κ rfl rfl rfl rfl fun _ w10 h55 s10 _=>h55.sk [43,42,41,40,39,38,37,9,8,6,5,0,1,2] rfl fun h56=>mv h56 rfl fun _ h57=>h57.sn [7,9,8,6,5,0,1,2] rfl fun h58=>hK10 _ _<|wp_ret ?_
      try simp only [Exit.then,Exit.inBlock]
      refine rCt h58 s10 4 υ37 rfl rfl rfl rfl rfl ?_
      exact ⟨Ax180,sax181,scx182,rfl,Sep.tail_un (xs:=[_,_,_,_]) (s10.pk [0,1,2,3,6] rfl),hAk187⟩
     ·skip
      have hp9:¬ (x.fl=3):=(dF hc5)
      refine cl h40 rfl Dn (Gy (A:=A) (F:=F) (x:=x) s3 hfo hA hn hs h1 h2 h3 hwx hcl ω ω ω) fun _ v5 w11 r5 h59=>?_
      obtain ⟨Ax206,sax207,scx208,rfl,s11,hAk213⟩:=r5
      refine mvs 2 h59 rfl fun _ h60=>stA h60 s11 4 rfl rfl rfl κ rfl rfl rfl rfl fun _ w12 h61 s12 _=>h61.sk [43,42,41,40,39,38,37,9,8,6,5,0,1,2] rfl fun h62=>mv h62 rfl fun _ h63=>h63.sn [7,9,8,6,5,0,1,2] rfl fun h64=>hK10 _ _<|wp_ret ?_
      try simp only [Exit.then,Exit.inBlock]
      refine rCt h64 s12 4 υ37 rfl rfl rfl rfl rfl ?_
      exact ⟨Ax206,sax207,scx208,rfl,Sep.tail_un (xs:=[_,_,_,_]) (s12.pk [0,1,2,3,6] rfl),hAk213⟩
  ·skip
   have hp10:¬ ((Ac F x.p1).1=0):=(dF hc2)
   refine cl h30 rfl AZ (Fa (cf:=cf) (A:=A) (F:=F) (s1.pk [2,3,4,0,1,5] rfl) hok hz0 ω ω) fun _ v6 w13 r6 h65=>?_
   obtain ⟨rfl,s13⟩:=r6
   refine mvs 5 h65 rfl fun _ h66=>h66.sn [9,8,7,6,5,0,1,2] rfl fun h67=>hK7 _ _<|sq fun _ hK11=>sqr fun _ hK12=>mv h67 rfl fun _ h68=>bv h68 rfl (cEq _ _ _ _ (decide_eq_false ω)) fun _ h69=>h69.sn [36,9,8,7,6,5,0,1,2] rfl fun h70=>hK12 _ _<|wcF h70 rfl rfl<|h70.sk [9,8,7,6,5,0,1,2] rfl fun h71=>?_
   refine wp_skip<|hK11 _ _<|sqr fun _ hK13=>mv h71 rfl fun _ h72=>fav h72 rfl (An _ _) fun _ h73=>ldv h73 s13 4 υ9 rfl rfl rfl rfl fun _ h74=>?_
   rcases bC (decide ((Aa F x.p1).1=0)) with hc6 | hc6
   ·skip
    have hp11:(Aa F x.p1).1=0:=(dT hc6)
    have hpl266:=FsC.place (F:=F) (X:=x.p1) hok ω
    have hpl266a:=hpl266.1.1
    refine cl h74 rfl BD (EP (cf:=cf) (A:=A) (F:=F) s13 hok hz0 ω ω) fun _ v7 w14 r7 h75=>?_
    obtain ⟨rfl,s14⟩:=r7
    refine mvs 7 h75 rfl fun _ h76=>h76.sn [12,11,10,9,8,7,6,5,0,1,2] rfl fun h77=>hK13 _ _<|sq fun _ hK14=>sqr fun _ hK15=>mv h77 rfl fun _ h78=>bv h78 (z:=.bool (decide ((Ac F x.p1).1≠10))) rfl (cNe _ _ _ _ rfl) fun _ h79=>mv h79 rfl fun _ h80=>sg h80 (wF h80 rfl rfl rfl) rfl rfl rfl (fun hC7=>by have hq:=(dF (Bb hC7));exact Ap h80 rfl rfl _) fun _ h81=>sg h81 (wF h81 rfl rfl rfl) rfl rfl rfl (fun hC8=>by have hq:=(dF (Bb hC8));exact BG h81 rfl (opg rfl hC8) rfl (cNe _ _ _ _ (decide_eq_false (fun h=>h rfl))) _) fun _ h82=>sv1 h82 rfl (Dt h82 rfl (E:=(decide ((Ac F x.p1).1≠10))) (F:=false) rfl rfl rfl (fun e=>if_pos (by rw [e];try rfl))) fun _ h83=>?_
    refine mv h83 rfl fun _ h84=>sg h84 (wF h84 rfl rfl rfl) rfl rfl rfl (fun hC9=>by have hq:=(And.intro (dF (orF (Bb hC9)).1) (orF (Bb hC9)).2);exact rfa h84 rfl rfl (fun w=>BK g4 0 w) _) fun _ h85=>sg h85 (wF h85 rfl rfl rfl) rfl rfl rfl (fun hC10=>by have hq:=(And.intro (dF (orF (Bb hC10)).1) (orF (Bb hC10)).2);exact (rld h85 rfl (opg rfl hC10) (ldB υ3 rfl (s14.get 4 rfl:Blk _ _ _ _) rfl))) fun _ h86=>sg h86 (wF h86 rfl rfl rfl) rfl rfl rfl (fun hC11=>by have hq:=(And.intro (dF (orF (Bb hC11)).1) (orF (Bb hC11)).2);exact BG h86 rfl (opg rfl hC11) rfl (cEq _ _ _ _ rfl) _) fun _ h87=>sv1 h87 rfl (Dt h87 rfl (E:=((decide ((Ac F x.p1).1≠10))||false)) (F:=(decide (x.fl=0))) rfl rfl rfl (fun e=>if_pos (by rw [e];try rfl))) fun _ h88=>h88.sn [62,12,11,10,9,8,7,6,5,0,1,2] rfl fun h89=>hK15 _ _ ?_
    rcases bC (((decide ((Ac F x.p1).1≠10))||false)||(decide (x.fl=0))) with hc7 | hc7
    ·skip
     have hp12:(((Ac F x.p1).1≠10)∨(false=true))∨(x.fl=0):=((orT hc7).imp (fun q=>((orT q).imp (fun q=>(dT q)) (fun q=>q))) (fun q=>(dT q)))
     simp only [Bool.false_eq_true,or_false,false_or] at hp12
     refine wcT h89 rfl hc7<|h89.sk [12,11,10,9,8,7,6,5,0,1,2] rfl fun h90=>sqr fun _ hK16=>bu h90 (v:=.agg zL.toArray) rfl (fun w=>κ) fun _ h91=>mv h91 rfl fun _ h92=>stA h92 s14 3 rfl rfl rfl κ rfl rfl rfl rfl fun _ w15 h93 s15 _=>h93.sk [64,63,12,11,10,9,8,6,5,0,1,2] rfl fun h94=>mv h94 rfl fun _ h95=>h95.sn [7,12,11,10,9,8,6,5,0,1,2] rfl fun h96=>hK16 _ _ ?_
     refine wp_ret ?_
     try simp only [Exit.then,Exit.inBlock]
     refine rCt h96 s15 3 υ37 rfl rfl rfl rfl rfl ?_
     have hq2:AT F c x.p1 x.fl=(F,Au (Ac F x.p1).1):=bx
     rw [hq2]
     exact ⟨A,none,0,rfl,(Sep.tail_un (xs:=[_,_,_]) (s15.pk [0,1,2,5] rfl)).ownNil 0 9 1,hA.mono⟩
    ·skip
     have hp13:((¬ ((Ac F x.p1).1≠10))∧(false=false))∧(¬ (x.fl=0)):=(And.intro (And.intro (dF (orF (orF hc7).1).1) (orF (orF hc7).1).2) (dF (orF hc7).2))
     refine wcF h89 rfl hc7<|h89.sk [12,11,10,9,8,7,6,5,0,1,2] rfl fun h97=>wp_skip<|hK14 _ _<|sqr fun _ hK17=>mvs 2 h97 rfl fun _ h98=>?_
     rcases bC ((Dm F c).isSome) with hc8 | hc8
     ·skip
      obtain ⟨i1,hfree348⟩:=Option.isSome_iff_exists.1 hc8;have hlt349:=(Dk hfree348).2
      refine cl h98 rfl CT (Jb (cf:=cf) (A:=A) (F:=F) s14 hok hz0 hcl hfree348) fun _ v8 w16 r8 h99=>?_
      obtain ⟨rfl,s16⟩:=r8
      refine mvs 4 h99 rfl fun _ h100=>h100.sk [13,70,69,65,68,67,66,12,11,10,8,7,6,5,0,1,2] rfl fun h101=>mv h101 rfl fun _ h102=>h102.sn [9,13,12,11,10,8,7,6,5,0,1,2] rfl fun h103=>hK17 _ _<|sq fun _ hK18=>sqr fun _ hK19=>mv h103 rfl fun _ h104=>bv h104 rfl (cNe _ _ _ _ rfl) fun _ h105=>h105.sn [72,9,13,12,11,10,8,7,6,5,0,1,2] rfl fun h106=>hK19 _ _ ?_
      refine wcF h106 rfl rfl<|h106.sk [9,13,12,11,10,8,7,6,5,0,1,2] rfl fun h107=>wp_skip<|hK18 _ _<|sqr fun _ hK20=>bu h107 (v:=.agg #[ν 1,ν 1,σ [],.map none]) rfl (fun w=>κ) fun _ h108=>so (wn rfl) fun _ hK21=>Cv h108 rfl rfl rfl rfl rfl (z:=[ν 1,ν 1,σ [],.map none]) rfl s16 fun _ g2 w17 h109 s17 _ _=>hK21 _ _ ?_
      refine h109.sk [76,75,9,13,12,11,10,7,6,5,0,1,2] rfl fun h110=>mv h110 rfl fun a1 h111=>h111.sn [8,9,13,12,11,10,7,6,5,0,1,2] rfl fun h112=>hK20 _ _<|sq fun _ hK22=>?_
      have s18:=Sep.joinF hok (s17.pk [0,2,1,3,4,5,6] rfl)
      have hold393:∀ k,k<F.N.length→(A.new F.N.length g2 0).ad k=A.ad k:=fun k hk=>if_neg ω
      have h113:=hok.n0.1
      have hold393m:∀ k,k<F.N.length→(A.new F.N.length g2 0).mb k=A.mb k:=fun k hk=>if_neg ω
      have s19:Sep w17 [Av (AL F false) (A.new F.N.length g2 0),Ah cf 65 [π ((A.new F.N.length g2 0).ad 0),.map (some ob)],AM KO ob (A.new F.N.length g2 0).C (opG F (A.new F.N.length g2 0)),Ah g1 37 zL,Ah g4 30 (cL x),Ch.many R]:=by
       have z:=s18;rw [← hold393 0 h113,← LW hok g2 0] at z;exact z
      have hgn398:(A.new F.N.length g2 0).ad F.N.length=g2:=if_pos rfl
      have h114:Kn 93 [(8,π ((A.new F.N.length g2 0).ad F.N.length)),(9,ν 0),(13,ν (i1:Int)),(12,ν 0),(11,.string ((Aa F x.p1).2.2)),(10,π ((A.new F.N.length g2 0).ad ((Aa F x.p1).2.1))),(7,ν 0),(6,π g1),(5,π g4),(0,π cf),(1,ν c),(2,.agg (cL x).toArray)] a1:=by
       rw [hgn398,hold393 _ (ω:(Aa F x.p1).2.1<F.N.length)];exact h112
      have hN399:(AL F false).N.length=F.N.length+1:=CF F _
      refine wp_region_lit<|mvs 2 h114 rfl fun _ h115=>sv1 h115 rfl (rfa h115 rfl rfl (fun w=>AF ((A.new F.N.length g2 0).ad ((Aa F x.p1).2.1)) 0 w)) fun _ h116=>sw1 h116 rfl (rld h116 rfl rfl (NdP.c3 (F:=FsM.nE (AL F false)) (A:=AdM.nC (A.new F.N.length g2 0)) (k:=((Aa F x.p1).2.1)) (s19.get 0 rfl:NdP _ _ _) (show (Aa F x.p1).2.1<(AL F false).N.length from ω) ((Gj (ω:(Aa F x.p1).2.1<F.N.length) _).trans hpl266.1.2) υ95 rfl)) fun _ h117=>mvs 2 h117 rfl fun _ h118=>so (wn rfl) fun _ hK23=>FU (F:=(AL F false)) (A:=(A.new F.N.length g2 0)) (F':=(Bu (AL F false) ((Aa F x.p1).2.1) ((Aa F x.p1).2.2) F.N.length)) (k:=((Aa F x.p1).2.1)) (m:=F.N.length) h118 rfl rfl rfl s19 0 rfl rfl rfl rfl ω ((Gj (ω:(Aa F x.p1).2.1<F.N.length) _).trans hpl266.1.2) (CO hpl266.2) (by exact (show A.B<maxLen from Gt hA hn)) rfl (Dc (CN (X:=x.p1) ω ω)) (cs':=[Av (Bu (AL F false) ((Aa F x.p1).2.1) ((Aa F x.p1).2.2) F.N.length) ((A.new F.N.length g2 0).inc),Ah cf 65 [π ((A.new F.N.length g2 0).ad 0),.map (some ob)],AM KO ob (A.new F.N.length g2 0).C (opG F (A.new F.N.length g2 0)),Ah g1 37 zL,Ah g4 30 (cL x),Ch.many R]) rfl fun _ w18 h119 s20=>hK23 _ _ ?_
      have hN417:(Bu (AL F false) ((Aa F x.p1).2.1) ((Aa F x.p1).2.2) F.N.length).N.length=(AL F false).N.length:=rfl
      refine h119.sn [8,9,13,12,11,10,7,6,5,0,1,2] rfl fun h120=>hK22 _ _<|sqr fun _ hK24=>mvs 2 h120 rfl fun _ h121=>fav h121 rfl (BQ _ _) fun _ h122=>ldv h122 s20 1 υ63 rfl rfl rfl rfl fun _ h123=>mvs 2 h123 rfl fun _ h124=>bu h124 (v:=.agg #[ν c,ν (i1:Int)]) rfl (fun w=>κ) fun _ h125=>mv h125 rfl fun _ h126=>so (wn rfl) fun _ hK25=>NX (F:=F) (A:=(A.new F.N.length g2 0)) (F':=(fdF (Bu (AL F false) ((Aa F x.p1).2.1) ((Aa F x.p1).2.2) F.N.length) c (i1:Int) F.N.length)) (m:=F.N.length) h126 rfl rfl rfl s20 2 rfl rfl rfl rfl ⟨wf_i64 ω ω,wf_i64 ω ω⟩ (by exact (show A.C<maxLen from LM hA hn)) (Gg (Dk hfree348).1) (cs':=[Av (Bu (AL F false) ((Aa F x.p1).2.1) ((Aa F x.p1).2.2) F.N.length) ((A.new F.N.length g2 0).inc),Ah cf 65 [π ((A.new F.N.length g2 0).ad 0),.map (some ob)],AM KO ob ((A.new F.N.length g2 0).C+1) (opG (fdF (Bu (AL F false) ((Aa F x.p1).2.1) ((Aa F x.p1).2.2) F.N.length) c (i1:Int) F.N.length) (A.new F.N.length g2 0)),Ah g1 37 zL,Ah g4 30 (cL x),Ch.many R]) rfl fun _ w19 h127 s21=>hK25 _ _ ?_
      refine h127.sn [8,9,13,12,11,10,7,6,5,0,1,2] rfl fun h128=>hK24 _ _<|sqr fun _ hK26=>mv h128 rfl fun _ h129=>bu h129 (v:=.agg #[ν 0,ν (i1:Int),σ [],.slice none 0 0,ν 0,ν 0,ν 0]) rfl (fun w=>κ) fun _ h130=>stA h130 s21 3 rfl rfl rfl κ rfl rfl rfl rfl fun _ w20 h131 s22 _=>h131.sk [92,91,8,9,13,12,11,10,6,5,0,1,2] rfl fun h132=>mv h132 rfl fun _ h133=>h133.sn [7,8,9,13,12,11,10,6,5,0,1,2] rfl fun h134=>hK26 _ _ ?_
      refine wp_ret ?_
      try simp only [Exit.then,Exit.inBlock]
      refine rCt h134 s22 3 υ37 rfl rfl rfl rfl rfl ?_
      have hq3:AT F c x.p1 x.fl=(fdF (Bu (AL F false) (Aa F x.p1).2.1 (Aa F x.p1).2.2 F.N.length) c i1 F.N.length,fdR i1):=bx
      rw [hq3]
      exact ⟨(A.new F.N.length g2 0).inc.inC,none,0,rfl,(Sep.tail_un (xs:=[_,_,_]) (s22.pk [1,0,2,5] rfl)).ownNil 0 9 1,hA.nodeFd _ _ _ _ _ _ _⟩
     ·skip
      have hfree459:=AI hc8
      refine cl h98 rfl CT (Kd (cf:=cf) (A:=A) (F:=F) s14 hok hz0 hcl hfree459) fun _ v9 w21 r9 h135=>?_
      obtain ⟨rfl,s23⟩:=r9
      refine mvs 4 h135 rfl fun _ h136=>h136.sk [13,70,69,65,68,67,66,12,11,10,8,7,6,5,0,1,2] rfl fun h137=>mv h137 rfl fun _ h138=>h138.sn [9,13,12,11,10,8,7,6,5,0,1,2] rfl fun h139=>hK17 _ _<|sq fun _ hK27=>sqr fun _ hK28=>mv h139 rfl fun _ h140=>bv h140 rfl (cNe _ _ _ _ rfl) fun _ h141=>h141.sn [72,9,13,12,11,10,8,7,6,5,0,1,2] rfl fun h142=>hK28 _ _ ?_
      refine wcT h142 rfl rfl<|h142.sk [9,13,12,11,10,8,7,6,5,0,1,2] rfl fun h143=>sqr fun _ hK29=>bu h143 (v:=.agg zL.toArray) rfl (fun w=>κ) fun _ h144=>mv h144 rfl fun _ h145=>stA h145 s23 3 rfl rfl rfl κ rfl rfl rfl rfl fun _ w22 h146 s24 _=>h146.sk [74,73,9,13,12,11,10,8,6,5,0,1,2] rfl fun h147=>mv h147 rfl fun _ h148=>h148.sn [7,9,13,12,11,10,8,6,5,0,1,2] rfl fun h149=>hK29 _ _ ?_
      refine wp_ret ?_
      try simp only [Exit.then,Exit.inBlock]
      refine rCt h149 s24 3 υ37 rfl rfl rfl rfl rfl ?_
      have hq4:AT F c x.p1 x.fl=(F,Au 17):=bx
      rw [hq4]
      exact ⟨A,none,0,rfl,(Sep.tail_un (xs:=[_,_,_]) (s24.pk [0,1,2,5] rfl)).ownNil 0 9 1,hA.mono⟩
   ·skip
    have hp14:¬ ((Aa F x.p1).1=0):=(dF hc6)
    refine cl h74 rfl BD (Gl (cf:=cf) (A:=A) (F:=F) s13 hok hz0 ω ω) fun _ v10 w23 r10 h150=>?_
    obtain ⟨rfl,s25⟩:=r10
    refine mvs 7 h150 rfl fun _ h151=>h151.sn [12,11,10,9,8,7,6,5,0,1,2] rfl fun h152=>hK13 _ _<|sq fun _ hK30=>sqr fun _ hK31=>mv h152 rfl fun _ h153=>bv h153 (z:=.bool (decide ((Ac F x.p1).1≠10))) rfl (cNe _ _ _ _ rfl) fun _ h154=>mv h154 rfl fun _ h155=>sg h155 (wF h155 rfl rfl rfl) rfl rfl rfl (fun hC12=>by have hq:=(dF (Bb hC12));exact Ap h155 rfl rfl _) fun _ h156=>sg h156 (wF h156 rfl rfl rfl) rfl rfl rfl (fun hC13=>by have hq:=(dF (Bb hC13));exact BG h156 rfl (opg rfl hC13) rfl (cNe _ _ _ _ (decide_eq_true ω)) _) fun _ h157=>sv1 h157 rfl (Dt h157 rfl (E:=(decide ((Ac F x.p1).1≠10))) (F:=true) rfl rfl rfl (fun e=>if_pos (by rw [e];try rfl))) fun _ h158=>?_
    refine mv h158 rfl fun _ h159=>su h159 ((wF h159 rfl rfl rfl).trans (Bq (Rz rfl))) rfl rfl rfl fun _ h160=>su h160 ((wF h160 rfl rfl rfl).trans (Bq (Rz rfl))) rfl rfl rfl fun _ h161=>su h161 ((wF h161 rfl rfl rfl).trans (Bq (Rz rfl))) rfl rfl rfl fun _ h162=>sv1 h162 rfl (BT h162 rfl (E:=((decide ((Ac F x.p1).1≠10))||true)) (b:=true) rfl (Rz rfl) rfl) fun _ h163=>h163.sn [62,12,11,10,9,8,7,6,5,0,1,2] rfl fun h164=>hK31 _ _<|wcT h164 rfl rfl<|h164.sk [12,11,10,9,8,7,6,5,0,1,2] rfl fun h165=>sq fun _ hK32=>wp_region_lit ?_
    refine bu h165 (v:=.agg zL.toArray) rfl (fun w=>κ) fun _ h166=>mv h166 rfl fun _ h167=>stA h167 s25 3 rfl rfl rfl κ rfl rfl rfl rfl fun _ w24 h168 s26 _=>h168.sk [64,63,12,11,10,9,8,6,5,0,1,2] rfl fun h169=>mv h169 rfl fun _ h170=>h170.sn [7,12,11,10,9,8,6,5,0,1,2] rfl fun h171=>hK32 _ _<|wp_ret ?_
    try simp only [Exit.then,Exit.inBlock]
    refine rCt h171 s26 3 υ37 rfl rfl rfl rfl rfl ?_
    have hq5:AT F c x.p1 x.fl=(F,Au (Ac F x.p1).1):=bx
    rw [hq5]
    exact ⟨A,none,0,rfl,(Sep.tail_un (xs:=[_,_,_]) (s26.pk [0,1,2,5] rfl)).ownNil 0 9 1,hA.mono⟩
end
end Go.Proofs.YtcanemamnmmbcaaGreatDoor
