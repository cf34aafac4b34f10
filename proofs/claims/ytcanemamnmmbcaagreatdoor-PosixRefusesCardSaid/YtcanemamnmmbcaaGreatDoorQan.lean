/- Parts of the proof. -/
import Derived.Test.YtcanemamnmmbcaaGreatDoorQam
namespace Go.Proofs.YtcanemamnmmbcaaGreatDoor
open Go.RowKit
set_option linter.unusedSimpArgs false
set_option linter.unusedVariables false
set_option linter.unusedSectionVars false
set_option maxRecDepth 100000
set_option maxHeartbeats 8000000
section
theorem rowsUp {L M:List RowM} {n:Nat} (h:∀ i,i<n→rowQ (L.getD i row0) (M.getD i row0)=true) (h2:rowQ (L.getD n row0) (M.getD n row0)=true):∀ i,i<n+1→rowQ (L.getD i row0) (M.getD i row0)=true:=fun i hi=>by
 by_cases e:i=n
 ·subst e;exact h2
 ·exact h i ω
theorem rows_all {L M:List RowM} {n:Nat} (hl:L.length=M.length) (hn:L.length≤n) (h:∀ i,i<n→rowQ (L.getD i row0) (M.getD i row0)=true):L=M:=by
 refine rowsQ_iff.1 ?_
 unfold rowsQ
 rw [Bool.and_eq_true,decide_eq_true_iff,List.all_eq_true]
 exact ⟨hl,fun i hi=>h i (by have:=List.mem_range.1 hi;omega)⟩
theorem rows_not_len {L M:List RowM} (h:L.length≠M.length):rowsQ L M=false:=by
 cases q:rowsQ L M with
 | false=>rfl
 | true=>exact absurd (congrArg List.length (rowsQ_iff.1 q)) h
theorem rows_not {L M:List RowM} {n:Nat} (hn:n<L.length) (h:rowQ (L.getD n row0) (M.getD n row0)=false):rowsQ L M=false:=by
 cases q:rowsQ L M with
 | false=>rfl
 | true=>
  have e:=rowsQ_iff.1 q
  subst e
  rw [rowQ_iff.2 rfl] at h;cases h
theorem rowsF_len {F:FsM} {δ:Nat→Int} (hF:FsC F δ) (hz:SmF F):(rowsF F).length≤4000:=by
 unfold rowsF rowsS
 rw [addO_len]
 have h1:=rows_len hF 1000
 have h2:=fdsF_len F
 have h3:=hz.2.1
 omega
theorem cp_posix_Fs_rows_rv (args:Array Value) (w:World):(callFunc 31 args).run Tryz.prog w=.ok (.enter 31 args) w:=by
 have h:=Tryz.func31
 go_simp
theorem cp_slices_Equal_posix_row_posix_row_rv (args:Array Value) (w:World):(callFunc 30 args).run Tryz.prog w=.ok (.enter 30 args) w:=by
 have h:=Tryz.func30
 go_simp
theorem equalRows_c {w:World} {R:List Ch} {xa ya:Option Addr} {xc yc:Nat} {L M:List RowM} (hS0:Sep w ([ownC 0 76 6 xa L.length xc (L.flatMap rowE),ownC 0 76 6 ya M.length yc (M.flatMap rowE)]++R)) (hl:L.length≤4000) (hm:M.length≤4000) :
  CallsR Tryz.prog 30 #[.slice xa L.length xc,.slice ya M.length yc] w (fun v w'=>v=.bool (rowsQ L M)∧Sep w' ([ownC 0 76 6 xa L.length xc (L.flatMap rowE),ownC 0 76 6 ya M.length yc (M.flatMap rowE)]++R)):=by
 have hS:Sep w [ownC 0 76 6 xa L.length xc (L.flatMap rowE),ownC 0 76 6 ya M.length yc (M.flatMap rowE),Ch.many R]:=Sep.tail_many (xs:=[_,_]) hS0;clear hS0
 refine enterR Tryz.func30 rfl (N:=26) Tryz.ntmps30 (by show 2≤26;decide) [(0,.slice xa L.length xc),(1,.slice ya M.length yc)] rfl fun _ h1=>sqr fun _ hK3=>mv h1 rfl fun _ h4=>wpList_nil<|hK3 _ _<|sq fun _ hK6=>sqr fun _ hK7=>mv h4 rfl fun _ h8=>sv1 h8 rfl (v:=ν (L.length:Int)) (rlenS h8 rfl rfl υ74) fun _ h2=>mv h2 rfl fun _ h3=>sv1 h3 rfl (v:=ν (M.length:Int)) (rlenS h3 rfl rfl υ74) fun _ h5=>bv h5 (z:=.bool (decide ((L.length:Int)≠(M.length:Int)))) rfl (cNe _ _ _ _ rfl) fun _ h6=>?_
 refine h6.sn [10,4,0,1] rfl fun h7=>hK7 _ _ ?_
 rcases bC (decide ((L.length:Int)≠(M.length:Int))) with hc1 | hc1
 ·skip
  have hp1:(L.length:Int)≠(M.length:Int):=(dT hc1)
  refine wcT h7 rfl hc1<|h7.sk [4,0,1] rfl fun h9=>sqr fun _ hK1=>h9.sk [0,1] rfl fun h10=>mv h10 rfl fun _ h11=>wpList_nil<|hK1 _ _<|wp_ret ?_
  try simp only [Exit.then,Exit.inBlock]
  refine retR (v:=.bool false) (res1 h11 rfl rfl) h11.defs ?_
  refine ⟨by rw [rows_not_len ω],Sep.tail_un (xs:=[_,_]) hS⟩
 ·skip
  have hp2:¬ ((L.length:Int)≠(M.length:Int)):=(dF hc1)
  refine wcF h7 rfl hc1<|h7.sk [4,0,1] rfl fun h12=>wp_skip<|hK6 _ _<|sq fun _ hK2=>sqr fun _ hK4=>mv h12 rfl fun _ h13=>sv1 h13 rfl (v:=ν (L.length:Int)) (rlenS h13 rfl rfl υ74) fun _ h14=>mv h14 rfl fun _ h15=>h15.sn [13,12,4,0,1] rfl fun h16=>hK4 _ _<|wp_block ?_
  refine wp_loop1 (fun (n:Nat) a' w'=>Kn 26 [(13,ν (n:Int)),(12,ν (L.length:Int)),(4,.bool false),(0,.slice xa L.length xc),(1,.slice ya M.length yc)] a'∧Sep w' [ownC 0 76 6 xa L.length xc (L.flatMap rowE),ownC 0 76 6 ya M.length yc (M.flatMap rowE),Ch.many R]∧(n≤L.length)∧(∀ i,i<n→rowQ (L.getD i row0) (M.getD i row0)=true)) (fun (n:Nat)=>L.length-n) 0 ⟨h16.subs rfl,hS,Nat.zero_le _,fun i h=>ω⟩ ?_
  rintro n44 a1 w2 ⟨h17,s1,hn42,hal43⟩ K1 hK5
  refine sqr fun _ hK8=>bv h17 (z:=.bool (decide ((n44:Int)<(L.length:Int)))) rfl (cLt _ _ _ _ rfl) fun _ h18=>wpList_nil<|hK8 _ _<|sq fun _ hK9=>?_
  rcases bC (decide ((n44:Int)<(L.length:Int))) with hc2 | hc2
  ·skip
   have hp3:(n44:Int)<(L.length:Int):=(dT hc2)
   refine wcT h18 rfl hc2<|h18.sk [13,12,4,0,1] rfl fun h19=>wp_skip<|hK9 _ _<|sq fun _ hK10=>wp_block ?_
   refine sqr fun _ hK11=>mvs 2 h19 rfl fun _ h20=>h20.sn [5,13,12,4,0,1] rfl fun h21=>hK11 _ _<|sq fun _ hK12=>?_
   have s2:=s1.drew
   refine wp_region_held_drew (S:=fun w'=>Sep w' [ownC 0 76 6 xa L.length xc (L.flatMap rowE),ownC 0 76 6 ya M.length yc (M.flatMap rowE),Ch.many R]) κ s2 (fun hq1=>?_)
   refine tv1 hq1 h21 0 rfl rfl (v:=.slice xa L.length xc) (fun w1 _=>(rmove h21 rfl rfl) w1) fun _ h22=>?_
   refine tv1 hq1 h22 1 rfl rfl (v:=ν (n44:Int)) (fun w1 _=>(rmove h22 rfl rfl) w1) fun _ h23=>?_
   obtain ⟨q66,hq2⟩:=own_addr (s2.get 0 rfl:Own _ _ _ _ _ _ _ _)
   refine tv1 hq1 h23 2 rfl rfl (v:=.pointer (some ⟨q66,n44*6,none⟩)) (fun w1 _=>(rindexA h23 rfl rfl rfl (fun w=>ixO υ74 κ (sz:=6) (hq2 ω) (j:=n44) rfl ω ω w)) w1) fun _ h24=>?_
   refine tv1 hq1 h24 3 rfl rfl (v:=.agg #[ν ((L.getD n44 row0).dp),.string ((L.getD n44 row0).nm),ν ((L.getD n44 row0).cl),ν ((L.getD n44 row0).fd),ν ((L.getD n44 row0).fl),σ ((L.getD n44 row0).dt)]) (fun w1 hSw=>(rld h24 rfl rfl (ldOS rowE_len υ76 rfl κ (hSw.get 0 rfl:Own _ _ _ _ _ _ _ _) (hq2 ω) row0 ω rfl))) fun _ h25=>?_
   refine tv1 hq1 h25 4 rfl rfl (v:=.slice ya M.length yc) (fun w1 _=>(rmove h25 rfl rfl) w1) fun _ h26=>?_
   refine tv1 hq1 h26 5 rfl rfl (v:=ν (n44:Int)) (fun w1 _=>(rmove h26 rfl rfl) w1) fun _ h27=>?_
   obtain ⟨q76,hq3⟩:=own_addr (s2.get 1 rfl:Own _ _ _ _ _ _ _ _)
   refine tv1 hq1 h27 6 rfl rfl (v:=.pointer (some ⟨q76,n44*6,none⟩)) (fun w1 _=>(rindexA h27 rfl rfl rfl (fun w=>ixO υ74 κ (sz:=6) (hq3 ω) (j:=n44) rfl ω ω w)) w1) fun _ h28=>?_
   refine tv1 hq1 h28 7 rfl rfl (v:=.agg #[ν ((M.getD n44 row0).dp),.string ((M.getD n44 row0).nm),ν ((M.getD n44 row0).cl),ν ((M.getD n44 row0).fd),ν ((M.getD n44 row0).fl),σ ((M.getD n44 row0).dt)]) (fun w1 hSw=>(rld h28 rfl rfl (ldOS rowE_len υ76 rfl κ (hSw.get 1 rfl:Own _ _ _ _ _ _ _ _) (hq3 ω) row0 ω rfl))) fun _ h29=>?_
   refine tv1 hq1 h29 8 rfl rfl (v:=.bool (!(rowQ (L.getD n44 row0) (M.getD n44 row0)))) (fun w1 _=>(rbin h29 rfl rfl rfl (eqRow_neq _ _ (L.getD n44 row0) (M.getD n44 row0))) w1) fun _ h30=>?_
   refine h30.sk [24,5,13,12,4,0,1] rfl fun h31=>?_
   refine wpAnyH_done κ ?_ _
   refine hK12 _ _ ?_
   rcases bC (rowQ (L.getD n44 row0) (M.getD n44 row0)) with hc3 | hc3
   ·skip
    refine wcF h31 rfl (bNotT hc3)<|h31.sk [5,13,12,4,0,1] rfl fun h32=>wp_skip<|hK10 _ _<|wp_region_lit<|bv h32 (z:=ν ((n44+1:Nat):Int)) rfl (bAdd _ _ _ ω ω ω) fun _ h33=>h33.sk [25,5,12,4,0,1] rfl fun h34=>mv h34 rfl fun _ h35=>h35.sk [13,5,12,4,0,1] rfl fun h36=>wpList_nil ?_
    exact hK5 (n44+1) _ _ ⟨h36.subs rfl,s2,ω,rowsUp hal43 hc3⟩ ω
   ·skip
    refine wcT h31 rfl (bNotF hc3)<|h31.sk [5,13,12,4,0,1] rfl fun h37=>sqr fun _ hK13=>h37.sk [5,13,12,0,1] rfl fun h38=>mv h38 rfl fun _ h39=>wpList_nil<|hK13 _ _<|wp_ret ?_
    try simp only [Exit.then,Exit.inBlock]
    refine retR (v:=.bool false) (res1 h39 rfl rfl) h39.defs ?_
    refine ⟨by rw [rows_not ω hc3],Sep.tail_un (xs:=[_,_]) s2⟩
  ·skip
   have hp4:¬ ((n44:Int)<(L.length:Int)):=(dF hc2)
   refine wcF h18 rfl hc2<|h18.sk [13,12,4,0,1] rfl fun h40=>wp_exit ?_
   refine hK2 _ _ ?_
   refine sqr fun _ hK14=>h40.sk [13,12,0,1] rfl fun h41=>mv h41 rfl fun _ h42=>wpList_nil<|hK14 _ _<|wp_ret ?_
   try simp only [Exit.then,Exit.inBlock]
   refine retR (v:=.bool true) (res1 h42 rfl rfl) h42.defs ?_
   refine ⟨by rw [rowsQ_iff.2 (rows_all (ω:L.length=M.length) (ω:L.length≤n44) hal43)],Sep.tail_un (xs:=[_,_]) s1⟩
theorem same_c {w:World} {cf ob cg og:Nat} {F G:FsM} {A A2:AdM} {R:List Ch} {δ δ2:Nat→Int} (hS0:Sep w ([blkC cf 65 [π (A.ad 0),.map (some ob)],nodX F A,mapC KO ob A.C (opG F A),blkC cg 65 [π (A2.ad 0),.map (some og)],nodX G A2,mapC KO og A2.C (opG G A2)]++R)) (hok:FsC F δ) (hz:SmF F) (hok2:FsC G δ2) (hz2:SmF G) :
  CallsR Tryz.prog 17 #[π cf,π cg] w (fun v w'=>v=.bool (rowsQ (rowsF F) (rowsF G))∧Sep w' ([blkC cf 65 [π (A.ad 0),.map (some ob)],nodX F A,mapC KO ob A.C (opG F A),blkC cg 65 [π (A2.ad 0),.map (some og)],nodX G A2,mapC KO og A2.C (opG G A2)]++R)):=by
 have hS:Sep w [blkC cf 65 [π (A.ad 0),.map (some ob)],nodX F A,mapC KO ob A.C (opG F A),blkC cg 65 [π (A2.ad 0),.map (some og)],nodX G A2,mapC KO og A2.C (opG G A2),Ch.many R]:=Sep.tail_many (xs:=[_,_,_,_,_,_]) hS0;clear hS0
 refine enterR Tryz.func17 rfl (N:=10) Tryz.ntmps17 (by show 2≤10;decide) [(0,π cf),(1,π cg)] rfl fun _ h1=>sqr fun _ hK3=>mv h1 rfl fun _ h4=>wpList_nil<|hK3 _ _<|sqr fun _ hK6=>mv h4 rfl fun _ h7=>cl h7 rfl cp_posix_Fs_rows_rv (rows_c hS hok hz) fun _ v1 w1 r1 h2=>?_
 obtain ⟨xax9,xcx10,rfl,s1⟩:=r1
 refine mv h2 rfl fun _ h3=>cl h3 rfl cp_posix_Fs_rows_rv (rows_c (s1.pk [4,5,6,0,1,2,3,7] rfl) hok2 hz2) fun _ v2 w2 r2 h5=>?_
 obtain ⟨yax20,ycx21,rfl,s2⟩:=r2
 refine cl h5 rfl cp_slices_Equal_posix_row_posix_row_rv (equalRows_c (s2.pk [4,0,1,2,3,5,6,7,8] rfl) (rowsF_len hok hz) (rowsF_len hok2 hz2)) fun _ v3 w3 r3 h6=>?_
 obtain ⟨rfl,s3⟩:=r3
 refine h6.sk [9,8,7,6,5,0,1] rfl fun h8=>mv h8 rfl fun _ h9=>h9.sn [4,0,1] rfl fun h10=>hK6 _ _<|wp_ret ?_
 try simp only [Exit.then,Exit.inBlock]
 refine retR (v:=.bool (rowsQ (rowsF F) (rowsF G))) (res1 h10 rfl rfl) h10.defs ?_
 exact ⟨rfl,Sep.tail_un (xs:=[_,_,_,_,_,_]) (s3.pk [5,6,7,2,3,4,8] rfl)⟩
end
section
theorem cp_posix_Fs_Copy_yv1 (args:Array Value) (w:World):(callFunc 13 args).run Tryz.prog w=.ok (.enter 13 args) w:=by
 have h:=Tryz.func13
 go_simp
theorem cp_posix_Fs_Same_yv1 (args:Array Value) (w:World):(callFunc 17 args).run Tryz.prog w=.ok (.enter 17 args) w:=by
 have h:=Tryz.func17
 go_simp
theorem PosixRefuses_walk (W:World) (a0:Option Addr) (n0 c0:Nat) (f:Nat→AskV) (rb:AsksIn W a0 n0 c0 f) (cli:Int) (hcl:(Lit.int .i64 cli).wf=true) (x:CallM) (hx:wfX x) :
  Calls Tryz.prog 4 #[.slice a0 n0 c0,ν cli,.agg (cL x).toArray] W fun e W'=>e=.returned (.bool true)∧Below W.heap.size W W':=by
 have hS:Sep W [oldC W W.heap.size]:=Sep.start W
 suffices hZ:CallsR Tryz.prog 4 #[.slice a0 n0 c0,ν cli,.agg (cL x).toArray] W (fun v W'=>v=.bool true∧Below W.heap.size W W') from Calls.mono hZ fun e W' ⟨v,e1,e2,h⟩=>⟨by rw [e1,e2],h⟩
 refine enterR Tryz.func4 rfl (N:=53) Tryz.ntmps4 (by show 3≤53;decide) [(0,.slice a0 n0 c0),(1,ν cli),(2,.agg (cL x).toArray)] rfl fun _ h1=>sqr fun _ hK3=>so (wn rfl) fun _ hK1=>xbox h1 rfl rfl rfl rfl rfl (z:=(cL x)) rfl hS fun _ g4 w7 h5 s8 _ _=>hK1 _ _ ?_
 refine mv h5 rfl fun _ h2=>wpList_nil<|hK3 _ _<|sqr fun _ hK2=>mv h2 rfl fun _ h3=>cl h3 rfl cz_commonslaw06_played (playedF_s (most:=30) (s8.pk [1,0] rfl) rb (by decide)) fun _ v1 w1 r2 h4=>?_
 obtain ⟨cf,ob,F,Ax17,df,nax18,ncx19,eax20,ecx21,oax22,ocx23,rfl,s1,hA28⟩:=r2
 refine mvs 7 h4 rfl fun _ h6=>h6.sn [9,7,6,5,0,1,2] rfl fun h7=>hK2 _ _<|sq fun _ hK4=>sqr fun _ hK5=>mvs 2 h7 rfl fun _ h8=>h8.sn [20,9,7,6,5,0,1,2] rfl fun h9=>hK5 _ _<|wcF h9 rfl rfl<|h9.sk [9,7,6,5,0,1,2] rfl fun h10=>wp_skip<|hK4 _ _ ?_
 refine sqr fun _ hK6=>mv h10 rfl fun _ h11=>cl h11 rfl cp_posix_Fs_Copy_yv1 (copyQ_c (cf:=cf) (ob:=ob) (A:=Ax17) (F:=F) s1 hA28.ok.toFsC (hA28.sz.sm ω)) fun _ v2 w2 r3 h12=>?_
 obtain ⟨gfx57,gbx58,ccx59,Ax60,Sx61,rfl,s2,hI66,hD66,hZ66⟩:=r3
 obtain ⟨δ2,hok2⟩:=hD66
 have hrw:=hI66.rows hA28.ok.toFsC hok2
 refine mv h12 rfl fun _ h13=>h13.sn [10,9,7,6,5,0,1,2] rfl fun h14=>hK6 _ _<|sq fun _ hK7=>sqr fun _ hK8=>mv h14 rfl fun _ h15=>bv h15 rfl (bNil _ υ23 _ _ _) fun _ h16=>h16.sn [24,10,9,7,6,5,0,1,2] rfl fun h17=>hK8 _ _<|wcF h17 rfl rfl<|h17.sk [10,9,7,6,5,0,1,2] rfl fun h18=>?_
 refine wp_skip<|hK7 _ _<|sqr fun _ hK9=>mvs 2 h18 rfl fun _ h19=>sw1 h19 rfl (v:=.agg (cL x).toArray) (rld h19 rfl rfl (ldA υ30 rfl (n:=8) κ (s2.get 11 rfl:Blk _ _ _ _) rfl rfl)) fun _ h20=>cl h20 rfl cz_commonslaw06_cut (cut_s s2 x) fun _ v3 w3 r4 h21=>?_
 obtain ⟨rfl,s3⟩:=r4
 obtain ⟨G,r1,hG⟩:∃ G r,doF F cli (cutX x)=(G,r):=⟨_,_,rfl⟩
 have hRf:r1.e≠0→G=F∧r1=errR r1.e:=fun q=>by have z:=doF_ref (F:=F) cli (cutX x);rw [hG] at z;exact z q
 have hnl:r1.names.length≤1000:=by have z:=do_names (F:=F) cli (cutX x);rw [hG] at z;exact Nat.le_trans z (Nat.le_trans hA28.sz.2.1 ω)
 refine cl h21 rfl cz_posix_Fs_Do (doQ_c (cf:=cf) (A:=Ax17) (F:=F) (n:=30) (x:=(cutX x)) (G:=G) (r:=r1) (s3.pk [3,4,5,0,1,2,6,7,8,9,10,11] rfl) hA28 ω (Nat.le_trans (cut_p1 _) ω) (Nat.le_trans (cut_p2 _) ω) (Nat.le_trans (cut_d _) ω) hx.2.2.1 hG) fun _ v4 w4 r5 h22=>?_
 obtain ⟨Ax94,sax95,scx96,rfl,s4,hA101⟩:=r5
 refine so (wn rfl) fun _ hK10=>xalloc h22 rfl rfl rfl rfl (z:=zL) (fun _=>rfl) s4 fun _ g1 w5 h23 s5 _ _=>hK10 _ _ ?_
 refine stA h23 s5 0 rfl rfl rfl κ rfl rfl rfl rfl fun _ w6 h24 s6 _=>h24.sn [11,10,9,7,6,5,0,1,2] rfl fun h25=>hK9 _ _<|sq fun _ hK11=>sqr fun _ hK12=>fav h25 rfl (fz_api_Reply_0 _ _) fun _ h26=>ldv h26 s6 0 υ32 rfl rfl rfl rfl fun _ h27=>bv h27 (z:=.bool (decide (r1.e=0))) rfl (cEq _ _ _ _ rfl) fun _ h28=>h28.sn [32,11,10,9,7,6,5,0,1,2] rfl fun h29=>hK12 _ _ ?_
 rcases bC (decide (r1.e=0)) with hc1 | hc1
 ·skip
  have hp1:r1.e=0:=(dT hc1)
  refine wcT h29 rfl hc1<|h29.sk [11,10,9,7,6,5,0,1,2] rfl fun h30=>sqr fun _ hK13=>cl h30 rfl cz_commonslaw06_lives (lives_s s6) fun _ v5 w8 r6 h31=>?_
  obtain ⟨rfl,s7⟩:=r6
  refine h31.sk [33,11,10,9,7,5,0,1,2] rfl fun h32=>mv h32 rfl fun _ h33=>h33.sn [6,11,10,9,7,5,0,1,2] rfl fun h34=>hK13 _ _<|wp_ret ?_
  try simp only [Exit.then,Exit.inBlock]
  refine retR (v:=.bool true) (res1 h34 rfl rfl) h34.defs ?_
  exact ⟨rfl,(s7.get 12 rfl:Below _ _ _∧_).1⟩
 ·skip
  have hp2:¬ (r1.e=0):=(dF hc1)
  obtain ⟨hGF,hr1⟩:=hRf (dF hc1)
  have q1:rowsQ (rowsF G) (rowsF (copyF F ccx59))=true:=rowsQ_iff.2 (by rw [hGF];exact hrw)
  have q2:rowsQ (rowsF (copyF F ccx59)) (rowsF G)=true:=rowsQ_iff.2 (by rw [hGF];exact hrw.symm)
  have q3:sameR r1 (errR r1.e)=true:=by rw [← hr1];exact sameR_self r1
  refine wcF h29 rfl hc1<|h29.sk [11,10,9,7,6,5,0,1,2] rfl fun h35=>wp_skip<|hK11 _ _<|sq fun _ hK14=>?_
  have s9:=s6.ownNil 0 9 1
  refine wp_region_lit<|sw1 h35 rfl (v:=.agg #[ν r1.e,ν r1.fd,σ r1.data,.slice sax95 r1.names.length scx96,ν r1.kind,ν r1.links,ν r1.size]) (rld h35 rfl rfl (ldA υ37 rfl (n:=7) κ (s9.get 1 rfl:Blk _ _ _ _) rfl rfl)) fun _ h36=>fav h36 rfl (fz_api_Reply_0 _ _) fun _ h37=>ldv h37 s9 1 υ32 rfl rfl rfl rfl fun _ h38=>bu h38 (v:=.agg #[ν r1.e,ν 0,σ [],.slice none 0 0,ν 0,ν 0,ν 0]) rfl (fun w=>κ) fun _ h39=>cl h39 rfl cz_commonsref06_SameReply (sameReply_s (r:=r1) (s:=errR r1.e) (s9.pk [2,0,1,3,4,5,6,7,8,9,10,11,12,13,14] rfl) (Nat.le_trans hnl (by decide)) (Nat.zero_le _)) fun _ v6 w9 r7 h40=>?_
  obtain ⟨rfl,s10⟩:=r7
  refine mv h40 rfl fun _ h41=>h41.sn [12,11,10,9,7,6,5,0,1,2] rfl fun h42=>hK14 _ _<|sqr fun _ hK15=>mvs 2 h42 rfl fun _ h43=>cl h43 rfl cp_posix_Fs_Same_yv1 (same_c (s10.pk [3,4,5,6,7,8,0,1,2,9,10,11,12,13,14] rfl) hA101.ok.toFsC (hA101.sz.sm ω) hok2 hZ66) fun _ v7 w10 r8 h44=>?_
  obtain ⟨rfl,s11⟩:=r8
  refine mv h44 rfl fun _ h45=>sv h45 ((wT h45 rfl rfl rfl).trans q1) rfl rfl rfl (v:=π gfx57) (rmove h45 rfl rfl) fun _ h46=>sv h46 ((wT h46 rfl rfl rfl).trans q1) rfl rfl rfl (v:=π cf) (rmove h46 rfl rfl) fun _ h47=>so ((wT h47 rfl rfl rfl).trans q1) fun _ hK16=>xcall h47 rfl rfl rfl (xs:=[.tmp 43,.tmp 44]) rfl cp_posix_Fs_Same_yv1 rfl (vs:=[π gfx57,π cf]) rfl (args:=#[π gfx57,π cf]) rfl (same_c (s11.pk [3,4,5,0,1,2,6,7,8,9,10,11,12,13,14] rfl) hok2 hZ66 hA101.ok.toFsC (hA101.sz.sm ω)) fun _ v8 w11 r9 h48=>hK16 _ _ ?_
  obtain ⟨rfl,s12⟩:=r9
  refine sv1 h48 rfl (v:=.bool (rowsQ (rowsF (copyF F ccx59)) (rowsF G))) (rpickE h48 rfl (E:=(rowsQ (rowsF G) (rowsF (copyF F ccx59)))) (b:=true) rfl q1 rfl) fun _ h49=>mv h49 rfl fun _ h50=>sv h50 ((wT h50 rfl rfl rfl).trans q2) rfl rfl rfl (v:=.bool (sameR r1 (errR r1.e))) (rmove h50 rfl rfl) fun _ h51=>sv1 h51 rfl (v:=.bool (sameR r1 (errR r1.e))) (rpickE h51 rfl (E:=(rowsQ (rowsF (copyF F ccx59)) (rowsF G))) (b:=true) rfl q2 rfl) fun _ h52=>mv h52 rfl fun _ h53=>so ((wT h53 rfl rfl rfl).trans q3) fun _ hK17=>xcall h53 rfl rfl rfl (xs:=[]) rfl cz_commonslaw06_lives rfl (vs:=[]) rfl (args:=#[]) rfl (lives_s s12) fun _ v9 w12 r10 h54=>hK17 _ _ ?_
  obtain ⟨rfl,s13⟩:=r10
  refine sv1 h54 rfl (v:=.bool true) (rpickE h54 rfl (E:=(sameR r1 (errR r1.e))) (b:=true) rfl q3 rfl) fun _ h55=>h55.sk [52,51,50,49,48,47,46,45,44,43,42,41,40,39,12,11,10,9,7,5,0,1,2] rfl fun h56=>mv h56 rfl fun _ h57=>h57.sn [6,12,11,10,9,7,5,0,1,2] rfl fun h58=>hK15 _ _<|wp_ret ?_
  try simp only [Exit.then,Exit.inBlock]
  refine retR (v:=.bool true) (res1 h58 rfl rfl) h58.defs ?_
  exact ⟨rfl,(s13.get 13 rfl:Below _ _ _∧_).1⟩
end
end Go.Proofs.YtcanemamnmmbcaaGreatDoor
