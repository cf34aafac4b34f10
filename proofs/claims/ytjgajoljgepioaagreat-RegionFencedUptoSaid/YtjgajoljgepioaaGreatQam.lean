/- Parts of the proof. -/
import Derived.Test.YtjgajoljgepioaaGreatQal
namespace Go.Proofs.YtjgajoljgepioaaGreat
open Go.RowKit
set_option linter.unusedSimpArgs false
set_option linter.unusedVariables false
set_option linter.unusedSectionVars false
set_option maxRecDepth 100000
set_option maxHeartbeats 8000000
section
theorem Ux {P Q:PkM} (hP:P.N=[]) (hQ:Q.N=[]) (w:World):Calls Tryz.prog 20 #[.agg (pk0 P).toArray,.agg (pk0 Q).toArray] w fun e w'=>e=.returned (.bool (BX P Q))∧Below w.heap.size w w':=by
 have r:Row w 1 none P.N.length 0 (P.N.map AS):=by rw [hP];exact Row.nil w 1
 have r2:Row w 1 none Q.N.length 0 (Q.N.map AS):=by rw [hQ];exact Row.nil w 1
 have z:=DO P Q none none 0 0 w r r2
 rw [hP,hQ] at z;exact z
theorem VV {w:World} {R:List Ch} {P:PkM} {pa:Option Addr} {pc:Nat} {cg mg mb md mp B k:Nat} {S:List SideM} {fr:Bool} {M:MemM} {W:World} (hS0:Sep w ([Ab cg 83 (An mg S fr),AG mg mb md mp M,AN W B]++R)) (sok:SOk S k) (hM:M.V.length=23168) (hB:B=W.heap.size) (wP:wfP P) (hP:Bg P) (hS7:shortP P) (hN:∀ s∈P.N,s.length≤1100000) (hn9:P.N.length≤1100000) (hNm:Row W 1 pa P.N.length pc (P.N.map AS)) :
  CallsR Tryz.prog 17 #[π cg,.agg (pkC P pa P.N.length pc).toArray] w (fun v w'=>∃ M' S' fr' Q b,v=.tuple #[.agg (pk0 Q).toArray,.bool b]∧Sep w' ([Ab cg 83 (An mg S' fr'),AG mg mb md mp M',AN W B]++R)∧SOk S' (k+1)∧M'.V.length=23168∧Q.N=[]∧(∀ j:Nat,(j:Int)+1≠P.I 1→S'.getD j (Ac 0)=S.getD j (Ac 0))∧doC ⟨M,S,fr⟩ P=(⟨M',S',fr'⟩,Q,b)):=
 CallsR.mono (PS hS0 sok.len hM hB wP hP hS7 hN hn9 hNm) fun v w' ⟨M',S',fr',Q,b,e,s,hd⟩=>by
  have z:=Ts (fr:=fr) (P:=P) sok hM
  rw [hd] at z
  exact ⟨M',S',fr',Q,b,e,s,z.1,z.2.2,z.2.1,fun j hj=>Tr hd j hj,hd⟩
theorem Tu {w:World} {R:List Ch} {P:PkM} {pa:Option Addr} {pc:Nat} {dg gs0 rg rv rd ra B k:Nat} {S:List SideM} {fr:Bool} {M:MemM} {W:World} (hS0:Sep w ([Ab dg 49 [π rg,.slice (some ⟨gs0,0,none⟩) 8 8,.bool fr],Ab gs0 45 (S.flatMap AL),AW rg rv rd ra M,AN W B]++R)) (sok:SOk S k) (hk:k≤1000) (hM:M.V.length=23168) (hB:B=W.heap.size) (wP:wfP P) (hP:Bg P) (hS7:shortP P) (hN:∀ s∈P.N,s.length≤1100000) (hn9:P.N.length≤1100000) (hNm:Row W 1 pa P.N.length pc (P.N.map AS)) :
  CallsR Tryz.prog 26 #[π dg,.agg (pkC P pa P.N.length pc).toArray] w (fun v w'=>∃ M' S' fr' Q b,v=.tuple #[.agg (pk0 Q).toArray,.bool b]∧Sep w' ([Ab dg 49 [π rg,.slice (some ⟨gs0,0,none⟩) 8 8,.bool fr'],Ab gs0 45 (S'.flatMap AL),AW rg rv rd ra M',AN W B]++R)∧SOk S' (k+1)∧M'.V.length=23168∧Q.N=[]∧doC ⟨M,S,fr⟩ P=(⟨M',S',fr'⟩,Q,b)):=
 CallsR.mono (WR hS0 sok.len hM hB (fun j=>by have:=sok.get j;unfold wfI;omega) wP hP hS7 hN hn9 hNm) fun v w' ⟨M',S',fr',Q,b,e,s,hd⟩=>by
  have z:=Ts (fr:=fr) (P:=P) sok hM
  rw [hd] at z
  exact ⟨M',S',fr',Q,b,e,s,z.1,z.2.2,z.2.1,hd⟩
theorem FE (g off:Nat) (w:World):(Instr.fieldAt 42 (.pointer (some ⟨g,off,none⟩)) 0).run Tryz.prog w=.ok (.pointer (some ⟨g,off+0,none⟩)) w:=rfl
theorem GG (args:Array Value) (w:World):(callFunc 14 args).run Tryz.prog w=.ok (.enter 14 args) w:=by
 have h:=Tryz.func14
 go_simp
theorem FG (g off:Nat) (w:World):(Instr.fieldAt 42 (.pointer (some ⟨g,off,none⟩)) 2).run Tryz.prog w=.ok (.pointer (some ⟨g,off+44,none⟩)) w:=rfl
theorem AP (g off:Nat) (w:World):(Instr.fieldAt 42 (.pointer (some ⟨g,off,none⟩)) 3).run Tryz.prog w=.ok (.pointer (some ⟨g,off+45,none⟩)) w:=rfl
theorem Du (g off:Nat) (w:World):(Instr.fieldAt 54 (.pointer (some ⟨g,off,none⟩)) 0).run Tryz.prog w=.ok (.pointer (some ⟨g,off+0,none⟩)) w:=rfl
theorem DT (args:Array Value) (w:World):(callFunc 23 args).run Tryz.prog w=.ok (.enter 23 args) w:=by
 have h:=Tryz.func23
 go_simp
theorem Dv (g off:Nat) (w:World):(Instr.fieldAt 54 (.pointer (some ⟨g,off,none⟩)) 2).run Tryz.prog w=.ok (.pointer (some ⟨g,off+2,none⟩)) w:=rfl
theorem CC (args:Array Value) (w:World):(callFunc 24 args).run Tryz.prog w=.ok (.enter 24 args) w:=by
 have h:=Tryz.func24
 go_simp
theorem FF (g off:Nat) (w:World):(Instr.fieldAt 42 (.pointer (some ⟨g,off,none⟩)) 1).run Tryz.prog w=.ok (.pointer (some ⟨g,off+43,none⟩)) w:=rfl
theorem Cp (g off:Nat) (w:World):(Instr.fieldAt 54 (.pointer (some ⟨g,off,none⟩)) 1).run Tryz.prog w=.ok (.pointer (some ⟨g,off+1,none⟩)) w:=rfl
theorem Bv (g off:Nat) (w:World):(Instr.fieldAt 39 (.pointer (some ⟨g,off,none⟩)) 1).run Tryz.prog w=.ok (.pointer (some ⟨g,off+1,none⟩)) w:=rfl
theorem Fm (g off:Nat) (w:World):(Instr.fieldAt 39 (.pointer (some ⟨g,off,none⟩)) 2).run Tryz.prog w=.ok (.pointer (some ⟨g,off+2,none⟩)) w:=rfl
theorem Ci (args:Array Value) (w:World):(callFunc 25 args).run Tryz.prog w=.ok (.enter 25 args) w:=by
 have h:=Tryz.func25
 go_simp
theorem Cq (g off:Nat) (w:World):(Instr.fieldAt 54 (.pointer (some ⟨g,off,none⟩)) 3).run Tryz.prog w=.ok (.pointer (some ⟨g,off+3,none⟩)) w:=rfl
theorem FH (g off:Nat) (w:World):(Instr.fieldAt 49 (.pointer (some ⟨g,off,none⟩)) 1).run Tryz.prog w=.ok (.pointer (some ⟨g,off+1,none⟩)) w:=rfl
theorem Gi (args:Array Value) (w:World):(callFunc 20 args).run Tryz.prog w=.ok (.enter 20 args) w:=by
 have h:=Tryz.func20
 go_simp
theorem FI (g off:Nat) (w:World):(Instr.fieldAt 49 (.pointer (some ⟨g,off,none⟩)) 2).run Tryz.prog w=.ok (.pointer (some ⟨g,off+2,none⟩)) w:=rfl
theorem Gq (args:Array Value) (w:World):(callFunc 19 args).run Tryz.prog w=.ok (.enter 19 args) w:=by
 have h:=Tryz.func19
 go_simp
theorem Dh (args:Array Value) (w:World):(callFunc 26 args).run Tryz.prog w=.ok (.enter 26 args) w:=by
 have h:=Tryz.func26
 go_simp
theorem EH (args:Array Value) (w:World):(callFunc 17 args).run Tryz.prog w=.ok (.enter 17 args) w:=by
 have h:=Tryz.func17
 go_simp
theorem Tw {w:World} {R:List Ch} {P:PkM} {pa:Option Addr} {pc:Nat} {pg cg mg mb md mp dg gs0 rg rv rd ra B k:Nat} {S U:List SideM} {fr gr dst dcr:Bool} {M N:MemM} {W:World} {qa:Option Addr} {qc:Nat} {qs:List Int} (hS0:Sep w ([Ab pg 54 [π mg,π cg,π rg,π dg],Ab cg 83 (An mg S fr),AG mg mb md mp M,Ab dg 49 [π rg,.slice (some ⟨gs0,0,none⟩) 8 8,.bool gr],Ab gs0 45 (U.flatMap AL),AW rg rv rd ra N,AN W B]++R)) (sok:SOk S k) (uok:SOk U k) (hk:k≤1000) (hM:M.V.length=23168) (hN2:N.V.length=23168) (hB:B=W.heap.size) (wP:wfP P) (hS7:shortP P) (hN:∀ s∈P.N,s.length≤1100000) (hn9:P.N.length≤1100000) (hNm:Row W 1 pa P.N.length pc (P.N.map AS)) (hqs:GD W qa qc qs) (hqo:Gb qs) :
  CallsR Tryz.prog 8 #[π pg,.agg (Di P pa P.N.length pc dst dcr qa qs.length qc).toArray] w (fun v w'=>∃ M' S' fr' N' U' gr' bb,v=.bool bb∧Sep w' ([Ab pg 54 [π mg,π cg,π rg,π dg],Ab cg 83 (An mg S' fr'),AG mg mb md mp M',Ab dg 49 [π rg,.slice (some ⟨gs0,0,none⟩) 8 8,.bool gr'],Ab gs0 45 (U'.flatMap AL),AW rg rv rd ra N',AN W B]++R)∧SOk S' (k+1)∧M'.V.length=23168∧SOk U' (k+1)∧N'.V.length=23168∧(dcr=false→∀ j:Nat,(j:Int)+1≠P.I 1→S'.getD j (Ac 0)=S.getD j (Ac 0))∧(M=N→S=U→fr=gr→bb=true∧M'=N'∧S'=U'∧fr'=gr')):=by
 have hS:Sep w [Ab pg 54 [π mg,π cg,π rg,π dg],Ab cg 83 (An mg S fr),AG mg mb md mp M,Ab dg 49 [π rg,.slice (some ⟨gs0,0,none⟩) 8 8,.bool gr],Ab gs0 45 (U.flatMap AL),AW rg rv rd ra N,AN W B,Ch.many R]:=Sep.tail_many (xs:=[_,_,_,_,_,_,_]) hS0;clear hS0
 obtain ⟨Q,hQ⟩:∃ Q,Er P=Q:=⟨_,rfl⟩
 have hQN:Q.N=P.N:=by rw [← hQ];exact Jz P
 have hQI:Q.I 1=P.I 1:=by rw [← hQ,Rb]
 have hNl:Q.N.length=P.N.length:=by rw [hQN]
 have wQ:wfP Q:=by rw [← hQ];exact Og wP
 have hPQ:Bg Q:=Md wQ
 have hSQ:shortP Q:=by rw [← hQ];exact Kt hS7
 have hNQ:∀ s∈Q.N,s.length≤1100000:=by rw [hQN];exact hN
 have hn9Q:Q.N.length≤1100000:=by rw [hQN];exact hn9
 have hNmQ:Row W 1 pa Q.N.length pc (Q.N.map AS):=by rw [hQN];exact hNm
 have h8:=sok.len
 have h8U:=uok.len
 have hMo:M.ok:=(hS.get 2 rfl:MemP _ _ _ _ _ _).1
 have hNo:N.ok:=(hS.get 5 rfl:MemR _ _ _ _ _ _).1
 have hqc:qs.length≤qc:=hqs.2.1
 refine Cb Tryz.func8 rfl (N:=113) Tryz.ntmps8 (by show 2≤113;decide) [(0,π pg),(1,.agg (Di P pa P.N.length pc dst dcr qa qs.length qc).toArray)] rfl fun _ h1=>sqr fun _ hK3=>so (wn rfl) fun _ hK1=>Jt h1 rfl rfl rfl rfl rfl (z:=(Di P pa P.N.length pc dst dcr qa qs.length qc)) rfl hS fun _ g4 w7 h5 s8 _ _=>hK1 _ _ ?_
 refine mv h5 rfl fun _ h2=>wpList_nil<|hK3 _ _<|sqr fun _ hK2=>fav h2 rfl (FE _ _) fun _ h3=>sw1 h3 rfl (v:=.agg (pkC P pa P.N.length pc).toArray) (rld h3 rfl rfl (ldA υ39 rfl (n:=43) κ (s8.get 0 rfl:Blk _ _ _ _) rfl rfl)) fun _ h4=>cl h4 rfl GG ((by have z:=Rc (P:=P) (pa:=pa) (pc:=pc) s8 (hS7 7 (by decide));rw [hQ] at z;exact z)) fun _ v1 w2 r1 h6=>?_
 obtain ⟨rfl,s1⟩:=r1
 refine so (wn rfl) fun _ hK4=>BU h6 rfl rfl rfl rfl (z:=[ν 0,ν 0,ν 0,ν 0,ν 0,ν 0,ν 0,σ [],ν 0,ν 0,ν 0,σ [],σ [],ν 0,ν 0,ν 0,ν 0,σ [],ν 0,ν 0,ν 0,ν 0,σ [],.slice none 0 0,ν 0,ν 0,ν 0,ν 0,ν 0,ν 0,ν 0,ν 0,ν 0,ν 0,ν 0,ν 0,ν 0,ν 0,ν 0,ν 0,ν 0,ν 0,ν 0]) (fun _=>rfl) s1 fun _ g3 w3 h7 s2 _ _=>hK4 _ _ ?_
 refine stA h7 s2 0 rfl rfl rfl κ rfl rfl rfl rfl fun _ w4 h9 s3 _=>h9.sn [5,4,3,0,1] rfl fun h10=>hK2 _ _<|sq fun _ hK5=>sqr fun _ hK6=>fav h10 rfl (FG _ _) fun _ h11=>ldv h11 s3 1 υ4 rfl rfl rfl rfl fun _ h12=>h12.sn [15,5,4,3,0,1] rfl fun h13=>hK6 _ _ ?_
 rcases bC dcr with hc1 | hc1
 ·skip
  refine wcT h13 rfl hc1<|h13.sk [5,4,3,0,1] rfl fun h14=>sq fun _ hK7=>sqr fun _ hK8=>fav h14 rfl (AP _ _) fun _ h15=>ldv h15 s3 1 υ40 rfl rfl rfl rfl fun _ h16=>sv1 h16 rfl (v:=ν (qs.length:Int)) (We h16 rfl rfl υ40) fun _ h17=>bv h17 (z:=.bool (decide ((qs.length:Int)>200))) rfl (cGt _ _ _ _ rfl) fun _ h18=>h18.sn [19,5,4,3,0,1] rfl fun h19=>hK8 _ _ ?_
  rcases bC (decide ((qs.length:Int)>200)) with hc2 | hc2
  ·skip
   have hp1:(qs.length:Int)>200:=(dT hc2)
   refine wcT h19 rfl hc2<|h19.sk [5,4,3,0,1] rfl fun h20=>wp_region_lit<|fav h20 rfl (AP _ _) fun _ h21=>ldv h21 s3 1 υ40 rfl rfl rfl rfl fun _ h22=>sv1 h22 rfl (v:=.slice qa 200 qc) (WH h22 rfl rfl (vl:=none) (vh:=some (ν 200)) rfl rfl (fun w=>slL 40 3 υ40 κ qa qs.length qc (b:=200) ω w)) fun _ h23=>fav h23 rfl (AP _ _) fun _ h24=>st1 h24 s3 1 rfl rfl κ rfl rfl rfl rfl fun _ w5 h25 s4 _=>h25.sn [5,4,3,0,1] rfl fun h26=>hK7 _ _ ?_
   refine sq fun _ hK9=>?_
   have s5:=s4.drew
   refine wp_region_held_drew (S:=fun w'=>Sep w' [Ab g3 39 (pkC Q pa P.N.length pc),Ab g4 42 (Di P pa P.N.length pc dst dcr qa 200 qc),Ab pg 54 [π mg,π cg,π rg,π dg],Ab cg 83 (An mg S fr),Ab dg 49 [π rg,.slice (some ⟨gs0,0,none⟩) 8 8,.bool gr],Ab gs0 45 (U.flatMap AL),AW rg rv rd ra N,AN W B,Ch.many R]) κ (s5.pk [0,1,2,3,5,6,7,8,9] rfl) (fun hq1=>?_)
   refine tv1 hq1 h26 0 rfl rfl (v:=π pg) (fun w1 _=>(Ak h26 rfl rfl) w1) fun _ h27=>?_
   refine tv1 hq1 h27 1 rfl rfl (v:=π pg) (fun w1 _=>(Bp h27 rfl rfl) w1) fun _ h28=>?_
   refine tv1 hq1 h28 2 rfl rfl (v:=π pg) (fun w1 _=>(rfa h28 rfl rfl (fun w=>Du pg 0 w)) w1) fun _ h29=>?_
   refine tv1 hq1 h29 3 rfl rfl (v:=π mg) (fun w1 hSw=>(rld h29 rfl rfl (ldB υ50 rfl (hSw.get 2 rfl:Blk _ _ _ _) rfl))) fun _ h30=>?_
   refine tv1 hq1 h30 4 rfl rfl (v:=.pointer (some ⟨g4,45,none⟩)) (fun w1 _=>(rfa h30 rfl rfl (fun w=>AP g4 0 w)) w1) fun _ h31=>?_
   refine tv1 hq1 h31 5 rfl rfl (v:=.slice qa 200 qc) (fun w1 hSw=>(rld h31 rfl rfl (ldB υ40 rfl (hSw.get 1 rfl:Blk _ _ _ _) rfl))) fun _ h32=>?_
   refine to_ 6 rfl (wn rfl) κ fun _ hK10=>Be h32 rfl rfl rfl (xs:=[.tmp 27,.tmp 29]) rfl DT rfl (vs:=[π mg,.slice qa 200 qc]) rfl (args:=#[π mg,.slice qa 200 qc]) rfl (QZ (n:=200) (s5.pk [4,0,1,2,3,5,6,7,8,9] rfl) (s5.get 8 rfl:Below _ _ _∧_) hB hqs hqo (fun b hb=>MI s5 (show 8≠4 by decide) rfl rfl (hB ▸ hb)) ω) fun _ v2 w6 r2 h33=>?_
   obtain ⟨yx96,rfl,s6⟩:=r2
   refine hK10 _ _ (s6.pk [1,2,3,4,5,6,7,8,9] rfl) fun hq2=>h33.sk [5,4,3,0,1] rfl fun h34=>?_
   refine wpAnyH_done κ ?_ _
   refine hK9 _ _ ?_
   refine sq fun _ hK11=>?_
   have s7:=s6.drew
   refine wp_region_held_drew (S:=fun w'=>Sep w' [AG mg mb md mp (Ec M (qs.take 200)),Ab g3 39 (pkC Q pa P.N.length pc),Ab g4 42 (Di P pa P.N.length pc dst dcr qa 200 qc),Ab pg 54 [π mg,π cg,π rg,π dg],Ab cg 83 (An mg S fr),Ab dg 49 [π rg,.slice (some ⟨gs0,0,none⟩) 8 8,.bool gr],Ab gs0 45 (U.flatMap AL),AN W B,Ch.many R]) κ (s7.pk [0,1,2,3,4,5,6,8,9] rfl) (fun hq3=>?_)
   refine tv1 hq3 h34 0 rfl rfl (v:=π pg) (fun w1 _=>(Ak h34 rfl rfl) w1) fun _ h35=>?_
   refine tv1 hq3 h35 1 rfl rfl (v:=π pg) (fun w1 _=>(Bp h35 rfl rfl) w1) fun _ h36=>?_
   refine tv1 hq3 h36 2 rfl rfl (v:=.pointer (some ⟨pg,2,none⟩)) (fun w1 _=>(rfa h36 rfl rfl (fun w=>Dv pg 0 w)) w1) fun _ h37=>?_
   refine tv1 hq3 h37 3 rfl rfl (v:=π rg) (fun w1 hSw=>(rld h37 rfl rfl (ldB υ46 rfl (hSw.get 3 rfl:Blk _ _ _ _) rfl))) fun _ h38=>?_
   refine tv1 hq3 h38 4 rfl rfl (v:=.pointer (some ⟨g4,45,none⟩)) (fun w1 _=>(rfa h38 rfl rfl (fun w=>AP g4 0 w)) w1) fun _ h39=>?_
   refine tv1 hq3 h39 5 rfl rfl (v:=.slice qa 200 qc) (fun w1 hSw=>(rld h39 rfl rfl (ldB υ40 rfl (hSw.get 2 rfl:Blk _ _ _ _) rfl))) fun _ h40=>?_
   refine to_ 6 rfl (wn rfl) κ fun _ hK12=>Be h40 rfl rfl rfl (xs:=[.tmp 34,.tmp 36]) rfl CC rfl (vs:=[π rg,.slice qa 200 qc]) rfl (args:=#[π rg,.slice qa 200 qc]) rfl (Od (n:=200) (s7.pk [7,0,1,2,3,4,5,6,8,9] rfl) (s7.get 8 rfl:Below _ _ _∧_) hB hqs hqo (fun b hb=>LD s7 (show 8≠7 by decide) rfl rfl (hB ▸ hb)) ω) fun _ v3 w8 r3 h41=>?_
   obtain ⟨yx121,rfl,s9⟩:=r3
   refine hK12 _ _ (s9.pk [1,2,3,4,5,6,7,8,9] rfl) fun hq4=>h41.sk [5,4,3,0,1] rfl fun h42=>?_
   refine wpAnyH_done κ ?_ _
   refine hK11 _ _ ?_
   refine sqr fun _ hK13=>h42.sk [5,3,0,1] rfl fun h43=>mv h43 rfl fun _ h44=>wpList_nil<|hK13 _ _<|wp_ret ?_
   try simp only [Exit.then,Exit.inBlock]
   refine CO (v:=.bool true) (CN h44 rfl rfl) h44.defs ?_
   exact ⟨(Ec M (qs.take 200)),S,fr,(Ec N (qs.take 200)),U,gr,_,rfl,Sep.tail_un (xs:=[_,_,_,_,_,_,_]) (s9.pk [4,5,1,6,7,0,8,9] rfl),sok.le (Nat.le_succ k),(GR M _).trans (hMo.1.trans hM),uok.le (Nat.le_succ k),(GR N _).trans (hNo.1.trans hN2),(fun hc=>absurd (hc1.symm.trans hc) Bool.noConfusion),fun q1 q2 q3=>(by rw [q1,q2,q3];exact ⟨rfl,rfl,rfl,rfl⟩)⟩
  ·skip
   have hp2:¬ ((qs.length:Int)>200):=(dF hc2)
   refine wcF h19 rfl hc2<|h19.sk [5,4,3,0,1] rfl fun h45=>wp_skip<|hK7 _ _<|sq fun _ hK14=>?_
   have s10:=s3.drew
   refine wp_region_held_drew (S:=fun w'=>Sep w' [Ab g3 39 (pkC Q pa P.N.length pc),Ab g4 42 (Di P pa P.N.length pc dst dcr qa qs.length qc),Ab pg 54 [π mg,π cg,π rg,π dg],Ab cg 83 (An mg S fr),Ab dg 49 [π rg,.slice (some ⟨gs0,0,none⟩) 8 8,.bool gr],Ab gs0 45 (U.flatMap AL),AW rg rv rd ra N,AN W B,Ch.many R]) κ (s10.pk [0,1,2,3,5,6,7,8,9] rfl) (fun hq5=>?_)
   refine tv1 hq5 h45 0 rfl rfl (v:=π pg) (fun w1 _=>(Ak h45 rfl rfl) w1) fun _ h46=>?_
   refine tv1 hq5 h46 1 rfl rfl (v:=π pg) (fun w1 _=>(Bp h46 rfl rfl) w1) fun _ h47=>?_
   refine tv1 hq5 h47 2 rfl rfl (v:=π pg) (fun w1 _=>(rfa h47 rfl rfl (fun w=>Du pg 0 w)) w1) fun _ h48=>?_
   refine tv1 hq5 h48 3 rfl rfl (v:=π mg) (fun w1 hSw=>(rld h48 rfl rfl (ldB υ50 rfl (hSw.get 2 rfl:Blk _ _ _ _) rfl))) fun _ h49=>?_
   refine tv1 hq5 h49 4 rfl rfl (v:=.pointer (some ⟨g4,45,none⟩)) (fun w1 _=>(rfa h49 rfl rfl (fun w=>AP g4 0 w)) w1) fun _ h50=>?_
   refine tv1 hq5 h50 5 rfl rfl (v:=.slice qa qs.length qc) (fun w1 hSw=>(rld h50 rfl rfl (ldB υ40 rfl (hSw.get 1 rfl:Blk _ _ _ _) rfl))) fun _ h51=>?_
   refine to_ 6 rfl (wn rfl) κ fun _ hK15=>Be h51 rfl rfl rfl (xs:=[.tmp 27,.tmp 29]) rfl DT rfl (vs:=[π mg,.slice qa qs.length qc]) rfl (args:=#[π mg,.slice qa qs.length qc]) rfl (QZ (n:=qs.length) (s10.pk [4,0,1,2,3,5,6,7,8,9] rfl) (s10.get 8 rfl:Below _ _ _∧_) hB hqs hqo (fun b hb=>MI s10 (show 8≠4 by decide) rfl rfl (hB ▸ hb)) ω) fun _ v4 w9 r4 h52=>?_
   obtain ⟨yx152,rfl,s11⟩:=r4
   refine hK15 _ _ (s11.pk [1,2,3,4,5,6,7,8,9] rfl) fun hq6=>h52.sk [5,4,3,0,1] rfl fun h53=>?_
   refine wpAnyH_done κ ?_ _
   refine hK14 _ _ ?_
   refine sq fun _ hK16=>?_
   have s12:=s11.drew
   refine wp_region_held_drew (S:=fun w'=>Sep w' [AG mg mb md mp (Ec M (qs.take 200)),Ab g3 39 (pkC Q pa P.N.length pc),Ab g4 42 (Di P pa P.N.length pc dst dcr qa qs.length qc),Ab pg 54 [π mg,π cg,π rg,π dg],Ab cg 83 (An mg S fr),Ab dg 49 [π rg,.slice (some ⟨gs0,0,none⟩) 8 8,.bool gr],Ab gs0 45 (U.flatMap AL),AN W B,Ch.many R]) κ (s12.pk [0,1,2,3,4,5,6,8,9] rfl) (fun hq7=>?_)
   refine tv1 hq7 h53 0 rfl rfl (v:=π pg) (fun w1 _=>(Ak h53 rfl rfl) w1) fun _ h54=>?_
   refine tv1 hq7 h54 1 rfl rfl (v:=π pg) (fun w1 _=>(Bp h54 rfl rfl) w1) fun _ h55=>?_
   refine tv1 hq7 h55 2 rfl rfl (v:=.pointer (some ⟨pg,2,none⟩)) (fun w1 _=>(rfa h55 rfl rfl (fun w=>Dv pg 0 w)) w1) fun _ h56=>?_
   refine tv1 hq7 h56 3 rfl rfl (v:=π rg) (fun w1 hSw=>(rld h56 rfl rfl (ldB υ46 rfl (hSw.get 3 rfl:Blk _ _ _ _) rfl))) fun _ h57=>?_
   refine tv1 hq7 h57 4 rfl rfl (v:=.pointer (some ⟨g4,45,none⟩)) (fun w1 _=>(rfa h57 rfl rfl (fun w=>AP g4 0 w)) w1) fun _ h58=>?_
   refine tv1 hq7 h58 5 rfl rfl (v:=.slice qa qs.length qc) (fun w1 hSw=>(rld h58 rfl rfl (ldB υ40 rfl (hSw.get 2 rfl:Blk _ _ _ _) rfl))) fun _ h59=>?_
   refine to_ 6 rfl (wn rfl) κ fun _ hK17=>Be h59 rfl rfl rfl (xs:=[.tmp 34,.tmp 36]) rfl CC rfl (vs:=[π rg,.slice qa qs.length qc]) rfl (args:=#[π rg,.slice qa qs.length qc]) rfl (Od (n:=qs.length) (s12.pk [7,0,1,2,3,4,5,6,8,9] rfl) (s12.get 8 rfl:Below _ _ _∧_) hB hqs hqo (fun b hb=>LD s12 (show 8≠7 by decide) rfl rfl (hB ▸ hb)) ω) fun _ v5 w10 r5 h60=>?_
   obtain ⟨yx177,rfl,s13⟩:=r5
   refine hK17 _ _ (s13.pk [1,2,3,4,5,6,7,8,9] rfl) fun hq8=>h60.sk [5,4,3,0,1] rfl fun h61=>?_
   refine wpAnyH_done κ ?_ _
   refine hK16 _ _ ?_
   refine sqr fun _ hK18=>h61.sk [5,3,0,1] rfl fun h62=>mv h62 rfl fun _ h63=>wpList_nil<|hK18 _ _<|wp_ret ?_
   try simp only [Exit.then,Exit.inBlock]
   refine CO (v:=.bool true) (CN h63 rfl rfl) h63.defs ?_
   exact ⟨(Ec M (qs.take 200)),S,fr,(Ec N (qs.take 200)),U,gr,_,rfl,Sep.tail_un (xs:=[_,_,_,_,_,_,_]) (s13.pk [4,5,1,6,7,0,8,9] rfl),sok.le (Nat.le_succ k),(GR M _).trans (hMo.1.trans hM),uok.le (Nat.le_succ k),(GR N _).trans (hNo.1.trans hN2),(fun hc=>absurd (hc1.symm.trans hc) Bool.noConfusion),fun q1 q2 q3=>(by rw [q1,q2,q3];exact ⟨rfl,rfl,rfl,rfl⟩)⟩
 ·skip
  refine wcF h13 rfl hc1<|h13.sk [5,4,3,0,1] rfl fun h64=>wp_skip<|hK5 _ _<|sq fun _ hK19=>sqr fun _ hK20=>fav h64 rfl (FF _ _) fun _ h65=>ldv h65 s3 1 υ4 rfl rfl rfl rfl fun _ h66=>h66.sn [39,5,4,3,0,1] rfl fun h67=>hK20 _ _ ?_
  rcases bC dst with hc3 | hc3
  ·skip
   refine wcT h67 rfl hc3<|h67.sk [5,4,3,0,1] rfl fun h68=>sq fun _ hK21=>?_
   have s14:=s3.drew
   refine wp_region_held_drew (S:=fun w'=>Sep w' [Ab g3 39 (pkC Q pa P.N.length pc),Ab g4 42 (Di P pa P.N.length pc dst dcr qa qs.length qc),Ab pg 54 [π mg,π cg,π rg,π dg],AG mg mb md mp M,Ab dg 49 [π rg,.slice (some ⟨gs0,0,none⟩) 8 8,.bool gr],Ab gs0 45 (U.flatMap AL),AW rg rv rd ra N,AN W B,Ch.many R]) κ (s14.pk [0,1,2,4,5,6,7,8,9] rfl) (fun hq9=>?_)
   refine tv1 hq9 h68 0 rfl rfl (v:=π pg) (fun w1 _=>(Ak h68 rfl rfl) w1) fun _ h69=>?_
   refine tv1 hq9 h69 1 rfl rfl (v:=π pg) (fun w1 _=>(Bp h69 rfl rfl) w1) fun _ h70=>?_
   refine tv1 hq9 h70 2 rfl rfl (v:=.pointer (some ⟨pg,1,none⟩)) (fun w1 _=>(rfa h70 rfl rfl (fun w=>Cp pg 0 w)) w1) fun _ h71=>?_
   refine tv1 hq9 h71 3 rfl rfl (v:=π cg) (fun w1 hSw=>(rld h71 rfl rfl (ldB υ51 rfl (hSw.get 2 rfl:Blk _ _ _ _) rfl))) fun _ h72=>?_
   refine tv1 hq9 h72 4 rfl rfl (v:=.pointer (some ⟨g3,1,none⟩)) (fun w1 _=>(rfa h72 rfl rfl (fun w=>Bv g3 0 w)) w1) fun _ h73=>?_
   refine tv1 hq9 h73 5 rfl rfl (v:=ν (Q.I 1)) (fun w1 hSw=>(rld h73 rfl rfl (ldB υ3 rfl (hSw.get 0 rfl:Blk _ _ _ _) rfl))) fun _ h74=>?_
   refine tv1 hq9 h74 6 rfl rfl (v:=.pointer (some ⟨g3,2,none⟩)) (fun w1 _=>(rfa h74 rfl rfl (fun w=>Fm g3 0 w)) w1) fun _ h75=>?_
   refine tv1 hq9 h75 7 rfl rfl (v:=ν (Q.I 2)) (fun w1 hSw=>(rld h75 rfl rfl (ldB υ3 rfl (hSw.get 0 rfl:Blk _ _ _ _) rfl))) fun _ h76=>?_
   rcases bC (decide ((Q.I 1)≥1)) with hc4 | hc4
   ·skip
    have hp3:(Q.I 1)≥1:=(dT hc4)
    rcases bC (decide ((Q.I 1)≤8)) with hc5 | hc5
    ·skip
     have hp4:(Q.I 1)≤8:=(dT hc5)
     refine to_ 8 rfl (wn rfl) κ fun _ hK22=>Be h76 rfl rfl rfl (xs:=[.tmp 43,.tmp 45,.tmp 47]) rfl Ci rfl (vs:=[π cg,ν (Q.I 1),ν (Q.I 2)]) rfl (args:=#[π cg,ν (Q.I 1),ν (Q.I 2)]) rfl (LS (j:=(Q.I 1-1).toNat) (s14.pk [3,0,1,2,4,5,6,7,8,9] rfl) sok.len ω ω) fun _ v6 w11 r6 h77=>?_
     obtain ⟨rfl,s15⟩:=r6
     refine hK22 _ _ (s15.pk [1,2,3,4,5,6,7,8,9] rfl) fun hq10=>h77.sk [5,4,3,0,1] rfl fun h78=>?_
     refine wpAnyH_done κ ?_ _
     refine hK21 _ _ ?_
     refine sq fun _ hK23=>sqr fun _ hK24=>fav h78 rfl (Bv _ _) fun _ h79=>ldv h79 s15 1 υ3 rfl rfl rfl rfl fun _ h80=>bv h80 (z:=.bool true) rfl (cGe _ _ _ _ (decide_eq_true ω)) fun _ h81=>mv h81 rfl fun _ h82=>sv h82 (wT h82 (E:=true) rfl rfl rfl) rfl rfl rfl (v:=.pointer (some ⟨g3,1,none⟩)) (rfa h82 rfl rfl (fun w=>Bv g3 0 w)) fun _ h83=>sw h83 (wT h83 (E:=true) rfl rfl rfl) rfl rfl rfl (v:=ν (Q.I 1)) (rld h83 rfl rfl (ldB υ3 rfl (s15.get 1 rfl:Blk _ _ _ _) rfl)) fun _ h84=>sv h84 (wT h84 (E:=true) rfl rfl rfl) rfl rfl rfl (v:=.bool true) (CM h84 rfl rfl rfl (cLe _ _ _ _ (decide_eq_true ω))) fun _ h85=>sv1 h85 rfl (v:=.bool true) (CY h85 rfl rfl rfl) fun _ h86=>h86.sk [56,5,4,3,0,1] rfl fun h87=>?_
     refine wpList_nil<|hK24 _ _<|wcT h87 rfl rfl<|h87.sk [5,4,3,0,1] rfl fun h88=>?_
     have s16:=s15.drew
     refine wp_region_held_drew (S:=fun w'=>Sep w' [Ab cg 83 (An mg (S.set (Q.I 1-1).toNat (Ac (Q.I 2))) fr),Ab g3 39 (pkC Q pa P.N.length pc),Ab g4 42 (Di P pa P.N.length pc dst dcr qa qs.length qc),Ab pg 54 [π mg,π cg,π rg,π dg],AG mg mb md mp M,Ab dg 49 [π rg,.slice (some ⟨gs0,0,none⟩) 8 8,.bool gr],AW rg rv rd ra N,AN W B,Ch.many R]) κ (s16.pk [0,1,2,3,4,5,7,8,9] rfl) (fun hq11=>?_)
     refine tv1 hq11 h88 0 rfl rfl (v:=π pg) (fun w1 _=>(Ak h88 rfl rfl) w1) fun _ h89=>?_
     refine tv1 hq11 h89 1 rfl rfl (v:=π pg) (fun w1 _=>(Bp h89 rfl rfl) w1) fun _ h90=>?_
     refine tv1 hq11 h90 2 rfl rfl (v:=.pointer (some ⟨pg,3,none⟩)) (fun w1 _=>(rfa h90 rfl rfl (fun w=>Cq pg 0 w)) w1) fun _ h91=>?_
     refine tv1 hq11 h91 3 rfl rfl (v:=π dg) (fun w1 hSw=>(rld h91 rfl rfl (ldB υ52 rfl (hSw.get 3 rfl:Blk _ _ _ _) rfl))) fun _ h92=>?_
     refine tv1 hq11 h92 4 rfl rfl (v:=π dg) (fun w1 _=>(Bp h92 rfl rfl) w1) fun _ h93=>?_
     refine tv1 hq11 h93 5 rfl rfl (v:=.pointer (some ⟨dg,1,none⟩)) (fun w1 _=>(rfa h93 rfl rfl (fun w=>FH dg 0 w)) w1) fun _ h94=>?_
     refine tv1 hq11 h94 6 rfl rfl (v:=.slice (some ⟨gs0,0,none⟩) 8 8) (fun w1 hSw=>(rld h94 rfl rfl (ldB υ47 rfl (hSw.get 5 rfl:Blk _ _ _ _) rfl))) fun _ h95=>?_
     refine tv1 hq11 h95 7 rfl rfl (v:=.pointer (some ⟨g3,1,none⟩)) (fun w1 _=>(rfa h95 rfl rfl (fun w=>Bv g3 0 w)) w1) fun _ h96=>?_
     refine tv1 hq11 h96 8 rfl rfl (v:=ν (Q.I 1)) (fun w1 hSw=>(rld h96 rfl rfl (ldB υ3 rfl (hSw.get 1 rfl:Blk _ _ _ _) rfl))) fun _ h97=>?_
     refine tv1 hq11 h97 9 rfl rfl (v:=ν ((Q.I 1)-1)) (fun w1 _=>(CM h97 rfl rfl rfl (NZ _ _ _ ω ω ω)) w1) fun _ h98=>?_
     refine tv1 hq11 h98 10 rfl rfl (v:=.pointer (some ⟨g3,2,none⟩)) (fun w1 _=>(rfa h98 rfl rfl (fun w=>Fm g3 0 w)) w1) fun _ h99=>?_
     refine tv1 hq11 h99 11 rfl rfl (v:=ν (Q.I 2)) (fun w1 hSw=>(rld h99 rfl rfl (ldB υ3 rfl (hSw.get 1 rfl:Blk _ _ _ _) rfl))) fun _ h100=>?_
     refine tv1 hq11 h100 12 rfl rfl (v:=.agg (AL (⟨(Q.I 2),0,P0z,false⟩:SideM)).toArray) (fun w1 _=>(NA h100 (xs:=[(0,.tmp 68)]) rfl (vs:=[(0,ν (Q.I 2))]) rfl (fun w=>κ)) w1) fun _ h101=>?_
     refine tv1 hq11 h101 13 rfl rfl (v:=.pointer (some ⟨gs0,(((Q.I 1)-1).toNat)*46,none⟩)) (fun w1 _=>(Iv h101 rfl rfl rfl (fun w=>ixS υ47 κ (sz:=46) (j:=((Q.I 1)-1).toNat) ω ω rfl w)) w1) fun _ h102=>?_
     refine to_ 14 rfl (wn rfl) κ fun _ hK25=>Bz h102 rfl rfl s16 6 rfl rfl rfl (AL (⟨(Q.I 2),0,P0z,false⟩:SideM)) rfl κ rfl (by rw [Hc Cl];show (((Q.I 1)-1).toNat)*46+46≤_;omega) (L':=(U.set (((Q.I 1)-1).toNat) (⟨(Q.I 2),0,P0z,false⟩:SideM)).flatMap AL) (Qq Cl ω rfl) (cs':=[Ab cg 83 (An mg (S.set (Q.I 1-1).toNat (Ac (Q.I 2))) fr),Ab g3 39 (pkC Q pa P.N.length pc),Ab g4 42 (Di P pa P.N.length pc dst dcr qa qs.length qc),Ab pg 54 [π mg,π cg,π rg,π dg],AG mg mb md mp M,Ab dg 49 [π rg,.slice (some ⟨gs0,0,none⟩) 8 8,.bool gr],Ab gs0 45 ((U.set (((Q.I 1)-1).toNat) (⟨(Q.I 2),0,P0z,false⟩:SideM)).flatMap AL),AW rg rv rd ra N,AN W B,Ch.many R]) rfl fun _ w12 h103 s17 _=>?_
     refine hK25 _ _ (s17.pk [0,1,2,3,4,5,7,8,9] rfl) fun hq12=>h103.sk [5,4,3,0,1] rfl fun h104=>?_
     refine wpAnyH_done κ ?_ _
     refine hK23 _ _ ?_
     refine sqr fun _ hK26=>h104.sk [5,3,0,1] rfl fun h105=>mv h105 rfl fun _ h106=>wpList_nil<|hK26 _ _<|wp_ret ?_
     try simp only [Exit.then,Exit.inBlock]
     refine CO (v:=.bool true) (CN h106 rfl rfl) h106.defs ?_
     exact ⟨M,(S.set (Q.I 1-1).toNat (Ac (Q.I 2))),fr,N,(U.set (((Q.I 1)-1).toNat) (⟨(Q.I 2),0,P0z,false⟩:SideM)),gr,_,rfl,Sep.tail_un (xs:=[_,_,_,_,_,_,_]) (s17.pk [3,0,4,5,6,7,8,9] rfl),(sok.le (Nat.le_succ k)).set _ ⟨⟨Int.le_refl 0,Int.natCast_nonneg _⟩,rfl⟩,hM,(uok.le (Nat.le_succ k)).set _ ⟨⟨Int.le_refl 0,Int.natCast_nonneg _⟩,rfl⟩,hN2,(fun _ j hj=>Pu (by rw [← hQI] at hj;omega)),fun q1 q2 q3=>(by rw [q1,q2,q3];exact ⟨rfl,rfl,rfl,rfl⟩)⟩
    ·skip
     have hp5:¬ ((Q.I 1)≤8):=(dF hc5)
     refine to_ 8 rfl (wn rfl) κ fun _ hK27=>Be h76 rfl rfl rfl (xs:=[.tmp 43,.tmp 45,.tmp 47]) rfl Ci rfl (vs:=[π cg,ν (Q.I 1),ν (Q.I 2)]) rfl (args:=#[π cg,ν (Q.I 1),ν (Q.I 2)]) rfl (KB (s14.pk [3,0,1,2,4,5,6,7,8,9] rfl) sok.len (wQ 1) ω) fun _ v7 w13 r7 h107=>?_
     obtain ⟨rfl,s18⟩:=r7
     refine hK27 _ _ (s18.pk [1,2,3,4,5,6,7,8,9] rfl) fun hq10=>h107.sk [5,4,3,0,1] rfl fun h108=>?_
     refine wpAnyH_done κ ?_ _
     refine hK21 _ _ ?_
     refine sq fun _ hK28=>sqr fun _ hK29=>fav h108 rfl (Bv _ _) fun _ h109=>ldv h109 s18 1 υ3 rfl rfl rfl rfl fun _ h110=>bv h110 (z:=.bool true) rfl (cGe _ _ _ _ (decide_eq_true ω)) fun _ h111=>mv h111 rfl fun _ h112=>sv h112 (wT h112 (E:=true) rfl rfl rfl) rfl rfl rfl (v:=.pointer (some ⟨g3,1,none⟩)) (rfa h112 rfl rfl (fun w=>Bv g3 0 w)) fun _ h113=>sw h113 (wT h113 (E:=true) rfl rfl rfl) rfl rfl rfl (v:=ν (Q.I 1)) (rld h113 rfl rfl (ldB υ3 rfl (s18.get 1 rfl:Blk _ _ _ _) rfl)) fun _ h114=>sv h114 (wT h114 (E:=true) rfl rfl rfl) rfl rfl rfl (v:=.bool false) (CM h114 rfl rfl rfl (cLe _ _ _ _ (decide_eq_false ω))) fun _ h115=>sv1 h115 rfl (v:=.bool false) (CY h115 rfl rfl rfl) fun _ h116=>h116.sk [56,5,4,3,0,1] rfl fun h117=>?_
     refine wpList_nil<|hK29 _ _<|wcF h117 rfl rfl<|h117.sk [5,4,3,0,1] rfl fun h118=>wp_skip<|hK28 _ _<|sqr fun _ hK30=>h118.sk [5,3,0,1] rfl fun h119=>mv h119 rfl fun _ h120=>wpList_nil<|hK30 _ _<|wp_ret ?_
     try simp only [Exit.then,Exit.inBlock]
     refine CO (v:=.bool true) (CN h120 rfl rfl) h120.defs ?_
     exact ⟨M,S,fr,N,U,gr,_,rfl,Sep.tail_un (xs:=[_,_,_,_,_,_,_]) (s18.pk [3,0,4,5,6,7,8,9] rfl),sok.le (Nat.le_succ k),hM,uok.le (Nat.le_succ k),hN2,(fun _ _ _=>rfl),fun q1 q2 q3=>(by rw [q1,q2,q3];exact ⟨rfl,rfl,rfl,rfl⟩)⟩
   ·skip
    have hp6:¬ ((Q.I 1)≥1):=(dF hc4)
    refine to_ 8 rfl (wn rfl) κ fun _ hK31=>Be h76 rfl rfl rfl (xs:=[.tmp 43,.tmp 45,.tmp 47]) rfl Ci rfl (vs:=[π cg,ν (Q.I 1),ν (Q.I 2)]) rfl (args:=#[π cg,ν (Q.I 1),ν (Q.I 2)]) rfl (KB (s14.pk [3,0,1,2,4,5,6,7,8,9] rfl) sok.len (wQ 1) ω) fun _ v8 w14 r8 h121=>?_
    obtain ⟨rfl,s19⟩:=r8
    refine hK31 _ _ (s19.pk [1,2,3,4,5,6,7,8,9] rfl) fun hq10=>h121.sk [5,4,3,0,1] rfl fun h122=>?_
    refine wpAnyH_done κ ?_ _
    refine hK21 _ _ ?_
    refine sq fun _ hK32=>sqr fun _ hK33=>fav h122 rfl (Bv _ _) fun _ h123=>ldv h123 s19 1 υ3 rfl rfl rfl rfl fun _ h124=>bv h124 (z:=.bool false) rfl (cGe _ _ _ _ (decide_eq_false ω)) fun _ h125=>mv h125 rfl fun _ h126=>su h126 (wT h126 (E:=false) rfl rfl rfl) rfl rfl rfl fun _ h127=>su h127 (wT h127 (E:=false) rfl rfl rfl) rfl rfl rfl fun _ h128=>su h128 (wT h128 (E:=false) rfl rfl rfl) rfl rfl rfl fun _ h129=>sv1 h129 rfl (v:=.bool false) (CY h129 rfl rfl rfl) fun _ h130=>h130.sk [56,5,4,3,0,1] rfl fun h131=>?_
    refine wpList_nil<|hK33 _ _<|wcF h131 rfl rfl<|h131.sk [5,4,3,0,1] rfl fun h132=>wp_skip<|hK32 _ _<|sqr fun _ hK34=>h132.sk [5,3,0,1] rfl fun h133=>mv h133 rfl fun _ h134=>wpList_nil<|hK34 _ _<|wp_ret ?_
    try simp only [Exit.then,Exit.inBlock]
    refine CO (v:=.bool true) (CN h134 rfl rfl) h134.defs ?_
    exact ⟨M,S,fr,N,U,gr,_,rfl,Sep.tail_un (xs:=[_,_,_,_,_,_,_]) (s19.pk [3,0,4,5,6,7,8,9] rfl),sok.le (Nat.le_succ k),hM,uok.le (Nat.le_succ k),hN2,(fun _ _ _=>rfl),fun q1 q2 q3=>(by rw [q1,q2,q3];exact ⟨rfl,rfl,rfl,rfl⟩)⟩
  ·skip
   refine wcF h67 rfl hc3<|h67.sk [5,4,3,0,1] rfl fun h135=>wp_skip<|hK19 _ _<|sq fun K1 hK35=>?_
   have hJ365:∀ (g1:Nat) (M1:MemM) (S1:List SideM) (f1:Bool) (A1:PkM) (b1:Bool) a' w',Kn 113 [(5,π g3),(4,.bool false),(3,π g4),(0,π pg),(1,.agg (Di P pa P.N.length pc dst dcr qa qs.length qc).toArray),(6,π g1),(7,.bool b1)] a'→Sep w' [Ab g1 39 (pkC A1 none 0 0),Ab g3 39 (pkC Q pa P.N.length pc),Ab g4 42 (Di P pa P.N.length pc dst dcr qa qs.length qc),Ab pg 54 [π mg,π cg,π rg,π dg],Ab cg 83 (An mg S1 f1),AG mg mb md mp M1,Ab dg 49 [π rg,.slice (some ⟨gs0,0,none⟩) 8 8,.bool gr],Ab gs0 45 (U.flatMap AL),AW rg rv rd ra N,AN W B,Ch.many R]→(SOk S1 (k+1))→(M1.V.length=23168)→(A1.N=[])→(∀ j:Nat,(j:Int)+1≠Q.I 1→S1.getD j (Ac 0)=S.getD j (Ac 0))→(doC ⟨M,S,fr⟩ Q=(⟨M1,S1,f1⟩,A1,b1))→K1 a' w':=by
    intro g1 M1 S1 f1 A1 b1 a1 w15 h136 s20 sok1 hM1 hAN1 hel1 hdo1
    have h8M:=sok1.len
    refine hK35 _ _ ?_
    refine sq fun K2 hK36=>?_
    have hJ371:∀ (g2:Nat) (N2:MemM) (U2:List SideM) (f2:Bool) (A2:PkM) (b2:Bool) a' w',Kn 113 [(5,π g3),(4,.bool false),(3,π g4),(0,π pg),(1,.agg (Di P pa P.N.length pc dst dcr qa qs.length qc).toArray),(6,π g1),(7,.bool b1),(8,π g2),(9,.bool b2)] a'→Sep w' [Ab g2 39 (pkC A2 none 0 0),Ab g1 39 (pkC A1 none 0 0),Ab g3 39 (pkC Q pa P.N.length pc),Ab g4 42 (Di P pa P.N.length pc dst dcr qa qs.length qc),Ab pg 54 [π mg,π cg,π rg,π dg],Ab cg 83 (An mg S1 f1),AG mg mb md mp M1,Ab dg 49 [π rg,.slice (some ⟨gs0,0,none⟩) 8 8,.bool f2],Ab gs0 45 (U2.flatMap AL),AW rg rv rd ra N2,AN W B,Ch.many R]→(SOk U2 (k+1))→(N2.V.length=23168)→(A2.N=[])→(doC ⟨N,U,gr⟩ Q=(⟨N2,U2,f2⟩,A2,b2))→K2 a' w':=by
     intro g2 N2 U2 f2 A2 b2 a2 w16 h137 s21 sok2 hM2 hAN2 hdo2
     refine hK36 _ _ ?_
     refine sqr fun _ hK37=>sw1 h137 rfl (v:=.agg (pkC A1 none 0 0).toArray) (rld h137 rfl rfl (ldA υ39 rfl (n:=43) κ (s21.get 1 rfl:Blk _ _ _ _) rfl rfl)) fun _ h138=>sw1 h138 rfl (v:=.agg (pkC A2 none 0 0).toArray) (rld h138 rfl rfl (ldA υ39 rfl (n:=43) κ (s21.get 0 rfl:Blk _ _ _ _) rfl rfl)) fun _ h139=>cl h139 rfl Gi (Dt s21 (Ux hAN1 hAN2 _)) fun _ v9 w17 r9 h140=>?_
     obtain ⟨rfl,s22⟩:=r9
     refine mv h140 rfl fun _ h141=>h141.sn [10,5,4,3,0,1,6,7,8,9] rfl fun h142=>hK37 _ _<|sq fun _ hK38=>?_
     have s23:=s22.drew
     refine wp_region_held_drew (S:=fun w'=>Sep w' [Ab g2 39 (pkC A2 none 0 0),Ab g1 39 (pkC A1 none 0 0),Ab g3 39 (pkC Q pa P.N.length pc),Ab g4 42 (Di P pa P.N.length pc dst dcr qa qs.length qc),Ab pg 54 [π mg,π cg,π rg,π dg],Ab cg 83 (An mg S1 f1),AG mg mb md mp M1,Ab dg 49 [π rg,.slice (some ⟨gs0,0,none⟩) 8 8,.bool f2],Ab gs0 45 (U2.flatMap AL),AW rg rv rd ra N2,AN W B,Ch.many R]) κ s23 (fun hq13=>?_)
     refine tv1 hq13 h142 0 rfl rfl (v:=.bool (BX A1 A2)) (fun w1 _=>(Ak h142 rfl rfl) w1) fun _ h143=>?_
     refine tv1 hq13 h143 1 rfl rfl (v:=.bool (BX A1 A2)) (fun w1 _=>(Ak h143 rfl rfl) w1) fun _ h144=>?_
     refine tgv hq13 h144 2 rfl rfl rfl rfl κ κ κ (fun _ _ _ _ h=>h) (wT h144 rfl rfl rfl) (v:=.bool b1) (fun w1 hSw hC1=>(Ak h144 rfl rfl) w1) fun _ h145=>?_
     refine tgv hq13 h145 3 rfl rfl rfl rfl κ κ κ (fun _ _ _ _ h=>h) (wT h145 rfl rfl rfl) (v:=.bool b2) (fun w1 hSw hC2=>(Ak h145 rfl rfl) w1) fun _ h146=>?_
     refine tgv hq13 h146 4 rfl rfl rfl rfl κ κ κ (fun _ _ _ _ h=>h) (wT h146 rfl rfl rfl) (v:=.bool (b1 == b2)) (fun w1 hSw hC3=>(CM h146 rfl (opg rfl hC3) (opg rfl hC3) (VT .eql υ4 _ _ _ _)) w1) fun _ h147=>?_
     refine tv1 hq13 h147 5 rfl rfl (v:=.bool ((BX A1 A2)&&(b1 == b2))) (fun w1 _=>(Jp h147 rfl (E:=(BX A1 A2)) (F:=(b1 == b2)) rfl rfl rfl (fun e=>if_pos (by rw [e];try rfl))) w1) fun _ h148=>?_
     refine tv1 hq13 h148 6 rfl rfl (v:=.bool ((BX A1 A2)&&(b1 == b2))) (fun w1 _=>(Ak h148 rfl rfl) w1) fun _ h149=>?_
     refine tgv hq13 h149 7 rfl rfl rfl rfl κ κ κ (fun _ _ _ _ h=>h) (wT h149 rfl rfl rfl) (v:=π pg) (fun w1 hSw hC4=>by have hq:=(And.intro (AV hC4).1 (AV hC4).2);exact (Ak h149 rfl rfl) w1) fun _ h150=>?_
     refine tgv hq13 h150 8 rfl rfl rfl rfl κ κ κ (fun _ _ _ _ h=>h) (wT h150 rfl rfl rfl) (v:=π pg) (fun w1 hSw hC5=>by have hq:=(And.intro (AV hC5).1 (AV hC5).2);exact (Bp h150 rfl (opg rfl hC5)) w1) fun _ h151=>?_
     refine tgv hq13 h151 9 rfl rfl rfl rfl κ κ κ (fun _ _ _ _ h=>h) (wT h151 rfl rfl rfl) (v:=.pointer (some ⟨pg,1,none⟩)) (fun w1 hSw hC6=>by have hq:=(And.intro (AV hC6).1 (AV hC6).2);exact (rfa h151 rfl (opg rfl hC6) (fun w=>Cp pg 0 w)) w1) fun _ h152=>?_
     refine tgv hq13 h152 10 rfl rfl rfl rfl κ κ κ (fun _ _ _ _ h=>h) (wT h152 rfl rfl rfl) (v:=π cg) (fun w1 hSw hC7=>by have hq:=(And.intro (AV hC7).1 (AV hC7).2);exact (rld h152 rfl (opg rfl hC7) (ldB υ51 rfl (hSw.get 4 rfl:Blk _ _ _ _) rfl))) fun _ h153=>?_
     refine tgv hq13 h153 12 rfl rfl rfl rfl κ κ κ (fun _ _ _ _ h=>h) (wT h153 rfl rfl rfl) (v:=π pg) (fun w1 hSw hC8=>by have hq:=(And.intro (AV hC8).1 (AV hC8).2);exact (Ak h153 rfl rfl) w1) fun _ h154=>?_
     refine tgv hq13 h154 13 rfl rfl rfl rfl κ κ κ (fun _ _ _ _ h=>h) (wT h154 rfl rfl rfl) (v:=π pg) (fun w1 hSw hC9=>by have hq:=(And.intro (AV hC9).1 (AV hC9).2);exact (Bp h154 rfl (opg rfl hC9)) w1) fun _ h155=>?_
     refine tgv hq13 h155 14 rfl rfl rfl rfl κ κ κ (fun _ _ _ _ h=>h) (wT h155 rfl rfl rfl) (v:=.pointer (some ⟨pg,3,none⟩)) (fun w1 hSw hC10=>by have hq:=(And.intro (AV hC10).1 (AV hC10).2);exact (rfa h155 rfl (opg rfl hC10) (fun w=>Cq pg 0 w)) w1) fun _ h156=>?_
     refine tgv hq13 h156 15 rfl rfl rfl rfl κ κ κ (fun _ _ _ _ h=>h) (wT h156 rfl rfl rfl) (v:=π dg) (fun w1 hSw hC11=>by have hq:=(And.intro (AV hC11).1 (AV hC11).2);exact (rld h156 rfl (opg rfl hC11) (ldB υ52 rfl (hSw.get 4 rfl:Blk _ _ _ _) rfl))) fun _ h157=>?_
     refine tgv hq13 h157 16 rfl rfl rfl rfl κ κ κ (fun _ _ _ _ h=>h) (wT h157 rfl rfl rfl) (v:=π dg) (fun w1 hSw hC12=>by have hq:=(And.intro (AV hC12).1 (AV hC12).2);exact (Bp h157 rfl (opg rfl hC12)) w1) fun _ h158=>?_
     refine tgv hq13 h158 17 rfl rfl rfl rfl κ κ κ (fun _ _ _ _ h=>h) (wT h158 rfl rfl rfl) (v:=.pointer (some ⟨dg,2,none⟩)) (fun w1 hSw hC13=>by have hq:=(And.intro (AV hC13).1 (AV hC13).2);exact (rfa h158 rfl (opg rfl hC13) (fun w=>FI dg 0 w)) w1) fun _ h159=>?_
     refine tgv hq13 h159 18 rfl rfl rfl rfl κ κ κ (fun _ _ _ _ h=>h) (wT h159 rfl rfl rfl) (v:=.bool f2) (fun w1 hSw hC14=>by have hq:=(And.intro (AV hC14).1 (AV hC14).2);exact (rld h159 rfl (opg rfl hC14) (ldB υ4 rfl (hSw.get 7 rfl:Blk _ _ _ _) rfl))) fun _ h160=>?_
     rcases bC ((BX A1 A2)&&(b1 == b2)) with hc6 | hc6
     ·skip
      have hp7:((BX A1 A2)=true)∧((b1 == b2)=true):=(And.intro (AV hc6).1 (AV hc6).2)
      refine to_ 11 rfl ((wT h160 rfl rfl rfl).trans hc6) κ fun _ hK39=>Be h160 rfl rfl rfl (xs:=[.tmp 102]) rfl Gq rfl (vs:=[π cg]) (Dj (opg rfl hc6) rfl) (args:=#[π cg]) rfl (KS (s23.pk [5,0,1,2,3,4,6,7,8,9,10,11] rfl) h8M) fun _ v10 w18 r10 h161=>?_
      obtain ⟨rfl,s24⟩:=r10
      refine hK39 _ _ (s24.pk [1,2,3,4,5,0,6,7,8,9,10,11] rfl) fun hq14=>?_
      refine tv hq14 h161 19 rfl rfl rfl rfl κ κ κ (fun _ _ _ _ h=>h) ((wT h161 rfl rfl rfl).trans hc6) (v:=.bool (f1 == f2)) (fun w1 _=>(CM h161 rfl rfl (opg rfl hc6) (VT .eql υ4 _ _ _ _)) w1) fun _ h162=>?_
      refine tv1 hq14 h162 20 rfl rfl (v:=.bool (f1 == f2)) (fun w1 _=>(BT h162 rfl (E:=((BX A1 A2)&&(b1 == b2))) (b:=true) rfl hc6 rfl) w1) fun _ h163=>?_
      refine h163.sk [112,111,103,110,109,108,107,106,105,104,102,101,100,99,98,97,96,95,94,93,92,10,5,3,0,1,6,7,8,9] rfl fun h164=>?_
      refine tv1 hq14 h164 21 rfl rfl (v:=.bool (f1 == f2)) (fun w1 _=>(Ay h164 rfl rfl) w1) fun _ h165=>?_
      refine h165.sk [4,10,5,3,0,1,6,7,8,9] rfl fun h166=>?_
      refine wpAnyH_done κ ?_ _
      refine hK38 _ _ ?_
      refine wp_ret ?_

      refine CO (v:=.bool (f1 == f2)) (CN h166 rfl rfl) h166.defs ?_
      exact ⟨M1,S1,f1,N2,U2,f2,_,rfl,Sep.tail_un (xs:=[_,_,_,_,_,_,_]) (s24.pk [5,0,6,7,8,9,10,11] rfl),sok1,hM1,sok2,hM2,(fun _ j hj=>hel1 j (by rw [hQI];exact hj)),fun q1 q2 q3=>(by rw [q1,q2,q3,hdo2] at hdo1;cases hdo1;simp_all [Mx])⟩
     ·skip
      have hp8:((BX A1 A2)=false)∨((b1 == b2)=false):=((WO hc6).imp (fun q=>q) (fun q=>q))
      refine tu hq13 h160 11 rfl rfl rfl rfl κ κ κ (fun _ _ _ _ h=>h) ((wT h160 rfl rfl rfl).trans hc6) fun _ h167=>?_
      refine tu hq13 h167 19 rfl rfl rfl rfl κ κ κ (fun _ _ _ _ h=>h) ((wT h167 rfl rfl rfl).trans hc6) fun _ h168=>?_
      refine tv1 hq13 h168 20 rfl rfl (v:=.bool false) (fun w1 _=>(BT h168 rfl (E:=((BX A1 A2)&&(b1 == b2))) (b:=false) rfl hc6 rfl) w1) fun _ h169=>?_
      refine h169.sk [112,111,103,110,109,108,107,106,105,104,102,101,100,99,98,97,96,95,94,93,92,10,5,3,0,1,6,7,8,9] rfl fun h170=>?_
      refine tv1 hq13 h170 21 rfl rfl (v:=.bool false) (fun w1 _=>(Ay h170 rfl rfl) w1) fun _ h171=>?_
      refine h171.sk [4,10,5,3,0,1,6,7,8,9] rfl fun h172=>?_
      refine wpAnyH_done κ ?_ _
      refine hK38 _ _ ?_
      refine wp_ret ?_

      refine CO (v:=.bool false) (CN h172 rfl rfl) h172.defs ?_
      exact ⟨M1,S1,f1,N2,U2,f2,_,rfl,Sep.tail_un (xs:=[_,_,_,_,_,_,_]) (s23.pk [4,5,6,7,8,9,10,11] rfl),sok1,hM1,sok2,hM2,(fun _ j hj=>hel1 j (by rw [hQI];exact hj)),fun q1 q2 q3=>(by rw [q1,q2,q3,hdo2] at hdo1;cases hdo1;simp_all [Mx])⟩
    have s25:=s20.drew
    refine wp_region_held_drew (S:=fun w'=>Sep w' [Ab g1 39 (pkC A1 none 0 0),Ab g3 39 (pkC Q pa P.N.length pc),Ab g4 42 (Di P pa P.N.length pc dst dcr qa qs.length qc),Ab pg 54 [π mg,π cg,π rg,π dg],Ab cg 83 (An mg S1 f1),AG mg mb md mp M1,AN W B,Ch.many R]) κ (s25.pk [0,1,2,3,4,5,9,10] rfl) (fun hq15=>?_)
    refine tv1 hq15 h136 0 rfl rfl (v:=π pg) (fun w1 _=>(Ak h136 rfl rfl) w1) fun _ h173=>?_
    refine tv1 hq15 h173 1 rfl rfl (v:=π pg) (fun w1 _=>(Bp h173 rfl rfl) w1) fun _ h174=>?_
    refine tv1 hq15 h174 2 rfl rfl (v:=.pointer (some ⟨pg,3,none⟩)) (fun w1 _=>(rfa h174 rfl rfl (fun w=>Cq pg 0 w)) w1) fun _ h175=>?_
    refine tv1 hq15 h175 3 rfl rfl (v:=π dg) (fun w1 hSw=>(rld h175 rfl rfl (ldB υ52 rfl (hSw.get 3 rfl:Blk _ _ _ _) rfl))) fun _ h176=>?_
    refine tv1 hq15 h176 4 rfl rfl (v:=.agg (pkC Q pa P.N.length pc).toArray) (fun w1 hSw=>(rld h176 rfl rfl (ldA υ39 rfl (n:=43) κ (hSw.get 1 rfl:Blk _ _ _ _) rfl rfl))) fun _ h177=>?_
    refine wpAnyH_ready (rs:=[5,9]) κ (by simp) (toc rfl (wn rfl) (fun K3 hK40=>?_) (toc rfl (wn rfl) (fun K3 hK40=>?_) AllReadyH.nil))
    ·skip
     refine Be h177 rfl rfl rfl (xs:=[.tmp 84,.tmp 85]) rfl Dh rfl (vs:=[π dg,.agg (pkC Q pa P.N.length pc).toArray]) rfl (args:=#[π dg,.agg (pkC Q pa P.N.length pc).toArray]) rfl ((by have z:=Tu (P:=Q) (pa:=pa) (pc:=pc) (s25.pk [6,7,8,9,0,1,2,3,4,5,10] rfl) uok hk hN2 hB wQ hPQ hSQ hNQ hn9Q hNmQ;rw [hNl] at z;exact z)) fun _ v11 w19 r11 h178=>?_
     obtain ⟨Mx487,Sx488,frx489,Qax490,bx491,rfl,s26,hso496,hM496,hQN496,hdo496⟩:=r11
     refine hK40 _ _ (s26.pk [4,5,6,7,8,9,3,10] rfl) fun hq16=>?_
     refine tv1 hq16 h178 6 rfl rfl (v:=.tuple #[.agg (pkC Qax490 none 0 0).toArray,.bool bx491]) (fun w1 _=>(Ak h178 rfl rfl) w1) fun _ h179=>?_
     refine tv1 hq16 h179 7 rfl rfl (v:=.agg (pkC Qax490 none 0 0).toArray) (fun w1 _=>(Dm h179 rfl rfl rfl) w1) fun _ h180=>?_
     refine tv1 hq16 h180 8 rfl rfl (v:=.bool bx491) (fun w1 _=>(Dm h180 rfl rfl rfl) w1) fun _ h181=>?_
     refine to_ 9 rfl (wn rfl) κ fun _ hK41=>BU h181 rfl rfl rfl rfl (z:=[ν 0,ν 0,ν 0,ν 0,ν 0,ν 0,ν 0,σ [],ν 0,ν 0,ν 0,σ [],σ [],ν 0,ν 0,ν 0,ν 0,σ [],ν 0,ν 0,ν 0,ν 0,σ [],.slice none 0 0,ν 0,ν 0,ν 0,ν 0,ν 0,ν 0,ν 0,ν 0,ν 0,ν 0,ν 0,ν 0,ν 0,ν 0,ν 0,ν 0,ν 0,ν 0,ν 0]) (fun _=>rfl) s26 fun _ g5 w20 h182 s27 _ _=>?_
     refine hK41 _ _ (s27.pk [5,6,7,8,9,10,4,11] rfl) fun hq17=>?_
     refine to_ 10 rfl (wn rfl) κ fun _ hK42=>Bz h182 rfl rfl s27 0 rfl rfl rfl [ν (Qax490.I 0),ν (Qax490.I 1),ν (Qax490.I 2),ν (Qax490.I 3),ν (Qax490.I 4),ν (Qax490.I 5),ν (Qax490.I 6),σ (Qax490.S 7),ν (Qax490.I 8),ν (Qax490.I 9),ν (Qax490.I 10),σ (Qax490.S 11),σ (Qax490.S 12),ν (Qax490.I 13),ν (Qax490.I 14),ν (Qax490.I 15),ν (Qax490.I 16),σ (Qax490.S 17),ν (Qax490.I 18),ν (Qax490.I 19),ν (Qax490.I 20),ν (Qax490.I 21),σ (Qax490.S 22),.slice none 0 0,ν (Qax490.I 24),ν (Qax490.I 25),ν (Qax490.I 26),ν (Qax490.I 27),ν (Qax490.I 28),ν (Qax490.I 29),ν (Qax490.I 30),ν (Qax490.I 31),ν (Qax490.I 32),ν (Qax490.I 33),ν (Qax490.I 34),ν (Qax490.I 35),ν (Qax490.I 36),ν (Qax490.I 37),ν (Qax490.I 38),ν (Qax490.I 39),ν (Qax490.I 40),ν (Qax490.I 41),ν (Qax490.I 42)] rfl κ rfl (by show 0+43≤43;decide) (L':=[ν (Qax490.I 0),ν (Qax490.I 1),ν (Qax490.I 2),ν (Qax490.I 3),ν (Qax490.I 4),ν (Qax490.I 5),ν (Qax490.I 6),σ (Qax490.S 7),ν (Qax490.I 8),ν (Qax490.I 9),ν (Qax490.I 10),σ (Qax490.S 11),σ (Qax490.S 12),ν (Qax490.I 13),ν (Qax490.I 14),ν (Qax490.I 15),ν (Qax490.I 16),σ (Qax490.S 17),ν (Qax490.I 18),ν (Qax490.I 19),ν (Qax490.I 20),ν (Qax490.I 21),σ (Qax490.S 22),.slice none 0 0,ν (Qax490.I 24),ν (Qax490.I 25),ν (Qax490.I 26),ν (Qax490.I 27),ν (Qax490.I 28),ν (Qax490.I 29),ν (Qax490.I 30),ν (Qax490.I 31),ν (Qax490.I 32),ν (Qax490.I 33),ν (Qax490.I 34),ν (Qax490.I 35),ν (Qax490.I 36),ν (Qax490.I 37),ν (Qax490.I 38),ν (Qax490.I 39),ν (Qax490.I 40),ν (Qax490.I 41),ν (Qax490.I 42)]) rfl (cs':=[Ab g5 39 (pkC Qax490 none 0 0),Ab dg 49 [π rg,.slice (some ⟨gs0,0,none⟩) 8 8,.bool frx489],Ab gs0 45 (Sx488.flatMap AL),AW rg rv rd ra Mx487,AN W B,Ab g1 39 (pkC A1 none 0 0),Ab g3 39 (pkC Q pa P.N.length pc),Ab g4 42 (Di P pa P.N.length pc dst dcr qa qs.length qc),Ab pg 54 [π mg,π cg,π rg,π dg],Ab cg 83 (An mg S1 f1),AG mg mb md mp M1,Ch.many R]) rfl fun _ w21 h183 s28 _=>?_
     refine hK42 _ _ (s28.pk [5,6,7,8,9,10,4,11] rfl) fun hq18=>?_
     refine tv1 hq18 h183 11 rfl rfl (v:=.bool bx491) (fun w1 _=>(Ay h183 rfl rfl) w1) fun _ h184=>?_
     refine h184.sk [9,8,5,4,3,0,1,6,7] rfl fun h185=>?_
     refine wpAnyH_done κ ?_ _
     exact hJ371 g5 Mx487 Sx488 frx489 Qax490 bx491 _ _ (h185.subs rfl) (s28.pk [0,5,6,7,8,9,10,1,2,3,4,11] rfl) hso496 hM496 hQN496 hdo496
    ·skip
     refine BU h177 rfl rfl rfl rfl (z:=[ν 0,ν 0,ν 0,ν 0,ν 0,ν 0,ν 0,σ [],ν 0,ν 0,ν 0,σ [],σ [],ν 0,ν 0,ν 0,ν 0,σ [],ν 0,ν 0,ν 0,ν 0,σ [],.slice none 0 0,ν 0,ν 0,ν 0,ν 0,ν 0,ν 0,ν 0,ν 0,ν 0,ν 0,ν 0,ν 0,ν 0,ν 0,ν 0,ν 0,ν 0,ν 0,ν 0]) (fun _=>rfl) s25 fun _ g6 w22 h186 s29 _ _=>hK40 _ _ (s29.pk [1,2,3,4,5,6,10,11] rfl) fun hq19=>?_
     refine to_ 5 rfl (wn rfl) κ fun _ hK43=>Be h186 rfl rfl rfl (xs:=[.tmp 84,.tmp 85]) rfl Dh rfl (vs:=[π dg,.agg (pkC Q pa P.N.length pc).toArray]) rfl (args:=#[π dg,.agg (pkC Q pa P.N.length pc).toArray]) rfl ((by have z:=Tu (P:=Q) (pa:=pa) (pc:=pc) (s29.pk [7,8,9,10,0,1,2,3,4,5,6,11] rfl) uok hk hN2 hB wQ hPQ hSQ hNQ hn9Q hNmQ;rw [hNl] at z;exact z)) fun _ v12 w23 r12 h187=>?_
     obtain ⟨Mx532,Sx533,frx534,Qax535,bx536,rfl,s30,hso541,hM541,hQN541,hdo541⟩:=r12
     refine hK43 _ _ (s30.pk [5,6,7,8,9,10,3,11] rfl) fun hq20=>?_
     refine tv1 hq20 h187 6 rfl rfl (v:=.tuple #[.agg (pkC Qax535 none 0 0).toArray,.bool bx536]) (fun w1 _=>(Ak h187 rfl rfl) w1) fun _ h188=>?_
     refine tv1 hq20 h188 7 rfl rfl (v:=.agg (pkC Qax535 none 0 0).toArray) (fun w1 _=>(Dm h188 rfl rfl rfl) w1) fun _ h189=>?_
     refine tv1 hq20 h189 8 rfl rfl (v:=.bool bx536) (fun w1 _=>(Dm h189 rfl rfl rfl) w1) fun _ h190=>?_
     refine to_ 10 rfl (wn rfl) κ fun _ hK44=>Bz h190 rfl rfl s30 4 rfl rfl rfl [ν (Qax535.I 0),ν (Qax535.I 1),ν (Qax535.I 2),ν (Qax535.I 3),ν (Qax535.I 4),ν (Qax535.I 5),ν (Qax535.I 6),σ (Qax535.S 7),ν (Qax535.I 8),ν (Qax535.I 9),ν (Qax535.I 10),σ (Qax535.S 11),σ (Qax535.S 12),ν (Qax535.I 13),ν (Qax535.I 14),ν (Qax535.I 15),ν (Qax535.I 16),σ (Qax535.S 17),ν (Qax535.I 18),ν (Qax535.I 19),ν (Qax535.I 20),ν (Qax535.I 21),σ (Qax535.S 22),.slice none 0 0,ν (Qax535.I 24),ν (Qax535.I 25),ν (Qax535.I 26),ν (Qax535.I 27),ν (Qax535.I 28),ν (Qax535.I 29),ν (Qax535.I 30),ν (Qax535.I 31),ν (Qax535.I 32),ν (Qax535.I 33),ν (Qax535.I 34),ν (Qax535.I 35),ν (Qax535.I 36),ν (Qax535.I 37),ν (Qax535.I 38),ν (Qax535.I 39),ν (Qax535.I 40),ν (Qax535.I 41),ν (Qax535.I 42)] rfl κ rfl (by show 0+43≤43;decide) (L':=[ν (Qax535.I 0),ν (Qax535.I 1),ν (Qax535.I 2),ν (Qax535.I 3),ν (Qax535.I 4),ν (Qax535.I 5),ν (Qax535.I 6),σ (Qax535.S 7),ν (Qax535.I 8),ν (Qax535.I 9),ν (Qax535.I 10),σ (Qax535.S 11),σ (Qax535.S 12),ν (Qax535.I 13),ν (Qax535.I 14),ν (Qax535.I 15),ν (Qax535.I 16),σ (Qax535.S 17),ν (Qax535.I 18),ν (Qax535.I 19),ν (Qax535.I 20),ν (Qax535.I 21),σ (Qax535.S 22),.slice none 0 0,ν (Qax535.I 24),ν (Qax535.I 25),ν (Qax535.I 26),ν (Qax535.I 27),ν (Qax535.I 28),ν (Qax535.I 29),ν (Qax535.I 30),ν (Qax535.I 31),ν (Qax535.I 32),ν (Qax535.I 33),ν (Qax535.I 34),ν (Qax535.I 35),ν (Qax535.I 36),ν (Qax535.I 37),ν (Qax535.I 38),ν (Qax535.I 39),ν (Qax535.I 40),ν (Qax535.I 41),ν (Qax535.I 42)]) rfl (cs':=[Ab dg 49 [π rg,.slice (some ⟨gs0,0,none⟩) 8 8,.bool frx534],Ab gs0 45 (Sx533.flatMap AL),AW rg rv rd ra Mx532,AN W B,Ab g6 39 (pkC Qax535 none 0 0),Ab g1 39 (pkC A1 none 0 0),Ab g3 39 (pkC Q pa P.N.length pc),Ab g4 42 (Di P pa P.N.length pc dst dcr qa qs.length qc),Ab pg 54 [π mg,π cg,π rg,π dg],Ab cg 83 (An mg S1 f1),AG mg mb md mp M1,Ch.many R]) rfl fun _ w24 h191 s31 _=>?_
     refine hK44 _ _ (s31.pk [5,6,7,8,9,10,3,11] rfl) fun hq21=>?_
     refine tv1 hq21 h191 11 rfl rfl (v:=.bool bx536) (fun w1 _=>(Ay h191 rfl rfl) w1) fun _ h192=>?_
     refine h192.sk [9,8,5,4,3,0,1,6,7] rfl fun h193=>?_
     refine wpAnyH_done κ ?_ _
     exact hJ371 g6 Mx532 Sx533 frx534 Qax535 bx536 _ _ (h193.subs rfl) (s31.pk [4,5,6,7,8,9,10,0,1,2,3,11] rfl) hso541 hM541 hQN541 hdo541
   have s32:=s3.drew
   refine wp_region_held_drew (S:=fun w'=>Sep w' [Ab g3 39 (pkC Q pa P.N.length pc),Ab g4 42 (Di P pa P.N.length pc dst dcr qa qs.length qc),Ab pg 54 [π mg,π cg,π rg,π dg],Ab dg 49 [π rg,.slice (some ⟨gs0,0,none⟩) 8 8,.bool gr],Ab gs0 45 (U.flatMap AL),AW rg rv rd ra N,AN W B,Ch.many R]) κ (s32.pk [0,1,2,5,6,7,8,9] rfl) (fun hq22=>?_)
   refine tv1 hq22 h135 0 rfl rfl (v:=π pg) (fun w1 _=>(Ak h135 rfl rfl) w1) fun _ h194=>?_
   refine tv1 hq22 h194 1 rfl rfl (v:=π pg) (fun w1 _=>(Bp h194 rfl rfl) w1) fun _ h195=>?_
   refine tv1 hq22 h195 2 rfl rfl (v:=.pointer (some ⟨pg,1,none⟩)) (fun w1 _=>(rfa h195 rfl rfl (fun w=>Cp pg 0 w)) w1) fun _ h196=>?_
   refine tv1 hq22 h196 3 rfl rfl (v:=π cg) (fun w1 hSw=>(rld h196 rfl rfl (ldB υ51 rfl (hSw.get 2 rfl:Blk _ _ _ _) rfl))) fun _ h197=>?_
   refine tv1 hq22 h197 4 rfl rfl (v:=.agg (pkC Q pa P.N.length pc).toArray) (fun w1 hSw=>(rld h197 rfl rfl (ldA υ39 rfl (n:=43) κ (hSw.get 0 rfl:Blk _ _ _ _) rfl rfl))) fun _ h198=>?_
   refine wpAnyH_ready (rs:=[5,9]) κ (by simp) (toc rfl (wn rfl) (fun K4 hK45=>?_) (toc rfl (wn rfl) (fun K4 hK45=>?_) AllReadyH.nil))
   ·skip
    refine Be h198 rfl rfl rfl (xs:=[.tmp 75,.tmp 76]) rfl EH rfl (vs:=[π cg,.agg (pkC Q pa P.N.length pc).toArray]) rfl (args:=#[π cg,.agg (pkC Q pa P.N.length pc).toArray]) rfl ((by have z:=VV (P:=Q) (pa:=pa) (pc:=pc) (s32.pk [3,4,8,0,1,2,5,6,7,9] rfl) sok hM hB wQ hPQ hSQ hNQ hn9Q hNmQ;rw [hNl] at z;exact z)) fun _ v13 w25 r13 h199=>?_
    obtain ⟨Mx574,Sx575,frx576,Qax577,bx578,rfl,s33,hso583,hM583,hQN583,hel583,hdo583⟩:=r13
    refine hK45 _ _ (s33.pk [3,4,5,6,7,8,2,9] rfl) fun hq23=>?_
    refine tv1 hq23 h199 6 rfl rfl (v:=.tuple #[.agg (pkC Qax577 none 0 0).toArray,.bool bx578]) (fun w1 _=>(Ak h199 rfl rfl) w1) fun _ h200=>?_
    refine tv1 hq23 h200 7 rfl rfl (v:=.agg (pkC Qax577 none 0 0).toArray) (fun w1 _=>(Dm h200 rfl rfl rfl) w1) fun _ h201=>?_
    refine tv1 hq23 h201 8 rfl rfl (v:=.bool bx578) (fun w1 _=>(Dm h201 rfl rfl rfl) w1) fun _ h202=>?_
    refine to_ 9 rfl (wn rfl) κ fun _ hK46=>BU h202 rfl rfl rfl rfl (z:=[ν 0,ν 0,ν 0,ν 0,ν 0,ν 0,ν 0,σ [],ν 0,ν 0,ν 0,σ [],σ [],ν 0,ν 0,ν 0,ν 0,σ [],ν 0,ν 0,ν 0,ν 0,σ [],.slice none 0 0,ν 0,ν 0,ν 0,ν 0,ν 0,ν 0,ν 0,ν 0,ν 0,ν 0,ν 0,ν 0,ν 0,ν 0,ν 0,ν 0,ν 0,ν 0,ν 0]) (fun _=>rfl) s33 fun _ g7 w26 h203 s34 _ _=>?_
    refine hK46 _ _ (s34.pk [4,5,6,7,8,9,3,10] rfl) fun hq24=>?_
    refine to_ 10 rfl (wn rfl) κ fun _ hK47=>Bz h203 rfl rfl s34 0 rfl rfl rfl [ν (Qax577.I 0),ν (Qax577.I 1),ν (Qax577.I 2),ν (Qax577.I 3),ν (Qax577.I 4),ν (Qax577.I 5),ν (Qax577.I 6),σ (Qax577.S 7),ν (Qax577.I 8),ν (Qax577.I 9),ν (Qax577.I 10),σ (Qax577.S 11),σ (Qax577.S 12),ν (Qax577.I 13),ν (Qax577.I 14),ν (Qax577.I 15),ν (Qax577.I 16),σ (Qax577.S 17),ν (Qax577.I 18),ν (Qax577.I 19),ν (Qax577.I 20),ν (Qax577.I 21),σ (Qax577.S 22),.slice none 0 0,ν (Qax577.I 24),ν (Qax577.I 25),ν (Qax577.I 26),ν (Qax577.I 27),ν (Qax577.I 28),ν (Qax577.I 29),ν (Qax577.I 30),ν (Qax577.I 31),ν (Qax577.I 32),ν (Qax577.I 33),ν (Qax577.I 34),ν (Qax577.I 35),ν (Qax577.I 36),ν (Qax577.I 37),ν (Qax577.I 38),ν (Qax577.I 39),ν (Qax577.I 40),ν (Qax577.I 41),ν (Qax577.I 42)] rfl κ rfl (by show 0+43≤43;decide) (L':=[ν (Qax577.I 0),ν (Qax577.I 1),ν (Qax577.I 2),ν (Qax577.I 3),ν (Qax577.I 4),ν (Qax577.I 5),ν (Qax577.I 6),σ (Qax577.S 7),ν (Qax577.I 8),ν (Qax577.I 9),ν (Qax577.I 10),σ (Qax577.S 11),σ (Qax577.S 12),ν (Qax577.I 13),ν (Qax577.I 14),ν (Qax577.I 15),ν (Qax577.I 16),σ (Qax577.S 17),ν (Qax577.I 18),ν (Qax577.I 19),ν (Qax577.I 20),ν (Qax577.I 21),σ (Qax577.S 22),.slice none 0 0,ν (Qax577.I 24),ν (Qax577.I 25),ν (Qax577.I 26),ν (Qax577.I 27),ν (Qax577.I 28),ν (Qax577.I 29),ν (Qax577.I 30),ν (Qax577.I 31),ν (Qax577.I 32),ν (Qax577.I 33),ν (Qax577.I 34),ν (Qax577.I 35),ν (Qax577.I 36),ν (Qax577.I 37),ν (Qax577.I 38),ν (Qax577.I 39),ν (Qax577.I 40),ν (Qax577.I 41),ν (Qax577.I 42)]) rfl (cs':=[Ab g7 39 (pkC Qax577 none 0 0),Ab cg 83 (An mg Sx575 frx576),AG mg mb md mp Mx574,AN W B,Ab g3 39 (pkC Q pa P.N.length pc),Ab g4 42 (Di P pa P.N.length pc dst dcr qa qs.length qc),Ab pg 54 [π mg,π cg,π rg,π dg],Ab dg 49 [π rg,.slice (some ⟨gs0,0,none⟩) 8 8,.bool gr],Ab gs0 45 (U.flatMap AL),AW rg rv rd ra N,Ch.many R]) rfl fun _ w27 h204 s35 _=>?_
    refine hK47 _ _ (s35.pk [4,5,6,7,8,9,3,10] rfl) fun hq25=>?_
    refine tv1 hq25 h204 11 rfl rfl (v:=.bool bx578) (fun w1 _=>(Ay h204 rfl rfl) w1) fun _ h205=>?_
    refine h205.sk [7,6,5,4,3,0,1] rfl fun h206=>?_
    refine wpAnyH_done κ ?_ _
    exact hJ365 g7 Mx574 Sx575 frx576 Qax577 bx578 _ _ (h206.subs rfl) (s35.pk [0,4,5,6,1,2,7,8,9,3,10] rfl) hso583 hM583 hQN583 hel583 hdo583
   ·skip
    refine BU h198 rfl rfl rfl rfl (z:=[ν 0,ν 0,ν 0,ν 0,ν 0,ν 0,ν 0,σ [],ν 0,ν 0,ν 0,σ [],σ [],ν 0,ν 0,ν 0,ν 0,σ [],ν 0,ν 0,ν 0,ν 0,σ [],.slice none 0 0,ν 0,ν 0,ν 0,ν 0,ν 0,ν 0,ν 0,ν 0,ν 0,ν 0,ν 0,ν 0,ν 0,ν 0,ν 0,ν 0,ν 0,ν 0,ν 0]) (fun _=>rfl) s32 fun _ g8 w28 h207 s36 _ _=>hK45 _ _ (s36.pk [1,2,3,6,7,8,9,10] rfl) fun hq26=>?_
    refine to_ 5 rfl (wn rfl) κ fun _ hK48=>Be h207 rfl rfl rfl (xs:=[.tmp 75,.tmp 76]) rfl EH rfl (vs:=[π cg,.agg (pkC Q pa P.N.length pc).toArray]) rfl (args:=#[π cg,.agg (pkC Q pa P.N.length pc).toArray]) rfl ((by have z:=VV (P:=Q) (pa:=pa) (pc:=pc) (s36.pk [4,5,9,0,1,2,3,6,7,8,10] rfl) sok hM hB wQ hPQ hSQ hNQ hn9Q hNmQ;rw [hNl] at z;exact z)) fun _ v14 w29 r14 h208=>?_
    obtain ⟨Mx619,Sx620,frx621,Qax622,bx623,rfl,s37,hso628,hM628,hQN628,hel628,hdo628⟩:=r14
    refine hK48 _ _ (s37.pk [4,5,6,7,8,9,2,10] rfl) fun hq27=>?_
    refine tv1 hq27 h208 6 rfl rfl (v:=.tuple #[.agg (pkC Qax622 none 0 0).toArray,.bool bx623]) (fun w1 _=>(Ak h208 rfl rfl) w1) fun _ h209=>?_
    refine tv1 hq27 h209 7 rfl rfl (v:=.agg (pkC Qax622 none 0 0).toArray) (fun w1 _=>(Dm h209 rfl rfl rfl) w1) fun _ h210=>?_
    refine tv1 hq27 h210 8 rfl rfl (v:=.bool bx623) (fun w1 _=>(Dm h210 rfl rfl rfl) w1) fun _ h211=>?_
    refine to_ 10 rfl (wn rfl) κ fun _ hK49=>Bz h211 rfl rfl s37 3 rfl rfl rfl [ν (Qax622.I 0),ν (Qax622.I 1),ν (Qax622.I 2),ν (Qax622.I 3),ν (Qax622.I 4),ν (Qax622.I 5),ν (Qax622.I 6),σ (Qax622.S 7),ν (Qax622.I 8),ν (Qax622.I 9),ν (Qax622.I 10),σ (Qax622.S 11),σ (Qax622.S 12),ν (Qax622.I 13),ν (Qax622.I 14),ν (Qax622.I 15),ν (Qax622.I 16),σ (Qax622.S 17),ν (Qax622.I 18),ν (Qax622.I 19),ν (Qax622.I 20),ν (Qax622.I 21),σ (Qax622.S 22),.slice none 0 0,ν (Qax622.I 24),ν (Qax622.I 25),ν (Qax622.I 26),ν (Qax622.I 27),ν (Qax622.I 28),ν (Qax622.I 29),ν (Qax622.I 30),ν (Qax622.I 31),ν (Qax622.I 32),ν (Qax622.I 33),ν (Qax622.I 34),ν (Qax622.I 35),ν (Qax622.I 36),ν (Qax622.I 37),ν (Qax622.I 38),ν (Qax622.I 39),ν (Qax622.I 40),ν (Qax622.I 41),ν (Qax622.I 42)] rfl κ rfl (by show 0+43≤43;decide) (L':=[ν (Qax622.I 0),ν (Qax622.I 1),ν (Qax622.I 2),ν (Qax622.I 3),ν (Qax622.I 4),ν (Qax622.I 5),ν (Qax622.I 6),σ (Qax622.S 7),ν (Qax622.I 8),ν (Qax622.I 9),ν (Qax622.I 10),σ (Qax622.S 11),σ (Qax622.S 12),ν (Qax622.I 13),ν (Qax622.I 14),ν (Qax622.I 15),ν (Qax622.I 16),σ (Qax622.S 17),ν (Qax622.I 18),ν (Qax622.I 19),ν (Qax622.I 20),ν (Qax622.I 21),σ (Qax622.S 22),.slice none 0 0,ν (Qax622.I 24),ν (Qax622.I 25),ν (Qax622.I 26),ν (Qax622.I 27),ν (Qax622.I 28),ν (Qax622.I 29),ν (Qax622.I 30),ν (Qax622.I 31),ν (Qax622.I 32),ν (Qax622.I 33),ν (Qax622.I 34),ν (Qax622.I 35),ν (Qax622.I 36),ν (Qax622.I 37),ν (Qax622.I 38),ν (Qax622.I 39),ν (Qax622.I 40),ν (Qax622.I 41),ν (Qax622.I 42)]) rfl (cs':=[Ab cg 83 (An mg Sx620 frx621),AG mg mb md mp Mx619,AN W B,Ab g8 39 (pkC Qax622 none 0 0),Ab g3 39 (pkC Q pa P.N.length pc),Ab g4 42 (Di P pa P.N.length pc dst dcr qa qs.length qc),Ab pg 54 [π mg,π cg,π rg,π dg],Ab dg 49 [π rg,.slice (some ⟨gs0,0,none⟩) 8 8,.bool gr],Ab gs0 45 (U.flatMap AL),AW rg rv rd ra N,Ch.many R]) rfl fun _ w30 h212 s38 _=>?_
    refine hK49 _ _ (s38.pk [4,5,6,7,8,9,2,10] rfl) fun hq28=>?_
    refine tv1 hq28 h212 11 rfl rfl (v:=.bool bx623) (fun w1 _=>(Ay h212 rfl rfl) w1) fun _ h213=>?_
    refine h213.sk [7,6,5,4,3,0,1] rfl fun h214=>?_
    refine wpAnyH_done κ ?_ _
    exact hJ365 g8 Mx619 Sx620 frx621 Qax622 bx623 _ _ (h214.subs rfl) (s38.pk [3,4,5,6,0,1,7,8,9,2,10] rfl) hso628 hM628 hQN628 hel628 hdo628
end
section
theorem Tv {w:World} {R:List Ch} {pg cg mg mb md mp dg gs0 rg rv rd ra k:Nat} {S:List SideM} {fr:Bool} {M:MemM} {W:World} {x:DeedT20} (hS0:Sep w ([Ab pg 54 [π mg,π cg,π rg,π dg],Ab cg 83 (An mg S fr),AG mg mb md mp M,Ab dg 49 [π rg,.slice (some ⟨gs0,0,none⟩) 8 8,.bool fr],Ab gs0 45 (S.flatMap AL),AW rg rv rd ra M,AN W W.heap.size]++R)) (sok:SOk S k) (hk:k≤1000) (hM:M.V.length=23168) (hx:DeedOk W x) :
  CallsR Tryz.prog 8 #[π pg,.agg (Tm x).toArray] w (fun v w'=>∃ M' S' fr',v=.bool true∧Sep w' ([Ab pg 54 [π mg,π cg,π rg,π dg],Ab cg 83 (An mg S' fr'),AG mg mb md mp M',Ab dg 49 [π rg,.slice (some ⟨gs0,0,none⟩) 8 8,.bool fr'],Ab gs0 45 (S'.flatMap AL),AW rg rv rd ra M',AN W W.heap.size]++R)∧SOk S' (k+1)∧M'.V.length=23168∧(x.cr=false→∀ j:Nat,(j:Int)+1≠x.P.I 1→S'.getD j (Ac 0)=S.getD j (Ac 0))):=
 CallsR.mono (Tw (R:=R) (P:=x.P) (pa:=x.pa) (pc:=x.pc) (dst:=x.st) (dcr:=x.cr) (qa:=x.qa) (qc:=x.qc) (qs:=x.qs) hS0 sok sok hk hM hM rfl hx.p.wP hx.p.S7 hx.p.hN hx.p.hn9 hx.p.row hx.q hx.o) fun v w' ⟨M',S',fr',N',U',gr',bb,e,h1,h2,h3,_,_,h4,h5⟩=>by
  obtain ⟨e1,e2,e3,e4⟩:=h5 rfl rfl rfl
  subst e1 e2 e3 e4
  exact ⟨M',S',fr',e,h1,h2,h3,h4⟩
end
section
theorem PkIn.cut {W:World} {P:PkM} {a:Option Addr} {c:Nat} (h:PkIn W P a c):PkIn W (Er P) a c:=
 ⟨Og h.wP,Kt h.S7,by rw [Jz];exact h.hN,by rw [Jz];exact h.hn9,by rw [Jz];exact h.row⟩
theorem Vk {M:MemM} (hM:M.V.length=23168):inM M 0 23168=true:=decide_eq_true ω
theorem Of {M:MemM} {X:List UInt8} (hM:M.V.length=23168):(AR X 0 23168).length≤23168:=by
 show (List.take 23168 _).length≤_;rw [List.length_take];omega
theorem Wi {M:MemM} {S:List SideM} {fr:Bool} {Q:PkM} {C':CardM} {A:PkM} {b:Bool} (h:doC ⟨M,S,fr⟩ Q=(C',A,b)) (hK:Q.I 0=1) (hE:1≤Q.I 1→Q.I 1≤8→Q.I 2≠(S.getD (Q.I 1-1).toNat (Ac 0)).ep) :
  C'=⟨M,S,false⟩∧(b=false∨A.I 19=31):=by
 by_cases h0:CK Q=0
 ·have hv:=Mc h0 hK
  rw [Rd (C:=⟨M,S,fr⟩) rfl h0 hK (hE hv.c.1 hv.c.2)] at h
  cases h;exact ⟨rfl,.inr rfl⟩
 ·rw [UY (.inl h0)] at h;cases h;exact ⟨rfl,.inl rfl⟩
theorem Wh {w:World} {R:List Ch} {Q:PkM} {pa:Option Addr} {pc n k:Nat} {cg mg mb md mp:Nat} {S:List SideM} {fr:Bool} {M:MemM} {W:World} (hS0:Sep w ([Ab cg 83 (An mg S fr),AG mg mb md mp M,AN W W.heap.size]++R)) (sok:SOk S k) (hM:M.V.length=23168) (qx:PkIn W Q pa pc) (hn:Q.N.length=n) :
  CallsR Tryz.prog 17 #[π cg,.agg (pkC Q pa n pc).toArray] w (fun v w'=>∃ M' S' fr' A b,v=.tuple #[.agg (pk0 A).toArray,.bool b]∧Sep w' ([Ab cg 83 (An mg S' fr'),AG mg mb md mp M',AN W W.heap.size]++R)∧doC ⟨M,S,fr⟩ Q=(⟨M',S',fr'⟩,A,b)):=by
 subst hn
 exact PS hS0 sok.len hM rfl qx.wP (Md qx.wP) qx.S7 qx.hN qx.hn9 qx.row
theorem VU {w:World} {R:List Ch} {Q:PkM} {pa:Option Addr} {pc n k:Nat} {cg mg mb md mp:Nat} {S:List SideM} {fr:Bool} {M:MemM} {W:World} (hS0:Sep w ([Ab cg 83 (An mg S fr),AG mg mb md mp M,AN W W.heap.size]++R)) (sok:SOk S k) (hM:M.V.length=23168) (qx:PkIn W Q pa pc) (hn:Q.N.length=n) (hK:Q.I 0=1) (hE:1≤Q.I 1→Q.I 1≤8→Q.I 2≠(S.getD (Q.I 1-1).toNat (Ac 0)).ep) :
  CallsR Tryz.prog 17 #[π cg,.agg (pkC Q pa n pc).toArray] w (fun v w'=>∃ A b,v=.tuple #[.agg (pk0 A).toArray,.bool b]∧Sep w' ([Ab cg 83 (An mg S false),AG mg mb md mp M,AN W W.heap.size]++R)∧(b=false∨A.I 19=31)):=
 CallsR.mono (Wh hS0 sok hM qx hn) fun v w' ⟨M',S',fr',A,b,e,s,hd⟩=>by
  obtain ⟨h1,h2⟩:=Wi hd hK hE
  cases h1
  exact ⟨A,b,e,s,h2⟩
theorem FZ (args:Array Value) (w:World):(callFunc 7 args).run Tryz.prog w=.ok (.enter 7 args) w:=by
 have h:=Tryz.func7
 go_simp
theorem EO (args:Array Value) (w:World):(callFunc 8 args).run Tryz.prog w=.ok (.enter 8 args) w:=by
 have h:=Tryz.func8
 go_simp
theorem GF (args:Array Value) (w:World):(callFunc 14 args).run Tryz.prog w=.ok (.enter 14 args) w:=by
 have h:=Tryz.func14
 go_simp
theorem Dz (args:Array Value) (w:World):(callFunc 13 args).run Tryz.prog w=.ok (.enter 13 args) w:=by
 have h:=Tryz.func13
 go_simp
theorem BG (g off:Nat) (w:World):(Instr.fieldAt 54 (.pointer (some ⟨g,off,none⟩)) 0).run Tryz.prog w=.ok (.pointer (some ⟨g,off+0,none⟩)) w:=rfl
theorem Eb (args:Array Value) (w:World):(callFunc 15 args).run Tryz.prog w=.ok (.enter 15 args) w:=by
 have h:=Tryz.func15
 go_simp
theorem DU (args:Array Value) (w:World):(callFunc 16 args).run Tryz.prog w=.ok (.enter 16 args) w:=by
 have h:=Tryz.func16
 go_simp
theorem DS (args:Array Value) (w:World):(callFunc 18 args).run Tryz.prog w=.ok (.enter 18 args) w:=by
 have h:=Tryz.func18
 go_simp
theorem Co (g off:Nat) (w:World):(Instr.fieldAt 54 (.pointer (some ⟨g,off,none⟩)) 1).run Tryz.prog w=.ok (.pointer (some ⟨g,off+1,none⟩)) w:=rfl
theorem Gp (args:Array Value) (w:World):(callFunc 19 args).run Tryz.prog w=.ok (.enter 19 args) w:=by
 have h:=Tryz.func19
 go_simp
theorem IC (g off:Nat) (w:World):(Instr.fieldAt 39 (.pointer (some ⟨g,off,none⟩)) 12).run Tryz.prog w=.ok (.pointer (some ⟨g,off+19,none⟩)) w:=rfl
theorem EG (args:Array Value) (w:World):(callFunc 17 args).run Tryz.prog w=.ok (.enter 17 args) w:=by
 have h:=Tryz.func17
 go_simp
theorem Jf (g off:Nat) (w:World):(Instr.fieldAt 39 (.pointer (some ⟨g,off,none⟩)) 0).run Tryz.prog w=.ok (.pointer (some ⟨g,off+0,none⟩)) w:=rfl
theorem Jh (g off:Nat) (w:World):(Instr.fieldAt 39 (.pointer (some ⟨g,off,none⟩)) 2).run Tryz.prog w=.ok (.pointer (some ⟨g,off+2,none⟩)) w:=rfl
theorem Jg (g off:Nat) (w:World):(Instr.fieldAt 39 (.pointer (some ⟨g,off,none⟩)) 1).run Tryz.prog w=.ok (.pointer (some ⟨g,off+1,none⟩)) w:=rfl
theorem CH (args:Array Value) (w:World):(callFunc 10 args).run Tryz.prog w=.ok (.enter 10 args) w:=by
 have h:=Tryz.func10
 go_simp
theorem RegionFenced_walk (W:World) (a0:Option Addr) (n0 c0:Nat) (f:Nat→DeedT20) (rb:SW W a0 n0 c0 f) (P:PkM) (pa:Option Addr) (pc:Nat) (px:PkIn W P pa pc) :
  Calls Tryz.prog 4 #[.slice a0 n0 c0,.agg (pkC P pa P.N.length pc).toArray] W fun e W'=>e=.returned (.bool true)∧Below W.heap.size W W':=by
 obtain ⟨hX0,hw⟩:=rb;have hXl:=hX0.lt;unfold maxLen at hXl;obtain ⟨bX,oX,hX⟩:=hX0.at;have hS:Sep W [AN W W.heap.size]:=Sep.start W;have hB:W.heap.size=W.heap.size:=rfl
 suffices hZ:CallsR Tryz.prog 4 #[.slice a0 n0 c0,.agg (pkC P pa P.N.length pc).toArray] W (fun v W'=>v=.bool true∧Below W.heap.size W W') from Calls.mono hZ fun e W' ⟨v,e1,e2,h⟩=>⟨by rw [e1,e2],h⟩
 obtain ⟨Q,hQ⟩:∃ Q,Er P=Q:=⟨_,rfl⟩
 have hNl:Q.N.length=P.N.length:=by rw [← hQ,Jz]
 have qx:PkIn W Q pa pc:=hQ ▸ px.cut
 have wQ:wfP Q:=qx.wP
 have wQ1:=wQ 1
 unfold wfI at wQ1
 refine Cb Tryz.func4 rfl (N:=127) Tryz.ntmps4 (by show 2≤127;decide) [(0,.slice a0 n0 c0),(1,.agg (pkC P pa P.N.length pc).toArray)] rfl fun _ h1=>sqr fun _ hK3=>so (wn rfl) fun _ hK1=>Jt h1 rfl rfl rfl rfl rfl (z:=(pkC P pa P.N.length pc)) rfl hS fun _ g4 w7 h5 s8 _ _=>hK1 _ _ ?_
 refine mv h5 rfl fun _ h2=>wpList_nil<|hK3 _ _<|sqr fun _ hK2=>cl h2 rfl FZ (Mq s8) fun _ v1 w2 r1 h3=>?_
 obtain ⟨pg,cg,mg,mb,md,mp,dg,gs0,rg,rv,rd,ra,rfl,s1⟩:=r1
 refine mv h3 rfl fun _ h4=>h4.sn [5,4,3,0,1] rfl fun h6=>hK2 _ _<|sq fun _ hK4=>sqr fun _ hK5=>mv h6 rfl fun _ h7=>bv h7 (z:=.bool false) rfl (Tb _ υ23 _ _ _) fun _ h8=>h8.sn [21,5,4,3,0,1] rfl fun h10=>hK5 _ _<|wcF h10 rfl rfl<|h10.sk [5,4,3,0,1] rfl fun h11=>?_
 refine wp_skip<|hK4 _ _<|sq fun _ hK6=>sqr fun _ hK7=>mv h11 rfl fun _ h12=>wpList_nil<|hK7 _ _<|wp_block ?_
 refine UM (fun (k:Nat) (M:MemM) (S:List SideM) (fr:Bool) a' w'=>Kn 127 [(6,ν (k:Int)),(5,π pg),(4,.bool false),(3,π g4),(0,.slice a0 n0 c0),(1,.agg (pkC P pa P.N.length pc).toArray)] a'∧Sep w' [Ab pg 54 [π mg,π cg,π rg,π dg],Ab cg 83 (An mg S fr),AG mg mb md mp M,Ab dg 49 [π rg,.slice (some ⟨gs0,0,none⟩) 8 8,.bool fr],Ab gs0 45 (S.flatMap AL),AW rg rv rd ra M,AN W W.heap.size,Ab g4 39 (pkC P pa P.N.length pc)]∧(SOk S k)∧(M.V.length=23168)∧(k≤15)) (fun (k:Nat) (M:MemM) (S:List SideM) (fr:Bool)=>15-k) 0 (Df 23168) (List.replicate 8 (Ac 0)) false ⟨h12.subs rfl,(s1.pk [0,1,2,3,4,5,7,6] rfl),Vv,Gv,Nat.zero_le _⟩ ?_
 rintro k1 M46 S47 fr48 a1 w3 ⟨h13,s2,sok42,hM43,hk44⟩ K1 hK8
 have h8S:=sok42.len
 refine sq fun _ hK9=>sqr fun _ hK10=>mvs 2 h13 rfl fun _ h14=>sv1 h14 rfl (v:=ν (n0:Int)) (We h14 rfl rfl υ22) fun _ h15=>bv h15 (z:=.bool (decide ((k1:Int)<(n0:Int)))) rfl (cLt _ _ _ _ rfl) fun _ h16=>mv h16 rfl fun _ h17=>sg h17 (wT h17 rfl rfl rfl) rfl rfl rfl (v:=ν (k1:Int)) (fun hC1=>by have hq:=(dT hC1);exact Ak h17 rfl rfl _) fun _ h18=>sg h18 (wT h18 rfl rfl rfl) rfl rfl rfl (v:=.bool (decide ((k1:Int)<15))) (fun hC2=>by have hq:=(dT hC2);exact CM h18 rfl (opg rfl hC2) rfl (cLt _ _ _ _ rfl) _) fun _ h19=>sv1 h19 rfl (v:=.bool ((decide ((k1:Int)<(n0:Int)))&&(decide ((k1:Int)<15)))) (Jp h19 rfl (E:=(decide ((k1:Int)<(n0:Int)))) (F:=(decide ((k1:Int)<15))) rfl rfl rfl (fun e=>if_pos (by rw [e];try rfl))) fun _ h20=>h20.sn [29,6,5,4,3,0,1] rfl fun h21=>hK10 _ _ ?_
 rcases bC ((decide ((k1:Int)<(n0:Int)))&&(decide ((k1:Int)<15))) with hc1 | hc1
 ·skip
  have hp1:((k1:Int)<(n0:Int))∧((k1:Int)<15):=(And.intro (dT (AV hc1).1) (dT (AV hc1).2))
  refine wcT h21 rfl hc1<|h21.sk [6,5,4,3,0,1] rfl fun h22=>wp_skip<|hK9 _ _<|sq fun _ hK11=>wp_block ?_
  refine wp_region_lit<|mvs 3 h22 rfl fun _ h23=>sv1 h23 rfl (v:=.pointer (some ⟨bX,oX+k1*46,none⟩)) (Iv h23 rfl rfl rfl (fun w=>ixO υ22 κ (sz:=46) (hX ω).1 (j:=k1) rfl ω rfl w)) fun _ h24=>sw1 h24 rfl (v:=.agg (Di ((f k1).P) ((f k1).pa) ((f k1).P.N.length) ((f k1).pc) ((f k1).st) ((f k1).cr) ((f k1).qa) ((f k1).qs.length) ((f k1).qc)).toArray) (rld h24 rfl rfl (ldX (sz:=46) (n:=n0) (f:=(fun i=>Tm (f i))) υ42 rfl κ (fun _=>rfl) (hX ω).2 (Nat.le_refl _) (s2.get 6 rfl:Below _ _ _∧_) (j:=k1) ω rfl)) fun _ h25=>cl h25 rfl EO (Tv (x:=(f k1)) s2 sok42 ω hM43 (hw k1 ω)) fun _ v2 w4 r2 h26=>?_
  obtain ⟨Mx84,Sx85,frx86,rfl,s3,hso91,hM91,hel91⟩:=r2
  refine h26.sn [6,5,4,3,0,1] rfl fun h27=>hK11 _ _<|wp_region_lit<|mv h27 rfl fun _ h28=>bv h28 (z:=ν ((k1+1:Nat):Int)) rfl (PI _ _ _ ω ω ω) fun _ h29=>h29.sk [31,30,5,4,3,0,1] rfl fun h30=>mv h30 rfl fun _ h31=>h31.sk [6,5,4,3,0,1] rfl fun h32=>wpList_nil ?_
  exact hK8 (k1+1) Mx84 Sx85 frx86 _ _ ⟨h32.subs rfl,s3,hso91,hM91,ω⟩ ω
 ·skip
  have hp2:(¬ ((k1:Int)<(n0:Int)))∨(¬ ((k1:Int)<15)):=((WO hc1).imp (fun q=>(dF q)) (fun q=>(dF q)))
  refine wcF h21 rfl hc1<|h21.sk [6,5,4,3,0,1] rfl fun h33=>wp_exit ?_
  refine hK6 _ _ ?_
  refine sqr fun _ hK12=>sw1 h33 rfl (v:=.agg (pkC P pa P.N.length pc).toArray) (rld h33 rfl rfl (ldA υ39 rfl (n:=43) κ (s2.get 7 rfl:Blk _ _ _ _) rfl rfl)) fun _ h34=>cl h34 rfl GF ((by have z:=Rc (P:=P) (pa:=pa) (pc:=pc) s2 (px.S7 7 (by decide));rw [hQ] at z;exact z)) fun _ v3 w5 r3 h35=>?_
  obtain ⟨rfl,s4⟩:=r3
  refine stA h35 s4 7 rfl rfl rfl κ rfl rfl rfl rfl fun _ w6 h36 s5 _=>h36.sn [6,5,4,3,0,1] rfl fun h37=>hK12 _ _<|sq fun _ hK13=>sq fun K2 hK14=>?_
  have hJ124:∀ (bb9:Bool) a' w',Kn 127 [(6,ν (k1:Int)),(5,π pg),(4,.bool false),(3,π g4),(0,.slice a0 n0 c0),(1,.agg (pkC P pa P.N.length pc).toArray),(54,.bool bb9)] a'→Sep w' [Ab pg 54 [π mg,π cg,π rg,π dg],Ab cg 83 (An mg S47 fr48),AG mg mb md mp M46,Ab dg 49 [π rg,.slice (some ⟨gs0,0,none⟩) 8 8,.bool fr48],Ab gs0 45 (S47.flatMap AL),AW rg rv rd ra M46,AN W W.heap.size,Ab g4 39 (pkC Q pa P.N.length pc)]→(bb9=false→Q.I 0=1∧(1≤Q.I 1→Q.I 1≤8→Q.I 2≠(S47.getD (Q.I 1-1).toNat (Ac 0)).ep))→K2 a' w':=by
   intro bb9 a2 w8 h38 s6 h9
   refine hK14 _ _ ?_
   rcases bC bb9 with hc2 | hc2
   ·skip
    refine wcT h38 rfl hc2<|h38.sk [6,5,4,3,0,1] rfl fun h39=>sqr fun _ hK15=>cl h39 rfl Dz (MG s6) fun _ v4 w9 r4 h40=>?_
    obtain ⟨rfl,s7⟩:=r4
    refine h40.sk [55,6,5,3,0,1] rfl fun h41=>mv h41 rfl fun _ h42=>h42.sn [4,6,5,3,0,1] rfl fun h43=>hK15 _ _<|wp_ret ?_
    try simp only [Exit.then,Exit.inBlock]
    refine CO (v:=.bool true) (CN h43 rfl rfl) h43.defs ?_
    exact ⟨rfl,(s7.get 6 rfl:Below _ _ _∧_).1⟩
   ·skip
    refine wcF h38 rfl hc2<|h38.sk [6,5,4,3,0,1] rfl fun h44=>wp_skip<|hK13 _ _<|sqr fun _ hK16=>mvs 2 h44 rfl fun _ h45=>fav h45 rfl (BG _ _) fun _ h46=>ldv h46 s6 0 υ50 rfl rfl rfl rfl fun _ h47=>cl h47 rfl Eb (Nn (at_:=0) (n:=23168) (s6.pk [2,0,1,3,4,5,6,7] rfl) (Vk hM43) (by unfold Hb;omega) (by unfold Hb;omega)) fun _ v5 w10 r5 h48=>?_
    obtain ⟨ra_x155,rc_x156,rfl,s9⟩:=r5
    refine mvs 5 h48 rfl fun _ h49=>h49.sn [7,6,5,4,3,0,1] rfl fun h50=>hK16 _ _<|sqr fun _ hK17=>mvs 2 h50 rfl fun _ h51=>fav h51 rfl (BG _ _) fun _ h52=>ldv h52 s9 2 υ50 rfl rfl rfl rfl fun _ h53=>cl h53 rfl DU (Rm (at_:=0) (n:=23168) (s9.pk [1,0,2,3,4,5,6,7,8] rfl) (Vk hM43) (by unfold Hb;omega) (by unfold Hb;omega)) fun _ v6 w11 r6 h54=>?_
    obtain ⟨ra_x184,rc_x185,rfl,s10⟩:=r6
    refine mvs 5 h54 rfl fun _ h55=>h55.sn [9,7,6,5,4,3,0,1] rfl fun h56=>hK17 _ _<|sq fun K3 hK18=>?_
    have hJ205:∀ (g1:Nat) (A1:PkM) (b1:Bool) a' w',Kn 127 [(9,.slice ra_x184 ((AR M46.D 0 23168).length) rc_x185),(7,.slice ra_x155 ((AR M46.V 0 23168).length) rc_x156),(6,ν (k1:Int)),(5,π pg),(4,.bool false),(3,π g4),(0,.slice a0 n0 c0),(1,.agg (pkC P pa P.N.length pc).toArray),(11,π g1),(12,.bool b1)] a'→Sep w' [Ab g1 39 (pkC A1 none 0 0),Ic 0 5 1 ra_x184 ((AR M46.D 0 23168)).length rc_x185 (((AR M46.D 0 23168)).map Au),AG mg mb md mp M46,Ic 0 5 1 ra_x155 ((AR M46.V 0 23168)).length rc_x156 (((AR M46.V 0 23168)).map Au),Ab pg 54 [π mg,π cg,π rg,π dg],Ab cg 83 (An mg S47 false),Ab dg 49 [π rg,.slice (some ⟨gs0,0,none⟩) 8 8,.bool fr48],Ab gs0 45 (S47.flatMap AL),AW rg rv rd ra M46,AN W W.heap.size,Ab g4 39 (pkC Q pa P.N.length pc)]→(b1=false∨A1.I 19=31)→K3 a' w':=by
     intro g1 A1 b1 a3 w12 h57 s11 hor1
     refine hK18 _ _ ?_
     refine sqr fun _ hK19=>mvs 2 h57 rfl fun _ h58=>fav h58 rfl (BG _ _) fun _ h59=>ldv h59 s11 4 υ50 rfl rfl rfl rfl fun _ h60=>cl h60 rfl Eb (Nn (at_:=0) (n:=23168) (s11.pk [2,0,1,3,4,5,6,7,8,9,10] rfl) (Vk hM43) (by unfold Hb;omega) (by unfold Hb;omega)) fun _ v7 w13 r7 h61=>?_
     obtain ⟨ra_x219,rc_x220,rfl,s12⟩:=r7
     refine mvs 5 h61 rfl fun _ h62=>h62.sn [13,9,7,6,5,4,3,0,1,11,12] rfl fun h63=>hK19 _ _<|sqr fun _ hK20=>mvs 2 h63 rfl fun _ h64=>fav h64 rfl (BG _ _) fun _ h65=>ldv h65 s12 5 υ50 rfl rfl rfl rfl fun _ h66=>cl h66 rfl DU (Rm (at_:=0) (n:=23168) (s12.pk [1,0,2,3,4,5,6,7,8,9,10,11] rfl) (Vk hM43) (by unfold Hb;omega) (by unfold Hb;omega)) fun _ v8 w14 r8 h67=>?_
     obtain ⟨ra_x248,rc_x249,rfl,s13⟩:=r8
     refine mvs 5 h67 rfl fun _ h68=>h68.sn [15,13,9,7,6,5,4,3,0,1,11,12] rfl fun h69=>hK20 _ _<|sqr fun _ hK21=>mvs 2 h69 rfl fun _ h70=>cl h70 rfl DS (Dt s13 (MP _ _ _ _ (AR M46.V 0 23168) _ (s13.get 5 rfl:Own _ _ _ _ _ _ _ _).row (s13.get 2 rfl:Own _ _ _ _ _ _ _ _).row (Nat.le_trans (Of hM43) (by decide)))) fun _ v9 w15 r9 h71=>?_
     obtain ⟨rfl,s14⟩:=r9
     refine mv h71 rfl fun _ h72=>h72.sn [17,15,13,9,7,6,5,4,3,0,1,11,12] rfl fun h73=>hK21 _ _<|sqr fun _ hK22=>mvs 2 h73 rfl fun _ h74=>cl h74 rfl DS (Dt s14 (MP _ _ _ _ (AR M46.D 0 23168) _ (s14.get 4 rfl:Own _ _ _ _ _ _ _ _).row (s14.get 0 rfl:Own _ _ _ _ _ _ _ _).row (Nat.le_trans (Of hM43) (by decide)))) fun _ v10 w16 r10 h75=>?_
     obtain ⟨rfl,s15⟩:=r10
     refine mv h75 rfl fun _ h76=>h76.sn [18,17,15,13,9,7,6,5,4,3,0,1,11,12] rfl fun h77=>hK22 _ _<|sqr fun _ hK23=>mvs 2 h77 rfl fun _ h78=>sv h78 (wT h78 (E:=true) rfl rfl rfl) rfl rfl rfl (v:=.bool true) (Ak h78 rfl rfl) fun _ h79=>sv1 h79 rfl (v:=.bool true) (CY h79 rfl rfl rfl) fun _ h80=>mv h80 rfl fun _ h81=>sv h81 (wT h81 (E:=true) rfl rfl rfl) rfl rfl rfl (v:=π pg) (Ak h81 rfl rfl) fun _ h82=>sv h82 (wT h82 (E:=true) rfl rfl rfl) rfl rfl rfl (v:=π pg) (Bp h82 rfl rfl) fun _ h83=>?_
     refine sv h83 (wT h83 (E:=true) rfl rfl rfl) rfl rfl rfl (v:=.pointer (some ⟨pg,1,none⟩)) (rfa h83 rfl rfl (fun w=>Co pg 0 w)) fun _ h84=>sw h84 (wT h84 (E:=true) rfl rfl rfl) rfl rfl rfl (v:=π cg) (rld h84 rfl rfl (ldB υ51 rfl (s15.get 6 rfl:Blk _ _ _ _) rfl)) fun _ h85=>so (wT h85 (E:=true) rfl rfl rfl) fun _ hK24=>Be h85 rfl rfl rfl (xs:=[.tmp 111]) rfl Gp rfl (vs:=[π cg]) rfl (args:=#[π cg]) rfl (KS (s15.pk [7,0,1,2,3,4,5,6,8,9,10,11,12] rfl) h8S) fun _ v11 w17 r11 h86=>hK24 _ _ ?_
     obtain ⟨rfl,s16⟩:=r11
     refine sv h86 (wT h86 (E:=true) rfl rfl rfl) rfl rfl rfl (v:=.bool true) (Ml h86 rfl (b:=false) rfl) fun _ h87=>sv1 h87 rfl (v:=.bool true) (CY h87 rfl rfl rfl) fun _ h88=>mv h88 rfl fun _ h89=>sv h89 (wT h89 (E:=true) rfl rfl rfl) rfl rfl rfl (v:=.bool b1) (Ak h89 rfl rfl) fun _ h90=>sv h90 (wT h90 (E:=true) rfl rfl rfl) rfl rfl rfl (v:=.bool (!b1)) (Ml h90 rfl (b:=b1) rfl) fun _ h91=>sv h91 (wT h91 (E:=true) rfl rfl rfl) rfl rfl rfl (v:=.bool (!b1)) (Ak h91 rfl rfl) fun _ h92=>sg h92 (wF h92 rfl rfl rfl) rfl rfl rfl (v:=.pointer (some ⟨g1,19,none⟩)) (fun hC3=>by have hq:=(Vw (BY hC3));exact rfa h92 rfl rfl (fun w=>IC g1 0 w) _) fun _ h93=>sg h93 (wF h93 rfl rfl rfl) rfl rfl rfl (v:=ν (A1.I 19)) (fun hC4=>by have hq:=(Vw (BY hC4));exact (rld h93 rfl (opg rfl hC4) (ldB υ28 rfl (s16.get 4 rfl:Blk _ _ _ _) rfl))) fun _ h94=>sg h94 (wF h94 rfl rfl rfl) rfl rfl rfl (v:=.bool (decide ((A1.I 19)=31))) (fun hC5=>by have hq:=(Vw (BY hC5));exact CM h94 rfl (opg rfl hC5) rfl (cEq _ _ _ _ rfl) _) fun _ h95=>sv h95 (wT h95 (E:=true) rfl rfl rfl) rfl rfl rfl (v:=.bool ((!b1)||(decide ((A1.I 19)=31)))) (Jq h95 rfl (E:=(!b1)) (F:=(decide ((A1.I 19)=31))) rfl rfl rfl (fun e=>if_pos (by rw [e];try rfl))) fun _ h96=>?_
     refine sv1 h96 rfl (v:=.bool ((!b1)||(decide ((A1.I 19)=31)))) (CY h96 rfl rfl rfl) fun _ h97=>mv h97 rfl fun _ h98=>?_
     rcases bC ((!b1)||(decide ((A1.I 19)=31))) with hc3 | hc3
     ·skip
      have hp3:(b1=false)∨((A1.I 19)=31):=((orT hc3).imp (fun q=>(BY q)) (fun q=>(dT q)))
      refine so ((wT h98 rfl rfl rfl).trans hc3) fun _ hK25=>Be h98 rfl rfl rfl (xs:=[]) rfl Dz rfl (vs:=[]) rfl (args:=#[]) rfl (MG s16) fun _ v12 w18 r12 h99=>hK25 _ _ ?_
      obtain ⟨rfl,s17⟩:=r12
      refine sv1 h99 rfl (v:=.bool true) (BT h99 rfl (E:=((!b1)||(decide ((A1.I 19)=31)))) (b:=true) rfl hc3 rfl) fun _ h100=>h100.sk [126,125,124,123,122,121,120,119,118,117,116,115,114,113,112,111,110,109,108,107,106,105,104,103,18,17,15,13,9,7,6,5,3,0,1,11,12] rfl fun h101=>mv h101 rfl fun _ h102=>h102.sn [4,18,17,15,13,9,7,6,5,3,0,1,11,12] rfl fun h103=>hK23 _ _<|wp_ret ?_

      refine CO (v:=.bool true) (CN h103 rfl rfl) h103.defs ?_
      exact ⟨rfl,(s17.get 11 rfl:Below _ _ _∧_).1⟩
     ·skip
      have hp4:(b1=true)∧(¬ ((A1.I 19)=31)):=(And.intro (Vw (orF hc3).1) (dF (orF hc3).2))
      exact (hor1.elim (fun q=>Bool.noConfusion (q.symm.trans hp4.1)) (fun q=>hp4.2 q):False).elim
    have s18:=s10.drew
    refine wp_region_held_drew (S:=fun w'=>Sep w' [Ic 0 5 1 ra_x184 ((AR M46.D 0 23168)).length rc_x185 (((AR M46.D 0 23168)).map Au),AG mg mb md mp M46,Ic 0 5 1 ra_x155 ((AR M46.V 0 23168)).length rc_x156 (((AR M46.V 0 23168)).map Au),Ab pg 54 [π mg,π cg,π rg,π dg],Ab dg 49 [π rg,.slice (some ⟨gs0,0,none⟩) 8 8,.bool fr48],Ab gs0 45 (S47.flatMap AL),AW rg rv rd ra M46,AN W W.heap.size,Ab g4 39 (pkC Q pa P.N.length pc)]) κ (s18.pk [0,1,2,3,5,6,7,8,9] rfl) (fun hq1=>?_)
    refine tv1 hq1 h56 0 rfl rfl (v:=π pg) (fun w1 _=>(Ak h56 rfl rfl) w1) fun _ h104=>?_
    refine tv1 hq1 h104 1 rfl rfl (v:=π pg) (fun w1 _=>(Bp h104 rfl rfl) w1) fun _ h105=>?_
    refine tv1 hq1 h105 2 rfl rfl (v:=.pointer (some ⟨pg,1,none⟩)) (fun w1 _=>(rfa h105 rfl rfl (fun w=>Co pg 0 w)) w1) fun _ h106=>?_
    refine tv1 hq1 h106 3 rfl rfl (v:=π cg) (fun w1 hSw=>(rld h106 rfl rfl (ldB υ51 rfl (hSw.get 3 rfl:Blk _ _ _ _) rfl))) fun _ h107=>?_
    refine tv1 hq1 h107 4 rfl rfl (v:=.agg (pkC Q pa P.N.length pc).toArray) (fun w1 hSw=>(rld h107 rfl rfl (ldA υ39 rfl (n:=43) κ (hSw.get 8 rfl:Blk _ _ _ _) rfl rfl))) fun _ h108=>?_
    refine wpAnyH_ready (rs:=[5,9]) κ (by simp) (toc rfl (wn rfl) (fun K4 hK26=>?_) (toc rfl (wn rfl) (fun K4 hK26=>?_) AllReadyH.nil))
    ·skip
     refine Be h108 rfl rfl rfl (xs:=[.tmp 76,.tmp 77]) rfl EG rfl (vs:=[π cg,.agg (pkC Q pa P.N.length pc).toArray]) rfl (args:=#[π cg,.agg (pkC Q pa P.N.length pc).toArray]) rfl (VU (Q:=Q) (s18.pk [4,1,8,0,2,3,5,6,7,9] rfl) sok42 hM43 qx hNl (h9 hc2).1 (h9 hc2).2) fun _ v13 w19 r13 h109=>?_
     obtain ⟨Ax381,bx382,rfl,s19,hor387⟩:=r13
     refine hK26 _ _ (s19.pk [3,1,4,5,6,7,8,2,9] rfl) fun hq2=>?_
     refine tv1 hq2 h109 6 rfl rfl (v:=.tuple #[.agg (pkC Ax381 none 0 0).toArray,.bool bx382]) (fun w1 _=>(Ak h109 rfl rfl) w1) fun _ h110=>?_
     refine tv1 hq2 h110 7 rfl rfl (v:=.agg (pkC Ax381 none 0 0).toArray) (fun w1 _=>(Dm h110 rfl rfl rfl) w1) fun _ h111=>?_
     refine tv1 hq2 h111 8 rfl rfl (v:=.bool bx382) (fun w1 _=>(Dm h111 rfl rfl rfl) w1) fun _ h112=>?_
     refine to_ 9 rfl (wn rfl) κ fun _ hK27=>BU h112 rfl rfl rfl rfl (z:=[ν 0,ν 0,ν 0,ν 0,ν 0,ν 0,ν 0,σ [],ν 0,ν 0,ν 0,σ [],σ [],ν 0,ν 0,ν 0,ν 0,σ [],ν 0,ν 0,ν 0,ν 0,σ [],.slice none 0 0,ν 0,ν 0,ν 0,ν 0,ν 0,ν 0,ν 0,ν 0,ν 0,ν 0,ν 0,ν 0,ν 0,ν 0,ν 0,ν 0,ν 0,ν 0,ν 0]) (fun _=>rfl) s19 fun _ g2 w20 h113 s20 _ _=>?_
     refine hK27 _ _ (s20.pk [4,2,5,6,7,8,9,3,10] rfl) fun hq3=>?_
     refine to_ 10 rfl (wn rfl) κ fun _ hK28=>Bz h113 rfl rfl s20 0 rfl rfl rfl [ν (Ax381.I 0),ν (Ax381.I 1),ν (Ax381.I 2),ν (Ax381.I 3),ν (Ax381.I 4),ν (Ax381.I 5),ν (Ax381.I 6),σ (Ax381.S 7),ν (Ax381.I 8),ν (Ax381.I 9),ν (Ax381.I 10),σ (Ax381.S 11),σ (Ax381.S 12),ν (Ax381.I 13),ν (Ax381.I 14),ν (Ax381.I 15),ν (Ax381.I 16),σ (Ax381.S 17),ν (Ax381.I 18),ν (Ax381.I 19),ν (Ax381.I 20),ν (Ax381.I 21),σ (Ax381.S 22),.slice none 0 0,ν (Ax381.I 24),ν (Ax381.I 25),ν (Ax381.I 26),ν (Ax381.I 27),ν (Ax381.I 28),ν (Ax381.I 29),ν (Ax381.I 30),ν (Ax381.I 31),ν (Ax381.I 32),ν (Ax381.I 33),ν (Ax381.I 34),ν (Ax381.I 35),ν (Ax381.I 36),ν (Ax381.I 37),ν (Ax381.I 38),ν (Ax381.I 39),ν (Ax381.I 40),ν (Ax381.I 41),ν (Ax381.I 42)] rfl κ rfl (by show 0+43≤43;decide) (L':=[ν (Ax381.I 0),ν (Ax381.I 1),ν (Ax381.I 2),ν (Ax381.I 3),ν (Ax381.I 4),ν (Ax381.I 5),ν (Ax381.I 6),σ (Ax381.S 7),ν (Ax381.I 8),ν (Ax381.I 9),ν (Ax381.I 10),σ (Ax381.S 11),σ (Ax381.S 12),ν (Ax381.I 13),ν (Ax381.I 14),ν (Ax381.I 15),ν (Ax381.I 16),σ (Ax381.S 17),ν (Ax381.I 18),ν (Ax381.I 19),ν (Ax381.I 20),ν (Ax381.I 21),σ (Ax381.S 22),.slice none 0 0,ν (Ax381.I 24),ν (Ax381.I 25),ν (Ax381.I 26),ν (Ax381.I 27),ν (Ax381.I 28),ν (Ax381.I 29),ν (Ax381.I 30),ν (Ax381.I 31),ν (Ax381.I 32),ν (Ax381.I 33),ν (Ax381.I 34),ν (Ax381.I 35),ν (Ax381.I 36),ν (Ax381.I 37),ν (Ax381.I 38),ν (Ax381.I 39),ν (Ax381.I 40),ν (Ax381.I 41),ν (Ax381.I 42)]) rfl (cs':=[Ab g2 39 (pkC Ax381 none 0 0),Ab cg 83 (An mg S47 false),AG mg mb md mp M46,AN W W.heap.size,Ic 0 5 1 ra_x184 ((AR M46.D 0 23168)).length rc_x185 (((AR M46.D 0 23168)).map Au),Ic 0 5 1 ra_x155 ((AR M46.V 0 23168)).length rc_x156 (((AR M46.V 0 23168)).map Au),Ab pg 54 [π mg,π cg,π rg,π dg],Ab dg 49 [π rg,.slice (some ⟨gs0,0,none⟩) 8 8,.bool fr48],Ab gs0 45 (S47.flatMap AL),AW rg rv rd ra M46,Ab g4 39 (pkC Q pa P.N.length pc)]) rfl fun _ w21 h114 s21 _=>?_
     refine hK28 _ _ (s21.pk [4,2,5,6,7,8,9,3,10] rfl) fun hq4=>?_
     refine tv1 hq4 h114 11 rfl rfl (v:=.bool bx382) (fun w1 _=>(Ay h114 rfl rfl) w1) fun _ h115=>?_
     refine h115.sk [12,11,9,7,6,5,4,3,0,1] rfl fun h116=>?_
     refine wpAnyH_done κ ?_ _
     exact hJ205 g2 Ax381 bx382 _ _ (h116.subs rfl) (s21.pk [0,4,2,5,6,1,7,8,9,3,10] rfl) hor387
    ·skip
     refine BU h108 rfl rfl rfl rfl (z:=[ν 0,ν 0,ν 0,ν 0,ν 0,ν 0,ν 0,σ [],ν 0,ν 0,ν 0,σ [],σ [],ν 0,ν 0,ν 0,ν 0,σ [],ν 0,ν 0,ν 0,ν 0,σ [],.slice none 0 0,ν 0,ν 0,ν 0,ν 0,ν 0,ν 0,ν 0,ν 0,ν 0,ν 0,ν 0,ν 0,ν 0,ν 0,ν 0,ν 0,ν 0,ν 0,ν 0]) (fun _=>rfl) s18 fun _ g3 w22 h117 s22 _ _=>hK26 _ _ (s22.pk [1,2,3,4,6,7,8,9,10] rfl) fun hq5=>?_
     refine to_ 5 rfl (wn rfl) κ fun _ hK29=>Be h117 rfl rfl rfl (xs:=[.tmp 76,.tmp 77]) rfl EG rfl (vs:=[π cg,.agg (pkC Q pa P.N.length pc).toArray]) rfl (args:=#[π cg,.agg (pkC Q pa P.N.length pc).toArray]) rfl (VU (Q:=Q) (s22.pk [5,2,9,0,1,3,4,6,7,8,10] rfl) sok42 hM43 qx hNl (h9 hc2).1 (h9 hc2).2) fun _ v14 w23 r14 h118=>?_
     obtain ⟨Ax423,bx424,rfl,s23,hor429⟩:=r14
     refine hK29 _ _ (s23.pk [4,1,5,6,7,8,9,2,10] rfl) fun hq6=>?_
     refine tv1 hq6 h118 6 rfl rfl (v:=.tuple #[.agg (pkC Ax423 none 0 0).toArray,.bool bx424]) (fun w1 _=>(Ak h118 rfl rfl) w1) fun _ h119=>?_
     refine tv1 hq6 h119 7 rfl rfl (v:=.agg (pkC Ax423 none 0 0).toArray) (fun w1 _=>(Dm h119 rfl rfl rfl) w1) fun _ h120=>?_
     refine tv1 hq6 h120 8 rfl rfl (v:=.bool bx424) (fun w1 _=>(Dm h120 rfl rfl rfl) w1) fun _ h121=>?_
     refine to_ 10 rfl (wn rfl) κ fun _ hK30=>Bz h121 rfl rfl s23 3 rfl rfl rfl [ν (Ax423.I 0),ν (Ax423.I 1),ν (Ax423.I 2),ν (Ax423.I 3),ν (Ax423.I 4),ν (Ax423.I 5),ν (Ax423.I 6),σ (Ax423.S 7),ν (Ax423.I 8),ν (Ax423.I 9),ν (Ax423.I 10),σ (Ax423.S 11),σ (Ax423.S 12),ν (Ax423.I 13),ν (Ax423.I 14),ν (Ax423.I 15),ν (Ax423.I 16),σ (Ax423.S 17),ν (Ax423.I 18),ν (Ax423.I 19),ν (Ax423.I 20),ν (Ax423.I 21),σ (Ax423.S 22),.slice none 0 0,ν (Ax423.I 24),ν (Ax423.I 25),ν (Ax423.I 26),ν (Ax423.I 27),ν (Ax423.I 28),ν (Ax423.I 29),ν (Ax423.I 30),ν (Ax423.I 31),ν (Ax423.I 32),ν (Ax423.I 33),ν (Ax423.I 34),ν (Ax423.I 35),ν (Ax423.I 36),ν (Ax423.I 37),ν (Ax423.I 38),ν (Ax423.I 39),ν (Ax423.I 40),ν (Ax423.I 41),ν (Ax423.I 42)] rfl κ rfl (by show 0+43≤43;decide) (L':=[ν (Ax423.I 0),ν (Ax423.I 1),ν (Ax423.I 2),ν (Ax423.I 3),ν (Ax423.I 4),ν (Ax423.I 5),ν (Ax423.I 6),σ (Ax423.S 7),ν (Ax423.I 8),ν (Ax423.I 9),ν (Ax423.I 10),σ (Ax423.S 11),σ (Ax423.S 12),ν (Ax423.I 13),ν (Ax423.I 14),ν (Ax423.I 15),ν (Ax423.I 16),σ (Ax423.S 17),ν (Ax423.I 18),ν (Ax423.I 19),ν (Ax423.I 20),ν (Ax423.I 21),σ (Ax423.S 22),.slice none 0 0,ν (Ax423.I 24),ν (Ax423.I 25),ν (Ax423.I 26),ν (Ax423.I 27),ν (Ax423.I 28),ν (Ax423.I 29),ν (Ax423.I 30),ν (Ax423.I 31),ν (Ax423.I 32),ν (Ax423.I 33),ν (Ax423.I 34),ν (Ax423.I 35),ν (Ax423.I 36),ν (Ax423.I 37),ν (Ax423.I 38),ν (Ax423.I 39),ν (Ax423.I 40),ν (Ax423.I 41),ν (Ax423.I 42)]) rfl (cs':=[Ab cg 83 (An mg S47 false),AG mg mb md mp M46,AN W W.heap.size,Ab g3 39 (pkC Ax423 none 0 0),Ic 0 5 1 ra_x184 ((AR M46.D 0 23168)).length rc_x185 (((AR M46.D 0 23168)).map Au),Ic 0 5 1 ra_x155 ((AR M46.V 0 23168)).length rc_x156 (((AR M46.V 0 23168)).map Au),Ab pg 54 [π mg,π cg,π rg,π dg],Ab dg 49 [π rg,.slice (some ⟨gs0,0,none⟩) 8 8,.bool fr48],Ab gs0 45 (S47.flatMap AL),AW rg rv rd ra M46,Ab g4 39 (pkC Q pa P.N.length pc)]) rfl fun _ w24 h122 s24 _=>?_
     refine hK30 _ _ (s24.pk [4,1,5,6,7,8,9,2,10] rfl) fun hq7=>?_
     refine tv1 hq7 h122 11 rfl rfl (v:=.bool bx424) (fun w1 _=>(Ay h122 rfl rfl) w1) fun _ h123=>?_
     refine h123.sk [12,11,9,7,6,5,4,3,0,1] rfl fun h124=>?_
     refine wpAnyH_done κ ?_ _
     exact hJ205 g3 Ax423 bx424 _ _ (h124.subs rfl) (s24.pk [3,4,1,5,6,0,7,8,9,2,10] rfl) hor429
  have s25:=s5.drew
  refine wp_region_held_drew (S:=fun w'=>Sep w' [Ab pg 54 [π mg,π cg,π rg,π dg],Ab cg 83 (An mg S47 fr48),AG mg mb md mp M46,Ab dg 49 [π rg,.slice (some ⟨gs0,0,none⟩) 8 8,.bool fr48],Ab gs0 45 (S47.flatMap AL),AW rg rv rd ra M46,AN W W.heap.size,Ab g4 39 (pkC Q pa P.N.length pc)]) κ s25 (fun hq8=>?_)
  refine tv1 hq8 h37 0 rfl rfl (v:=π g4) (fun w1 _=>(rfa h37 rfl rfl (fun w=>Jf g4 0 w)) w1) fun _ h125=>?_
  refine tv1 hq8 h125 1 rfl rfl (v:=ν (Q.I 0)) (fun w1 hSw=>(rld h125 rfl rfl (ldB υ3 rfl (hSw.get 7 rfl:Blk _ _ _ _) rfl))) fun _ h126=>?_
  refine tv1 hq8 h126 2 rfl rfl (v:=.bool (decide ((Q.I 0)≠1))) (fun w1 _=>(CM h126 rfl rfl rfl (cNe _ _ _ _ rfl)) w1) fun _ h127=>?_
  refine tv1 hq8 h127 3 rfl rfl (v:=.bool (decide ((Q.I 0)≠1))) (fun w1 _=>(Ak h127 rfl rfl) w1) fun _ h128=>?_
  refine tgv hq8 h128 4 rfl rfl rfl rfl κ κ κ (fun _ _ _ _ h=>h) (wF h128 rfl rfl rfl) (v:=.pointer (some ⟨g4,2,none⟩)) (fun w1 hSw hC6=>by have hq:=(dF (BY hC6));exact (rfa h128 rfl rfl (fun w=>Jh g4 0 w)) w1) fun _ h129=>?_
  refine tgv hq8 h129 5 rfl rfl rfl rfl κ κ κ (fun _ _ _ _ h=>h) (wF h129 rfl rfl rfl) (v:=ν (Q.I 2)) (fun w1 hSw hC7=>by have hq:=(dF (BY hC7));exact (rld h129 rfl (opg rfl hC7) (ldB υ3 rfl (hSw.get 7 rfl:Blk _ _ _ _) rfl))) fun _ h130=>?_
  refine tgv hq8 h130 6 rfl rfl rfl rfl κ κ κ (fun _ _ _ _ h=>h) (wF h130 rfl rfl rfl) (v:=π pg) (fun w1 hSw hC8=>by have hq:=(dF (BY hC8));exact (Ak h130 rfl rfl) w1) fun _ h131=>?_
  refine tgv hq8 h131 7 rfl rfl rfl rfl κ κ κ (fun _ _ _ _ h=>h) (wF h131 rfl rfl rfl) (v:=π pg) (fun w1 hSw hC9=>by have hq:=(dF (BY hC9));exact (Bp h131 rfl (opg rfl hC9)) w1) fun _ h132=>?_
  refine tgv hq8 h132 8 rfl rfl rfl rfl κ κ κ (fun _ _ _ _ h=>h) (wF h132 rfl rfl rfl) (v:=.pointer (some ⟨pg,1,none⟩)) (fun w1 hSw hC10=>by have hq:=(dF (BY hC10));exact (rfa h132 rfl (opg rfl hC10) (fun w=>Co pg 0 w)) w1) fun _ h133=>?_
  refine tgv hq8 h133 9 rfl rfl rfl rfl κ κ κ (fun _ _ _ _ h=>h) (wF h133 rfl rfl rfl) (v:=π cg) (fun w1 hSw hC11=>by have hq:=(dF (BY hC11));exact (rld h133 rfl (opg rfl hC11) (ldB υ51 rfl (hSw.get 0 rfl:Blk _ _ _ _) rfl))) fun _ h134=>?_
  refine tgv hq8 h134 10 rfl rfl rfl rfl κ κ κ (fun _ _ _ _ h=>h) (wF h134 rfl rfl rfl) (v:=.pointer (some ⟨g4,1,none⟩)) (fun w1 hSw hC12=>by have hq:=(dF (BY hC12));exact (rfa h134 rfl rfl (fun w=>Jg g4 0 w)) w1) fun _ h135=>?_
  refine tgv hq8 h135 11 rfl rfl rfl rfl κ κ κ (fun _ _ _ _ h=>h) (wF h135 rfl rfl rfl) (v:=ν (Q.I 1)) (fun w1 hSw hC13=>by have hq:=(dF (BY hC13));exact (rld h135 rfl (opg rfl hC13) (ldB υ3 rfl (hSw.get 7 rfl:Blk _ _ _ _) rfl))) fun _ h136=>?_
  rcases bC (decide ((Q.I 0)≠1)) with hc4 | hc4
  ·skip
   have hp5:(Q.I 0)≠1:=(dT hc4)
   refine tu hq8 h136 12 rfl rfl rfl rfl κ κ κ (fun _ _ _ _ h=>h) ((wF h136 rfl rfl rfl).trans (BP hc4)) fun _ h137=>?_
   refine tu hq8 h137 13 rfl rfl rfl rfl κ κ κ (fun _ _ _ _ h=>h) ((wF h137 rfl rfl rfl).trans (BP hc4)) fun _ h138=>?_
   refine tv1 hq8 h138 14 rfl rfl (v:=.bool true) (fun w1 _=>(BT h138 rfl (E:=(decide ((Q.I 0)≠1))) (b:=true) rfl hc4 rfl) w1) fun _ h139=>?_
   refine h139.sk [54,6,5,4,3,0,1] rfl fun h140=>?_
   refine wpAnyH_done κ ?_ _
   exact hJ124 true _ _ (h140.subs rfl) s25 (fun q=>by first | cases q | (have q9:=dF q;exact ⟨ω,fun q1 q2=>ω⟩))
  ·skip
   have hp6:¬ ((Q.I 0)≠1):=(dF hc4)
   rcases bC (decide ((Q.I 1)≥1)) with hc5 | hc5
   ·skip
    have hp7:(Q.I 1)≥1:=(dT hc5)
    rcases bC (decide ((Q.I 1)≤8)) with hc6 | hc6
    ·skip
     have hp8:(Q.I 1)≤8:=(dT hc6)
     refine to_ 12 rfl ((wF h136 rfl rfl rfl).trans (AQ hc4)) κ fun _ hK31=>Be h136 rfl rfl rfl (xs:=[.tmp 49,.tmp 51]) rfl CH rfl (vs:=[π cg,ν (Q.I 1)]) (Dj (opg rfl (AQ hc4)) (Dj (opg rfl (AQ hc4)) rfl)) (args:=#[π cg,ν (Q.I 1)]) rfl (Re (c:=(Q.I 1)) (j:=((Q.I 1)-1).toNat) (s25.pk [1,0,2,3,4,5,6,7] rfl) sok42.len ω ω) fun _ v15 w25 r15 h141=>?_
     obtain ⟨rfl,s26⟩:=r15
     refine hK31 _ _ (s26.pk [1,0,2,3,4,5,6,7] rfl) fun hq9=>?_
     refine tv hq9 h141 13 rfl rfl rfl rfl κ κ κ (fun _ _ _ _ h=>h) ((wF h141 rfl rfl rfl).trans (AQ hc4)) (v:=.bool (decide ((Q.I 2)=(S47.getD ((Q.I 1)-1).toNat (Ac 0)).ep))) (fun w1 _=>(CM h141 rfl (opg rfl (AQ hc4)) rfl (cEq _ _ _ _ rfl)) w1) fun _ h142=>?_
     refine tv1 hq9 h142 14 rfl rfl (v:=.bool (decide ((Q.I 2)=(S47.getD ((Q.I 1)-1).toNat (Ac 0)).ep))) (fun w1 _=>(BT h142 rfl (E:=(decide ((Q.I 0)≠1))) (b:=false) rfl hc4 rfl) w1) fun _ h143=>?_
     refine h143.sk [54,6,5,4,3,0,1] rfl fun h144=>?_
     refine wpAnyH_done κ ?_ _
     exact hJ124 (decide ((Q.I 2)=(S47.getD ((Q.I 1)-1).toNat (Ac 0)).ep)) _ _ (h144.subs rfl) (s26.pk [1,0,2,3,4,5,6,7] rfl) (fun q=>by first | cases q | (have q9:=dF q;exact ⟨ω,fun q1 q2=>ω⟩))
    ·skip
     have hp9:¬ ((Q.I 1)≤8):=(dF hc6)
     refine to_ 12 rfl ((wF h136 rfl rfl rfl).trans (AQ hc4)) κ fun _ hK32=>Be h136 rfl rfl rfl (xs:=[.tmp 49,.tmp 51]) rfl CH rfl (vs:=[π cg,ν (Q.I 1)]) (Dj (opg rfl (AQ hc4)) (Dj (opg rfl (AQ hc4)) rfl)) (args:=#[π cg,ν (Q.I 1)]) rfl (Oo (c:=(Q.I 1)) (s25.pk [1,0,2,3,4,5,6,7] rfl) sok42.len (wQ 1) ω) fun _ v16 w26 r16 h145=>?_
     obtain ⟨rfl,s27⟩:=r16
     refine hK32 _ _ (s27.pk [1,0,2,3,4,5,6,7] rfl) fun hq9=>?_
     refine tv hq9 h145 13 rfl rfl rfl rfl κ κ κ (fun _ _ _ _ h=>h) ((wF h145 rfl rfl rfl).trans (AQ hc4)) (v:=.bool (decide ((Q.I 2)=0))) (fun w1 _=>(CM h145 rfl (opg rfl (AQ hc4)) rfl (cEq _ _ _ _ rfl)) w1) fun _ h146=>?_
     refine tv1 hq9 h146 14 rfl rfl (v:=.bool (decide ((Q.I 2)=0))) (fun w1 _=>(BT h146 rfl (E:=(decide ((Q.I 0)≠1))) (b:=false) rfl hc4 rfl) w1) fun _ h147=>?_
     refine h147.sk [54,6,5,4,3,0,1] rfl fun h148=>?_
     refine wpAnyH_done κ ?_ _
     exact hJ124 (decide ((Q.I 2)=0)) _ _ (h148.subs rfl) (s27.pk [1,0,2,3,4,5,6,7] rfl) (fun q=>by first | cases q | (have q9:=dF q;exact ⟨ω,fun q1 q2=>ω⟩))
   ·skip
    have hp10:¬ ((Q.I 1)≥1):=(dF hc5)
    refine to_ 12 rfl ((wF h136 rfl rfl rfl).trans (AQ hc4)) κ fun _ hK33=>Be h136 rfl rfl rfl (xs:=[.tmp 49,.tmp 51]) rfl CH rfl (vs:=[π cg,ν (Q.I 1)]) (Dj (opg rfl (AQ hc4)) (Dj (opg rfl (AQ hc4)) rfl)) (args:=#[π cg,ν (Q.I 1)]) rfl (Oo (c:=(Q.I 1)) (s25.pk [1,0,2,3,4,5,6,7] rfl) sok42.len (wQ 1) ω) fun _ v17 w27 r17 h149=>?_
    obtain ⟨rfl,s28⟩:=r17
    refine hK33 _ _ (s28.pk [1,0,2,3,4,5,6,7] rfl) fun hq9=>?_
    refine tv hq9 h149 13 rfl rfl rfl rfl κ κ κ (fun _ _ _ _ h=>h) ((wF h149 rfl rfl rfl).trans (AQ hc4)) (v:=.bool (decide ((Q.I 2)=0))) (fun w1 _=>(CM h149 rfl (opg rfl (AQ hc4)) rfl (cEq _ _ _ _ rfl)) w1) fun _ h150=>?_
    refine tv1 hq9 h150 14 rfl rfl (v:=.bool (decide ((Q.I 2)=0))) (fun w1 _=>(BT h150 rfl (E:=(decide ((Q.I 0)≠1))) (b:=false) rfl hc4 rfl) w1) fun _ h151=>?_
    refine h151.sk [54,6,5,4,3,0,1] rfl fun h152=>?_
    refine wpAnyH_done κ ?_ _
    exact hJ124 (decide ((Q.I 2)=0)) _ _ (h152.subs rfl) (s28.pk [1,0,2,3,4,5,6,7] rfl) (fun q=>by first | cases q | (have q9:=dF q;exact ⟨ω,fun q1 q2=>ω⟩))
end
end Go.Proofs.YtjgajoljgepioaaGreat
