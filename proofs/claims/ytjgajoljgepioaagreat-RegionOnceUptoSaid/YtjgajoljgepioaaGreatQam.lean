/- Parts of the proof. -/
import Derived.Test.YtjgajoljgepioaaGreatQal
namespace Go.Proofs.YtjgajoljgepioaaGreat
open Go.RowKit
set_option linter.unusedSimpArgs false
set_option linter.unusedVariables false
set_option linter.unusedSectionVars false
set_option maxRecDepth 100000
set_option maxHeartbeats 8000000
section
theorem Ur {P Q:PkM} (hP:P.N=[]) (hQ:Q.N=[]) (w:World):Calls Tryz.prog 20 #[.agg (pk0 P).toArray,.agg (pk0 Q).toArray] w fun e w'=>e=.returned (.bool (BV P Q))∧Below w.heap.size w w':=by
 have r:Row w 1 none P.N.length 0 (P.N.map AQ):=by rw [hP];exact Row.nil w 1
 have r2:Row w 1 none Q.N.length 0 (Q.N.map AQ):=by rw [hQ];exact Row.nil w 1
 have z:=Do P Q none none 0 0 w r r2
 rw [hP,hQ] at z;exact z
theorem VP {w:World} {R:List Ch} {P:PkM} {pa:Option Addr} {pc:Nat} {cg mg mb md mp B k:Nat} {S:List SideM} {fr:Bool} {M:MemM} {W:World} (hS0:Sep w ([Ab cg 83 (An mg S fr),AF mg mb md mp M,AM W B]++R)) (sok:SOk S k) (hM:M.V.length=23168) (hB:B=W.heap.size) (wP:wfP P) (hP:Bf P) (hS7:shortP P) (hN:∀ s∈P.N,s.length≤1100000) (hn9:P.N.length≤1100000) (hNm:Row W 1 pa P.N.length pc (P.N.map AQ)) :
  CallsR Tryz.prog 17 #[π cg,.agg (pkC P pa P.N.length pc).toArray] w (fun v w'=>∃ M' S' fr' Q b,v=.tuple #[.agg (pk0 Q).toArray,.bool b]∧Sep w' ([Ab cg 83 (An mg S' fr'),AF mg mb md mp M',AM W B]++R)∧SOk S' (k+1)∧M'.V.length=23168∧Q.N=[]∧(∀ j:Nat,(j:Int)+1≠P.I 1→S'.getD j (Ac 0)=S.getD j (Ac 0))∧doC ⟨M,S,fr⟩ P=(⟨M',S',fr'⟩,Q,b)):=
 CallsR.mono (PQ hS0 sok.len hM hB wP hP hS7 hN hn9 hNm) fun v w' ⟨M',S',fr',Q,b,e,s,hd⟩=>by
  have z:=PP (fr:=fr) (P:=P) sok hM
  rw [hd] at z
  exact ⟨M',S',fr',Q,b,e,s,z.1,z.2.2,z.2.1,fun j hj=>Tm hd j hj,hd⟩
theorem Tn {w:World} {R:List Ch} {P:PkM} {pa:Option Addr} {pc:Nat} {dg gs0 rg rv rd ra B k:Nat} {S:List SideM} {fr:Bool} {M:MemM} {W:World} (hS0:Sep w ([Ab dg 49 [π rg,.slice (some ⟨gs0,0,none⟩) 8 8,.bool fr],Ab gs0 45 (S.flatMap AH),AS rg rv rd ra M,AM W B]++R)) (sok:SOk S k) (hk:k≤1000) (hM:M.V.length=23168) (hB:B=W.heap.size) (wP:wfP P) (hP:Bf P) (hS7:shortP P) (hN:∀ s∈P.N,s.length≤1100000) (hn9:P.N.length≤1100000) (hNm:Row W 1 pa P.N.length pc (P.N.map AQ)) :
  CallsR Tryz.prog 26 #[π dg,.agg (pkC P pa P.N.length pc).toArray] w (fun v w'=>∃ M' S' fr' Q b,v=.tuple #[.agg (pk0 Q).toArray,.bool b]∧Sep w' ([Ab dg 49 [π rg,.slice (some ⟨gs0,0,none⟩) 8 8,.bool fr'],Ab gs0 45 (S'.flatMap AH),AS rg rv rd ra M',AM W B]++R)∧SOk S' (k+1)∧M'.V.length=23168∧Q.N=[]∧doC ⟨M,S,fr⟩ P=(⟨M',S',fr'⟩,Q,b)):=
 CallsR.mono (WL hS0 sok.len hM hB (fun j=>by have:=sok.get j;unfold wfI;omega) wP hP hS7 hN hn9 hNm) fun v w' ⟨M',S',fr',Q,b,e,s,hd⟩=>by
  have z:=PP (fr:=fr) (P:=P) sok hM
  rw [hd] at z
  exact ⟨M',S',fr',Q,b,e,s,z.1,z.2.2,z.2.1,hd⟩
theorem FD (g off:Nat) (w:World):(Instr.fieldAt 42 (.pointer (some ⟨g,off,none⟩)) 0).run Tryz.prog w=.ok (.pointer (some ⟨g,off+0,none⟩)) w:=rfl
theorem GG (args:Array Value) (w:World):(callFunc 14 args).run Tryz.prog w=.ok (.enter 14 args) w:=by
 have h:=Tryz.func14
 go_simp
theorem FF (g off:Nat) (w:World):(Instr.fieldAt 42 (.pointer (some ⟨g,off,none⟩)) 2).run Tryz.prog w=.ok (.pointer (some ⟨g,off+44,none⟩)) w:=rfl
theorem AP (g off:Nat) (w:World):(Instr.fieldAt 42 (.pointer (some ⟨g,off,none⟩)) 3).run Tryz.prog w=.ok (.pointer (some ⟨g,off+45,none⟩)) w:=rfl
theorem Dw (g off:Nat) (w:World):(Instr.fieldAt 54 (.pointer (some ⟨g,off,none⟩)) 0).run Tryz.prog w=.ok (.pointer (some ⟨g,off+0,none⟩)) w:=rfl
theorem DT (args:Array Value) (w:World):(callFunc 23 args).run Tryz.prog w=.ok (.enter 23 args) w:=by
 have h:=Tryz.func23
 go_simp
theorem Dx (g off:Nat) (w:World):(Instr.fieldAt 54 (.pointer (some ⟨g,off,none⟩)) 2).run Tryz.prog w=.ok (.pointer (some ⟨g,off+2,none⟩)) w:=rfl
theorem CE (args:Array Value) (w:World):(callFunc 24 args).run Tryz.prog w=.ok (.enter 24 args) w:=by
 have h:=Tryz.func24
 go_simp
theorem FE (g off:Nat) (w:World):(Instr.fieldAt 42 (.pointer (some ⟨g,off,none⟩)) 1).run Tryz.prog w=.ok (.pointer (some ⟨g,off+43,none⟩)) w:=rfl
theorem Cp (g off:Nat) (w:World):(Instr.fieldAt 54 (.pointer (some ⟨g,off,none⟩)) 1).run Tryz.prog w=.ok (.pointer (some ⟨g,off+1,none⟩)) w:=rfl
theorem Bv (g off:Nat) (w:World):(Instr.fieldAt 39 (.pointer (some ⟨g,off,none⟩)) 1).run Tryz.prog w=.ok (.pointer (some ⟨g,off+1,none⟩)) w:=rfl
theorem Fk (g off:Nat) (w:World):(Instr.fieldAt 39 (.pointer (some ⟨g,off,none⟩)) 2).run Tryz.prog w=.ok (.pointer (some ⟨g,off+2,none⟩)) w:=rfl
theorem Cf (args:Array Value) (w:World):(callFunc 25 args).run Tryz.prog w=.ok (.enter 25 args) w:=by
 have h:=Tryz.func25
 go_simp
theorem Cq (g off:Nat) (w:World):(Instr.fieldAt 54 (.pointer (some ⟨g,off,none⟩)) 3).run Tryz.prog w=.ok (.pointer (some ⟨g,off+3,none⟩)) w:=rfl
theorem FG (g off:Nat) (w:World):(Instr.fieldAt 49 (.pointer (some ⟨g,off,none⟩)) 1).run Tryz.prog w=.ok (.pointer (some ⟨g,off+1,none⟩)) w:=rfl
theorem Gj (args:Array Value) (w:World):(callFunc 20 args).run Tryz.prog w=.ok (.enter 20 args) w:=by
 have h:=Tryz.func20
 go_simp
theorem FH (g off:Nat) (w:World):(Instr.fieldAt 49 (.pointer (some ⟨g,off,none⟩)) 2).run Tryz.prog w=.ok (.pointer (some ⟨g,off+2,none⟩)) w:=rfl
theorem Gr (args:Array Value) (w:World):(callFunc 19 args).run Tryz.prog w=.ok (.enter 19 args) w:=by
 have h:=Tryz.func19
 go_simp
theorem Dk (args:Array Value) (w:World):(callFunc 26 args).run Tryz.prog w=.ok (.enter 26 args) w:=by
 have h:=Tryz.func26
 go_simp
theorem EE (args:Array Value) (w:World):(callFunc 17 args).run Tryz.prog w=.ok (.enter 17 args) w:=by
 have h:=Tryz.func17
 go_simp
theorem Ol {w:World} {R:List Ch} {P:PkM} {pa:Option Addr} {pc:Nat} {pg cg mg mb md mp dg gs0 rg rv rd ra B k:Nat} {S U:List SideM} {fr gr dst dcr:Bool} {M N:MemM} {W:World} {qa:Option Addr} {qc:Nat} {qs:List Int} (hS0:Sep w ([Ab pg 54 [π mg,π cg,π rg,π dg],Ab cg 83 (An mg S fr),AF mg mb md mp M,Ab dg 49 [π rg,.slice (some ⟨gs0,0,none⟩) 8 8,.bool gr],Ab gs0 45 (U.flatMap AH),AS rg rv rd ra N,AM W B]++R)) (sok:SOk S k) (uok:SOk U k) (hk:k≤1000) (hM:M.V.length=23168) (hN2:N.V.length=23168) (hB:B=W.heap.size) (wP:wfP P) (hS7:shortP P) (hN:∀ s∈P.N,s.length≤1100000) (hn9:P.N.length≤1100000) (hNm:Row W 1 pa P.N.length pc (P.N.map AQ)) (hqs:GE W qa qc qs) (hqo:Ga qs) :
  CallsR Tryz.prog 8 #[π pg,.agg (BB P pa P.N.length pc dst dcr qa qs.length qc).toArray] w (fun v w'=>∃ M' S' fr' N' U' gr' bb,v=.bool bb∧Sep w' ([Ab pg 54 [π mg,π cg,π rg,π dg],Ab cg 83 (An mg S' fr'),AF mg mb md mp M',Ab dg 49 [π rg,.slice (some ⟨gs0,0,none⟩) 8 8,.bool gr'],Ab gs0 45 (U'.flatMap AH),AS rg rv rd ra N',AM W B]++R)∧SOk S' (k+1)∧M'.V.length=23168∧SOk U' (k+1)∧N'.V.length=23168∧(dcr=false→∀ j:Nat,(j:Int)+1≠P.I 1→S'.getD j (Ac 0)=S.getD j (Ac 0))∧(M=N→S=U→fr=gr→bb=true∧M'=N'∧S'=U'∧fr'=gr')):=by
 have hS:Sep w [Ab pg 54 [π mg,π cg,π rg,π dg],Ab cg 83 (An mg S fr),AF mg mb md mp M,Ab dg 49 [π rg,.slice (some ⟨gs0,0,none⟩) 8 8,.bool gr],Ab gs0 45 (U.flatMap AH),AS rg rv rd ra N,AM W B,Ch.many R]:=Sep.tail_many (xs:=[_,_,_,_,_,_,_]) hS0;clear hS0
 obtain ⟨Q,hQ⟩:∃ Q,Eo P=Q:=⟨_,rfl⟩
 have hQN:Q.N=P.N:=by rw [← hQ];exact Js P
 have hQI:Q.I 1=P.I 1:=by rw [← hQ,QY]
 have hNl:Q.N.length=P.N.length:=by rw [hQN]
 have wQ:wfP Q:=by rw [← hQ];exact Of wP
 have hPQ:Bf Q:=Md wQ
 have hSQ:shortP Q:=by rw [← hQ];exact Kq hS7
 have hNQ:∀ s∈Q.N,s.length≤1100000:=by rw [hQN];exact hN
 have hn9Q:Q.N.length≤1100000:=by rw [hQN];exact hn9
 have hNmQ:Row W 1 pa Q.N.length pc (Q.N.map AQ):=by rw [hQN];exact hNm
 have h8:=sok.len
 have h8U:=uok.len
 have hMo:M.ok:=(hS.get 2 rfl:MemP _ _ _ _ _ _).1
 have hNo:N.ok:=(hS.get 5 rfl:MemR _ _ _ _ _ _).1
 have hqc:qs.length≤qc:=hqs.2.1
 refine Cg Tryz.func8 rfl (N:=113) Tryz.ntmps8 (by show 2≤113;decide) [(0,π pg),(1,.agg (BB P pa P.N.length pc dst dcr qa qs.length qc).toArray)] rfl fun _ h1=>sqr fun _ hK3=>so (wn rfl) fun _ hK1=>II h1 rfl rfl rfl rfl rfl (z:=(BB P pa P.N.length pc dst dcr qa qs.length qc)) rfl hS fun _ g4 w7 h5 s8 _ _=>hK1 _ _ ?_
 refine mv h5 rfl fun _ h2=>wpList_nil<|hK3 _ _<|sqr fun _ hK2=>fav h2 rfl (FD _ _) fun _ h3=>sw1 h3 rfl (v:=.agg (pkC P pa P.N.length pc).toArray) (rld h3 rfl rfl (ldA υ39 rfl (n:=43) κ (s8.get 0 rfl:Blk _ _ _ _) rfl rfl)) fun _ h4=>cl h4 rfl GG ((by have z:=QZ (P:=P) (pa:=pa) (pc:=pc) s8 (hS7 7 (by decide));rw [hQ] at z;exact z)) fun _ v1 w2 r1 h6=>?_
 obtain ⟨rfl,s1⟩:=r1
 refine so (wn rfl) fun _ hK4=>BN h6 rfl rfl rfl rfl (z:=[ν 0,ν 0,ν 0,ν 0,ν 0,ν 0,ν 0,σ [],ν 0,ν 0,ν 0,σ [],σ [],ν 0,ν 0,ν 0,ν 0,σ [],ν 0,ν 0,ν 0,ν 0,σ [],.slice none 0 0,ν 0,ν 0,ν 0,ν 0,ν 0,ν 0,ν 0,ν 0,ν 0,ν 0,ν 0,ν 0,ν 0,ν 0,ν 0,ν 0,ν 0,ν 0,ν 0]) (fun _=>rfl) s1 fun _ g3 w3 h7 s2 _ _=>hK4 _ _ ?_
 refine stA h7 s2 0 rfl rfl rfl κ rfl rfl rfl rfl fun _ w4 h9 s3 _=>h9.sn [5,4,3,0,1] rfl fun h10=>hK2 _ _<|sq fun _ hK5=>sqr fun _ hK6=>fav h10 rfl (FF _ _) fun _ h11=>ldv h11 s3 1 υ4 rfl rfl rfl rfl fun _ h12=>h12.sn [15,5,4,3,0,1] rfl fun h13=>hK6 _ _ ?_
 rcases bC dcr with hc1 | hc1
 ·skip
  refine wcT h13 rfl hc1<|h13.sk [5,4,3,0,1] rfl fun h14=>sq fun _ hK7=>sqr fun _ hK8=>fav h14 rfl (AP _ _) fun _ h15=>ldv h15 s3 1 υ40 rfl rfl rfl rfl fun _ h16=>sv1 h16 rfl (v:=ν (qs.length:Int)) (VZ h16 rfl rfl υ40) fun _ h17=>bv h17 (z:=.bool (decide ((qs.length:Int)>200))) rfl (cGt _ _ _ _ rfl) fun _ h18=>h18.sn [19,5,4,3,0,1] rfl fun h19=>hK8 _ _ ?_
  rcases bC (decide ((qs.length:Int)>200)) with hc2 | hc2
  ·skip
   have hp1:(qs.length:Int)>200:=(dT hc2)
   refine wcT h19 rfl hc2<|h19.sk [5,4,3,0,1] rfl fun h20=>wp_region_lit<|fav h20 rfl (AP _ _) fun _ h21=>ldv h21 s3 1 υ40 rfl rfl rfl rfl fun _ h22=>sv1 h22 rfl (v:=.slice qa 200 qc) (WC h22 rfl rfl (vl:=none) (vh:=some (ν 200)) rfl rfl (fun w=>slL 40 3 υ40 κ qa qs.length qc (b:=200) ω w)) fun _ h23=>fav h23 rfl (AP _ _) fun _ h24=>st1 h24 s3 1 rfl rfl κ rfl rfl rfl rfl fun _ w5 h25 s4 _=>h25.sn [5,4,3,0,1] rfl fun h26=>hK7 _ _ ?_
   refine sq fun _ hK9=>?_
   have s5:=s4.drew
   refine wp_region_held_drew (S:=fun w'=>Sep w' [Ab g3 39 (pkC Q pa P.N.length pc),Ab g4 42 (BB P pa P.N.length pc dst dcr qa 200 qc),Ab pg 54 [π mg,π cg,π rg,π dg],Ab cg 83 (An mg S fr),Ab dg 49 [π rg,.slice (some ⟨gs0,0,none⟩) 8 8,.bool gr],Ab gs0 45 (U.flatMap AH),AS rg rv rd ra N,AM W B,Ch.many R]) κ (s5.pk [0,1,2,3,5,6,7,8,9] rfl) (fun hq1=>?_)
   refine tv1 hq1 h26 0 rfl rfl (v:=π pg) (fun w1 _=>(Ak h26 rfl rfl) w1) fun _ h27=>?_
   refine tv1 hq1 h27 1 rfl rfl (v:=π pg) (fun w1 _=>(Bp h27 rfl rfl) w1) fun _ h28=>?_
   refine tv1 hq1 h28 2 rfl rfl (v:=π pg) (fun w1 _=>(rfa h28 rfl rfl (fun w=>Dw pg 0 w)) w1) fun _ h29=>?_
   refine tv1 hq1 h29 3 rfl rfl (v:=π mg) (fun w1 hSw=>(rld h29 rfl rfl (ldB υ50 rfl (hSw.get 2 rfl:Blk _ _ _ _) rfl))) fun _ h30=>?_
   refine tv1 hq1 h30 4 rfl rfl (v:=.pointer (some ⟨g4,45,none⟩)) (fun w1 _=>(rfa h30 rfl rfl (fun w=>AP g4 0 w)) w1) fun _ h31=>?_
   refine tv1 hq1 h31 5 rfl rfl (v:=.slice qa 200 qc) (fun w1 hSw=>(rld h31 rfl rfl (ldB υ40 rfl (hSw.get 1 rfl:Blk _ _ _ _) rfl))) fun _ h32=>?_
   refine to_ 6 rfl (wn rfl) κ fun _ hK10=>Bd h32 rfl rfl rfl (xs:=[.tmp 27,.tmp 29]) rfl DT rfl (vs:=[π mg,.slice qa 200 qc]) rfl (args:=#[π mg,.slice qa 200 qc]) rfl (QW (n:=200) (s5.pk [4,0,1,2,3,5,6,7,8,9] rfl) (s5.get 8 rfl:Below _ _ _∧_) hB hqs hqo (fun b hb=>MH s5 (show 8≠4 by decide) rfl rfl (hB ▸ hb)) ω) fun _ v2 w6 r2 h33=>?_
   obtain ⟨yx96,rfl,s6⟩:=r2
   refine hK10 _ _ (s6.pk [1,2,3,4,5,6,7,8,9] rfl) fun hq2=>h33.sk [5,4,3,0,1] rfl fun h34=>?_
   refine wpAnyH_done κ ?_ _
   refine hK9 _ _ ?_
   refine sq fun _ hK11=>?_
   have s7:=s6.drew
   refine wp_region_held_drew (S:=fun w'=>Sep w' [AF mg mb md mp (Eb M (qs.take 200)),Ab g3 39 (pkC Q pa P.N.length pc),Ab g4 42 (BB P pa P.N.length pc dst dcr qa 200 qc),Ab pg 54 [π mg,π cg,π rg,π dg],Ab cg 83 (An mg S fr),Ab dg 49 [π rg,.slice (some ⟨gs0,0,none⟩) 8 8,.bool gr],Ab gs0 45 (U.flatMap AH),AM W B,Ch.many R]) κ (s7.pk [0,1,2,3,4,5,6,8,9] rfl) (fun hq3=>?_)
   refine tv1 hq3 h34 0 rfl rfl (v:=π pg) (fun w1 _=>(Ak h34 rfl rfl) w1) fun _ h35=>?_
   refine tv1 hq3 h35 1 rfl rfl (v:=π pg) (fun w1 _=>(Bp h35 rfl rfl) w1) fun _ h36=>?_
   refine tv1 hq3 h36 2 rfl rfl (v:=.pointer (some ⟨pg,2,none⟩)) (fun w1 _=>(rfa h36 rfl rfl (fun w=>Dx pg 0 w)) w1) fun _ h37=>?_
   refine tv1 hq3 h37 3 rfl rfl (v:=π rg) (fun w1 hSw=>(rld h37 rfl rfl (ldB υ46 rfl (hSw.get 3 rfl:Blk _ _ _ _) rfl))) fun _ h38=>?_
   refine tv1 hq3 h38 4 rfl rfl (v:=.pointer (some ⟨g4,45,none⟩)) (fun w1 _=>(rfa h38 rfl rfl (fun w=>AP g4 0 w)) w1) fun _ h39=>?_
   refine tv1 hq3 h39 5 rfl rfl (v:=.slice qa 200 qc) (fun w1 hSw=>(rld h39 rfl rfl (ldB υ40 rfl (hSw.get 2 rfl:Blk _ _ _ _) rfl))) fun _ h40=>?_
   refine to_ 6 rfl (wn rfl) κ fun _ hK12=>Bd h40 rfl rfl rfl (xs:=[.tmp 34,.tmp 36]) rfl CE rfl (vs:=[π rg,.slice qa 200 qc]) rfl (args:=#[π rg,.slice qa 200 qc]) rfl (Od (n:=200) (s7.pk [7,0,1,2,3,4,5,6,8,9] rfl) (s7.get 8 rfl:Below _ _ _∧_) hB hqs hqo (fun b hb=>LE s7 (show 8≠7 by decide) rfl rfl (hB ▸ hb)) ω) fun _ v3 w8 r3 h41=>?_
   obtain ⟨yx121,rfl,s9⟩:=r3
   refine hK12 _ _ (s9.pk [1,2,3,4,5,6,7,8,9] rfl) fun hq4=>h41.sk [5,4,3,0,1] rfl fun h42=>?_
   refine wpAnyH_done κ ?_ _
   refine hK11 _ _ ?_
   refine sqr fun _ hK13=>h42.sk [5,3,0,1] rfl fun h43=>mv h43 rfl fun _ h44=>wpList_nil<|hK13 _ _<|wp_ret ?_
   try simp only [Exit.then,Exit.inBlock]
   refine CY (v:=.bool true) (CX h44 rfl rfl) h44.defs ?_
   exact ⟨(Eb M (qs.take 200)),S,fr,(Eb N (qs.take 200)),U,gr,_,rfl,Sep.tail_un (xs:=[_,_,_,_,_,_,_]) (s9.pk [4,5,1,6,7,0,8,9] rfl),sok.le (Nat.le_succ k),(GR M _).trans (hMo.1.trans hM),uok.le (Nat.le_succ k),(GR N _).trans (hNo.1.trans hN2),(fun hc=>absurd (hc1.symm.trans hc) Bool.noConfusion),fun q1 q2 q3=>(by rw [q1,q2,q3];exact ⟨rfl,rfl,rfl,rfl⟩)⟩
  ·skip
   have hp2:¬ ((qs.length:Int)>200):=(dF hc2)
   refine wcF h19 rfl hc2<|h19.sk [5,4,3,0,1] rfl fun h45=>wp_skip<|hK7 _ _<|sq fun _ hK14=>?_
   have s10:=s3.drew
   refine wp_region_held_drew (S:=fun w'=>Sep w' [Ab g3 39 (pkC Q pa P.N.length pc),Ab g4 42 (BB P pa P.N.length pc dst dcr qa qs.length qc),Ab pg 54 [π mg,π cg,π rg,π dg],Ab cg 83 (An mg S fr),Ab dg 49 [π rg,.slice (some ⟨gs0,0,none⟩) 8 8,.bool gr],Ab gs0 45 (U.flatMap AH),AS rg rv rd ra N,AM W B,Ch.many R]) κ (s10.pk [0,1,2,3,5,6,7,8,9] rfl) (fun hq5=>?_)
   refine tv1 hq5 h45 0 rfl rfl (v:=π pg) (fun w1 _=>(Ak h45 rfl rfl) w1) fun _ h46=>?_
   refine tv1 hq5 h46 1 rfl rfl (v:=π pg) (fun w1 _=>(Bp h46 rfl rfl) w1) fun _ h47=>?_
   refine tv1 hq5 h47 2 rfl rfl (v:=π pg) (fun w1 _=>(rfa h47 rfl rfl (fun w=>Dw pg 0 w)) w1) fun _ h48=>?_
   refine tv1 hq5 h48 3 rfl rfl (v:=π mg) (fun w1 hSw=>(rld h48 rfl rfl (ldB υ50 rfl (hSw.get 2 rfl:Blk _ _ _ _) rfl))) fun _ h49=>?_
   refine tv1 hq5 h49 4 rfl rfl (v:=.pointer (some ⟨g4,45,none⟩)) (fun w1 _=>(rfa h49 rfl rfl (fun w=>AP g4 0 w)) w1) fun _ h50=>?_
   refine tv1 hq5 h50 5 rfl rfl (v:=.slice qa qs.length qc) (fun w1 hSw=>(rld h50 rfl rfl (ldB υ40 rfl (hSw.get 1 rfl:Blk _ _ _ _) rfl))) fun _ h51=>?_
   refine to_ 6 rfl (wn rfl) κ fun _ hK15=>Bd h51 rfl rfl rfl (xs:=[.tmp 27,.tmp 29]) rfl DT rfl (vs:=[π mg,.slice qa qs.length qc]) rfl (args:=#[π mg,.slice qa qs.length qc]) rfl (QW (n:=qs.length) (s10.pk [4,0,1,2,3,5,6,7,8,9] rfl) (s10.get 8 rfl:Below _ _ _∧_) hB hqs hqo (fun b hb=>MH s10 (show 8≠4 by decide) rfl rfl (hB ▸ hb)) ω) fun _ v4 w9 r4 h52=>?_
   obtain ⟨yx152,rfl,s11⟩:=r4
   refine hK15 _ _ (s11.pk [1,2,3,4,5,6,7,8,9] rfl) fun hq6=>h52.sk [5,4,3,0,1] rfl fun h53=>?_
   refine wpAnyH_done κ ?_ _
   refine hK14 _ _ ?_
   refine sq fun _ hK16=>?_
   have s12:=s11.drew
   refine wp_region_held_drew (S:=fun w'=>Sep w' [AF mg mb md mp (Eb M (qs.take 200)),Ab g3 39 (pkC Q pa P.N.length pc),Ab g4 42 (BB P pa P.N.length pc dst dcr qa qs.length qc),Ab pg 54 [π mg,π cg,π rg,π dg],Ab cg 83 (An mg S fr),Ab dg 49 [π rg,.slice (some ⟨gs0,0,none⟩) 8 8,.bool gr],Ab gs0 45 (U.flatMap AH),AM W B,Ch.many R]) κ (s12.pk [0,1,2,3,4,5,6,8,9] rfl) (fun hq7=>?_)
   refine tv1 hq7 h53 0 rfl rfl (v:=π pg) (fun w1 _=>(Ak h53 rfl rfl) w1) fun _ h54=>?_
   refine tv1 hq7 h54 1 rfl rfl (v:=π pg) (fun w1 _=>(Bp h54 rfl rfl) w1) fun _ h55=>?_
   refine tv1 hq7 h55 2 rfl rfl (v:=.pointer (some ⟨pg,2,none⟩)) (fun w1 _=>(rfa h55 rfl rfl (fun w=>Dx pg 0 w)) w1) fun _ h56=>?_
   refine tv1 hq7 h56 3 rfl rfl (v:=π rg) (fun w1 hSw=>(rld h56 rfl rfl (ldB υ46 rfl (hSw.get 3 rfl:Blk _ _ _ _) rfl))) fun _ h57=>?_
   refine tv1 hq7 h57 4 rfl rfl (v:=.pointer (some ⟨g4,45,none⟩)) (fun w1 _=>(rfa h57 rfl rfl (fun w=>AP g4 0 w)) w1) fun _ h58=>?_
   refine tv1 hq7 h58 5 rfl rfl (v:=.slice qa qs.length qc) (fun w1 hSw=>(rld h58 rfl rfl (ldB υ40 rfl (hSw.get 2 rfl:Blk _ _ _ _) rfl))) fun _ h59=>?_
   refine to_ 6 rfl (wn rfl) κ fun _ hK17=>Bd h59 rfl rfl rfl (xs:=[.tmp 34,.tmp 36]) rfl CE rfl (vs:=[π rg,.slice qa qs.length qc]) rfl (args:=#[π rg,.slice qa qs.length qc]) rfl (Od (n:=qs.length) (s12.pk [7,0,1,2,3,4,5,6,8,9] rfl) (s12.get 8 rfl:Below _ _ _∧_) hB hqs hqo (fun b hb=>LE s12 (show 8≠7 by decide) rfl rfl (hB ▸ hb)) ω) fun _ v5 w10 r5 h60=>?_
   obtain ⟨yx177,rfl,s13⟩:=r5
   refine hK17 _ _ (s13.pk [1,2,3,4,5,6,7,8,9] rfl) fun hq8=>h60.sk [5,4,3,0,1] rfl fun h61=>?_
   refine wpAnyH_done κ ?_ _
   refine hK16 _ _ ?_
   refine sqr fun _ hK18=>h61.sk [5,3,0,1] rfl fun h62=>mv h62 rfl fun _ h63=>wpList_nil<|hK18 _ _<|wp_ret ?_
   try simp only [Exit.then,Exit.inBlock]
   refine CY (v:=.bool true) (CX h63 rfl rfl) h63.defs ?_
   exact ⟨(Eb M (qs.take 200)),S,fr,(Eb N (qs.take 200)),U,gr,_,rfl,Sep.tail_un (xs:=[_,_,_,_,_,_,_]) (s13.pk [4,5,1,6,7,0,8,9] rfl),sok.le (Nat.le_succ k),(GR M _).trans (hMo.1.trans hM),uok.le (Nat.le_succ k),(GR N _).trans (hNo.1.trans hN2),(fun hc=>absurd (hc1.symm.trans hc) Bool.noConfusion),fun q1 q2 q3=>(by rw [q1,q2,q3];exact ⟨rfl,rfl,rfl,rfl⟩)⟩
 ·skip
  refine wcF h13 rfl hc1<|h13.sk [5,4,3,0,1] rfl fun h64=>wp_skip<|hK5 _ _<|sq fun _ hK19=>sqr fun _ hK20=>fav h64 rfl (FE _ _) fun _ h65=>ldv h65 s3 1 υ4 rfl rfl rfl rfl fun _ h66=>h66.sn [39,5,4,3,0,1] rfl fun h67=>hK20 _ _ ?_
  rcases bC dst with hc3 | hc3
  ·skip
   refine wcT h67 rfl hc3<|h67.sk [5,4,3,0,1] rfl fun h68=>sq fun _ hK21=>?_
   have s14:=s3.drew
   refine wp_region_held_drew (S:=fun w'=>Sep w' [Ab g3 39 (pkC Q pa P.N.length pc),Ab g4 42 (BB P pa P.N.length pc dst dcr qa qs.length qc),Ab pg 54 [π mg,π cg,π rg,π dg],AF mg mb md mp M,Ab dg 49 [π rg,.slice (some ⟨gs0,0,none⟩) 8 8,.bool gr],Ab gs0 45 (U.flatMap AH),AS rg rv rd ra N,AM W B,Ch.many R]) κ (s14.pk [0,1,2,4,5,6,7,8,9] rfl) (fun hq9=>?_)
   refine tv1 hq9 h68 0 rfl rfl (v:=π pg) (fun w1 _=>(Ak h68 rfl rfl) w1) fun _ h69=>?_
   refine tv1 hq9 h69 1 rfl rfl (v:=π pg) (fun w1 _=>(Bp h69 rfl rfl) w1) fun _ h70=>?_
   refine tv1 hq9 h70 2 rfl rfl (v:=.pointer (some ⟨pg,1,none⟩)) (fun w1 _=>(rfa h70 rfl rfl (fun w=>Cp pg 0 w)) w1) fun _ h71=>?_
   refine tv1 hq9 h71 3 rfl rfl (v:=π cg) (fun w1 hSw=>(rld h71 rfl rfl (ldB υ51 rfl (hSw.get 2 rfl:Blk _ _ _ _) rfl))) fun _ h72=>?_
   refine tv1 hq9 h72 4 rfl rfl (v:=.pointer (some ⟨g3,1,none⟩)) (fun w1 _=>(rfa h72 rfl rfl (fun w=>Bv g3 0 w)) w1) fun _ h73=>?_
   refine tv1 hq9 h73 5 rfl rfl (v:=ν (Q.I 1)) (fun w1 hSw=>(rld h73 rfl rfl (ldB υ3 rfl (hSw.get 0 rfl:Blk _ _ _ _) rfl))) fun _ h74=>?_
   refine tv1 hq9 h74 6 rfl rfl (v:=.pointer (some ⟨g3,2,none⟩)) (fun w1 _=>(rfa h74 rfl rfl (fun w=>Fk g3 0 w)) w1) fun _ h75=>?_
   refine tv1 hq9 h75 7 rfl rfl (v:=ν (Q.I 2)) (fun w1 hSw=>(rld h75 rfl rfl (ldB υ3 rfl (hSw.get 0 rfl:Blk _ _ _ _) rfl))) fun _ h76=>?_
   rcases bC (decide ((Q.I 1)≥1)) with hc4 | hc4
   ·skip
    have hp3:(Q.I 1)≥1:=(dT hc4)
    rcases bC (decide ((Q.I 1)≤8)) with hc5 | hc5
    ·skip
     have hp4:(Q.I 1)≤8:=(dT hc5)
     refine to_ 8 rfl (wn rfl) κ fun _ hK22=>Bd h76 rfl rfl rfl (xs:=[.tmp 43,.tmp 45,.tmp 47]) rfl Cf rfl (vs:=[π cg,ν (Q.I 1),ν (Q.I 2)]) rfl (args:=#[π cg,ν (Q.I 1),ν (Q.I 2)]) rfl (LT (j:=(Q.I 1-1).toNat) (s14.pk [3,0,1,2,4,5,6,7,8,9] rfl) sok.len ω ω) fun _ v6 w11 r6 h77=>?_
     obtain ⟨rfl,s15⟩:=r6
     refine hK22 _ _ (s15.pk [1,2,3,4,5,6,7,8,9] rfl) fun hq10=>h77.sk [5,4,3,0,1] rfl fun h78=>?_
     refine wpAnyH_done κ ?_ _
     refine hK21 _ _ ?_
     refine sq fun _ hK23=>sqr fun _ hK24=>fav h78 rfl (Bv _ _) fun _ h79=>ldv h79 s15 1 υ3 rfl rfl rfl rfl fun _ h80=>bv h80 (z:=.bool true) rfl (cGe _ _ _ _ (decide_eq_true ω)) fun _ h81=>mv h81 rfl fun _ h82=>sv h82 (wT h82 (E:=true) rfl rfl rfl) rfl rfl rfl (v:=.pointer (some ⟨g3,1,none⟩)) (rfa h82 rfl rfl (fun w=>Bv g3 0 w)) fun _ h83=>sw h83 (wT h83 (E:=true) rfl rfl rfl) rfl rfl rfl (v:=ν (Q.I 1)) (rld h83 rfl rfl (ldB υ3 rfl (s15.get 1 rfl:Blk _ _ _ _) rfl)) fun _ h84=>sv h84 (wT h84 (E:=true) rfl rfl rfl) rfl rfl rfl (v:=.bool true) (CW h84 rfl rfl rfl (cLe _ _ _ _ (decide_eq_true ω))) fun _ h85=>sv1 h85 rfl (v:=.bool true) (CO h85 rfl rfl rfl) fun _ h86=>h86.sk [56,5,4,3,0,1] rfl fun h87=>?_
     refine wpList_nil<|hK24 _ _<|wcT h87 rfl rfl<|h87.sk [5,4,3,0,1] rfl fun h88=>?_
     have s16:=s15.drew
     refine wp_region_held_drew (S:=fun w'=>Sep w' [Ab cg 83 (An mg (S.set (Q.I 1-1).toNat (Ac (Q.I 2))) fr),Ab g3 39 (pkC Q pa P.N.length pc),Ab g4 42 (BB P pa P.N.length pc dst dcr qa qs.length qc),Ab pg 54 [π mg,π cg,π rg,π dg],AF mg mb md mp M,Ab dg 49 [π rg,.slice (some ⟨gs0,0,none⟩) 8 8,.bool gr],AS rg rv rd ra N,AM W B,Ch.many R]) κ (s16.pk [0,1,2,3,4,5,7,8,9] rfl) (fun hq11=>?_)
     refine tv1 hq11 h88 0 rfl rfl (v:=π pg) (fun w1 _=>(Ak h88 rfl rfl) w1) fun _ h89=>?_
     refine tv1 hq11 h89 1 rfl rfl (v:=π pg) (fun w1 _=>(Bp h89 rfl rfl) w1) fun _ h90=>?_
     refine tv1 hq11 h90 2 rfl rfl (v:=.pointer (some ⟨pg,3,none⟩)) (fun w1 _=>(rfa h90 rfl rfl (fun w=>Cq pg 0 w)) w1) fun _ h91=>?_
     refine tv1 hq11 h91 3 rfl rfl (v:=π dg) (fun w1 hSw=>(rld h91 rfl rfl (ldB υ52 rfl (hSw.get 3 rfl:Blk _ _ _ _) rfl))) fun _ h92=>?_
     refine tv1 hq11 h92 4 rfl rfl (v:=π dg) (fun w1 _=>(Bp h92 rfl rfl) w1) fun _ h93=>?_
     refine tv1 hq11 h93 5 rfl rfl (v:=.pointer (some ⟨dg,1,none⟩)) (fun w1 _=>(rfa h93 rfl rfl (fun w=>FG dg 0 w)) w1) fun _ h94=>?_
     refine tv1 hq11 h94 6 rfl rfl (v:=.slice (some ⟨gs0,0,none⟩) 8 8) (fun w1 hSw=>(rld h94 rfl rfl (ldB υ47 rfl (hSw.get 5 rfl:Blk _ _ _ _) rfl))) fun _ h95=>?_
     refine tv1 hq11 h95 7 rfl rfl (v:=.pointer (some ⟨g3,1,none⟩)) (fun w1 _=>(rfa h95 rfl rfl (fun w=>Bv g3 0 w)) w1) fun _ h96=>?_
     refine tv1 hq11 h96 8 rfl rfl (v:=ν (Q.I 1)) (fun w1 hSw=>(rld h96 rfl rfl (ldB υ3 rfl (hSw.get 1 rfl:Blk _ _ _ _) rfl))) fun _ h97=>?_
     refine tv1 hq11 h97 9 rfl rfl (v:=ν ((Q.I 1)-1)) (fun w1 _=>(CW h97 rfl rfl rfl (Na _ _ _ ω ω ω)) w1) fun _ h98=>?_
     refine tv1 hq11 h98 10 rfl rfl (v:=.pointer (some ⟨g3,2,none⟩)) (fun w1 _=>(rfa h98 rfl rfl (fun w=>Fk g3 0 w)) w1) fun _ h99=>?_
     refine tv1 hq11 h99 11 rfl rfl (v:=ν (Q.I 2)) (fun w1 hSw=>(rld h99 rfl rfl (ldB υ3 rfl (hSw.get 1 rfl:Blk _ _ _ _) rfl))) fun _ h100=>?_
     refine tv1 hq11 h100 12 rfl rfl (v:=.agg (AH (⟨(Q.I 2),0,P0z,false⟩:SideM)).toArray) (fun w1 _=>(Nz h100 (xs:=[(0,.tmp 68)]) rfl (vs:=[(0,ν (Q.I 2))]) rfl (fun w=>κ)) w1) fun _ h101=>?_
     refine tv1 hq11 h101 13 rfl rfl (v:=.pointer (some ⟨gs0,(((Q.I 1)-1).toNat)*46,none⟩)) (fun w1 _=>(It h101 rfl rfl rfl (fun w=>ixS υ47 κ (sz:=46) (j:=((Q.I 1)-1).toNat) ω ω rfl w)) w1) fun _ h102=>?_
     refine to_ 14 rfl (wn rfl) κ fun _ hK25=>Bt h102 rfl rfl s16 6 rfl rfl rfl (AH (⟨(Q.I 2),0,P0z,false⟩:SideM)) rfl κ rfl (by rw [Hb Cl];show (((Q.I 1)-1).toNat)*46+46≤_;omega) (L':=(U.set (((Q.I 1)-1).toNat) (⟨(Q.I 2),0,P0z,false⟩:SideM)).flatMap AH) (Qo Cl ω rfl) (cs':=[Ab cg 83 (An mg (S.set (Q.I 1-1).toNat (Ac (Q.I 2))) fr),Ab g3 39 (pkC Q pa P.N.length pc),Ab g4 42 (BB P pa P.N.length pc dst dcr qa qs.length qc),Ab pg 54 [π mg,π cg,π rg,π dg],AF mg mb md mp M,Ab dg 49 [π rg,.slice (some ⟨gs0,0,none⟩) 8 8,.bool gr],Ab gs0 45 ((U.set (((Q.I 1)-1).toNat) (⟨(Q.I 2),0,P0z,false⟩:SideM)).flatMap AH),AS rg rv rd ra N,AM W B,Ch.many R]) rfl fun _ w12 h103 s17 _=>?_
     refine hK25 _ _ (s17.pk [0,1,2,3,4,5,7,8,9] rfl) fun hq12=>h103.sk [5,4,3,0,1] rfl fun h104=>?_
     refine wpAnyH_done κ ?_ _
     refine hK23 _ _ ?_
     refine sqr fun _ hK26=>h104.sk [5,3,0,1] rfl fun h105=>mv h105 rfl fun _ h106=>wpList_nil<|hK26 _ _<|wp_ret ?_
     try simp only [Exit.then,Exit.inBlock]
     refine CY (v:=.bool true) (CX h106 rfl rfl) h106.defs ?_
     exact ⟨M,(S.set (Q.I 1-1).toNat (Ac (Q.I 2))),fr,N,(U.set (((Q.I 1)-1).toNat) (⟨(Q.I 2),0,P0z,false⟩:SideM)),gr,_,rfl,Sep.tail_un (xs:=[_,_,_,_,_,_,_]) (s17.pk [3,0,4,5,6,7,8,9] rfl),(sok.le (Nat.le_succ k)).set _ ⟨⟨Int.le_refl 0,Int.natCast_nonneg _⟩,rfl⟩,hM,(uok.le (Nat.le_succ k)).set _ ⟨⟨Int.le_refl 0,Int.natCast_nonneg _⟩,rfl⟩,hN2,(fun _ j hj=>Ps (by rw [← hQI] at hj;omega)),fun q1 q2 q3=>(by rw [q1,q2,q3];exact ⟨rfl,rfl,rfl,rfl⟩)⟩
    ·skip
     have hp5:¬ ((Q.I 1)≤8):=(dF hc5)
     refine to_ 8 rfl (wn rfl) κ fun _ hK27=>Bd h76 rfl rfl rfl (xs:=[.tmp 43,.tmp 45,.tmp 47]) rfl Cf rfl (vs:=[π cg,ν (Q.I 1),ν (Q.I 2)]) rfl (args:=#[π cg,ν (Q.I 1),ν (Q.I 2)]) rfl (Ky (s14.pk [3,0,1,2,4,5,6,7,8,9] rfl) sok.len (wQ 1) ω) fun _ v7 w13 r7 h107=>?_
     obtain ⟨rfl,s18⟩:=r7
     refine hK27 _ _ (s18.pk [1,2,3,4,5,6,7,8,9] rfl) fun hq10=>h107.sk [5,4,3,0,1] rfl fun h108=>?_
     refine wpAnyH_done κ ?_ _
     refine hK21 _ _ ?_
     refine sq fun _ hK28=>sqr fun _ hK29=>fav h108 rfl (Bv _ _) fun _ h109=>ldv h109 s18 1 υ3 rfl rfl rfl rfl fun _ h110=>bv h110 (z:=.bool true) rfl (cGe _ _ _ _ (decide_eq_true ω)) fun _ h111=>mv h111 rfl fun _ h112=>sv h112 (wT h112 (E:=true) rfl rfl rfl) rfl rfl rfl (v:=.pointer (some ⟨g3,1,none⟩)) (rfa h112 rfl rfl (fun w=>Bv g3 0 w)) fun _ h113=>sw h113 (wT h113 (E:=true) rfl rfl rfl) rfl rfl rfl (v:=ν (Q.I 1)) (rld h113 rfl rfl (ldB υ3 rfl (s18.get 1 rfl:Blk _ _ _ _) rfl)) fun _ h114=>sv h114 (wT h114 (E:=true) rfl rfl rfl) rfl rfl rfl (v:=.bool false) (CW h114 rfl rfl rfl (cLe _ _ _ _ (decide_eq_false ω))) fun _ h115=>sv1 h115 rfl (v:=.bool false) (CO h115 rfl rfl rfl) fun _ h116=>h116.sk [56,5,4,3,0,1] rfl fun h117=>?_
     refine wpList_nil<|hK29 _ _<|wcF h117 rfl rfl<|h117.sk [5,4,3,0,1] rfl fun h118=>wp_skip<|hK28 _ _<|sqr fun _ hK30=>h118.sk [5,3,0,1] rfl fun h119=>mv h119 rfl fun _ h120=>wpList_nil<|hK30 _ _<|wp_ret ?_
     try simp only [Exit.then,Exit.inBlock]
     refine CY (v:=.bool true) (CX h120 rfl rfl) h120.defs ?_
     exact ⟨M,S,fr,N,U,gr,_,rfl,Sep.tail_un (xs:=[_,_,_,_,_,_,_]) (s18.pk [3,0,4,5,6,7,8,9] rfl),sok.le (Nat.le_succ k),hM,uok.le (Nat.le_succ k),hN2,(fun _ _ _=>rfl),fun q1 q2 q3=>(by rw [q1,q2,q3];exact ⟨rfl,rfl,rfl,rfl⟩)⟩
   ·skip
    have hp6:¬ ((Q.I 1)≥1):=(dF hc4)
    refine to_ 8 rfl (wn rfl) κ fun _ hK31=>Bd h76 rfl rfl rfl (xs:=[.tmp 43,.tmp 45,.tmp 47]) rfl Cf rfl (vs:=[π cg,ν (Q.I 1),ν (Q.I 2)]) rfl (args:=#[π cg,ν (Q.I 1),ν (Q.I 2)]) rfl (Ky (s14.pk [3,0,1,2,4,5,6,7,8,9] rfl) sok.len (wQ 1) ω) fun _ v8 w14 r8 h121=>?_
    obtain ⟨rfl,s19⟩:=r8
    refine hK31 _ _ (s19.pk [1,2,3,4,5,6,7,8,9] rfl) fun hq10=>h121.sk [5,4,3,0,1] rfl fun h122=>?_
    refine wpAnyH_done κ ?_ _
    refine hK21 _ _ ?_
    refine sq fun _ hK32=>sqr fun _ hK33=>fav h122 rfl (Bv _ _) fun _ h123=>ldv h123 s19 1 υ3 rfl rfl rfl rfl fun _ h124=>bv h124 (z:=.bool false) rfl (cGe _ _ _ _ (decide_eq_false ω)) fun _ h125=>mv h125 rfl fun _ h126=>su h126 (wT h126 (E:=false) rfl rfl rfl) rfl rfl rfl fun _ h127=>su h127 (wT h127 (E:=false) rfl rfl rfl) rfl rfl rfl fun _ h128=>su h128 (wT h128 (E:=false) rfl rfl rfl) rfl rfl rfl fun _ h129=>sv1 h129 rfl (v:=.bool false) (CO h129 rfl rfl rfl) fun _ h130=>h130.sk [56,5,4,3,0,1] rfl fun h131=>?_
    refine wpList_nil<|hK33 _ _<|wcF h131 rfl rfl<|h131.sk [5,4,3,0,1] rfl fun h132=>wp_skip<|hK32 _ _<|sqr fun _ hK34=>h132.sk [5,3,0,1] rfl fun h133=>mv h133 rfl fun _ h134=>wpList_nil<|hK34 _ _<|wp_ret ?_
    try simp only [Exit.then,Exit.inBlock]
    refine CY (v:=.bool true) (CX h134 rfl rfl) h134.defs ?_
    exact ⟨M,S,fr,N,U,gr,_,rfl,Sep.tail_un (xs:=[_,_,_,_,_,_,_]) (s19.pk [3,0,4,5,6,7,8,9] rfl),sok.le (Nat.le_succ k),hM,uok.le (Nat.le_succ k),hN2,(fun _ _ _=>rfl),fun q1 q2 q3=>(by rw [q1,q2,q3];exact ⟨rfl,rfl,rfl,rfl⟩)⟩
  ·skip
   refine wcF h67 rfl hc3<|h67.sk [5,4,3,0,1] rfl fun h135=>wp_skip<|hK19 _ _<|sq fun K1 hK35=>?_
   have hJ365:∀ (g1:Nat) (M1:MemM) (S1:List SideM) (f1:Bool) (A1:PkM) (b1:Bool) a' w',Kn 113 [(5,π g3),(4,.bool false),(3,π g4),(0,π pg),(1,.agg (BB P pa P.N.length pc dst dcr qa qs.length qc).toArray),(6,π g1),(7,.bool b1)] a'→Sep w' [Ab g1 39 (pkC A1 none 0 0),Ab g3 39 (pkC Q pa P.N.length pc),Ab g4 42 (BB P pa P.N.length pc dst dcr qa qs.length qc),Ab pg 54 [π mg,π cg,π rg,π dg],Ab cg 83 (An mg S1 f1),AF mg mb md mp M1,Ab dg 49 [π rg,.slice (some ⟨gs0,0,none⟩) 8 8,.bool gr],Ab gs0 45 (U.flatMap AH),AS rg rv rd ra N,AM W B,Ch.many R]→(SOk S1 (k+1))→(M1.V.length=23168)→(A1.N=[])→(∀ j:Nat,(j:Int)+1≠Q.I 1→S1.getD j (Ac 0)=S.getD j (Ac 0))→(doC ⟨M,S,fr⟩ Q=(⟨M1,S1,f1⟩,A1,b1))→K1 a' w':=by
    intro g1 M1 S1 f1 A1 b1 a1 w15 h136 s20 sok1 hM1 hAN1 hel1 hdo1
    have h8M:=sok1.len
    refine hK35 _ _ ?_
    refine sq fun K2 hK36=>?_
    have hJ371:∀ (g2:Nat) (N2:MemM) (U2:List SideM) (f2:Bool) (A2:PkM) (b2:Bool) a' w',Kn 113 [(5,π g3),(4,.bool false),(3,π g4),(0,π pg),(1,.agg (BB P pa P.N.length pc dst dcr qa qs.length qc).toArray),(6,π g1),(7,.bool b1),(8,π g2),(9,.bool b2)] a'→Sep w' [Ab g2 39 (pkC A2 none 0 0),Ab g1 39 (pkC A1 none 0 0),Ab g3 39 (pkC Q pa P.N.length pc),Ab g4 42 (BB P pa P.N.length pc dst dcr qa qs.length qc),Ab pg 54 [π mg,π cg,π rg,π dg],Ab cg 83 (An mg S1 f1),AF mg mb md mp M1,Ab dg 49 [π rg,.slice (some ⟨gs0,0,none⟩) 8 8,.bool f2],Ab gs0 45 (U2.flatMap AH),AS rg rv rd ra N2,AM W B,Ch.many R]→(SOk U2 (k+1))→(N2.V.length=23168)→(A2.N=[])→(doC ⟨N,U,gr⟩ Q=(⟨N2,U2,f2⟩,A2,b2))→K2 a' w':=by
     intro g2 N2 U2 f2 A2 b2 a2 w16 h137 s21 sok2 hM2 hAN2 hdo2
     refine hK36 _ _ ?_
     refine sqr fun _ hK37=>sw1 h137 rfl (v:=.agg (pkC A1 none 0 0).toArray) (rld h137 rfl rfl (ldA υ39 rfl (n:=43) κ (s21.get 1 rfl:Blk _ _ _ _) rfl rfl)) fun _ h138=>sw1 h138 rfl (v:=.agg (pkC A2 none 0 0).toArray) (rld h138 rfl rfl (ldA υ39 rfl (n:=43) κ (s21.get 0 rfl:Blk _ _ _ _) rfl rfl)) fun _ h139=>cl h139 rfl Gj (Du s21 (Ur hAN1 hAN2 _)) fun _ v9 w17 r9 h140=>?_
     obtain ⟨rfl,s22⟩:=r9
     refine mv h140 rfl fun _ h141=>h141.sn [10,5,4,3,0,1,6,7,8,9] rfl fun h142=>hK37 _ _<|sq fun _ hK38=>?_
     have s23:=s22.drew
     refine wp_region_held_drew (S:=fun w'=>Sep w' [Ab g2 39 (pkC A2 none 0 0),Ab g1 39 (pkC A1 none 0 0),Ab g3 39 (pkC Q pa P.N.length pc),Ab g4 42 (BB P pa P.N.length pc dst dcr qa qs.length qc),Ab pg 54 [π mg,π cg,π rg,π dg],Ab cg 83 (An mg S1 f1),AF mg mb md mp M1,Ab dg 49 [π rg,.slice (some ⟨gs0,0,none⟩) 8 8,.bool f2],Ab gs0 45 (U2.flatMap AH),AS rg rv rd ra N2,AM W B,Ch.many R]) κ s23 (fun hq13=>?_)
     refine tv1 hq13 h142 0 rfl rfl (v:=.bool (BV A1 A2)) (fun w1 _=>(Ak h142 rfl rfl) w1) fun _ h143=>?_
     refine tv1 hq13 h143 1 rfl rfl (v:=.bool (BV A1 A2)) (fun w1 _=>(Ak h143 rfl rfl) w1) fun _ h144=>?_
     refine tgv hq13 h144 2 rfl rfl rfl rfl κ κ κ (fun _ _ _ _ h=>h) (wT h144 rfl rfl rfl) (v:=.bool b1) (fun w1 hSw hC1=>(Ak h144 rfl rfl) w1) fun _ h145=>?_
     refine tgv hq13 h145 3 rfl rfl rfl rfl κ κ κ (fun _ _ _ _ h=>h) (wT h145 rfl rfl rfl) (v:=.bool b2) (fun w1 hSw hC2=>(Ak h145 rfl rfl) w1) fun _ h146=>?_
     refine tgv hq13 h146 4 rfl rfl rfl rfl κ κ κ (fun _ _ _ _ h=>h) (wT h146 rfl rfl rfl) (v:=.bool (b1 == b2)) (fun w1 hSw hC3=>(CW h146 rfl (opg rfl hC3) (opg rfl hC3) (VO .eql υ4 _ _ _ _)) w1) fun _ h147=>?_
     refine tv1 hq13 h147 5 rfl rfl (v:=.bool ((BV A1 A2)&&(b1 == b2))) (fun w1 _=>(Ie h147 rfl (E:=(BV A1 A2)) (F:=(b1 == b2)) rfl rfl rfl (fun e=>if_pos (by rw [e];try rfl))) w1) fun _ h148=>?_
     refine tv1 hq13 h148 6 rfl rfl (v:=.bool ((BV A1 A2)&&(b1 == b2))) (fun w1 _=>(Ak h148 rfl rfl) w1) fun _ h149=>?_
     refine tgv hq13 h149 7 rfl rfl rfl rfl κ κ κ (fun _ _ _ _ h=>h) (wT h149 rfl rfl rfl) (v:=π pg) (fun w1 hSw hC4=>by have hq:=(And.intro (AT hC4).1 (AT hC4).2);exact (Ak h149 rfl rfl) w1) fun _ h150=>?_
     refine tgv hq13 h150 8 rfl rfl rfl rfl κ κ κ (fun _ _ _ _ h=>h) (wT h150 rfl rfl rfl) (v:=π pg) (fun w1 hSw hC5=>by have hq:=(And.intro (AT hC5).1 (AT hC5).2);exact (Bp h150 rfl (opg rfl hC5)) w1) fun _ h151=>?_
     refine tgv hq13 h151 9 rfl rfl rfl rfl κ κ κ (fun _ _ _ _ h=>h) (wT h151 rfl rfl rfl) (v:=.pointer (some ⟨pg,1,none⟩)) (fun w1 hSw hC6=>by have hq:=(And.intro (AT hC6).1 (AT hC6).2);exact (rfa h151 rfl (opg rfl hC6) (fun w=>Cp pg 0 w)) w1) fun _ h152=>?_
     refine tgv hq13 h152 10 rfl rfl rfl rfl κ κ κ (fun _ _ _ _ h=>h) (wT h152 rfl rfl rfl) (v:=π cg) (fun w1 hSw hC7=>by have hq:=(And.intro (AT hC7).1 (AT hC7).2);exact (rld h152 rfl (opg rfl hC7) (ldB υ51 rfl (hSw.get 4 rfl:Blk _ _ _ _) rfl))) fun _ h153=>?_
     refine tgv hq13 h153 12 rfl rfl rfl rfl κ κ κ (fun _ _ _ _ h=>h) (wT h153 rfl rfl rfl) (v:=π pg) (fun w1 hSw hC8=>by have hq:=(And.intro (AT hC8).1 (AT hC8).2);exact (Ak h153 rfl rfl) w1) fun _ h154=>?_
     refine tgv hq13 h154 13 rfl rfl rfl rfl κ κ κ (fun _ _ _ _ h=>h) (wT h154 rfl rfl rfl) (v:=π pg) (fun w1 hSw hC9=>by have hq:=(And.intro (AT hC9).1 (AT hC9).2);exact (Bp h154 rfl (opg rfl hC9)) w1) fun _ h155=>?_
     refine tgv hq13 h155 14 rfl rfl rfl rfl κ κ κ (fun _ _ _ _ h=>h) (wT h155 rfl rfl rfl) (v:=.pointer (some ⟨pg,3,none⟩)) (fun w1 hSw hC10=>by have hq:=(And.intro (AT hC10).1 (AT hC10).2);exact (rfa h155 rfl (opg rfl hC10) (fun w=>Cq pg 0 w)) w1) fun _ h156=>?_
     refine tgv hq13 h156 15 rfl rfl rfl rfl κ κ κ (fun _ _ _ _ h=>h) (wT h156 rfl rfl rfl) (v:=π dg) (fun w1 hSw hC11=>by have hq:=(And.intro (AT hC11).1 (AT hC11).2);exact (rld h156 rfl (opg rfl hC11) (ldB υ52 rfl (hSw.get 4 rfl:Blk _ _ _ _) rfl))) fun _ h157=>?_
     refine tgv hq13 h157 16 rfl rfl rfl rfl κ κ κ (fun _ _ _ _ h=>h) (wT h157 rfl rfl rfl) (v:=π dg) (fun w1 hSw hC12=>by have hq:=(And.intro (AT hC12).1 (AT hC12).2);exact (Bp h157 rfl (opg rfl hC12)) w1) fun _ h158=>?_
     refine tgv hq13 h158 17 rfl rfl rfl rfl κ κ κ (fun _ _ _ _ h=>h) (wT h158 rfl rfl rfl) (v:=.pointer (some ⟨dg,2,none⟩)) (fun w1 hSw hC13=>by have hq:=(And.intro (AT hC13).1 (AT hC13).2);exact (rfa h158 rfl (opg rfl hC13) (fun w=>FH dg 0 w)) w1) fun _ h159=>?_
     refine tgv hq13 h159 18 rfl rfl rfl rfl κ κ κ (fun _ _ _ _ h=>h) (wT h159 rfl rfl rfl) (v:=.bool f2) (fun w1 hSw hC14=>by have hq:=(And.intro (AT hC14).1 (AT hC14).2);exact (rld h159 rfl (opg rfl hC14) (ldB υ4 rfl (hSw.get 7 rfl:Blk _ _ _ _) rfl))) fun _ h160=>?_
     rcases bC ((BV A1 A2)&&(b1 == b2)) with hc6 | hc6
     ·skip
      have hp7:((BV A1 A2)=true)∧((b1 == b2)=true):=(And.intro (AT hc6).1 (AT hc6).2)
      refine to_ 11 rfl ((wT h160 rfl rfl rfl).trans hc6) κ fun _ hK39=>Bd h160 rfl rfl rfl (xs:=[.tmp 102]) rfl Gr rfl (vs:=[π cg]) (EH (opg rfl hc6) rfl) (args:=#[π cg]) rfl (KO (s23.pk [5,0,1,2,3,4,6,7,8,9,10,11] rfl) h8M) fun _ v10 w18 r10 h161=>?_
      obtain ⟨rfl,s24⟩:=r10
      refine hK39 _ _ (s24.pk [1,2,3,4,5,0,6,7,8,9,10,11] rfl) fun hq14=>?_
      refine tv hq14 h161 19 rfl rfl rfl rfl κ κ κ (fun _ _ _ _ h=>h) ((wT h161 rfl rfl rfl).trans hc6) (v:=.bool (f1 == f2)) (fun w1 _=>(CW h161 rfl rfl (opg rfl hc6) (VO .eql υ4 _ _ _ _)) w1) fun _ h162=>?_
      refine tv1 hq14 h162 20 rfl rfl (v:=.bool (f1 == f2)) (fun w1 _=>(CM h162 rfl (E:=((BV A1 A2)&&(b1 == b2))) (b:=true) rfl hc6 rfl) w1) fun _ h163=>?_
      refine h163.sk [112,111,103,110,109,108,107,106,105,104,102,101,100,99,98,97,96,95,94,93,92,10,5,3,0,1,6,7,8,9] rfl fun h164=>?_
      refine tv1 hq14 h164 21 rfl rfl (v:=.bool (f1 == f2)) (fun w1 _=>(Ay h164 rfl rfl) w1) fun _ h165=>?_
      refine h165.sk [4,10,5,3,0,1,6,7,8,9] rfl fun h166=>?_
      refine wpAnyH_done κ ?_ _
      refine hK38 _ _ ?_
      refine wp_ret ?_

      refine CY (v:=.bool (f1 == f2)) (CX h166 rfl rfl) h166.defs ?_
      exact ⟨M1,S1,f1,N2,U2,f2,_,rfl,Sep.tail_un (xs:=[_,_,_,_,_,_,_]) (s24.pk [5,0,6,7,8,9,10,11] rfl),sok1,hM1,sok2,hM2,(fun _ j hj=>hel1 j (by rw [hQI];exact hj)),fun q1 q2 q3=>(by rw [q1,q2,q3,hdo2] at hdo1;cases hdo1;simp_all [Ka])⟩
     ·skip
      have hp8:((BV A1 A2)=false)∨((b1 == b2)=false):=((Wc hc6).imp (fun q=>q) (fun q=>q))
      refine tu hq13 h160 11 rfl rfl rfl rfl κ κ κ (fun _ _ _ _ h=>h) ((wT h160 rfl rfl rfl).trans hc6) fun _ h167=>?_
      refine tu hq13 h167 19 rfl rfl rfl rfl κ κ κ (fun _ _ _ _ h=>h) ((wT h167 rfl rfl rfl).trans hc6) fun _ h168=>?_
      refine tv1 hq13 h168 20 rfl rfl (v:=.bool false) (fun w1 _=>(CM h168 rfl (E:=((BV A1 A2)&&(b1 == b2))) (b:=false) rfl hc6 rfl) w1) fun _ h169=>?_
      refine h169.sk [112,111,103,110,109,108,107,106,105,104,102,101,100,99,98,97,96,95,94,93,92,10,5,3,0,1,6,7,8,9] rfl fun h170=>?_
      refine tv1 hq13 h170 21 rfl rfl (v:=.bool false) (fun w1 _=>(Ay h170 rfl rfl) w1) fun _ h171=>?_
      refine h171.sk [4,10,5,3,0,1,6,7,8,9] rfl fun h172=>?_
      refine wpAnyH_done κ ?_ _
      refine hK38 _ _ ?_
      refine wp_ret ?_

      refine CY (v:=.bool false) (CX h172 rfl rfl) h172.defs ?_
      exact ⟨M1,S1,f1,N2,U2,f2,_,rfl,Sep.tail_un (xs:=[_,_,_,_,_,_,_]) (s23.pk [4,5,6,7,8,9,10,11] rfl),sok1,hM1,sok2,hM2,(fun _ j hj=>hel1 j (by rw [hQI];exact hj)),fun q1 q2 q3=>(by rw [q1,q2,q3,hdo2] at hdo1;cases hdo1;simp_all [Ka])⟩
    have s25:=s20.drew
    refine wp_region_held_drew (S:=fun w'=>Sep w' [Ab g1 39 (pkC A1 none 0 0),Ab g3 39 (pkC Q pa P.N.length pc),Ab g4 42 (BB P pa P.N.length pc dst dcr qa qs.length qc),Ab pg 54 [π mg,π cg,π rg,π dg],Ab cg 83 (An mg S1 f1),AF mg mb md mp M1,AM W B,Ch.many R]) κ (s25.pk [0,1,2,3,4,5,9,10] rfl) (fun hq15=>?_)
    refine tv1 hq15 h136 0 rfl rfl (v:=π pg) (fun w1 _=>(Ak h136 rfl rfl) w1) fun _ h173=>?_
    refine tv1 hq15 h173 1 rfl rfl (v:=π pg) (fun w1 _=>(Bp h173 rfl rfl) w1) fun _ h174=>?_
    refine tv1 hq15 h174 2 rfl rfl (v:=.pointer (some ⟨pg,3,none⟩)) (fun w1 _=>(rfa h174 rfl rfl (fun w=>Cq pg 0 w)) w1) fun _ h175=>?_
    refine tv1 hq15 h175 3 rfl rfl (v:=π dg) (fun w1 hSw=>(rld h175 rfl rfl (ldB υ52 rfl (hSw.get 3 rfl:Blk _ _ _ _) rfl))) fun _ h176=>?_
    refine tv1 hq15 h176 4 rfl rfl (v:=.agg (pkC Q pa P.N.length pc).toArray) (fun w1 hSw=>(rld h176 rfl rfl (ldA υ39 rfl (n:=43) κ (hSw.get 1 rfl:Blk _ _ _ _) rfl rfl))) fun _ h177=>?_
    refine wpAnyH_ready (rs:=[5,9]) κ (by simp) (toc rfl (wn rfl) (fun K3 hK40=>?_) (toc rfl (wn rfl) (fun K3 hK40=>?_) AllReadyH.nil))
    ·skip
     refine Bd h177 rfl rfl rfl (xs:=[.tmp 84,.tmp 85]) rfl Dk rfl (vs:=[π dg,.agg (pkC Q pa P.N.length pc).toArray]) rfl (args:=#[π dg,.agg (pkC Q pa P.N.length pc).toArray]) rfl ((by have z:=Tn (P:=Q) (pa:=pa) (pc:=pc) (s25.pk [6,7,8,9,0,1,2,3,4,5,10] rfl) uok hk hN2 hB wQ hPQ hSQ hNQ hn9Q hNmQ;rw [hNl] at z;exact z)) fun _ v11 w19 r11 h178=>?_
     obtain ⟨Mx487,Sx488,frx489,Qax490,bx491,rfl,s26,hso496,hM496,hQN496,hdo496⟩:=r11
     refine hK40 _ _ (s26.pk [4,5,6,7,8,9,3,10] rfl) fun hq16=>?_
     refine tv1 hq16 h178 6 rfl rfl (v:=.tuple #[.agg (pkC Qax490 none 0 0).toArray,.bool bx491]) (fun w1 _=>(Ak h178 rfl rfl) w1) fun _ h179=>?_
     refine tv1 hq16 h179 7 rfl rfl (v:=.agg (pkC Qax490 none 0 0).toArray) (fun w1 _=>(CZ h179 rfl rfl rfl) w1) fun _ h180=>?_
     refine tv1 hq16 h180 8 rfl rfl (v:=.bool bx491) (fun w1 _=>(CZ h180 rfl rfl rfl) w1) fun _ h181=>?_
     refine to_ 9 rfl (wn rfl) κ fun _ hK41=>BN h181 rfl rfl rfl rfl (z:=[ν 0,ν 0,ν 0,ν 0,ν 0,ν 0,ν 0,σ [],ν 0,ν 0,ν 0,σ [],σ [],ν 0,ν 0,ν 0,ν 0,σ [],ν 0,ν 0,ν 0,ν 0,σ [],.slice none 0 0,ν 0,ν 0,ν 0,ν 0,ν 0,ν 0,ν 0,ν 0,ν 0,ν 0,ν 0,ν 0,ν 0,ν 0,ν 0,ν 0,ν 0,ν 0,ν 0]) (fun _=>rfl) s26 fun _ g5 w20 h182 s27 _ _=>?_
     refine hK41 _ _ (s27.pk [5,6,7,8,9,10,4,11] rfl) fun hq17=>?_
     refine to_ 10 rfl (wn rfl) κ fun _ hK42=>Bt h182 rfl rfl s27 0 rfl rfl rfl [ν (Qax490.I 0),ν (Qax490.I 1),ν (Qax490.I 2),ν (Qax490.I 3),ν (Qax490.I 4),ν (Qax490.I 5),ν (Qax490.I 6),σ (Qax490.S 7),ν (Qax490.I 8),ν (Qax490.I 9),ν (Qax490.I 10),σ (Qax490.S 11),σ (Qax490.S 12),ν (Qax490.I 13),ν (Qax490.I 14),ν (Qax490.I 15),ν (Qax490.I 16),σ (Qax490.S 17),ν (Qax490.I 18),ν (Qax490.I 19),ν (Qax490.I 20),ν (Qax490.I 21),σ (Qax490.S 22),.slice none 0 0,ν (Qax490.I 24),ν (Qax490.I 25),ν (Qax490.I 26),ν (Qax490.I 27),ν (Qax490.I 28),ν (Qax490.I 29),ν (Qax490.I 30),ν (Qax490.I 31),ν (Qax490.I 32),ν (Qax490.I 33),ν (Qax490.I 34),ν (Qax490.I 35),ν (Qax490.I 36),ν (Qax490.I 37),ν (Qax490.I 38),ν (Qax490.I 39),ν (Qax490.I 40),ν (Qax490.I 41),ν (Qax490.I 42)] rfl κ rfl (by show 0+43≤43;decide) (L':=[ν (Qax490.I 0),ν (Qax490.I 1),ν (Qax490.I 2),ν (Qax490.I 3),ν (Qax490.I 4),ν (Qax490.I 5),ν (Qax490.I 6),σ (Qax490.S 7),ν (Qax490.I 8),ν (Qax490.I 9),ν (Qax490.I 10),σ (Qax490.S 11),σ (Qax490.S 12),ν (Qax490.I 13),ν (Qax490.I 14),ν (Qax490.I 15),ν (Qax490.I 16),σ (Qax490.S 17),ν (Qax490.I 18),ν (Qax490.I 19),ν (Qax490.I 20),ν (Qax490.I 21),σ (Qax490.S 22),.slice none 0 0,ν (Qax490.I 24),ν (Qax490.I 25),ν (Qax490.I 26),ν (Qax490.I 27),ν (Qax490.I 28),ν (Qax490.I 29),ν (Qax490.I 30),ν (Qax490.I 31),ν (Qax490.I 32),ν (Qax490.I 33),ν (Qax490.I 34),ν (Qax490.I 35),ν (Qax490.I 36),ν (Qax490.I 37),ν (Qax490.I 38),ν (Qax490.I 39),ν (Qax490.I 40),ν (Qax490.I 41),ν (Qax490.I 42)]) rfl (cs':=[Ab g5 39 (pkC Qax490 none 0 0),Ab dg 49 [π rg,.slice (some ⟨gs0,0,none⟩) 8 8,.bool frx489],Ab gs0 45 (Sx488.flatMap AH),AS rg rv rd ra Mx487,AM W B,Ab g1 39 (pkC A1 none 0 0),Ab g3 39 (pkC Q pa P.N.length pc),Ab g4 42 (BB P pa P.N.length pc dst dcr qa qs.length qc),Ab pg 54 [π mg,π cg,π rg,π dg],Ab cg 83 (An mg S1 f1),AF mg mb md mp M1,Ch.many R]) rfl fun _ w21 h183 s28 _=>?_
     refine hK42 _ _ (s28.pk [5,6,7,8,9,10,4,11] rfl) fun hq18=>?_
     refine tv1 hq18 h183 11 rfl rfl (v:=.bool bx491) (fun w1 _=>(Ay h183 rfl rfl) w1) fun _ h184=>?_
     refine h184.sk [9,8,5,4,3,0,1,6,7] rfl fun h185=>?_
     refine wpAnyH_done κ ?_ _
     exact hJ371 g5 Mx487 Sx488 frx489 Qax490 bx491 _ _ (h185.subs rfl) (s28.pk [0,5,6,7,8,9,10,1,2,3,4,11] rfl) hso496 hM496 hQN496 hdo496
    ·skip
     refine BN h177 rfl rfl rfl rfl (z:=[ν 0,ν 0,ν 0,ν 0,ν 0,ν 0,ν 0,σ [],ν 0,ν 0,ν 0,σ [],σ [],ν 0,ν 0,ν 0,ν 0,σ [],ν 0,ν 0,ν 0,ν 0,σ [],.slice none 0 0,ν 0,ν 0,ν 0,ν 0,ν 0,ν 0,ν 0,ν 0,ν 0,ν 0,ν 0,ν 0,ν 0,ν 0,ν 0,ν 0,ν 0,ν 0,ν 0]) (fun _=>rfl) s25 fun _ g6 w22 h186 s29 _ _=>hK40 _ _ (s29.pk [1,2,3,4,5,6,10,11] rfl) fun hq19=>?_
     refine to_ 5 rfl (wn rfl) κ fun _ hK43=>Bd h186 rfl rfl rfl (xs:=[.tmp 84,.tmp 85]) rfl Dk rfl (vs:=[π dg,.agg (pkC Q pa P.N.length pc).toArray]) rfl (args:=#[π dg,.agg (pkC Q pa P.N.length pc).toArray]) rfl ((by have z:=Tn (P:=Q) (pa:=pa) (pc:=pc) (s29.pk [7,8,9,10,0,1,2,3,4,5,6,11] rfl) uok hk hN2 hB wQ hPQ hSQ hNQ hn9Q hNmQ;rw [hNl] at z;exact z)) fun _ v12 w23 r12 h187=>?_
     obtain ⟨Mx532,Sx533,frx534,Qax535,bx536,rfl,s30,hso541,hM541,hQN541,hdo541⟩:=r12
     refine hK43 _ _ (s30.pk [5,6,7,8,9,10,3,11] rfl) fun hq20=>?_
     refine tv1 hq20 h187 6 rfl rfl (v:=.tuple #[.agg (pkC Qax535 none 0 0).toArray,.bool bx536]) (fun w1 _=>(Ak h187 rfl rfl) w1) fun _ h188=>?_
     refine tv1 hq20 h188 7 rfl rfl (v:=.agg (pkC Qax535 none 0 0).toArray) (fun w1 _=>(CZ h188 rfl rfl rfl) w1) fun _ h189=>?_
     refine tv1 hq20 h189 8 rfl rfl (v:=.bool bx536) (fun w1 _=>(CZ h189 rfl rfl rfl) w1) fun _ h190=>?_
     refine to_ 10 rfl (wn rfl) κ fun _ hK44=>Bt h190 rfl rfl s30 4 rfl rfl rfl [ν (Qax535.I 0),ν (Qax535.I 1),ν (Qax535.I 2),ν (Qax535.I 3),ν (Qax535.I 4),ν (Qax535.I 5),ν (Qax535.I 6),σ (Qax535.S 7),ν (Qax535.I 8),ν (Qax535.I 9),ν (Qax535.I 10),σ (Qax535.S 11),σ (Qax535.S 12),ν (Qax535.I 13),ν (Qax535.I 14),ν (Qax535.I 15),ν (Qax535.I 16),σ (Qax535.S 17),ν (Qax535.I 18),ν (Qax535.I 19),ν (Qax535.I 20),ν (Qax535.I 21),σ (Qax535.S 22),.slice none 0 0,ν (Qax535.I 24),ν (Qax535.I 25),ν (Qax535.I 26),ν (Qax535.I 27),ν (Qax535.I 28),ν (Qax535.I 29),ν (Qax535.I 30),ν (Qax535.I 31),ν (Qax535.I 32),ν (Qax535.I 33),ν (Qax535.I 34),ν (Qax535.I 35),ν (Qax535.I 36),ν (Qax535.I 37),ν (Qax535.I 38),ν (Qax535.I 39),ν (Qax535.I 40),ν (Qax535.I 41),ν (Qax535.I 42)] rfl κ rfl (by show 0+43≤43;decide) (L':=[ν (Qax535.I 0),ν (Qax535.I 1),ν (Qax535.I 2),ν (Qax535.I 3),ν (Qax535.I 4),ν (Qax535.I 5),ν (Qax535.I 6),σ (Qax535.S 7),ν (Qax535.I 8),ν (Qax535.I 9),ν (Qax535.I 10),σ (Qax535.S 11),σ (Qax535.S 12),ν (Qax535.I 13),ν (Qax535.I 14),ν (Qax535.I 15),ν (Qax535.I 16),σ (Qax535.S 17),ν (Qax535.I 18),ν (Qax535.I 19),ν (Qax535.I 20),ν (Qax535.I 21),σ (Qax535.S 22),.slice none 0 0,ν (Qax535.I 24),ν (Qax535.I 25),ν (Qax535.I 26),ν (Qax535.I 27),ν (Qax535.I 28),ν (Qax535.I 29),ν (Qax535.I 30),ν (Qax535.I 31),ν (Qax535.I 32),ν (Qax535.I 33),ν (Qax535.I 34),ν (Qax535.I 35),ν (Qax535.I 36),ν (Qax535.I 37),ν (Qax535.I 38),ν (Qax535.I 39),ν (Qax535.I 40),ν (Qax535.I 41),ν (Qax535.I 42)]) rfl (cs':=[Ab dg 49 [π rg,.slice (some ⟨gs0,0,none⟩) 8 8,.bool frx534],Ab gs0 45 (Sx533.flatMap AH),AS rg rv rd ra Mx532,AM W B,Ab g6 39 (pkC Qax535 none 0 0),Ab g1 39 (pkC A1 none 0 0),Ab g3 39 (pkC Q pa P.N.length pc),Ab g4 42 (BB P pa P.N.length pc dst dcr qa qs.length qc),Ab pg 54 [π mg,π cg,π rg,π dg],Ab cg 83 (An mg S1 f1),AF mg mb md mp M1,Ch.many R]) rfl fun _ w24 h191 s31 _=>?_
     refine hK44 _ _ (s31.pk [5,6,7,8,9,10,3,11] rfl) fun hq21=>?_
     refine tv1 hq21 h191 11 rfl rfl (v:=.bool bx536) (fun w1 _=>(Ay h191 rfl rfl) w1) fun _ h192=>?_
     refine h192.sk [9,8,5,4,3,0,1,6,7] rfl fun h193=>?_
     refine wpAnyH_done κ ?_ _
     exact hJ371 g6 Mx532 Sx533 frx534 Qax535 bx536 _ _ (h193.subs rfl) (s31.pk [4,5,6,7,8,9,10,0,1,2,3,11] rfl) hso541 hM541 hQN541 hdo541
   have s32:=s3.drew
   refine wp_region_held_drew (S:=fun w'=>Sep w' [Ab g3 39 (pkC Q pa P.N.length pc),Ab g4 42 (BB P pa P.N.length pc dst dcr qa qs.length qc),Ab pg 54 [π mg,π cg,π rg,π dg],Ab dg 49 [π rg,.slice (some ⟨gs0,0,none⟩) 8 8,.bool gr],Ab gs0 45 (U.flatMap AH),AS rg rv rd ra N,AM W B,Ch.many R]) κ (s32.pk [0,1,2,5,6,7,8,9] rfl) (fun hq22=>?_)
   refine tv1 hq22 h135 0 rfl rfl (v:=π pg) (fun w1 _=>(Ak h135 rfl rfl) w1) fun _ h194=>?_
   refine tv1 hq22 h194 1 rfl rfl (v:=π pg) (fun w1 _=>(Bp h194 rfl rfl) w1) fun _ h195=>?_
   refine tv1 hq22 h195 2 rfl rfl (v:=.pointer (some ⟨pg,1,none⟩)) (fun w1 _=>(rfa h195 rfl rfl (fun w=>Cp pg 0 w)) w1) fun _ h196=>?_
   refine tv1 hq22 h196 3 rfl rfl (v:=π cg) (fun w1 hSw=>(rld h196 rfl rfl (ldB υ51 rfl (hSw.get 2 rfl:Blk _ _ _ _) rfl))) fun _ h197=>?_
   refine tv1 hq22 h197 4 rfl rfl (v:=.agg (pkC Q pa P.N.length pc).toArray) (fun w1 hSw=>(rld h197 rfl rfl (ldA υ39 rfl (n:=43) κ (hSw.get 0 rfl:Blk _ _ _ _) rfl rfl))) fun _ h198=>?_
   refine wpAnyH_ready (rs:=[5,9]) κ (by simp) (toc rfl (wn rfl) (fun K4 hK45=>?_) (toc rfl (wn rfl) (fun K4 hK45=>?_) AllReadyH.nil))
   ·skip
    refine Bd h198 rfl rfl rfl (xs:=[.tmp 75,.tmp 76]) rfl EE rfl (vs:=[π cg,.agg (pkC Q pa P.N.length pc).toArray]) rfl (args:=#[π cg,.agg (pkC Q pa P.N.length pc).toArray]) rfl ((by have z:=VP (P:=Q) (pa:=pa) (pc:=pc) (s32.pk [3,4,8,0,1,2,5,6,7,9] rfl) sok hM hB wQ hPQ hSQ hNQ hn9Q hNmQ;rw [hNl] at z;exact z)) fun _ v13 w25 r13 h199=>?_
    obtain ⟨Mx574,Sx575,frx576,Qax577,bx578,rfl,s33,hso583,hM583,hQN583,hel583,hdo583⟩:=r13
    refine hK45 _ _ (s33.pk [3,4,5,6,7,8,2,9] rfl) fun hq23=>?_
    refine tv1 hq23 h199 6 rfl rfl (v:=.tuple #[.agg (pkC Qax577 none 0 0).toArray,.bool bx578]) (fun w1 _=>(Ak h199 rfl rfl) w1) fun _ h200=>?_
    refine tv1 hq23 h200 7 rfl rfl (v:=.agg (pkC Qax577 none 0 0).toArray) (fun w1 _=>(CZ h200 rfl rfl rfl) w1) fun _ h201=>?_
    refine tv1 hq23 h201 8 rfl rfl (v:=.bool bx578) (fun w1 _=>(CZ h201 rfl rfl rfl) w1) fun _ h202=>?_
    refine to_ 9 rfl (wn rfl) κ fun _ hK46=>BN h202 rfl rfl rfl rfl (z:=[ν 0,ν 0,ν 0,ν 0,ν 0,ν 0,ν 0,σ [],ν 0,ν 0,ν 0,σ [],σ [],ν 0,ν 0,ν 0,ν 0,σ [],ν 0,ν 0,ν 0,ν 0,σ [],.slice none 0 0,ν 0,ν 0,ν 0,ν 0,ν 0,ν 0,ν 0,ν 0,ν 0,ν 0,ν 0,ν 0,ν 0,ν 0,ν 0,ν 0,ν 0,ν 0,ν 0]) (fun _=>rfl) s33 fun _ g7 w26 h203 s34 _ _=>?_
    refine hK46 _ _ (s34.pk [4,5,6,7,8,9,3,10] rfl) fun hq24=>?_
    refine to_ 10 rfl (wn rfl) κ fun _ hK47=>Bt h203 rfl rfl s34 0 rfl rfl rfl [ν (Qax577.I 0),ν (Qax577.I 1),ν (Qax577.I 2),ν (Qax577.I 3),ν (Qax577.I 4),ν (Qax577.I 5),ν (Qax577.I 6),σ (Qax577.S 7),ν (Qax577.I 8),ν (Qax577.I 9),ν (Qax577.I 10),σ (Qax577.S 11),σ (Qax577.S 12),ν (Qax577.I 13),ν (Qax577.I 14),ν (Qax577.I 15),ν (Qax577.I 16),σ (Qax577.S 17),ν (Qax577.I 18),ν (Qax577.I 19),ν (Qax577.I 20),ν (Qax577.I 21),σ (Qax577.S 22),.slice none 0 0,ν (Qax577.I 24),ν (Qax577.I 25),ν (Qax577.I 26),ν (Qax577.I 27),ν (Qax577.I 28),ν (Qax577.I 29),ν (Qax577.I 30),ν (Qax577.I 31),ν (Qax577.I 32),ν (Qax577.I 33),ν (Qax577.I 34),ν (Qax577.I 35),ν (Qax577.I 36),ν (Qax577.I 37),ν (Qax577.I 38),ν (Qax577.I 39),ν (Qax577.I 40),ν (Qax577.I 41),ν (Qax577.I 42)] rfl κ rfl (by show 0+43≤43;decide) (L':=[ν (Qax577.I 0),ν (Qax577.I 1),ν (Qax577.I 2),ν (Qax577.I 3),ν (Qax577.I 4),ν (Qax577.I 5),ν (Qax577.I 6),σ (Qax577.S 7),ν (Qax577.I 8),ν (Qax577.I 9),ν (Qax577.I 10),σ (Qax577.S 11),σ (Qax577.S 12),ν (Qax577.I 13),ν (Qax577.I 14),ν (Qax577.I 15),ν (Qax577.I 16),σ (Qax577.S 17),ν (Qax577.I 18),ν (Qax577.I 19),ν (Qax577.I 20),ν (Qax577.I 21),σ (Qax577.S 22),.slice none 0 0,ν (Qax577.I 24),ν (Qax577.I 25),ν (Qax577.I 26),ν (Qax577.I 27),ν (Qax577.I 28),ν (Qax577.I 29),ν (Qax577.I 30),ν (Qax577.I 31),ν (Qax577.I 32),ν (Qax577.I 33),ν (Qax577.I 34),ν (Qax577.I 35),ν (Qax577.I 36),ν (Qax577.I 37),ν (Qax577.I 38),ν (Qax577.I 39),ν (Qax577.I 40),ν (Qax577.I 41),ν (Qax577.I 42)]) rfl (cs':=[Ab g7 39 (pkC Qax577 none 0 0),Ab cg 83 (An mg Sx575 frx576),AF mg mb md mp Mx574,AM W B,Ab g3 39 (pkC Q pa P.N.length pc),Ab g4 42 (BB P pa P.N.length pc dst dcr qa qs.length qc),Ab pg 54 [π mg,π cg,π rg,π dg],Ab dg 49 [π rg,.slice (some ⟨gs0,0,none⟩) 8 8,.bool gr],Ab gs0 45 (U.flatMap AH),AS rg rv rd ra N,Ch.many R]) rfl fun _ w27 h204 s35 _=>?_
    refine hK47 _ _ (s35.pk [4,5,6,7,8,9,3,10] rfl) fun hq25=>?_
    refine tv1 hq25 h204 11 rfl rfl (v:=.bool bx578) (fun w1 _=>(Ay h204 rfl rfl) w1) fun _ h205=>?_
    refine h205.sk [7,6,5,4,3,0,1] rfl fun h206=>?_
    refine wpAnyH_done κ ?_ _
    exact hJ365 g7 Mx574 Sx575 frx576 Qax577 bx578 _ _ (h206.subs rfl) (s35.pk [0,4,5,6,1,2,7,8,9,3,10] rfl) hso583 hM583 hQN583 hel583 hdo583
   ·skip
    refine BN h198 rfl rfl rfl rfl (z:=[ν 0,ν 0,ν 0,ν 0,ν 0,ν 0,ν 0,σ [],ν 0,ν 0,ν 0,σ [],σ [],ν 0,ν 0,ν 0,ν 0,σ [],ν 0,ν 0,ν 0,ν 0,σ [],.slice none 0 0,ν 0,ν 0,ν 0,ν 0,ν 0,ν 0,ν 0,ν 0,ν 0,ν 0,ν 0,ν 0,ν 0,ν 0,ν 0,ν 0,ν 0,ν 0,ν 0]) (fun _=>rfl) s32 fun _ g8 w28 h207 s36 _ _=>hK45 _ _ (s36.pk [1,2,3,6,7,8,9,10] rfl) fun hq26=>?_
    refine to_ 5 rfl (wn rfl) κ fun _ hK48=>Bd h207 rfl rfl rfl (xs:=[.tmp 75,.tmp 76]) rfl EE rfl (vs:=[π cg,.agg (pkC Q pa P.N.length pc).toArray]) rfl (args:=#[π cg,.agg (pkC Q pa P.N.length pc).toArray]) rfl ((by have z:=VP (P:=Q) (pa:=pa) (pc:=pc) (s36.pk [4,5,9,0,1,2,3,6,7,8,10] rfl) sok hM hB wQ hPQ hSQ hNQ hn9Q hNmQ;rw [hNl] at z;exact z)) fun _ v14 w29 r14 h208=>?_
    obtain ⟨Mx619,Sx620,frx621,Qax622,bx623,rfl,s37,hso628,hM628,hQN628,hel628,hdo628⟩:=r14
    refine hK48 _ _ (s37.pk [4,5,6,7,8,9,2,10] rfl) fun hq27=>?_
    refine tv1 hq27 h208 6 rfl rfl (v:=.tuple #[.agg (pkC Qax622 none 0 0).toArray,.bool bx623]) (fun w1 _=>(Ak h208 rfl rfl) w1) fun _ h209=>?_
    refine tv1 hq27 h209 7 rfl rfl (v:=.agg (pkC Qax622 none 0 0).toArray) (fun w1 _=>(CZ h209 rfl rfl rfl) w1) fun _ h210=>?_
    refine tv1 hq27 h210 8 rfl rfl (v:=.bool bx623) (fun w1 _=>(CZ h210 rfl rfl rfl) w1) fun _ h211=>?_
    refine to_ 10 rfl (wn rfl) κ fun _ hK49=>Bt h211 rfl rfl s37 3 rfl rfl rfl [ν (Qax622.I 0),ν (Qax622.I 1),ν (Qax622.I 2),ν (Qax622.I 3),ν (Qax622.I 4),ν (Qax622.I 5),ν (Qax622.I 6),σ (Qax622.S 7),ν (Qax622.I 8),ν (Qax622.I 9),ν (Qax622.I 10),σ (Qax622.S 11),σ (Qax622.S 12),ν (Qax622.I 13),ν (Qax622.I 14),ν (Qax622.I 15),ν (Qax622.I 16),σ (Qax622.S 17),ν (Qax622.I 18),ν (Qax622.I 19),ν (Qax622.I 20),ν (Qax622.I 21),σ (Qax622.S 22),.slice none 0 0,ν (Qax622.I 24),ν (Qax622.I 25),ν (Qax622.I 26),ν (Qax622.I 27),ν (Qax622.I 28),ν (Qax622.I 29),ν (Qax622.I 30),ν (Qax622.I 31),ν (Qax622.I 32),ν (Qax622.I 33),ν (Qax622.I 34),ν (Qax622.I 35),ν (Qax622.I 36),ν (Qax622.I 37),ν (Qax622.I 38),ν (Qax622.I 39),ν (Qax622.I 40),ν (Qax622.I 41),ν (Qax622.I 42)] rfl κ rfl (by show 0+43≤43;decide) (L':=[ν (Qax622.I 0),ν (Qax622.I 1),ν (Qax622.I 2),ν (Qax622.I 3),ν (Qax622.I 4),ν (Qax622.I 5),ν (Qax622.I 6),σ (Qax622.S 7),ν (Qax622.I 8),ν (Qax622.I 9),ν (Qax622.I 10),σ (Qax622.S 11),σ (Qax622.S 12),ν (Qax622.I 13),ν (Qax622.I 14),ν (Qax622.I 15),ν (Qax622.I 16),σ (Qax622.S 17),ν (Qax622.I 18),ν (Qax622.I 19),ν (Qax622.I 20),ν (Qax622.I 21),σ (Qax622.S 22),.slice none 0 0,ν (Qax622.I 24),ν (Qax622.I 25),ν (Qax622.I 26),ν (Qax622.I 27),ν (Qax622.I 28),ν (Qax622.I 29),ν (Qax622.I 30),ν (Qax622.I 31),ν (Qax622.I 32),ν (Qax622.I 33),ν (Qax622.I 34),ν (Qax622.I 35),ν (Qax622.I 36),ν (Qax622.I 37),ν (Qax622.I 38),ν (Qax622.I 39),ν (Qax622.I 40),ν (Qax622.I 41),ν (Qax622.I 42)]) rfl (cs':=[Ab cg 83 (An mg Sx620 frx621),AF mg mb md mp Mx619,AM W B,Ab g8 39 (pkC Qax622 none 0 0),Ab g3 39 (pkC Q pa P.N.length pc),Ab g4 42 (BB P pa P.N.length pc dst dcr qa qs.length qc),Ab pg 54 [π mg,π cg,π rg,π dg],Ab dg 49 [π rg,.slice (some ⟨gs0,0,none⟩) 8 8,.bool gr],Ab gs0 45 (U.flatMap AH),AS rg rv rd ra N,Ch.many R]) rfl fun _ w30 h212 s38 _=>?_
    refine hK49 _ _ (s38.pk [4,5,6,7,8,9,2,10] rfl) fun hq28=>?_
    refine tv1 hq28 h212 11 rfl rfl (v:=.bool bx623) (fun w1 _=>(Ay h212 rfl rfl) w1) fun _ h213=>?_
    refine h213.sk [7,6,5,4,3,0,1] rfl fun h214=>?_
    refine wpAnyH_done κ ?_ _
    exact hJ365 g8 Mx619 Sx620 frx621 Qax622 bx623 _ _ (h214.subs rfl) (s38.pk [3,4,5,6,0,1,7,8,9,2,10] rfl) hso628 hM628 hQN628 hel628 hdo628
end
section
theorem Tp {w:World} {R:List Ch} {pg cg mg mb md mp dg gs0 rg rv rd ra k:Nat} {S:List SideM} {fr:Bool} {M:MemM} {W:World} {x:DeedT20} (hS0:Sep w ([Ab pg 54 [π mg,π cg,π rg,π dg],Ab cg 83 (An mg S fr),AF mg mb md mp M,Ab dg 49 [π rg,.slice (some ⟨gs0,0,none⟩) 8 8,.bool fr],Ab gs0 45 (S.flatMap AH),AS rg rv rd ra M,AM W W.heap.size]++R)) (sok:SOk S k) (hk:k≤1000) (hM:M.V.length=23168) (hx:DeedOk W x) :
  CallsR Tryz.prog 8 #[π pg,.agg (dC20 x).toArray] w (fun v w'=>∃ M' S' fr',v=.bool true∧Sep w' ([Ab pg 54 [π mg,π cg,π rg,π dg],Ab cg 83 (An mg S' fr'),AF mg mb md mp M',Ab dg 49 [π rg,.slice (some ⟨gs0,0,none⟩) 8 8,.bool fr'],Ab gs0 45 (S'.flatMap AH),AS rg rv rd ra M',AM W W.heap.size]++R)∧SOk S' (k+1)∧M'.V.length=23168∧(x.cr=false→∀ j:Nat,(j:Int)+1≠x.P.I 1→S'.getD j (Ac 0)=S.getD j (Ac 0))):=
 CallsR.mono (Ol (R:=R) (P:=x.P) (pa:=x.pa) (pc:=x.pc) (dst:=x.st) (dcr:=x.cr) (qa:=x.qa) (qc:=x.qc) (qs:=x.qs) hS0 sok sok hk hM hM rfl hx.p.wP hx.p.S7 hx.p.hN hx.p.hn9 hx.p.row hx.q hx.o) fun v w' ⟨M',S',fr',N',U',gr',bb,e,h1,h2,h3,_,_,h4,h5⟩=>by
  obtain ⟨e1,e2,e3,e4⟩:=h5 rfl rfl rfl
  subst e1 e2 e3 e4
  exact ⟨M',S',fr',e,h1,h2,h3,h4⟩
end
section
theorem PkIn.cut {W:World} {P:PkM} {a:Option Addr} {c:Nat} (h:PkIn W P a c):PkIn W (Eo P) a c:=
 ⟨Of h.wP,Kq h.S7,by rw [Js];exact h.hN,by rw [Js];exact h.hn9,by rw [Js];exact h.row⟩
theorem To {w:World} {R:List Ch} {Q:PkM} {pa:Option Addr} {pc n k:Nat} {cg mg mb md mp:Nat} {S:List SideM} {fr:Bool} {M:MemM} {W:World} (hS0:Sep w ([Ab cg 83 (An mg S fr),AF mg mb md mp M,AM W W.heap.size]++R)) (sok:SOk S k) (hM:M.V.length=23168) (qx:PkIn W Q pa pc) (hn:Q.N.length=n) :
  CallsR Tryz.prog 17 #[π cg,.agg (pkC Q pa n pc).toArray] w (fun v w'=>∃ M' S' fr' A b,v=.tuple #[.agg (pk0 A).toArray,.bool b]∧Sep w' ([Ab cg 83 (An mg S' fr'),AF mg mb md mp M',AM W W.heap.size]++R)∧doC ⟨M,S,fr⟩ Q=(⟨M',S',fr'⟩,A,b)):=by
 subst hn
 exact PQ hS0 sok.len hM rfl qx.wP (Md qx.wP) qx.S7 qx.hN qx.hn9 qx.row
end
section
def OnceP (S:List SideM) (Q A:PkM):Prop:=CC Q=0∧Q.I 0=1∧∃ s:SideM,S.getD (Q.I 1-1).toNat (Ac 0)=s∧Q.I 2=s.ep∧Q.I 3=s.last∧s.told=A∧s.had=true
theorem Xc {M:MemM} {S:List SideM} {fr:Bool} {Q:PkM} {C':CardM} {A:PkM} {b:Bool} (h:doC ⟨M,S,fr⟩ Q=(C',A,b)) (h8:S.length=8) (hb:b=true) (hA:A.I 19≠31):OnceP C'.S Q A:=by
 by_cases h0:CC Q≠0∨Q.I 0≠1
 ·rw [UU h0] at h;cases h;cases hb
 ·have h1:CC Q=0:=Classical.byContradiction fun q=>h0 (.inl q)
  have h2:Q.I 0=1:=Classical.byContradiction fun q=>h0 (.inr q)
  have hv:=Kl h1 h2
  obtain ⟨s,hs⟩:∃ s,S.getD (Q.I 1-1).toNat (Ac 0)=s:=⟨_,rfl⟩
  by_cases h3:Q.I 2=s.ep
  ·by_cases h4:Q.I 3=s.last
   ·rw [Ln (C:=⟨M,S,fr⟩) hs h1 h2 h3 h4] at h;cases h
    exact ⟨h1,h2,s,hs,h3,h4,rfl,hb⟩
   ·by_cases h5:Q.I 3-1=s.last
    ·obtain ⟨M2,er,d,ol,hw⟩:∃ M2 er d ol,CP Q M=(M2,er,d,ol):=⟨_,_,_,_,rfl⟩
     rw [PO (C:=⟨M,S,fr⟩) hs h1 h2 h3 h4 h5 hw] at h;cases h
     refine ⟨h1,h2,⟨s.ep,Q.I 3,Ai Q er d ol,true⟩,?_,h3,rfl,rfl,rfl⟩
     have:=hv.c
     show (S.set _ _).getD _ _=_
     rw [List.getD_eq_getElem?_getD,List.getElem?_set_self ω];rfl
    ·unfold doC at h;rw [if_neg h0,if_neg (fun q=>q (by rw [hs];exact h3)),if_neg (by rw [hs];exact h4),if_pos (by rw [hs];exact h5)] at h;cases h;cases hb
  ·rw [Ra (C:=⟨M,S,fr⟩) hs h1 h2 h3] at h;cases h;exact absurd rfl hA
theorem OnceP.else {S S':List SideM} {Q A:PkM} (h:OnceP S Q A) {c:Int} (hc:c≠Q.I 1) (he:∀ j:Nat,(j:Int)+1≠c→S'.getD j (Ac 0)=S.getD j (Ac 0)):OnceP S' Q A:=by
 obtain ⟨h1,h2,s,hs,h3⟩:=h
 have hv:=(Kl h1 h2).c
 exact ⟨h1,h2,s,(he _ ω).trans hs,h3⟩
theorem VQ {w:World} {R:List Ch} {Q:PkM} {pa:Option Addr} {pc n k:Nat} {cg mg mb md mp:Nat} {S:List SideM} {fr:Bool} {M:MemM} {W:World} (hS0:Sep w ([Ab cg 83 (An mg S fr),AF mg mb md mp M,AM W W.heap.size]++R)) (sok:SOk S k) (hM:M.V.length=23168) (qx:PkIn W Q pa pc) (hn:Q.N.length=n) :
  CallsR Tryz.prog 17 #[π cg,.agg (pkC Q pa n pc).toArray] w (fun v w'=>∃ M' S' fr' A b,v=.tuple #[.agg (pk0 A).toArray,.bool b]∧Sep w' ([Ab cg 83 (An mg S' fr'),AF mg mb md mp M',AM W W.heap.size]++R)∧SOk S' (k+1)∧M'.V.length=23168∧A.N=[]∧(b=true→A.I 19≠31→OnceP S' Q A)):=
 CallsR.mono (To hS0 sok hM qx hn) fun v w' ⟨M',S',fr',A,b,e,s,hd⟩=>by
  have z:=PP (fr:=fr) (P:=Q) sok hM
  rw [hd] at z
  exact ⟨M',S',fr',A,b,e,s,z.1,z.2.2,z.2.1,fun h1 h2=>Xc hd sok.len h1 h2⟩
theorem VR {w:World} {R:List Ch} {Q:PkM} {pa:Option Addr} {pc n k:Nat} {cg mg mb md mp:Nat} {S:List SideM} {fr:Bool} {M:MemM} {W:World} (hS0:Sep w ([Ab cg 83 (An mg S fr),AF mg mb md mp M,AM W W.heap.size]++R)) (sok:SOk S k) (hM:M.V.length=23168) (qx:PkIn W Q pa pc) (hn:Q.N.length=n) {A:PkM} (ho:OnceP S Q A) :
  CallsR Tryz.prog 17 #[π cg,.agg (pkC Q pa n pc).toArray] w (fun v w'=>v=.tuple #[.agg (pk0 A).toArray,.bool true]∧Sep w' ([Ab cg 83 (An mg S false),AF mg mb md mp M,AM W W.heap.size]++R)):=
 CallsR.mono (To hS0 sok hM qx hn) fun v w' ⟨M',S',fr',A',b,e,s,hd⟩=>by
  obtain ⟨h1,h2,t,hs,h3,h4,h5,h6⟩:=ho
  rw [Ln (C:=⟨M,S,fr⟩) hs h1 h2 h3 h4,h5,h6] at hd
  cases hd;exact ⟨e,s⟩
theorem Tq {w:World} {R:List Ch} {pg cg mg mb md mp dg gs0 rg rv rd ra k:Nat} {S U:List SideM} {fr gr:Bool} {M N:MemM} {W:World} {x:DeedT20} (hS0:Sep w ([Ab pg 54 [π mg,π cg,π rg,π dg],Ab cg 83 (An mg S fr),AF mg mb md mp M,Ab dg 49 [π rg,.slice (some ⟨gs0,0,none⟩) 8 8,.bool gr],Ab gs0 45 (U.flatMap AH),AS rg rv rd ra N,AM W W.heap.size]++R)) (sok:SOk S k) (uok:SOk U k) (hk:k≤1000) (hM:M.V.length=23168) (hN:N.V.length=23168) (hx:DeedOk W x) :
  CallsR Tryz.prog 8 #[π pg,.agg (dC20 x).toArray] w (fun v w'=>∃ (M':MemM) (S':List SideM) (fr':Bool) (N':MemM) (U':List SideM) (gr' bb:Bool),v=.bool bb∧Sep w' ([Ab pg 54 [π mg,π cg,π rg,π dg],Ab cg 83 (An mg S' fr'),AF mg mb md mp M',Ab dg 49 [π rg,.slice (some ⟨gs0,0,none⟩) 8 8,.bool gr'],Ab gs0 45 (U'.flatMap AH),AS rg rv rd ra N',AM W W.heap.size]++R)∧SOk S' (k+1)∧M'.V.length=23168∧(x.cr=false→∀ j:Nat,(j:Int)+1≠x.P.I 1→S'.getD j (Ac 0)=S.getD j (Ac 0))):=
 CallsR.mono (Ol (R:=R) (P:=x.P) (pa:=x.pa) (pc:=x.pc) (dst:=x.st) (dcr:=x.cr) (qa:=x.qa) (qc:=x.qc) (qs:=x.qs) hS0 sok uok hk hM hN rfl hx.p.wP hx.p.S7 hx.p.hN hx.p.hn9 hx.p.row hx.q hx.o) fun v w' ⟨M',S',fr',N',U',gr',bb,e,h1,h2,h3,_,_,h4,_⟩=>⟨M',S',fr',N',U',gr',bb,e,h1,h2,h3,h4⟩
theorem FY (args:Array Value) (w:World):(callFunc 7 args).run Tryz.prog w=.ok (.enter 7 args) w:=by
 have h:=Tryz.func7
 go_simp
theorem Dc (args:Array Value) (w:World):(callFunc 8 args).run Tryz.prog w=.ok (.enter 8 args) w:=by
 have h:=Tryz.func8
 go_simp
theorem GF (args:Array Value) (w:World):(callFunc 14 args).run Tryz.prog w=.ok (.enter 14 args) w:=by
 have h:=Tryz.func14
 go_simp
theorem IA (g off:Nat) (w:World):(Instr.fieldAt 39 (.pointer (some ⟨g,off,none⟩)) 12).run Tryz.prog w=.ok (.pointer (some ⟨g,off+19,none⟩)) w:=rfl
theorem Cj (g off:Nat) (w:World):(Instr.fieldAt 39 (.pointer (some ⟨g,off,none⟩)) 1).run Tryz.prog w=.ok (.pointer (some ⟨g,off+1,none⟩)) w:=rfl
theorem DB (args:Array Value) (w:World):(callFunc 13 args).run Tryz.prog w=.ok (.enter 13 args) w:=by
 have h:=Tryz.func13
 go_simp
theorem Dv (g off:Nat) (w:World):(Instr.fieldAt 54 (.pointer (some ⟨g,off,none⟩)) 0).run Tryz.prog w=.ok (.pointer (some ⟨g,off+0,none⟩)) w:=rfl
theorem Ea (args:Array Value) (w:World):(callFunc 15 args).run Tryz.prog w=.ok (.enter 15 args) w:=by
 have h:=Tryz.func15
 go_simp
theorem Gh (args:Array Value) (w:World):(callFunc 18 args).run Tryz.prog w=.ok (.enter 18 args) w:=by
 have h:=Tryz.func18
 go_simp
theorem Gi (args:Array Value) (w:World):(callFunc 20 args).run Tryz.prog w=.ok (.enter 20 args) w:=by
 have h:=Tryz.func20
 go_simp
theorem Co (g off:Nat) (w:World):(Instr.fieldAt 54 (.pointer (some ⟨g,off,none⟩)) 1).run Tryz.prog w=.ok (.pointer (some ⟨g,off+1,none⟩)) w:=rfl
theorem Gq (args:Array Value) (w:World):(callFunc 19 args).run Tryz.prog w=.ok (.enter 19 args) w:=by
 have h:=Tryz.func19
 go_simp
theorem Cy (args:Array Value) (w:World):(callFunc 17 args).run Tryz.prog w=.ok (.enter 17 args) w:=by
 have h:=Tryz.func17
 go_simp
theorem FB (g off:Nat) (w:World):(Instr.fieldAt 42 (.pointer (some ⟨g,off,none⟩)) 0).run Tryz.prog w=.ok (.pointer (some ⟨g,off+0,none⟩)) w:=rfl
theorem FC (g off:Nat) (w:World):(Instr.fieldAt 42 (.pointer (some ⟨g,off,none⟩)) 2).run Tryz.prog w=.ok (.pointer (some ⟨g,off+44,none⟩)) w:=rfl
theorem RegionOnce_walk (W:World) (a0:Option Addr) (n0 c0:Nat) (f:Nat→DeedT20) (rb:SS W a0 n0 c0 f) (P:PkM) (pa:Option Addr) (pc:Nat) (px:PkIn W P pa pc) (y:DeedT20) (hy:DeedOk W y) :
  Calls Tryz.prog 5 #[.slice a0 n0 c0,.agg (pkC P pa P.N.length pc).toArray,.agg (dC20 y).toArray] W fun e W'=>e=.returned (.bool true)∧Below W.heap.size W W':=by
 obtain ⟨hX0,hw⟩:=rb;have hXl:=hX0.lt;unfold maxLen at hXl;obtain ⟨bX,oX,hX⟩:=hX0.at;have hS:Sep W [AM W W.heap.size]:=Sep.start W;have hB:W.heap.size=W.heap.size:=rfl
 suffices hZ:CallsR Tryz.prog 5 #[.slice a0 n0 c0,.agg (pkC P pa P.N.length pc).toArray,.agg (dC20 y).toArray] W (fun v W'=>v=.bool true∧Below W.heap.size W W') from Calls.mono hZ fun e W' ⟨v,e1,e2,h⟩=>⟨by rw [e1,e2],h⟩
 obtain ⟨Q,hQ⟩:∃ Q,Eo P=Q:=⟨_,rfl⟩
 have hNl:Q.N.length=P.N.length:=by rw [← hQ,Js]
 have qx:PkIn W Q pa pc:=hQ ▸ px.cut
 have wQ:wfP Q:=qx.wP
 have wQ1:=wQ 1
 unfold wfI at wQ1
 refine Cg Tryz.func5 rfl (N:=138) Tryz.ntmps5 (by show 3≤138;decide) [(0,.slice a0 n0 c0),(1,.agg (pkC P pa P.N.length pc).toArray),(2,.agg (BB y.P y.pa y.P.N.length y.pc y.st y.cr y.qa y.qs.length y.qc).toArray)] rfl fun _ h1=>sqr fun _ hK3=>so (wn rfl) fun _ hK1=>II h1 rfl rfl rfl rfl rfl (z:=(pkC P pa P.N.length pc)) rfl hS fun _ g4 w7 h5 s8 _ _=>hK1 _ _ ?_
 refine so (wn rfl) fun _ hK2=>II h5 rfl rfl rfl rfl rfl (z:=(BB y.P y.pa y.P.N.length y.pc y.st y.cr y.qa y.qs.length y.qc)) rfl s8 fun _ g3 w2 h2 s1 _ _=>hK2 _ _ ?_
 refine mv h2 rfl fun _ h3=>wpList_nil<|hK3 _ _<|sqr fun _ hK4=>cl h3 rfl FY (Mq s1) fun _ v1 w3 r1 h4=>?_
 obtain ⟨pg,cg,mg,mb,md,mp,dg,gs0,rg,rv,rd,ra,rfl,s2⟩:=r1
 refine mv h4 rfl fun _ h6=>h6.sn [7,6,5,4,0,1,2] rfl fun h7=>hK4 _ _<|sq fun _ hK5=>sqr fun _ hK6=>mv h7 rfl fun _ h8=>bv h8 (z:=.bool false) rfl (SY _ υ23 _ _ _) fun _ h9=>h9.sn [22,7,6,5,4,0,1,2] rfl fun h10=>hK6 _ _<|wcF h10 rfl rfl<|h10.sk [7,6,5,4,0,1,2] rfl fun h11=>?_
 refine wp_skip<|hK5 _ _<|sq fun _ hK7=>sqr fun _ hK8=>mv h11 rfl fun _ h12=>wpList_nil<|hK8 _ _<|wp_block ?_
 refine UI (fun (k:Nat) (M:MemM) (S:List SideM) (fr:Bool) a' w'=>Kn 138 [(8,ν (k:Int)),(7,π pg),(6,.bool false),(5,π g3),(4,π g4),(0,.slice a0 n0 c0),(1,.agg (pkC P pa P.N.length pc).toArray),(2,.agg (BB y.P y.pa y.P.N.length y.pc y.st y.cr y.qa y.qs.length y.qc).toArray)] a'∧Sep w' [Ab pg 54 [π mg,π cg,π rg,π dg],Ab cg 83 (An mg S fr),AF mg mb md mp M,Ab dg 49 [π rg,.slice (some ⟨gs0,0,none⟩) 8 8,.bool fr],Ab gs0 45 (S.flatMap AH),AS rg rv rd ra M,AM W W.heap.size,Ab g3 42 (BB y.P y.pa y.P.N.length y.pc y.st y.cr y.qa y.qs.length y.qc),Ab g4 39 (pkC P pa P.N.length pc)]∧(SOk S k)∧(M.V.length=23168)∧(k≤15)) (fun (k:Nat) (M:MemM) (S:List SideM) (fr:Bool)=>15-k) 0 (Di 23168) (List.replicate 8 (Ac 0)) false ⟨h12.subs rfl,(s2.pk [0,1,2,3,4,5,8,6,7] rfl),Vr,Gw,Nat.zero_le _⟩ ?_
 rintro k1 M54 S55 fr56 a1 w4 ⟨h13,s3,sok50,hM51,hk52⟩ K1 hK9
 have h8S:=sok50.len
 refine sq fun _ hK10=>sqr fun _ hK11=>mvs 2 h13 rfl fun _ h14=>sv1 h14 rfl (v:=ν (n0:Int)) (VZ h14 rfl rfl υ22) fun _ h15=>bv h15 (z:=.bool (decide ((k1:Int)<(n0:Int)))) rfl (cLt _ _ _ _ rfl) fun _ h16=>mv h16 rfl fun _ h17=>sg h17 (wT h17 rfl rfl rfl) rfl rfl rfl (v:=ν (k1:Int)) (fun hC1=>by have hq:=(dT hC1);exact Ak h17 rfl rfl _) fun _ h18=>sg h18 (wT h18 rfl rfl rfl) rfl rfl rfl (v:=.bool (decide ((k1:Int)<15))) (fun hC2=>by have hq:=(dT hC2);exact CW h18 rfl (opg rfl hC2) rfl (cLt _ _ _ _ rfl) _) fun _ h19=>sv1 h19 rfl (v:=.bool ((decide ((k1:Int)<(n0:Int)))&&(decide ((k1:Int)<15)))) (Ie h19 rfl (E:=(decide ((k1:Int)<(n0:Int)))) (F:=(decide ((k1:Int)<15))) rfl rfl rfl (fun e=>if_pos (by rw [e];try rfl))) fun _ h20=>h20.sn [30,8,7,6,5,4,0,1,2] rfl fun h21=>hK11 _ _ ?_
 rcases bC ((decide ((k1:Int)<(n0:Int)))&&(decide ((k1:Int)<15))) with hc1 | hc1
 ·skip
  have hp1:((k1:Int)<(n0:Int))∧((k1:Int)<15):=(And.intro (dT (AT hc1).1) (dT (AT hc1).2))
  refine wcT h21 rfl hc1<|h21.sk [8,7,6,5,4,0,1,2] rfl fun h22=>wp_skip<|hK10 _ _<|sq fun _ hK12=>wp_block ?_
  refine wp_region_lit<|mvs 3 h22 rfl fun _ h23=>sv1 h23 rfl (v:=.pointer (some ⟨bX,oX+k1*46,none⟩)) (It h23 rfl rfl rfl (fun w=>ixO υ22 κ (sz:=46) (hX ω).1 (j:=k1) rfl ω rfl w)) fun _ h24=>sw1 h24 rfl (v:=.agg (BB ((f k1).P) ((f k1).pa) ((f k1).P.N.length) ((f k1).pc) ((f k1).st) ((f k1).cr) ((f k1).qa) ((f k1).qs.length) ((f k1).qc)).toArray) (rld h24 rfl rfl (ldX (sz:=46) (n:=n0) (f:=(fun i=>dC20 (f i))) υ42 rfl κ (fun _=>rfl) (hX ω).2 (Nat.le_refl _) (s3.get 6 rfl:Below _ _ _∧_) (j:=k1) ω rfl)) fun _ h25=>cl h25 rfl Dc (Tp (x:=(f k1)) s3 sok50 ω hM51 (hw k1 ω)) fun _ v2 w5 r2 h26=>?_
  obtain ⟨Mx92,Sx93,frx94,rfl,s4,hso99,hM99,hel99⟩:=r2
  refine h26.sn [8,7,6,5,4,0,1,2] rfl fun h27=>hK12 _ _<|wp_region_lit<|mv h27 rfl fun _ h28=>bv h28 (z:=ν ((k1+1:Nat):Int)) rfl (NZ _ _ _ ω ω ω) fun _ h29=>h29.sk [32,31,7,6,5,4,0,1,2] rfl fun h30=>mv h30 rfl fun _ h31=>h31.sk [8,7,6,5,4,0,1,2] rfl fun h32=>wpList_nil ?_
  exact hK9 (k1+1) Mx92 Sx93 frx94 _ _ ⟨h32.subs rfl,s4,hso99,hM99,ω⟩ ω
 ·skip
  have hp2:(¬ ((k1:Int)<(n0:Int)))∨(¬ ((k1:Int)<15)):=((Wc hc1).imp (fun q=>(dF q)) (fun q=>(dF q)))
  refine wcF h21 rfl hc1<|h21.sk [8,7,6,5,4,0,1,2] rfl fun h33=>wp_exit ?_
  refine hK7 _ _ ?_
  refine sqr fun _ hK13=>sw1 h33 rfl (v:=.agg (pkC P pa P.N.length pc).toArray) (rld h33 rfl rfl (ldA υ39 rfl (n:=43) κ (s3.get 8 rfl:Blk _ _ _ _) rfl rfl)) fun _ h34=>cl h34 rfl GF ((by have z:=QZ (P:=P) (pa:=pa) (pc:=pc) s3 (px.S7 7 (by decide));rw [hQ] at z;exact z)) fun _ v3 w6 r3 h35=>?_
  obtain ⟨rfl,s5⟩:=r3
  refine stA h35 s5 8 rfl rfl rfl κ rfl rfl rfl rfl fun _ w8 h36 s6 _=>h36.sn [8,7,6,5,4,0,1,2] rfl fun h37=>hK13 _ _<|sq fun K2 hK14=>?_
  have hJ131:∀ (g1:Nat) (M1:MemM) (S1:List SideM) (f1:Bool) (A1:PkM) (b1:Bool) a' w',Kn 138 [(8,ν (k1:Int)),(7,π pg),(6,.bool false),(5,π g3),(4,π g4),(0,.slice a0 n0 c0),(1,.agg (pkC P pa P.N.length pc).toArray),(2,.agg (BB y.P y.pa y.P.N.length y.pc y.st y.cr y.qa y.qs.length y.qc).toArray),(9,π g1),(10,.bool b1)] a'→Sep w' [Ab g1 39 (pkC A1 none 0 0),Ab pg 54 [π mg,π cg,π rg,π dg],Ab cg 83 (An mg S1 f1),AF mg mb md mp M1,Ab dg 49 [π rg,.slice (some ⟨gs0,0,none⟩) 8 8,.bool fr56],Ab gs0 45 (S55.flatMap AH),AS rg rv rd ra M54,AM W W.heap.size,Ab g3 42 (BB y.P y.pa y.P.N.length y.pc y.st y.cr y.qa y.qs.length y.qc),Ab g4 39 (pkC Q pa P.N.length pc)]→(SOk S1 (k1+1))→(M1.V.length=23168)→(A1.N=[])→(b1=true→A1.I 19≠31→OnceP S1 Q A1)→K2 a' w':=by
   intro g1 M1 S1 f1 A1 b1 a2 w9 h38 s7 sok1 hM1 hAN1 hq1
   have h8S1:=sok1.len
   refine hK14 _ _ ?_
   refine sq fun _ hK15=>sqr fun _ hK16=>mvs 3 h38 rfl fun _ h39=>sg h39 (wF h39 rfl rfl rfl) rfl rfl rfl (v:=.pointer (some ⟨g1,19,none⟩)) (fun hC3=>by have hq:=(LC (BE hC3));exact rfa h39 rfl rfl (fun w=>IA g1 0 w) _) fun _ h40=>sg h40 (wF h40 rfl rfl rfl) rfl rfl rfl (v:=ν (A1.I 19)) (fun hC4=>by have hq:=(LC (BE hC4));exact (rld h40 rfl (opg rfl hC4) (ldB υ28 rfl (s7.get 0 rfl:Blk _ _ _ _) rfl))) fun _ h41=>sg h41 (wF h41 rfl rfl rfl) rfl rfl rfl (v:=.bool (decide ((A1.I 19)=31))) (fun hC5=>by have hq:=(LC (BE hC5));exact CW h41 rfl (opg rfl hC5) rfl (cEq _ _ _ _ rfl) _) fun _ h42=>sv1 h42 rfl (v:=.bool ((!b1)||(decide ((A1.I 19)=31)))) (Hh h42 rfl (E:=(!b1)) (F:=(decide ((A1.I 19)=31))) rfl rfl rfl (fun e=>if_pos (by rw [e];try rfl))) fun _ h43=>mv h43 rfl fun _ h44=>sg h44 (wF h44 rfl rfl rfl) rfl rfl rfl (v:=.pointer (some ⟨g4,1,none⟩)) (fun hC6=>by have hq:=(And.intro (LC (orF (BE hC6)).1) (dF (orF (BE hC6)).2));exact rfa h44 rfl rfl (fun w=>Cj g4 0 w) _) fun _ h45=>sg h45 (wF h45 rfl rfl rfl) rfl rfl rfl (v:=ν (Q.I 1)) (fun hC7=>by have hq:=(And.intro (LC (orF (BE hC7)).1) (dF (orF (BE hC7)).2));exact (rld h45 rfl (opg rfl hC7) (ldB υ3 rfl (s7.get 9 rfl:Blk _ _ _ _) rfl))) fun _ h46=>sg h46 (wF h46 rfl rfl rfl) rfl rfl rfl (v:=.bool (decide ((Q.I 1)<1))) (fun hC8=>by have hq:=(And.intro (LC (orF (BE hC8)).1) (dF (orF (BE hC8)).2));exact CW h46 rfl (opg rfl hC8) rfl (cLt _ _ _ _ rfl) _) fun _ h47=>?_
   refine sv1 h47 rfl (v:=.bool (((!b1)||(decide ((A1.I 19)=31)))||(decide ((Q.I 1)<1)))) (Hh h47 rfl (E:=((!b1)||(decide ((A1.I 19)=31)))) (F:=(decide ((Q.I 1)<1))) rfl rfl rfl (fun e=>if_pos (by rw [e];try rfl))) fun _ h48=>mv h48 rfl fun _ h49=>sg h49 (wF h49 rfl rfl rfl) rfl rfl rfl (v:=.pointer (some ⟨g4,1,none⟩)) (fun hC9=>by have hq:=(And.intro (And.intro (LC (orF (orF (BE hC9)).1).1) (dF (orF (orF (BE hC9)).1).2)) (dF (orF (BE hC9)).2));exact rfa h49 rfl rfl (fun w=>Cj g4 0 w) _) fun _ h50=>sg h50 (wF h50 rfl rfl rfl) rfl rfl rfl (v:=ν (Q.I 1)) (fun hC10=>by have hq:=(And.intro (And.intro (LC (orF (orF (BE hC10)).1).1) (dF (orF (orF (BE hC10)).1).2)) (dF (orF (BE hC10)).2));exact (rld h50 rfl (opg rfl hC10) (ldB υ3 rfl (s7.get 9 rfl:Blk _ _ _ _) rfl))) fun _ h51=>sg h51 (wF h51 rfl rfl rfl) rfl rfl rfl (v:=.bool (decide ((Q.I 1)>8))) (fun hC11=>by have hq:=(And.intro (And.intro (LC (orF (orF (BE hC11)).1).1) (dF (orF (orF (BE hC11)).1).2)) (dF (orF (BE hC11)).2));exact CW h51 rfl (opg rfl hC11) rfl (cGt _ _ _ _ rfl) _) fun _ h52=>sv1 h52 rfl (v:=.bool ((((!b1)||(decide ((A1.I 19)=31)))||(decide ((Q.I 1)<1)))||(decide ((Q.I 1)>8)))) (Hh h52 rfl (E:=(((!b1)||(decide ((A1.I 19)=31)))||(decide ((Q.I 1)<1)))) (F:=(decide ((Q.I 1)>8))) rfl rfl rfl (fun e=>if_pos (by rw [e];try rfl))) fun _ h53=>h53.sn [66,8,7,6,5,4,0,1,2,9,10] rfl fun h54=>hK16 _ _ ?_
   rcases bC ((((!b1)||(decide ((A1.I 19)=31)))||(decide ((Q.I 1)<1)))||(decide ((Q.I 1)>8))) with hc2 | hc2
   ·skip
    have hp3:(((b1=false)∨((A1.I 19)=31))∨((Q.I 1)<1))∨((Q.I 1)>8):=((orT hc2).imp (fun q=>((orT q).imp (fun q=>((orT q).imp (fun q=>(BE q)) (fun q=>(dT q)))) (fun q=>(dT q)))) (fun q=>(dT q)))
    refine wcT h54 rfl hc2<|h54.sk [8,7,6,5,4,0,1,2,9,10] rfl fun h55=>sqr fun _ hK17=>cl h55 rfl DB (MF s7) fun _ v4 w10 r4 h56=>?_
    obtain ⟨rfl,s9⟩:=r4
    refine h56.sk [67,8,7,5,4,0,1,2,9,10] rfl fun h57=>mv h57 rfl fun _ h58=>h58.sn [6,8,7,5,4,0,1,2,9,10] rfl fun h59=>hK17 _ _<|wp_ret ?_
    try simp only [Exit.then,Exit.inBlock]
    refine CY (v:=.bool true) (CX h59 rfl rfl) h59.defs ?_
    exact ⟨rfl,(s9.get 7 rfl:Below _ _ _∧_).1⟩
   ·skip
    have hp4:(((b1=true)∧(¬ ((A1.I 19)=31)))∧(¬ ((Q.I 1)<1)))∧(¬ ((Q.I 1)>8)):=(And.intro (And.intro (And.intro (LC (orF (orF (orF hc2).1).1).1) (dF (orF (orF (orF hc2).1).1).2)) (dF (orF (orF hc2).1).2)) (dF (orF hc2).2))
    have hon1:=hq1 hp4.1.1.1 hp4.1.1.2
    refine wcF h54 rfl hc2<|h54.sk [8,7,6,5,4,0,1,2,9,10] rfl fun h60=>wp_skip<|hK15 _ _<|sq fun K3 hK18=>?_
    have hJ200:∀ (M2:MemM) (S2:List SideM) (f2:Bool) (N2:MemM) (U2:List SideM) (gr2:Bool) a' w',Kn 138 [(8,ν (k1:Int)),(7,π pg),(6,.bool false),(5,π g3),(4,π g4),(0,.slice a0 n0 c0),(1,.agg (pkC P pa P.N.length pc).toArray),(2,.agg (BB y.P y.pa y.P.N.length y.pc y.st y.cr y.qa y.qs.length y.qc).toArray),(9,π g1),(10,.bool b1)] a'→Sep w' [Ab g1 39 (pkC A1 none 0 0),Ab pg 54 [π mg,π cg,π rg,π dg],Ab cg 83 (An mg S2 f2),AF mg mb md mp M2,Ab dg 49 [π rg,.slice (some ⟨gs0,0,none⟩) 8 8,.bool gr2],Ab gs0 45 (U2.flatMap AH),AS rg rv rd ra N2,AM W W.heap.size,Ab g3 42 (BB y.P y.pa y.P.N.length y.pc y.st y.cr y.qa y.qs.length y.qc),Ab g4 39 (pkC Q pa P.N.length pc)]→(SOk S2 ((k1+1)+1))→(M2.V.length=23168)→(OnceP S2 Q A1)→K3 a' w':=by
     intro M2 S2 f2 N2 U2 gr2 a3 w11 h61 s10 sok2 hM2 hon2
     have h8S2:=sok2.len
     refine hK18 _ _ ?_
     refine sqr fun _ hK19=>fav h61 rfl (Cj _ _) fun _ h62=>ldv h62 s10 9 υ3 rfl rfl rfl rfl fun _ h63=>bv h63 (z:=ν ((Q.I 1)-1)) rfl (Na _ _ _ ω ω ω) fun _ h64=>bv h64 (z:=ν (1024*((Q.I 1)-1))) rfl (WI _ _ _ ω ω ω) fun _ h65=>bv h65 (z:=ν (6784+1024*((Q.I 1)-1))) rfl (NZ _ _ _ ω ω ω) fun _ h66=>mv h66 rfl fun _ h67=>h67.sn [11,8,7,6,5,4,0,1,2,9,10] rfl fun h68=>hK19 _ _<|sq fun _ hK20=>wp_region_lit ?_
     refine mvs 2 h68 rfl fun _ h69=>fav h69 rfl (Dv _ _) fun _ h70=>ldv h70 s10 1 υ50 rfl rfl rfl rfl fun _ h71=>mv h71 rfl fun _ h72=>cl h72 rfl Ea (Nm (at_:=6784+1024*((Q.I 1)-1)) (n:=1024) (s10.pk [3,0,1,2,4,5,6,7,8,9] rfl) (decide_eq_true ω) (by unfold Kb;omega) (by unfold Kb;omega)) fun _ v5 w12 r5 h73=>?_
     obtain ⟨ra_x230,rc_x231,rfl,s11⟩:=r5
     refine mvs 5 h73 rfl fun _ h74=>h74.sn [12,11,8,7,6,5,4,0,1,2,9,10] rfl fun h75=>hK20 _ _<|sq fun K4 hK21=>?_
     have hJ251:∀ (g2:Nat) a' w',Kn 138 [(12,.slice ra_x230 ((Bc M2.V (6784+1024*((Q.I 1)-1)) 1024).length) rc_x231),(11,ν (6784+1024*((Q.I 1)-1))),(8,ν (k1:Int)),(7,π pg),(6,.bool false),(5,π g3),(4,π g4),(0,.slice a0 n0 c0),(1,.agg (pkC P pa P.N.length pc).toArray),(2,.agg (BB y.P y.pa y.P.N.length y.pc y.st y.cr y.qa y.qs.length y.qc).toArray),(9,π g1),(10,.bool b1),(14,π g2),(15,.bool true)] a'→Sep w' [Ab g2 39 (pkC A1 none 0 0),KD 0 5 1 ra_x230 ((Bc M2.V (6784+1024*((Q.I 1)-1)) 1024)).length rc_x231 (((Bc M2.V (6784+1024*((Q.I 1)-1)) 1024)).map Av),AF mg mb md mp M2,Ab g1 39 (pkC A1 none 0 0),Ab pg 54 [π mg,π cg,π rg,π dg],Ab cg 83 (An mg S2 false),Ab dg 49 [π rg,.slice (some ⟨gs0,0,none⟩) 8 8,.bool gr2],Ab gs0 45 (U2.flatMap AH),AS rg rv rd ra N2,AM W W.heap.size,Ab g3 42 (BB y.P y.pa y.P.N.length y.pc y.st y.cr y.qa y.qs.length y.qc),Ab g4 39 (pkC Q pa P.N.length pc)]→K4 a' w':=by
      intro g2 a4 w13 h76 s12
      refine hK21 _ _ ?_
      refine sqr fun _ hK22=>mvs 2 h76 rfl fun _ h77=>fav h77 rfl (Dv _ _) fun _ h78=>ldv h78 s12 4 υ50 rfl rfl rfl rfl fun _ h79=>mv h79 rfl fun _ h80=>cl h80 rfl Ea (Nm (at_:=6784+1024*((Q.I 1)-1)) (n:=1024) (s12.pk [2,0,1,3,4,5,6,7,8,9,10,11] rfl) (decide_eq_true ω) (by unfold Kb;omega) (by unfold Kb;omega)) fun _ v6 w14 r6 h81=>?_
      obtain ⟨ra_x267,rc_x268,rfl,s13⟩:=r6
      refine mvs 5 h81 rfl fun _ h82=>h82.sn [16,12,11,8,7,6,5,4,0,1,2,9,10,14,15] rfl fun h83=>hK22 _ _<|sqr fun _ hK23=>mvs 2 h83 rfl fun _ h84=>cl h84 rfl Gh (Du s13 (SE _ _ _ _ (Bc M2.V (6784+1024*((Q.I 1)-1)) 1024) _ (s13.get 3 rfl:Own _ _ _ _ _ _ _ _).row (s13.get 0 rfl:Own _ _ _ _ _ _ _ _).row (Nat.le_trans (show (List.take 1024 _).length≤1024 by rw [List.length_take];omega) (by decide)))) fun _ v7 w15 r7 h85=>?_
      obtain ⟨rfl,s14⟩:=r7
      refine mv h85 rfl fun _ h86=>h86.sn [18,16,12,11,8,7,6,5,4,0,1,2,9,10,14,15] rfl fun h87=>hK23 _ _<|sqr fun _ hK24=>sw1 h87 rfl (v:=.agg (pkC A1 none 0 0).toArray) (rld h87 rfl rfl (ldA υ39 rfl (n:=43) κ (s14.get 4 rfl:Blk _ _ _ _) rfl rfl)) fun _ h88=>sw1 h88 rfl (v:=.agg (pkC A1 none 0 0).toArray) (rld h88 rfl rfl (ldA υ39 rfl (n:=43) κ (s14.get 2 rfl:Blk _ _ _ _) rfl rfl)) fun _ h89=>cl h89 rfl Gi (Du s14 (Us hAN1 _)) fun _ v8 w16 r8 h90=>?_
      obtain ⟨rfl,s15⟩:=r8
      refine mv h90 rfl fun _ h91=>h91.sn [19,18,16,12,11,8,7,6,5,4,0,1,2,9,10,14,15] rfl fun h92=>hK24 _ _<|sqr fun _ hK25=>mvs 2 h92 rfl fun _ h93=>sv h93 (wT h93 (E:=true) rfl rfl rfl) rfl rfl rfl (v:=.bool true) (Ak h93 rfl rfl) fun _ h94=>sv1 h94 rfl (v:=.bool true) (CO h94 rfl rfl rfl) fun _ h95=>mv h95 rfl fun _ h96=>sv h96 (wT h96 (E:=true) rfl rfl rfl) rfl rfl rfl (v:=.bool true) (Ak h96 rfl rfl) fun _ h97=>sv1 h97 rfl (v:=.bool true) (CO h97 rfl rfl rfl) fun _ h98=>?_
      refine mv h98 rfl fun _ h99=>sv h99 (wT h99 (E:=true) rfl rfl rfl) rfl rfl rfl (v:=π pg) (Ak h99 rfl rfl) fun _ h100=>sv h100 (wT h100 (E:=true) rfl rfl rfl) rfl rfl rfl (v:=π pg) (Bp h100 rfl rfl) fun _ h101=>sv h101 (wT h101 (E:=true) rfl rfl rfl) rfl rfl rfl (v:=.pointer (some ⟨pg,1,none⟩)) (rfa h101 rfl rfl (fun w=>Co pg 0 w)) fun _ h102=>sw h102 (wT h102 (E:=true) rfl rfl rfl) rfl rfl rfl (v:=π cg) (rld h102 rfl rfl (ldB υ51 rfl (s15.get 5 rfl:Blk _ _ _ _) rfl)) fun _ h103=>so (wT h103 (E:=true) rfl rfl rfl) fun _ hK26=>Bd h103 rfl rfl rfl (xs:=[.tmp 131]) rfl Gq rfl (vs:=[π cg]) rfl (args:=#[π cg]) rfl (KO (s15.pk [6,0,1,2,3,4,5,7,8,9,10,11,12] rfl) h8S2) fun _ v9 w17 r9 h104=>hK26 _ _ ?_
      obtain ⟨rfl,s16⟩:=r9
      refine sv h104 (wT h104 (E:=true) rfl rfl rfl) rfl rfl rfl (v:=.bool true) (Ml h104 rfl (b:=false) rfl) fun _ h105=>sv1 h105 rfl (v:=.bool true) (CO h105 rfl rfl rfl) fun _ h106=>mv h106 rfl fun _ h107=>so (wT h107 (E:=true) rfl rfl rfl) fun _ hK27=>Bd h107 rfl rfl rfl (xs:=[]) rfl DB rfl (vs:=[]) rfl (args:=#[]) rfl (MF s16) fun _ v10 w18 r10 h108=>hK27 _ _ ?_
      obtain ⟨rfl,s17⟩:=r10
      refine sv1 h108 rfl (v:=.bool true) (CO h108 rfl rfl rfl) fun _ h109=>h109.sk [137,136,135,134,133,132,131,130,129,128,127,126,125,124,123,122,121,120,19,18,16,12,11,8,7,5,4,0,1,2,9,10,14,15] rfl fun h110=>mv h110 rfl fun _ h111=>h111.sn [6,19,18,16,12,11,8,7,5,4,0,1,2,9,10,14,15] rfl fun h112=>hK25 _ _<|wp_ret ?_

      refine CY (v:=.bool true) (CX h112 rfl rfl) h112.defs ?_
      exact ⟨rfl,(s17.get 10 rfl:Below _ _ _∧_).1⟩
     have s18:=s11.drew
     refine wp_region_held_drew (S:=fun w'=>Sep w' [KD 0 5 1 ra_x230 ((Bc M2.V (6784+1024*((Q.I 1)-1)) 1024)).length rc_x231 (((Bc M2.V (6784+1024*((Q.I 1)-1)) 1024)).map Av),AF mg mb md mp M2,Ab g1 39 (pkC A1 none 0 0),Ab pg 54 [π mg,π cg,π rg,π dg],Ab dg 49 [π rg,.slice (some ⟨gs0,0,none⟩) 8 8,.bool gr2],Ab gs0 45 (U2.flatMap AH),AS rg rv rd ra N2,AM W W.heap.size,Ab g3 42 (BB y.P y.pa y.P.N.length y.pc y.st y.cr y.qa y.qs.length y.qc),Ab g4 39 (pkC Q pa P.N.length pc)]) κ (s18.pk [0,1,2,3,5,6,7,8,9,10] rfl) (fun hq2=>?_)
     refine tv1 hq2 h75 0 rfl rfl (v:=π pg) (fun w1 _=>(Ak h75 rfl rfl) w1) fun _ h113=>?_
     refine tv1 hq2 h113 1 rfl rfl (v:=π pg) (fun w1 _=>(Bp h113 rfl rfl) w1) fun _ h114=>?_
     refine tv1 hq2 h114 2 rfl rfl (v:=.pointer (some ⟨pg,1,none⟩)) (fun w1 _=>(rfa h114 rfl rfl (fun w=>Co pg 0 w)) w1) fun _ h115=>?_
     refine tv1 hq2 h115 3 rfl rfl (v:=π cg) (fun w1 hSw=>(rld h115 rfl rfl (ldB υ51 rfl (hSw.get 3 rfl:Blk _ _ _ _) rfl))) fun _ h116=>?_
     refine tv1 hq2 h116 4 rfl rfl (v:=.agg (pkC Q pa P.N.length pc).toArray) (fun w1 hSw=>(rld h116 rfl rfl (ldA υ39 rfl (n:=43) κ (hSw.get 9 rfl:Blk _ _ _ _) rfl rfl))) fun _ h117=>?_
     refine wpAnyH_ready (rs:=[5,9]) κ (by simp) (toc rfl (wn rfl) (fun K5 hK28=>?_) (toc rfl (wn rfl) (fun K5 hK28=>?_) AllReadyH.nil))
     ·skip
      refine Bd h117 rfl rfl rfl (xs:=[.tmp 100,.tmp 101]) rfl Cy rfl (vs:=[π cg,.agg (pkC Q pa P.N.length pc).toArray]) rfl (args:=#[π cg,.agg (pkC Q pa P.N.length pc).toArray]) rfl (VR (Q:=Q) (s18.pk [4,1,8,0,2,3,5,6,7,9,10] rfl) sok2 hM2 qx hNl hon2) fun _ v11 w19 r11 h118=>?_
      obtain ⟨rfl,s19⟩:=r11
      refine hK28 _ _ (s19.pk [3,1,4,5,6,7,8,2,9,10] rfl) fun hq3=>?_
      refine tv1 hq3 h118 6 rfl rfl (v:=.tuple #[.agg (pkC A1 none 0 0).toArray,.bool true]) (fun w1 _=>(Ak h118 rfl rfl) w1) fun _ h119=>?_
      refine tv1 hq3 h119 7 rfl rfl (v:=.agg (pkC A1 none 0 0).toArray) (fun w1 _=>(CZ h119 rfl rfl rfl) w1) fun _ h120=>?_
      refine tv1 hq3 h120 8 rfl rfl (v:=.bool true) (fun w1 _=>(CZ h120 rfl rfl rfl) w1) fun _ h121=>?_
      refine to_ 9 rfl (wn rfl) κ fun _ hK29=>BN h121 rfl rfl rfl rfl (z:=[ν 0,ν 0,ν 0,ν 0,ν 0,ν 0,ν 0,σ [],ν 0,ν 0,ν 0,σ [],σ [],ν 0,ν 0,ν 0,ν 0,σ [],ν 0,ν 0,ν 0,ν 0,σ [],.slice none 0 0,ν 0,ν 0,ν 0,ν 0,ν 0,ν 0,ν 0,ν 0,ν 0,ν 0,ν 0,ν 0,ν 0,ν 0,ν 0,ν 0,ν 0,ν 0,ν 0]) (fun _=>rfl) s19 fun _ g5 w20 h122 s20 _ _=>?_
      refine hK29 _ _ (s20.pk [4,2,5,6,7,8,9,3,10,11] rfl) fun hq4=>?_
      refine to_ 10 rfl (wn rfl) κ fun _ hK30=>Bt h122 rfl rfl s20 0 rfl rfl rfl [ν (A1.I 0),ν (A1.I 1),ν (A1.I 2),ν (A1.I 3),ν (A1.I 4),ν (A1.I 5),ν (A1.I 6),σ (A1.S 7),ν (A1.I 8),ν (A1.I 9),ν (A1.I 10),σ (A1.S 11),σ (A1.S 12),ν (A1.I 13),ν (A1.I 14),ν (A1.I 15),ν (A1.I 16),σ (A1.S 17),ν (A1.I 18),ν (A1.I 19),ν (A1.I 20),ν (A1.I 21),σ (A1.S 22),.slice none 0 0,ν (A1.I 24),ν (A1.I 25),ν (A1.I 26),ν (A1.I 27),ν (A1.I 28),ν (A1.I 29),ν (A1.I 30),ν (A1.I 31),ν (A1.I 32),ν (A1.I 33),ν (A1.I 34),ν (A1.I 35),ν (A1.I 36),ν (A1.I 37),ν (A1.I 38),ν (A1.I 39),ν (A1.I 40),ν (A1.I 41),ν (A1.I 42)] rfl κ rfl (by show 0+43≤43;decide) (L':=[ν (A1.I 0),ν (A1.I 1),ν (A1.I 2),ν (A1.I 3),ν (A1.I 4),ν (A1.I 5),ν (A1.I 6),σ (A1.S 7),ν (A1.I 8),ν (A1.I 9),ν (A1.I 10),σ (A1.S 11),σ (A1.S 12),ν (A1.I 13),ν (A1.I 14),ν (A1.I 15),ν (A1.I 16),σ (A1.S 17),ν (A1.I 18),ν (A1.I 19),ν (A1.I 20),ν (A1.I 21),σ (A1.S 22),.slice none 0 0,ν (A1.I 24),ν (A1.I 25),ν (A1.I 26),ν (A1.I 27),ν (A1.I 28),ν (A1.I 29),ν (A1.I 30),ν (A1.I 31),ν (A1.I 32),ν (A1.I 33),ν (A1.I 34),ν (A1.I 35),ν (A1.I 36),ν (A1.I 37),ν (A1.I 38),ν (A1.I 39),ν (A1.I 40),ν (A1.I 41),ν (A1.I 42)]) rfl (cs':=[Ab g5 39 (pkC A1 none 0 0),Ab cg 83 (An mg S2 false),AF mg mb md mp M2,AM W W.heap.size,KD 0 5 1 ra_x230 ((Bc M2.V (6784+1024*((Q.I 1)-1)) 1024)).length rc_x231 (((Bc M2.V (6784+1024*((Q.I 1)-1)) 1024)).map Av),Ab g1 39 (pkC A1 none 0 0),Ab pg 54 [π mg,π cg,π rg,π dg],Ab dg 49 [π rg,.slice (some ⟨gs0,0,none⟩) 8 8,.bool gr2],Ab gs0 45 (U2.flatMap AH),AS rg rv rd ra N2,Ab g3 42 (BB y.P y.pa y.P.N.length y.pc y.st y.cr y.qa y.qs.length y.qc),Ab g4 39 (pkC Q pa P.N.length pc)]) rfl fun _ w21 h123 s21 _=>?_
      refine hK30 _ _ (s21.pk [4,2,5,6,7,8,9,3,10,11] rfl) fun hq5=>?_
      refine tv1 hq5 h123 11 rfl rfl (v:=.bool true) (fun w1 _=>(Ay h123 rfl rfl) w1) fun _ h124=>?_
      refine h124.sk [15,14,12,11,8,7,6,5,4,0,1,2,9,10] rfl fun h125=>?_
      refine wpAnyH_done κ ?_ _
      exact hJ251 g5 _ _ (h125.subs rfl) (s21.pk [0,4,2,5,6,1,7,8,9,3,10,11] rfl) 
     ·skip
      refine BN h117 rfl rfl rfl rfl (z:=[ν 0,ν 0,ν 0,ν 0,ν 0,ν 0,ν 0,σ [],ν 0,ν 0,ν 0,σ [],σ [],ν 0,ν 0,ν 0,ν 0,σ [],ν 0,ν 0,ν 0,ν 0,σ [],.slice none 0 0,ν 0,ν 0,ν 0,ν 0,ν 0,ν 0,ν 0,ν 0,ν 0,ν 0,ν 0,ν 0,ν 0,ν 0,ν 0,ν 0,ν 0,ν 0,ν 0]) (fun _=>rfl) s18 fun _ g6 w22 h126 s22 _ _=>hK28 _ _ (s22.pk [1,2,3,4,6,7,8,9,10,11] rfl) fun hq6=>?_
      refine to_ 5 rfl (wn rfl) κ fun _ hK31=>Bd h126 rfl rfl rfl (xs:=[.tmp 100,.tmp 101]) rfl Cy rfl (vs:=[π cg,.agg (pkC Q pa P.N.length pc).toArray]) rfl (args:=#[π cg,.agg (pkC Q pa P.N.length pc).toArray]) rfl (VR (Q:=Q) (s22.pk [5,2,9,0,1,3,4,6,7,8,10,11] rfl) sok2 hM2 qx hNl hon2) fun _ v12 w23 r12 h127=>?_
      obtain ⟨rfl,s23⟩:=r12
      refine hK31 _ _ (s23.pk [4,1,5,6,7,8,9,2,10,11] rfl) fun hq7=>?_
      refine tv1 hq7 h127 6 rfl rfl (v:=.tuple #[.agg (pkC A1 none 0 0).toArray,.bool true]) (fun w1 _=>(Ak h127 rfl rfl) w1) fun _ h128=>?_
      refine tv1 hq7 h128 7 rfl rfl (v:=.agg (pkC A1 none 0 0).toArray) (fun w1 _=>(CZ h128 rfl rfl rfl) w1) fun _ h129=>?_
      refine tv1 hq7 h129 8 rfl rfl (v:=.bool true) (fun w1 _=>(CZ h129 rfl rfl rfl) w1) fun _ h130=>?_
      refine to_ 10 rfl (wn rfl) κ fun _ hK32=>Bt h130 rfl rfl s23 3 rfl rfl rfl [ν (A1.I 0),ν (A1.I 1),ν (A1.I 2),ν (A1.I 3),ν (A1.I 4),ν (A1.I 5),ν (A1.I 6),σ (A1.S 7),ν (A1.I 8),ν (A1.I 9),ν (A1.I 10),σ (A1.S 11),σ (A1.S 12),ν (A1.I 13),ν (A1.I 14),ν (A1.I 15),ν (A1.I 16),σ (A1.S 17),ν (A1.I 18),ν (A1.I 19),ν (A1.I 20),ν (A1.I 21),σ (A1.S 22),.slice none 0 0,ν (A1.I 24),ν (A1.I 25),ν (A1.I 26),ν (A1.I 27),ν (A1.I 28),ν (A1.I 29),ν (A1.I 30),ν (A1.I 31),ν (A1.I 32),ν (A1.I 33),ν (A1.I 34),ν (A1.I 35),ν (A1.I 36),ν (A1.I 37),ν (A1.I 38),ν (A1.I 39),ν (A1.I 40),ν (A1.I 41),ν (A1.I 42)] rfl κ rfl (by show 0+43≤43;decide) (L':=[ν (A1.I 0),ν (A1.I 1),ν (A1.I 2),ν (A1.I 3),ν (A1.I 4),ν (A1.I 5),ν (A1.I 6),σ (A1.S 7),ν (A1.I 8),ν (A1.I 9),ν (A1.I 10),σ (A1.S 11),σ (A1.S 12),ν (A1.I 13),ν (A1.I 14),ν (A1.I 15),ν (A1.I 16),σ (A1.S 17),ν (A1.I 18),ν (A1.I 19),ν (A1.I 20),ν (A1.I 21),σ (A1.S 22),.slice none 0 0,ν (A1.I 24),ν (A1.I 25),ν (A1.I 26),ν (A1.I 27),ν (A1.I 28),ν (A1.I 29),ν (A1.I 30),ν (A1.I 31),ν (A1.I 32),ν (A1.I 33),ν (A1.I 34),ν (A1.I 35),ν (A1.I 36),ν (A1.I 37),ν (A1.I 38),ν (A1.I 39),ν (A1.I 40),ν (A1.I 41),ν (A1.I 42)]) rfl (cs':=[Ab cg 83 (An mg S2 false),AF mg mb md mp M2,AM W W.heap.size,Ab g6 39 (pkC A1 none 0 0),KD 0 5 1 ra_x230 ((Bc M2.V (6784+1024*((Q.I 1)-1)) 1024)).length rc_x231 (((Bc M2.V (6784+1024*((Q.I 1)-1)) 1024)).map Av),Ab g1 39 (pkC A1 none 0 0),Ab pg 54 [π mg,π cg,π rg,π dg],Ab dg 49 [π rg,.slice (some ⟨gs0,0,none⟩) 8 8,.bool gr2],Ab gs0 45 (U2.flatMap AH),AS rg rv rd ra N2,Ab g3 42 (BB y.P y.pa y.P.N.length y.pc y.st y.cr y.qa y.qs.length y.qc),Ab g4 39 (pkC Q pa P.N.length pc)]) rfl fun _ w24 h131 s24 _=>?_
      refine hK32 _ _ (s24.pk [4,1,5,6,7,8,9,2,10,11] rfl) fun hq8=>?_
      refine tv1 hq8 h131 11 rfl rfl (v:=.bool true) (fun w1 _=>(Ay h131 rfl rfl) w1) fun _ h132=>?_
      refine h132.sk [15,14,12,11,8,7,6,5,4,0,1,2,9,10] rfl fun h133=>?_
      refine wpAnyH_done κ ?_ _
      exact hJ251 g6 _ _ (h133.subs rfl) (s24.pk [3,4,1,5,6,0,7,8,9,2,10,11] rfl) 
    refine sqr fun _ hK33=>fav h60 rfl (FB _ _) fun _ h134=>fav h134 rfl (Cj _ _) fun _ h135=>ldv h135 s7 8 υ3 rfl rfl rfl rfl fun _ h136=>fav h136 rfl (Cj _ _) fun _ h137=>ldv h137 s7 9 υ3 rfl rfl rfl rfl fun _ h138=>bv h138 (z:=.bool (decide ((y.P.I 1)≠(Q.I 1)))) rfl (cNe _ _ _ _ rfl) fun _ h139=>mv h139 rfl fun _ h140=>sg h140 (wT h140 rfl rfl rfl) rfl rfl rfl (v:=.pointer (some ⟨g3,44,none⟩)) (fun hC12=>by have hq:=(dT hC12);exact rfa h140 rfl rfl (fun w=>FC g3 0 w) _) fun _ h141=>sg h141 (wT h141 rfl rfl rfl) rfl rfl rfl (v:=.bool y.cr) (fun hC13=>by have hq:=(dT hC13);exact (rld h141 rfl (opg rfl hC13) (ldB υ4 rfl (s7.get 8 rfl:Blk _ _ _ _) rfl))) fun _ h142=>?_
    refine sg h142 (wT h142 rfl rfl rfl) rfl rfl rfl (v:=.bool (!y.cr)) (fun hC14=>by have hq:=(dT hC14);exact Ml h142 rfl (b:=y.cr) (opg rfl hC14) _) fun _ h143=>sv1 h143 rfl (v:=.bool ((decide ((y.P.I 1)≠(Q.I 1)))&&(!y.cr))) (Ie h143 rfl (E:=(decide ((y.P.I 1)≠(Q.I 1)))) (F:=(!y.cr)) rfl rfl rfl (fun e=>if_pos (by rw [e];try rfl))) fun _ h144=>h144.sn [78,8,7,6,5,4,0,1,2,9,10] rfl fun h145=>hK33 _ _ ?_
    rcases bC ((decide ((y.P.I 1)≠(Q.I 1)))&&(!y.cr)) with hc3 | hc3
    ·skip
     have hp5:((y.P.I 1)≠(Q.I 1))∧(y.cr=false):=(And.intro (dT (AT hc3).1) (BE (AT hc3).2))
     refine wcT h145 rfl hc3<|h145.sk [8,7,6,5,4,0,1,2,9,10] rfl fun h146=>wp_region_lit<|mv h146 rfl fun _ h147=>sw1 h147 rfl (v:=.agg (BB y.P y.pa y.P.N.length y.pc y.st y.cr y.qa y.qs.length y.qc).toArray) (rld h147 rfl rfl (ldA υ42 rfl (n:=46) κ (s7.get 8 rfl:Blk _ _ _ _) rfl rfl)) fun _ h148=>cl h148 rfl Dc (Tq (x:=y) (s7.pk [1,2,3,4,5,6,7,0,8,9] rfl) sok1 (sok50.le (Nat.le_succ _)) ω hM1 hM51 hy) fun _ v13 w25 r13 h149=>?_
     obtain ⟨Mx479,Sx480,frx481,Nx482,Ux483,grx484,bbx485,rfl,s25,hso490,hM490,hel490⟩:=r13
     refine h149.sk [8,7,6,5,4,0,1,2,9,10] rfl fun h150=>wpList_nil ?_
     exact hJ200 Mx479 Sx480 frx481 Nx482 Ux483 grx484 _ _ (h150.subs rfl) (s25.pk [7,0,1,2,3,4,5,6,8,9] rfl) hso490 hM490 (hon1.else (c:=y.P.I 1) hp5.1 (hel490 (by simpa using hp5.2)))
    ·skip
     have hp6:(¬ ((y.P.I 1)≠(Q.I 1)))∨(y.cr=true):=((Wc hc3).imp (fun q=>(dF q)) (fun q=>(LC q)))
     refine wcF h145 rfl hc3<|h145.sk [8,7,6,5,4,0,1,2,9,10] rfl fun h151=>wp_skip ?_
     exact hJ200 M1 S1 f1 M54 S55 fr56 _ _ (h151.subs rfl) s7 (sok1.le (Nat.le_succ _)) hM1 hon1
  have s26:=s6.drew
  refine wp_region_held_drew (S:=fun w'=>Sep w' [Ab pg 54 [π mg,π cg,π rg,π dg],Ab dg 49 [π rg,.slice (some ⟨gs0,0,none⟩) 8 8,.bool fr56],Ab gs0 45 (S55.flatMap AH),AS rg rv rd ra M54,AM W W.heap.size,Ab g3 42 (BB y.P y.pa y.P.N.length y.pc y.st y.cr y.qa y.qs.length y.qc),Ab g4 39 (pkC Q pa P.N.length pc)]) κ (s26.pk [0,3,4,5,6,7,8] rfl) (fun hq9=>?_)
  refine tv1 hq9 h37 0 rfl rfl (v:=π pg) (fun w1 _=>(Ak h37 rfl rfl) w1) fun _ h152=>?_
  refine tv1 hq9 h152 1 rfl rfl (v:=π pg) (fun w1 _=>(Bp h152 rfl rfl) w1) fun _ h153=>?_
  refine tv1 hq9 h153 2 rfl rfl (v:=.pointer (some ⟨pg,1,none⟩)) (fun w1 _=>(rfa h153 rfl rfl (fun w=>Co pg 0 w)) w1) fun _ h154=>?_
  refine tv1 hq9 h154 3 rfl rfl (v:=π cg) (fun w1 hSw=>(rld h154 rfl rfl (ldB υ51 rfl (hSw.get 0 rfl:Blk _ _ _ _) rfl))) fun _ h155=>?_
  refine tv1 hq9 h155 4 rfl rfl (v:=.agg (pkC Q pa P.N.length pc).toArray) (fun w1 hSw=>(rld h155 rfl rfl (ldA υ39 rfl (n:=43) κ (hSw.get 6 rfl:Blk _ _ _ _) rfl rfl))) fun _ h156=>?_
  refine wpAnyH_ready (rs:=[5,9]) κ (by simp) (toc rfl (wn rfl) (fun K6 hK34=>?_) (toc rfl (wn rfl) (fun K6 hK34=>?_) AllReadyH.nil))
  ·skip
   refine Bd h156 rfl rfl rfl (xs:=[.tmp 45,.tmp 46]) rfl Cy rfl (vs:=[π cg,.agg (pkC Q pa P.N.length pc).toArray]) rfl (args:=#[π cg,.agg (pkC Q pa P.N.length pc).toArray]) rfl (VQ (Q:=Q) (s26.pk [1,2,6,0,3,4,5,7,8] rfl) sok50 hM51 qx hNl) fun _ v14 w26 r14 h157=>?_
   obtain ⟨Mx510,Sx511,frx512,Ax513,bx514,rfl,s27,hso519,hM519,hAN519,hq10⟩:=r14
   refine hK34 _ _ (s27.pk [3,4,5,6,2,7,8] rfl) fun hq11=>?_
   refine tv1 hq11 h157 6 rfl rfl (v:=.tuple #[.agg (pkC Ax513 none 0 0).toArray,.bool bx514]) (fun w1 _=>(Ak h157 rfl rfl) w1) fun _ h158=>?_
   refine tv1 hq11 h158 7 rfl rfl (v:=.agg (pkC Ax513 none 0 0).toArray) (fun w1 _=>(CZ h158 rfl rfl rfl) w1) fun _ h159=>?_
   refine tv1 hq11 h159 8 rfl rfl (v:=.bool bx514) (fun w1 _=>(CZ h159 rfl rfl rfl) w1) fun _ h160=>?_
   refine to_ 9 rfl (wn rfl) κ fun _ hK35=>BN h160 rfl rfl rfl rfl (z:=[ν 0,ν 0,ν 0,ν 0,ν 0,ν 0,ν 0,σ [],ν 0,ν 0,ν 0,σ [],σ [],ν 0,ν 0,ν 0,ν 0,σ [],ν 0,ν 0,ν 0,ν 0,σ [],.slice none 0 0,ν 0,ν 0,ν 0,ν 0,ν 0,ν 0,ν 0,ν 0,ν 0,ν 0,ν 0,ν 0,ν 0,ν 0,ν 0,ν 0,ν 0,ν 0,ν 0]) (fun _=>rfl) s27 fun _ g7 w27 h161 s28 _ _=>?_
   refine hK35 _ _ (s28.pk [4,5,6,7,3,8,9] rfl) fun hq12=>?_
   refine to_ 10 rfl (wn rfl) κ fun _ hK36=>Bt h161 rfl rfl s28 0 rfl rfl rfl [ν (Ax513.I 0),ν (Ax513.I 1),ν (Ax513.I 2),ν (Ax513.I 3),ν (Ax513.I 4),ν (Ax513.I 5),ν (Ax513.I 6),σ (Ax513.S 7),ν (Ax513.I 8),ν (Ax513.I 9),ν (Ax513.I 10),σ (Ax513.S 11),σ (Ax513.S 12),ν (Ax513.I 13),ν (Ax513.I 14),ν (Ax513.I 15),ν (Ax513.I 16),σ (Ax513.S 17),ν (Ax513.I 18),ν (Ax513.I 19),ν (Ax513.I 20),ν (Ax513.I 21),σ (Ax513.S 22),.slice none 0 0,ν (Ax513.I 24),ν (Ax513.I 25),ν (Ax513.I 26),ν (Ax513.I 27),ν (Ax513.I 28),ν (Ax513.I 29),ν (Ax513.I 30),ν (Ax513.I 31),ν (Ax513.I 32),ν (Ax513.I 33),ν (Ax513.I 34),ν (Ax513.I 35),ν (Ax513.I 36),ν (Ax513.I 37),ν (Ax513.I 38),ν (Ax513.I 39),ν (Ax513.I 40),ν (Ax513.I 41),ν (Ax513.I 42)] rfl κ rfl (by show 0+43≤43;decide) (L':=[ν (Ax513.I 0),ν (Ax513.I 1),ν (Ax513.I 2),ν (Ax513.I 3),ν (Ax513.I 4),ν (Ax513.I 5),ν (Ax513.I 6),σ (Ax513.S 7),ν (Ax513.I 8),ν (Ax513.I 9),ν (Ax513.I 10),σ (Ax513.S 11),σ (Ax513.S 12),ν (Ax513.I 13),ν (Ax513.I 14),ν (Ax513.I 15),ν (Ax513.I 16),σ (Ax513.S 17),ν (Ax513.I 18),ν (Ax513.I 19),ν (Ax513.I 20),ν (Ax513.I 21),σ (Ax513.S 22),.slice none 0 0,ν (Ax513.I 24),ν (Ax513.I 25),ν (Ax513.I 26),ν (Ax513.I 27),ν (Ax513.I 28),ν (Ax513.I 29),ν (Ax513.I 30),ν (Ax513.I 31),ν (Ax513.I 32),ν (Ax513.I 33),ν (Ax513.I 34),ν (Ax513.I 35),ν (Ax513.I 36),ν (Ax513.I 37),ν (Ax513.I 38),ν (Ax513.I 39),ν (Ax513.I 40),ν (Ax513.I 41),ν (Ax513.I 42)]) rfl (cs':=[Ab g7 39 (pkC Ax513 none 0 0),Ab cg 83 (An mg Sx511 frx512),AF mg mb md mp Mx510,AM W W.heap.size,Ab pg 54 [π mg,π cg,π rg,π dg],Ab dg 49 [π rg,.slice (some ⟨gs0,0,none⟩) 8 8,.bool fr56],Ab gs0 45 (S55.flatMap AH),AS rg rv rd ra M54,Ab g3 42 (BB y.P y.pa y.P.N.length y.pc y.st y.cr y.qa y.qs.length y.qc),Ab g4 39 (pkC Q pa P.N.length pc)]) rfl fun _ w28 h162 s29 _=>?_
   refine hK36 _ _ (s29.pk [4,5,6,7,3,8,9] rfl) fun hq13=>?_
   refine tv1 hq13 h162 11 rfl rfl (v:=.bool bx514) (fun w1 _=>(Ay h162 rfl rfl) w1) fun _ h163=>?_
   refine h163.sk [10,9,8,7,6,5,4,0,1,2] rfl fun h164=>?_
   refine wpAnyH_done κ ?_ _
   exact hJ131 g7 Mx510 Sx511 frx512 Ax513 bx514 _ _ (h164.subs rfl) (s29.pk [0,4,1,2,5,6,7,3,8,9] rfl) hso519 hM519 hAN519 hq10
  ·skip
   refine BN h156 rfl rfl rfl rfl (z:=[ν 0,ν 0,ν 0,ν 0,ν 0,ν 0,ν 0,σ [],ν 0,ν 0,ν 0,σ [],σ [],ν 0,ν 0,ν 0,ν 0,σ [],ν 0,ν 0,ν 0,ν 0,σ [],.slice none 0 0,ν 0,ν 0,ν 0,ν 0,ν 0,ν 0,ν 0,ν 0,ν 0,ν 0,ν 0,ν 0,ν 0,ν 0,ν 0,ν 0,ν 0,ν 0,ν 0]) (fun _=>rfl) s26 fun _ g8 w29 h165 s30 _ _=>hK34 _ _ (s30.pk [1,4,5,6,7,8,9] rfl) fun hq14=>?_
   refine to_ 5 rfl (wn rfl) κ fun _ hK37=>Bd h165 rfl rfl rfl (xs:=[.tmp 45,.tmp 46]) rfl Cy rfl (vs:=[π cg,.agg (pkC Q pa P.N.length pc).toArray]) rfl (args:=#[π cg,.agg (pkC Q pa P.N.length pc).toArray]) rfl (VQ (Q:=Q) (s30.pk [2,3,7,0,1,4,5,6,8,9] rfl) sok50 hM51 qx hNl) fun _ v15 w30 r15 h166=>?_
   obtain ⟨Mx555,Sx556,frx557,Ax558,bx559,rfl,s31,hso564,hM564,hAN564,hq15⟩:=r15
   refine hK37 _ _ (s31.pk [4,5,6,7,2,8,9] rfl) fun hq16=>?_
   refine tv1 hq16 h166 6 rfl rfl (v:=.tuple #[.agg (pkC Ax558 none 0 0).toArray,.bool bx559]) (fun w1 _=>(Ak h166 rfl rfl) w1) fun _ h167=>?_
   refine tv1 hq16 h167 7 rfl rfl (v:=.agg (pkC Ax558 none 0 0).toArray) (fun w1 _=>(CZ h167 rfl rfl rfl) w1) fun _ h168=>?_
   refine tv1 hq16 h168 8 rfl rfl (v:=.bool bx559) (fun w1 _=>(CZ h168 rfl rfl rfl) w1) fun _ h169=>?_
   refine to_ 10 rfl (wn rfl) κ fun _ hK38=>Bt h169 rfl rfl s31 3 rfl rfl rfl [ν (Ax558.I 0),ν (Ax558.I 1),ν (Ax558.I 2),ν (Ax558.I 3),ν (Ax558.I 4),ν (Ax558.I 5),ν (Ax558.I 6),σ (Ax558.S 7),ν (Ax558.I 8),ν (Ax558.I 9),ν (Ax558.I 10),σ (Ax558.S 11),σ (Ax558.S 12),ν (Ax558.I 13),ν (Ax558.I 14),ν (Ax558.I 15),ν (Ax558.I 16),σ (Ax558.S 17),ν (Ax558.I 18),ν (Ax558.I 19),ν (Ax558.I 20),ν (Ax558.I 21),σ (Ax558.S 22),.slice none 0 0,ν (Ax558.I 24),ν (Ax558.I 25),ν (Ax558.I 26),ν (Ax558.I 27),ν (Ax558.I 28),ν (Ax558.I 29),ν (Ax558.I 30),ν (Ax558.I 31),ν (Ax558.I 32),ν (Ax558.I 33),ν (Ax558.I 34),ν (Ax558.I 35),ν (Ax558.I 36),ν (Ax558.I 37),ν (Ax558.I 38),ν (Ax558.I 39),ν (Ax558.I 40),ν (Ax558.I 41),ν (Ax558.I 42)] rfl κ rfl (by show 0+43≤43;decide) (L':=[ν (Ax558.I 0),ν (Ax558.I 1),ν (Ax558.I 2),ν (Ax558.I 3),ν (Ax558.I 4),ν (Ax558.I 5),ν (Ax558.I 6),σ (Ax558.S 7),ν (Ax558.I 8),ν (Ax558.I 9),ν (Ax558.I 10),σ (Ax558.S 11),σ (Ax558.S 12),ν (Ax558.I 13),ν (Ax558.I 14),ν (Ax558.I 15),ν (Ax558.I 16),σ (Ax558.S 17),ν (Ax558.I 18),ν (Ax558.I 19),ν (Ax558.I 20),ν (Ax558.I 21),σ (Ax558.S 22),.slice none 0 0,ν (Ax558.I 24),ν (Ax558.I 25),ν (Ax558.I 26),ν (Ax558.I 27),ν (Ax558.I 28),ν (Ax558.I 29),ν (Ax558.I 30),ν (Ax558.I 31),ν (Ax558.I 32),ν (Ax558.I 33),ν (Ax558.I 34),ν (Ax558.I 35),ν (Ax558.I 36),ν (Ax558.I 37),ν (Ax558.I 38),ν (Ax558.I 39),ν (Ax558.I 40),ν (Ax558.I 41),ν (Ax558.I 42)]) rfl (cs':=[Ab cg 83 (An mg Sx556 frx557),AF mg mb md mp Mx555,AM W W.heap.size,Ab g8 39 (pkC Ax558 none 0 0),Ab pg 54 [π mg,π cg,π rg,π dg],Ab dg 49 [π rg,.slice (some ⟨gs0,0,none⟩) 8 8,.bool fr56],Ab gs0 45 (S55.flatMap AH),AS rg rv rd ra M54,Ab g3 42 (BB y.P y.pa y.P.N.length y.pc y.st y.cr y.qa y.qs.length y.qc),Ab g4 39 (pkC Q pa P.N.length pc)]) rfl fun _ w31 h170 s32 _=>?_
   refine hK38 _ _ (s32.pk [4,5,6,7,2,8,9] rfl) fun hq17=>?_
   refine tv1 hq17 h170 11 rfl rfl (v:=.bool bx559) (fun w1 _=>(Ay h170 rfl rfl) w1) fun _ h171=>?_
   refine h171.sk [10,9,8,7,6,5,4,0,1,2] rfl fun h172=>?_
   refine wpAnyH_done κ ?_ _
   exact hJ131 g8 Mx555 Sx556 frx557 Ax558 bx559 _ _ (h172.subs rfl) (s32.pk [3,4,0,1,5,6,7,2,8,9] rfl) hso564 hM564 hAN564 hq15
end
end Go.Proofs.YtjgajoljgepioaaGreat
