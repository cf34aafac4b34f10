/- Parts of the proof. -/
import Derived.Test.YtjgajoljgepioaaGreatQal
namespace Go.Proofs.YtjgajoljgepioaaGreat
open Go.RowKit
set_option linter.unusedSimpArgs false
set_option linter.unusedVariables false
set_option linter.unusedSectionVars false
set_option maxRecDepth 100000
set_option maxHeartbeats 8000000
section
theorem UC {P Q:PkM} (hP:P.N=[]) (hQ:Q.N=[]) (w:World):Calls Tryz.prog 20 #[.agg (pk0 P).toArray,.agg (pk0 Q).toArray] w fun e w'=>e=.returned (.bool (BT P Q))∧Below w.heap.size w w':=by
 have r:Row w 1 none P.N.length 0 (P.N.map AP):=by rw [hP];exact Row.nil w 1
 have r2:Row w 1 none Q.N.length 0 (Q.N.map AP):=by rw [hQ];exact Row.nil w 1
 have z:=DN P Q none none 0 0 w r r2
 rw [hP,hQ] at z;exact z
theorem Wf {w:World} {R:List Ch} {P:PkM} {pa:Option Addr} {pc:Nat} {cg mg mb md mp B k:Nat} {S:List SideM} {fr:Bool} {M:MemM} {W:World} (hS0:Sep w ([Ab cg 83 (Ao mg S fr),AK mg mb md mp M,AR W B]++R)) (sok:SOk S k) (hM:M.V.length=23168) (hB:B=W.heap.size) (wP:wfP P) (hP:Bf P) (hS7:shortP P) (hN:∀ s∈P.N,s.length≤1100000) (hn9:P.N.length≤1100000) (hNm:Row W 1 pa P.N.length pc (P.N.map AP)) :
  CallsR Tryz.prog 17 #[π cg,.agg (pkC P pa P.N.length pc).toArray] w (fun v w'=>∃ M' S' fr' Q b,v=.tuple #[.agg (pk0 Q).toArray,.bool b]∧Sep w' ([Ab cg 83 (Ao mg S' fr'),AK mg mb md mp M',AR W B]++R)∧SOk S' (k+1)∧M'.V.length=23168∧Q.N=[]∧(∀ j:Nat,(j:Int)+1≠P.I 1→S'.getD j (Ac 0)=S.getD j (Ac 0))∧doC ⟨M,S,fr⟩ P=(⟨M',S',fr'⟩,Q,b)):=
 CallsR.mono (Tu hS0 sok.len hM hB wP hP hS7 hN hn9 hNm) fun v w' ⟨M',S',fr',Q,b,e,s,hd⟩=>by
  have z:=Tr (fr:=fr) (P:=P) sok hM
  rw [hd] at z
  exact ⟨M',S',fr',Q,b,e,s,z.1,z.2.2,z.2.1,fun j hj=>Tq hd j hj,hd⟩
theorem Tt {w:World} {R:List Ch} {P:PkM} {pa:Option Addr} {pc:Nat} {dg gs0 rg rv rd ra B k:Nat} {S:List SideM} {fr:Bool} {M:MemM} {W:World} (hS0:Sep w ([Ab dg 49 [π rg,.slice (some ⟨gs0,0,none⟩) 8 8,.bool fr],Ab gs0 45 (S.flatMap AL),AZ rg rv rd ra M,AR W B]++R)) (sok:SOk S k) (hk:k≤1000) (hM:M.V.length=23168) (hB:B=W.heap.size) (wP:wfP P) (hP:Bf P) (hS7:shortP P) (hN:∀ s∈P.N,s.length≤1100000) (hn9:P.N.length≤1100000) (hNm:Row W 1 pa P.N.length pc (P.N.map AP)) :
  CallsR Tryz.prog 26 #[π dg,.agg (pkC P pa P.N.length pc).toArray] w (fun v w'=>∃ M' S' fr' Q b,v=.tuple #[.agg (pk0 Q).toArray,.bool b]∧Sep w' ([Ab dg 49 [π rg,.slice (some ⟨gs0,0,none⟩) 8 8,.bool fr'],Ab gs0 45 (S'.flatMap AL),AZ rg rv rd ra M',AR W B]++R)∧SOk S' (k+1)∧M'.V.length=23168∧Q.N=[]∧doC ⟨M,S,fr⟩ P=(⟨M',S',fr'⟩,Q,b)):=
 CallsR.mono (WV hS0 sok.len hM hB (fun j=>by have:=sok.get j;unfold wfI;omega) wP hP hS7 hN hn9 hNm) fun v w' ⟨M',S',fr',Q,b,e,s,hd⟩=>by
  have z:=Tr (fr:=fr) (P:=P) sok hM
  rw [hd] at z
  exact ⟨M',S',fr',Q,b,e,s,z.1,z.2.2,z.2.1,hd⟩
theorem FF (g off:Nat) (w:World):(Instr.fieldAt 42 (.pointer (some ⟨g,off,none⟩)) 0).run Tryz.prog w=.ok (.pointer (some ⟨g,off+0,none⟩)) w:=rfl
theorem GN (args:Array Value) (w:World):(callFunc 14 args).run Tryz.prog w=.ok (.enter 14 args) w:=by
 have h:=Tryz.func14
 go_simp
theorem FH (g off:Nat) (w:World):(Instr.fieldAt 42 (.pointer (some ⟨g,off,none⟩)) 2).run Tryz.prog w=.ok (.pointer (some ⟨g,off+44,none⟩)) w:=rfl
theorem AO (g off:Nat) (w:World):(Instr.fieldAt 42 (.pointer (some ⟨g,off,none⟩)) 3).run Tryz.prog w=.ok (.pointer (some ⟨g,off+45,none⟩)) w:=rfl
theorem Dt (g off:Nat) (w:World):(Instr.fieldAt 54 (.pointer (some ⟨g,off,none⟩)) 0).run Tryz.prog w=.ok (.pointer (some ⟨g,off+0,none⟩)) w:=rfl
theorem DT (args:Array Value) (w:World):(callFunc 23 args).run Tryz.prog w=.ok (.enter 23 args) w:=by
 have h:=Tryz.func23
 go_simp
theorem Du (g off:Nat) (w:World):(Instr.fieldAt 54 (.pointer (some ⟨g,off,none⟩)) 2).run Tryz.prog w=.ok (.pointer (some ⟨g,off+2,none⟩)) w:=rfl
theorem Cy (args:Array Value) (w:World):(callFunc 24 args).run Tryz.prog w=.ok (.enter 24 args) w:=by
 have h:=Tryz.func24
 go_simp
theorem FG (g off:Nat) (w:World):(Instr.fieldAt 42 (.pointer (some ⟨g,off,none⟩)) 1).run Tryz.prog w=.ok (.pointer (some ⟨g,off+43,none⟩)) w:=rfl
theorem Cl (g off:Nat) (w:World):(Instr.fieldAt 54 (.pointer (some ⟨g,off,none⟩)) 1).run Tryz.prog w=.ok (.pointer (some ⟨g,off+1,none⟩)) w:=rfl
theorem Bu (g off:Nat) (w:World):(Instr.fieldAt 39 (.pointer (some ⟨g,off,none⟩)) 1).run Tryz.prog w=.ok (.pointer (some ⟨g,off+1,none⟩)) w:=rfl
theorem Fo (g off:Nat) (w:World):(Instr.fieldAt 39 (.pointer (some ⟨g,off,none⟩)) 2).run Tryz.prog w=.ok (.pointer (some ⟨g,off+2,none⟩)) w:=rfl
theorem Ce (args:Array Value) (w:World):(callFunc 25 args).run Tryz.prog w=.ok (.enter 25 args) w:=by
 have h:=Tryz.func25
 go_simp
theorem Cm (g off:Nat) (w:World):(Instr.fieldAt 54 (.pointer (some ⟨g,off,none⟩)) 3).run Tryz.prog w=.ok (.pointer (some ⟨g,off+3,none⟩)) w:=rfl
theorem FK (g off:Nat) (w:World):(Instr.fieldAt 49 (.pointer (some ⟨g,off,none⟩)) 1).run Tryz.prog w=.ok (.pointer (some ⟨g,off+1,none⟩)) w:=rfl
theorem Gp (args:Array Value) (w:World):(callFunc 20 args).run Tryz.prog w=.ok (.enter 20 args) w:=by
 have h:=Tryz.func20
 go_simp
theorem FL (g off:Nat) (w:World):(Instr.fieldAt 49 (.pointer (some ⟨g,off,none⟩)) 2).run Tryz.prog w=.ok (.pointer (some ⟨g,off+2,none⟩)) w:=rfl
theorem Gw (args:Array Value) (w:World):(callFunc 19 args).run Tryz.prog w=.ok (.enter 19 args) w:=by
 have h:=Tryz.func19
 go_simp
theorem Dg (args:Array Value) (w:World):(callFunc 26 args).run Tryz.prog w=.ok (.enter 26 args) w:=by
 have h:=Tryz.func26
 go_simp
theorem EC (args:Array Value) (w:World):(callFunc 17 args).run Tryz.prog w=.ok (.enter 17 args) w:=by
 have h:=Tryz.func17
 go_simp
theorem Tw {w:World} {R:List Ch} {P:PkM} {pa:Option Addr} {pc:Nat} {pg cg mg mb md mp dg gs0 rg rv rd ra B k:Nat} {S U:List SideM} {fr gr dst dcr:Bool} {M N:MemM} {W:World} {qa:Option Addr} {qc:Nat} {qs:List Int} (hS0:Sep w ([Ab pg 54 [π mg,π cg,π rg,π dg],Ab cg 83 (Ao mg S fr),AK mg mb md mp M,Ab dg 49 [π rg,.slice (some ⟨gs0,0,none⟩) 8 8,.bool gr],Ab gs0 45 (U.flatMap AL),AZ rg rv rd ra N,AR W B]++R)) (sok:SOk S k) (uok:SOk U k) (hk:k≤1000) (hM:M.V.length=23168) (hN2:N.V.length=23168) (hB:B=W.heap.size) (wP:wfP P) (hS7:shortP P) (hN:∀ s∈P.N,s.length≤1100000) (hn9:P.N.length≤1100000) (hNm:Row W 1 pa P.N.length pc (P.N.map AP)) (hqs:GK W qa qc qs) (hqo:Gh qs) :
  CallsR Tryz.prog 8 #[π pg,.agg (Dh P pa P.N.length pc dst dcr qa qs.length qc).toArray] w (fun v w'=>∃ M' S' fr' N' U' gr' bb,v=.bool bb∧Sep w' ([Ab pg 54 [π mg,π cg,π rg,π dg],Ab cg 83 (Ao mg S' fr'),AK mg mb md mp M',Ab dg 49 [π rg,.slice (some ⟨gs0,0,none⟩) 8 8,.bool gr'],Ab gs0 45 (U'.flatMap AL),AZ rg rv rd ra N',AR W B]++R)∧SOk S' (k+1)∧M'.V.length=23168∧SOk U' (k+1)∧N'.V.length=23168∧(dcr=false→∀ j:Nat,(j:Int)+1≠P.I 1→S'.getD j (Ac 0)=S.getD j (Ac 0))∧(M=N→S=U→fr=gr→bb=true∧M'=N'∧S'=U'∧fr'=gr')):=by
 have hS:Sep w [Ab pg 54 [π mg,π cg,π rg,π dg],Ab cg 83 (Ao mg S fr),AK mg mb md mp M,Ab dg 49 [π rg,.slice (some ⟨gs0,0,none⟩) 8 8,.bool gr],Ab gs0 45 (U.flatMap AL),AZ rg rv rd ra N,AR W B,Ch.many R]:=Sep.tail_many (xs:=[_,_,_,_,_,_,_]) hS0;clear hS0
 obtain ⟨Q,hQ⟩:∃ Q,Ff P=Q:=⟨_,rfl⟩
 have hQN:Q.N=P.N:=by rw [← hQ];exact Vf P
 have hQI:Q.I 1=P.I 1:=by rw [← hQ,Rd]
 have hNl:Q.N.length=P.N.length:=by rw [hQN]
 have wQ:wfP Q:=by rw [← hQ];exact Tk wP
 have hPQ:Bf Q:=PG wQ
 have hSQ:shortP Q:=by rw [← hQ];exact Oj hS7
 have hNQ:∀ s∈Q.N,s.length≤1100000:=by rw [hQN];exact hN
 have hn9Q:Q.N.length≤1100000:=by rw [hQN];exact hn9
 have hNmQ:Row W 1 pa Q.N.length pc (Q.N.map AP):=by rw [hQN];exact hNm
 have h8:=sok.len
 have h8U:=uok.len
 have hMo:M.ok:=(hS.get 2 rfl:MemP _ _ _ _ _ _).1
 have hNo:N.ok:=(hS.get 5 rfl:MemR _ _ _ _ _ _).1
 have hqc:qs.length≤qc:=hqs.2.1
 refine BK Tryz.func8 rfl (N:=113) Tryz.ntmps8 (by show 2≤113;decide) [(0,π pg),(1,.agg (Dh P pa P.N.length pc dst dcr qa qs.length qc).toArray)] rfl fun _ h1=>sqr fun _ hK3=>so (wn rfl) fun _ hK1=>JT h1 rfl rfl rfl rfl rfl (z:=(Dh P pa P.N.length pc dst dcr qa qs.length qc)) rfl hS fun _ g4 w7 h5 s8 _ _=>hK1 _ _ ?_
 refine mv h5 rfl fun _ h2=>wpList_nil<|hK3 _ _<|sqr fun _ hK2=>fav h2 rfl (FF _ _) fun _ h3=>sw1 h3 rfl (v:=.agg (pkC P pa P.N.length pc).toArray) (rld h3 rfl rfl (ldA υ39 rfl (n:=43) κ (s8.get 0 rfl:Blk _ _ _ _) rfl rfl)) fun _ h4=>cl h4 rfl GN ((by have z:=Vg (P:=P) (pa:=pa) (pc:=pc) s8 (hS7 7 (by decide));rw [hQ] at z;exact z)) fun _ v1 w2 r1 h6=>?_
 obtain ⟨rfl,s1⟩:=r1
 refine so (wn rfl) fun _ hK4=>Cj h6 rfl rfl rfl rfl (z:=[ν 0,ν 0,ν 0,ν 0,ν 0,ν 0,ν 0,σ [],ν 0,ν 0,ν 0,σ [],σ [],ν 0,ν 0,ν 0,ν 0,σ [],ν 0,ν 0,ν 0,ν 0,σ [],.slice none 0 0,ν 0,ν 0,ν 0,ν 0,ν 0,ν 0,ν 0,ν 0,ν 0,ν 0,ν 0,ν 0,ν 0,ν 0,ν 0,ν 0,ν 0,ν 0,ν 0]) (fun _=>rfl) s1 fun _ g3 w3 h7 s2 _ _=>hK4 _ _ ?_
 refine stA h7 s2 0 rfl rfl rfl κ rfl rfl rfl rfl fun _ w4 h9 s3 _=>h9.sn [5,4,3,0,1] rfl fun h10=>hK2 _ _<|sq fun _ hK5=>sqr fun _ hK6=>fav h10 rfl (FH _ _) fun _ h11=>ldv h11 s3 1 υ4 rfl rfl rfl rfl fun _ h12=>h12.sn [15,5,4,3,0,1] rfl fun h13=>hK6 _ _ ?_
 rcases bC dcr with hc1 | hc1
 ·skip
  refine wcT h13 rfl hc1<|h13.sk [5,4,3,0,1] rfl fun h14=>sq fun _ hK7=>sqr fun _ hK8=>fav h14 rfl (AO _ _) fun _ h15=>ldv h15 s3 1 υ40 rfl rfl rfl rfl fun _ h16=>sv1 h16 rfl (v:=ν (qs.length:Int)) (Wn h16 rfl rfl υ40) fun _ h17=>bv h17 (z:=.bool (decide ((qs.length:Int)>200))) rfl (cGt _ _ _ _ rfl) fun _ h18=>h18.sn [19,5,4,3,0,1] rfl fun h19=>hK8 _ _ ?_
  rcases bC (decide ((qs.length:Int)>200)) with hc2 | hc2
  ·skip
   have hp1:(qs.length:Int)>200:=(dT hc2)
   refine wcT h19 rfl hc2<|h19.sk [5,4,3,0,1] rfl fun h20=>wp_region_lit<|fav h20 rfl (AO _ _) fun _ h21=>ldv h21 s3 1 υ40 rfl rfl rfl rfl fun _ h22=>sv1 h22 rfl (v:=.slice qa 200 qc) (UA h22 rfl rfl (vl:=none) (vh:=some (ν 200)) rfl rfl (fun w=>slL 40 3 υ40 κ qa qs.length qc (b:=200) ω w)) fun _ h23=>fav h23 rfl (AO _ _) fun _ h24=>st1 h24 s3 1 rfl rfl κ rfl rfl rfl rfl fun _ w5 h25 s4 _=>h25.sn [5,4,3,0,1] rfl fun h26=>hK7 _ _ ?_
   refine sq fun _ hK9=>?_
   have s5:=s4.drew
   refine wp_region_held_drew (S:=fun w'=>Sep w' [Ab g3 39 (pkC Q pa P.N.length pc),Ab g4 42 (Dh P pa P.N.length pc dst dcr qa 200 qc),Ab pg 54 [π mg,π cg,π rg,π dg],Ab cg 83 (Ao mg S fr),Ab dg 49 [π rg,.slice (some ⟨gs0,0,none⟩) 8 8,.bool gr],Ab gs0 45 (U.flatMap AL),AZ rg rv rd ra N,AR W B,Ch.many R]) κ (s5.pk [0,1,2,3,5,6,7,8,9] rfl) (fun hq1=>?_)
   refine tv1 hq1 h26 0 rfl rfl (v:=π pg) (fun w1 _=>(Am h26 rfl rfl) w1) fun _ h27=>?_
   refine tv1 hq1 h27 1 rfl rfl (v:=π pg) (fun w1 _=>(Bv h27 rfl rfl) w1) fun _ h28=>?_
   refine tv1 hq1 h28 2 rfl rfl (v:=π pg) (fun w1 _=>(rfa h28 rfl rfl (fun w=>Dt pg 0 w)) w1) fun _ h29=>?_
   refine tv1 hq1 h29 3 rfl rfl (v:=π mg) (fun w1 hSw=>(rld h29 rfl rfl (ldB υ50 rfl (hSw.get 2 rfl:Blk _ _ _ _) rfl))) fun _ h30=>?_
   refine tv1 hq1 h30 4 rfl rfl (v:=.pointer (some ⟨g4,45,none⟩)) (fun w1 _=>(rfa h30 rfl rfl (fun w=>AO g4 0 w)) w1) fun _ h31=>?_
   refine tv1 hq1 h31 5 rfl rfl (v:=.slice qa 200 qc) (fun w1 hSw=>(rld h31 rfl rfl (ldB υ40 rfl (hSw.get 1 rfl:Blk _ _ _ _) rfl))) fun _ h32=>?_
   refine to_ 6 rfl (wn rfl) κ fun _ hK10=>Bc h32 rfl rfl rfl (xs:=[.tmp 27,.tmp 29]) rfl DT rfl (vs:=[π mg,.slice qa 200 qc]) rfl (args:=#[π mg,.slice qa 200 qc]) rfl (Rb (n:=200) (s5.pk [4,0,1,2,3,5,6,7,8,9] rfl) (s5.get 8 rfl:Below _ _ _∧_) hB hqs hqo (fun b hb=>MG s5 (show 8≠4 by decide) rfl rfl (hB ▸ hb)) ω) fun _ v2 w6 r2 h33=>?_
   obtain ⟨yx96,rfl,s6⟩:=r2
   refine hK10 _ _ (s6.pk [1,2,3,4,5,6,7,8,9] rfl) fun hq2=>h33.sk [5,4,3,0,1] rfl fun h34=>?_
   refine wpAnyH_done κ ?_ _
   refine hK9 _ _ ?_
   refine sq fun _ hK11=>?_
   have s7:=s6.drew
   refine wp_region_held_drew (S:=fun w'=>Sep w' [AK mg mb md mp (Ea M (qs.take 200)),Ab g3 39 (pkC Q pa P.N.length pc),Ab g4 42 (Dh P pa P.N.length pc dst dcr qa 200 qc),Ab pg 54 [π mg,π cg,π rg,π dg],Ab cg 83 (Ao mg S fr),Ab dg 49 [π rg,.slice (some ⟨gs0,0,none⟩) 8 8,.bool gr],Ab gs0 45 (U.flatMap AL),AR W B,Ch.many R]) κ (s7.pk [0,1,2,3,4,5,6,8,9] rfl) (fun hq3=>?_)
   refine tv1 hq3 h34 0 rfl rfl (v:=π pg) (fun w1 _=>(Am h34 rfl rfl) w1) fun _ h35=>?_
   refine tv1 hq3 h35 1 rfl rfl (v:=π pg) (fun w1 _=>(Bv h35 rfl rfl) w1) fun _ h36=>?_
   refine tv1 hq3 h36 2 rfl rfl (v:=.pointer (some ⟨pg,2,none⟩)) (fun w1 _=>(rfa h36 rfl rfl (fun w=>Du pg 0 w)) w1) fun _ h37=>?_
   refine tv1 hq3 h37 3 rfl rfl (v:=π rg) (fun w1 hSw=>(rld h37 rfl rfl (ldB υ46 rfl (hSw.get 3 rfl:Blk _ _ _ _) rfl))) fun _ h38=>?_
   refine tv1 hq3 h38 4 rfl rfl (v:=.pointer (some ⟨g4,45,none⟩)) (fun w1 _=>(rfa h38 rfl rfl (fun w=>AO g4 0 w)) w1) fun _ h39=>?_
   refine tv1 hq3 h39 5 rfl rfl (v:=.slice qa 200 qc) (fun w1 hSw=>(rld h39 rfl rfl (ldB υ40 rfl (hSw.get 2 rfl:Blk _ _ _ _) rfl))) fun _ h40=>?_
   refine to_ 6 rfl (wn rfl) κ fun _ hK12=>Bc h40 rfl rfl rfl (xs:=[.tmp 34,.tmp 36]) rfl Cy rfl (vs:=[π rg,.slice qa 200 qc]) rfl (args:=#[π rg,.slice qa 200 qc]) rfl (Oh (n:=200) (s7.pk [7,0,1,2,3,4,5,6,8,9] rfl) (s7.get 8 rfl:Below _ _ _∧_) hB hqs hqo (fun b hb=>LD s7 (show 8≠7 by decide) rfl rfl (hB ▸ hb)) ω) fun _ v3 w8 r3 h41=>?_
   obtain ⟨yx121,rfl,s9⟩:=r3
   refine hK12 _ _ (s9.pk [1,2,3,4,5,6,7,8,9] rfl) fun hq4=>h41.sk [5,4,3,0,1] rfl fun h42=>?_
   refine wpAnyH_done κ ?_ _
   refine hK11 _ _ ?_
   refine sqr fun _ hK13=>h42.sk [5,3,0,1] rfl fun h43=>mv h43 rfl fun _ h44=>wpList_nil<|hK13 _ _<|wp_ret ?_
   try simp only [Exit.then,Exit.inBlock]
   refine CD (v:=.bool true) (CC h44 rfl rfl) h44.defs ?_
   exact ⟨(Ea M (qs.take 200)),S,fr,(Ea N (qs.take 200)),U,gr,_,rfl,Sep.tail_un (xs:=[_,_,_,_,_,_,_]) (s9.pk [4,5,1,6,7,0,8,9] rfl),sok.le (Nat.le_succ k),(GY M _).trans (hMo.1.trans hM),uok.le (Nat.le_succ k),(GY N _).trans (hNo.1.trans hN2),(fun hc=>absurd (hc1.symm.trans hc) Bool.noConfusion),fun q1 q2 q3=>(by rw [q1,q2,q3];exact ⟨rfl,rfl,rfl,rfl⟩)⟩
  ·skip
   have hp2:¬ ((qs.length:Int)>200):=(dF hc2)
   refine wcF h19 rfl hc2<|h19.sk [5,4,3,0,1] rfl fun h45=>wp_skip<|hK7 _ _<|sq fun _ hK14=>?_
   have s10:=s3.drew
   refine wp_region_held_drew (S:=fun w'=>Sep w' [Ab g3 39 (pkC Q pa P.N.length pc),Ab g4 42 (Dh P pa P.N.length pc dst dcr qa qs.length qc),Ab pg 54 [π mg,π cg,π rg,π dg],Ab cg 83 (Ao mg S fr),Ab dg 49 [π rg,.slice (some ⟨gs0,0,none⟩) 8 8,.bool gr],Ab gs0 45 (U.flatMap AL),AZ rg rv rd ra N,AR W B,Ch.many R]) κ (s10.pk [0,1,2,3,5,6,7,8,9] rfl) (fun hq5=>?_)
   refine tv1 hq5 h45 0 rfl rfl (v:=π pg) (fun w1 _=>(Am h45 rfl rfl) w1) fun _ h46=>?_
   refine tv1 hq5 h46 1 rfl rfl (v:=π pg) (fun w1 _=>(Bv h46 rfl rfl) w1) fun _ h47=>?_
   refine tv1 hq5 h47 2 rfl rfl (v:=π pg) (fun w1 _=>(rfa h47 rfl rfl (fun w=>Dt pg 0 w)) w1) fun _ h48=>?_
   refine tv1 hq5 h48 3 rfl rfl (v:=π mg) (fun w1 hSw=>(rld h48 rfl rfl (ldB υ50 rfl (hSw.get 2 rfl:Blk _ _ _ _) rfl))) fun _ h49=>?_
   refine tv1 hq5 h49 4 rfl rfl (v:=.pointer (some ⟨g4,45,none⟩)) (fun w1 _=>(rfa h49 rfl rfl (fun w=>AO g4 0 w)) w1) fun _ h50=>?_
   refine tv1 hq5 h50 5 rfl rfl (v:=.slice qa qs.length qc) (fun w1 hSw=>(rld h50 rfl rfl (ldB υ40 rfl (hSw.get 1 rfl:Blk _ _ _ _) rfl))) fun _ h51=>?_
   refine to_ 6 rfl (wn rfl) κ fun _ hK15=>Bc h51 rfl rfl rfl (xs:=[.tmp 27,.tmp 29]) rfl DT rfl (vs:=[π mg,.slice qa qs.length qc]) rfl (args:=#[π mg,.slice qa qs.length qc]) rfl (Rb (n:=qs.length) (s10.pk [4,0,1,2,3,5,6,7,8,9] rfl) (s10.get 8 rfl:Below _ _ _∧_) hB hqs hqo (fun b hb=>MG s10 (show 8≠4 by decide) rfl rfl (hB ▸ hb)) ω) fun _ v4 w9 r4 h52=>?_
   obtain ⟨yx152,rfl,s11⟩:=r4
   refine hK15 _ _ (s11.pk [1,2,3,4,5,6,7,8,9] rfl) fun hq6=>h52.sk [5,4,3,0,1] rfl fun h53=>?_
   refine wpAnyH_done κ ?_ _
   refine hK14 _ _ ?_
   refine sq fun _ hK16=>?_
   have s12:=s11.drew
   refine wp_region_held_drew (S:=fun w'=>Sep w' [AK mg mb md mp (Ea M (qs.take 200)),Ab g3 39 (pkC Q pa P.N.length pc),Ab g4 42 (Dh P pa P.N.length pc dst dcr qa qs.length qc),Ab pg 54 [π mg,π cg,π rg,π dg],Ab cg 83 (Ao mg S fr),Ab dg 49 [π rg,.slice (some ⟨gs0,0,none⟩) 8 8,.bool gr],Ab gs0 45 (U.flatMap AL),AR W B,Ch.many R]) κ (s12.pk [0,1,2,3,4,5,6,8,9] rfl) (fun hq7=>?_)
   refine tv1 hq7 h53 0 rfl rfl (v:=π pg) (fun w1 _=>(Am h53 rfl rfl) w1) fun _ h54=>?_
   refine tv1 hq7 h54 1 rfl rfl (v:=π pg) (fun w1 _=>(Bv h54 rfl rfl) w1) fun _ h55=>?_
   refine tv1 hq7 h55 2 rfl rfl (v:=.pointer (some ⟨pg,2,none⟩)) (fun w1 _=>(rfa h55 rfl rfl (fun w=>Du pg 0 w)) w1) fun _ h56=>?_
   refine tv1 hq7 h56 3 rfl rfl (v:=π rg) (fun w1 hSw=>(rld h56 rfl rfl (ldB υ46 rfl (hSw.get 3 rfl:Blk _ _ _ _) rfl))) fun _ h57=>?_
   refine tv1 hq7 h57 4 rfl rfl (v:=.pointer (some ⟨g4,45,none⟩)) (fun w1 _=>(rfa h57 rfl rfl (fun w=>AO g4 0 w)) w1) fun _ h58=>?_
   refine tv1 hq7 h58 5 rfl rfl (v:=.slice qa qs.length qc) (fun w1 hSw=>(rld h58 rfl rfl (ldB υ40 rfl (hSw.get 2 rfl:Blk _ _ _ _) rfl))) fun _ h59=>?_
   refine to_ 6 rfl (wn rfl) κ fun _ hK17=>Bc h59 rfl rfl rfl (xs:=[.tmp 34,.tmp 36]) rfl Cy rfl (vs:=[π rg,.slice qa qs.length qc]) rfl (args:=#[π rg,.slice qa qs.length qc]) rfl (Oh (n:=qs.length) (s12.pk [7,0,1,2,3,4,5,6,8,9] rfl) (s12.get 8 rfl:Below _ _ _∧_) hB hqs hqo (fun b hb=>LD s12 (show 8≠7 by decide) rfl rfl (hB ▸ hb)) ω) fun _ v5 w10 r5 h60=>?_
   obtain ⟨yx177,rfl,s13⟩:=r5
   refine hK17 _ _ (s13.pk [1,2,3,4,5,6,7,8,9] rfl) fun hq8=>h60.sk [5,4,3,0,1] rfl fun h61=>?_
   refine wpAnyH_done κ ?_ _
   refine hK16 _ _ ?_
   refine sqr fun _ hK18=>h61.sk [5,3,0,1] rfl fun h62=>mv h62 rfl fun _ h63=>wpList_nil<|hK18 _ _<|wp_ret ?_
   try simp only [Exit.then,Exit.inBlock]
   refine CD (v:=.bool true) (CC h63 rfl rfl) h63.defs ?_
   exact ⟨(Ea M (qs.take 200)),S,fr,(Ea N (qs.take 200)),U,gr,_,rfl,Sep.tail_un (xs:=[_,_,_,_,_,_,_]) (s13.pk [4,5,1,6,7,0,8,9] rfl),sok.le (Nat.le_succ k),(GY M _).trans (hMo.1.trans hM),uok.le (Nat.le_succ k),(GY N _).trans (hNo.1.trans hN2),(fun hc=>absurd (hc1.symm.trans hc) Bool.noConfusion),fun q1 q2 q3=>(by rw [q1,q2,q3];exact ⟨rfl,rfl,rfl,rfl⟩)⟩
 ·skip
  refine wcF h13 rfl hc1<|h13.sk [5,4,3,0,1] rfl fun h64=>wp_skip<|hK5 _ _<|sq fun _ hK19=>sqr fun _ hK20=>fav h64 rfl (FG _ _) fun _ h65=>ldv h65 s3 1 υ4 rfl rfl rfl rfl fun _ h66=>h66.sn [39,5,4,3,0,1] rfl fun h67=>hK20 _ _ ?_
  rcases bC dst with hc3 | hc3
  ·skip
   refine wcT h67 rfl hc3<|h67.sk [5,4,3,0,1] rfl fun h68=>sq fun _ hK21=>?_
   have s14:=s3.drew
   refine wp_region_held_drew (S:=fun w'=>Sep w' [Ab g3 39 (pkC Q pa P.N.length pc),Ab g4 42 (Dh P pa P.N.length pc dst dcr qa qs.length qc),Ab pg 54 [π mg,π cg,π rg,π dg],AK mg mb md mp M,Ab dg 49 [π rg,.slice (some ⟨gs0,0,none⟩) 8 8,.bool gr],Ab gs0 45 (U.flatMap AL),AZ rg rv rd ra N,AR W B,Ch.many R]) κ (s14.pk [0,1,2,4,5,6,7,8,9] rfl) (fun hq9=>?_)
   refine tv1 hq9 h68 0 rfl rfl (v:=π pg) (fun w1 _=>(Am h68 rfl rfl) w1) fun _ h69=>?_
   refine tv1 hq9 h69 1 rfl rfl (v:=π pg) (fun w1 _=>(Bv h69 rfl rfl) w1) fun _ h70=>?_
   refine tv1 hq9 h70 2 rfl rfl (v:=.pointer (some ⟨pg,1,none⟩)) (fun w1 _=>(rfa h70 rfl rfl (fun w=>Cl pg 0 w)) w1) fun _ h71=>?_
   refine tv1 hq9 h71 3 rfl rfl (v:=π cg) (fun w1 hSw=>(rld h71 rfl rfl (ldB υ51 rfl (hSw.get 2 rfl:Blk _ _ _ _) rfl))) fun _ h72=>?_
   refine tv1 hq9 h72 4 rfl rfl (v:=.pointer (some ⟨g3,1,none⟩)) (fun w1 _=>(rfa h72 rfl rfl (fun w=>Bu g3 0 w)) w1) fun _ h73=>?_
   refine tv1 hq9 h73 5 rfl rfl (v:=ν (Q.I 1)) (fun w1 hSw=>(rld h73 rfl rfl (ldB υ3 rfl (hSw.get 0 rfl:Blk _ _ _ _) rfl))) fun _ h74=>?_
   refine tv1 hq9 h74 6 rfl rfl (v:=.pointer (some ⟨g3,2,none⟩)) (fun w1 _=>(rfa h74 rfl rfl (fun w=>Fo g3 0 w)) w1) fun _ h75=>?_
   refine tv1 hq9 h75 7 rfl rfl (v:=ν (Q.I 2)) (fun w1 hSw=>(rld h75 rfl rfl (ldB υ3 rfl (hSw.get 0 rfl:Blk _ _ _ _) rfl))) fun _ h76=>?_
   rcases bC (decide ((Q.I 1)≥1)) with hc4 | hc4
   ·skip
    have hp3:(Q.I 1)≥1:=(dT hc4)
    rcases bC (decide ((Q.I 1)≤8)) with hc5 | hc5
    ·skip
     have hp4:(Q.I 1)≤8:=(dT hc5)
     refine to_ 8 rfl (wn rfl) κ fun _ hK22=>Bc h76 rfl rfl rfl (xs:=[.tmp 43,.tmp 45,.tmp 47]) rfl Ce rfl (vs:=[π cg,ν (Q.I 1),ν (Q.I 2)]) rfl (args:=#[π cg,ν (Q.I 1),ν (Q.I 2)]) rfl (LS (j:=(Q.I 1-1).toNat) (s14.pk [3,0,1,2,4,5,6,7,8,9] rfl) sok.len ω ω) fun _ v6 w11 r6 h77=>?_
     obtain ⟨rfl,s15⟩:=r6
     refine hK22 _ _ (s15.pk [1,2,3,4,5,6,7,8,9] rfl) fun hq10=>h77.sk [5,4,3,0,1] rfl fun h78=>?_
     refine wpAnyH_done κ ?_ _
     refine hK21 _ _ ?_
     refine sq fun _ hK23=>sqr fun _ hK24=>fav h78 rfl (Bu _ _) fun _ h79=>ldv h79 s15 1 υ3 rfl rfl rfl rfl fun _ h80=>bv h80 (z:=.bool true) rfl (cGe _ _ _ _ (decide_eq_true ω)) fun _ h81=>mv h81 rfl fun _ h82=>sv h82 (wT h82 (E:=true) rfl rfl rfl) rfl rfl rfl (v:=.pointer (some ⟨g3,1,none⟩)) (rfa h82 rfl rfl (fun w=>Bu g3 0 w)) fun _ h83=>sw h83 (wT h83 (E:=true) rfl rfl rfl) rfl rfl rfl (v:=ν (Q.I 1)) (rld h83 rfl rfl (ldB υ3 rfl (s15.get 1 rfl:Blk _ _ _ _) rfl)) fun _ h84=>sv h84 (wT h84 (E:=true) rfl rfl rfl) rfl rfl rfl (v:=.bool true) (CL h84 rfl rfl rfl (cLe _ _ _ _ (decide_eq_true ω))) fun _ h85=>sv1 h85 rfl (v:=.bool true) (CB h85 rfl rfl rfl) fun _ h86=>h86.sk [56,5,4,3,0,1] rfl fun h87=>?_
     refine wpList_nil<|hK24 _ _<|wcT h87 rfl rfl<|h87.sk [5,4,3,0,1] rfl fun h88=>?_
     have s16:=s15.drew
     refine wp_region_held_drew (S:=fun w'=>Sep w' [Ab cg 83 (Ao mg (S.set (Q.I 1-1).toNat (Ac (Q.I 2))) fr),Ab g3 39 (pkC Q pa P.N.length pc),Ab g4 42 (Dh P pa P.N.length pc dst dcr qa qs.length qc),Ab pg 54 [π mg,π cg,π rg,π dg],AK mg mb md mp M,Ab dg 49 [π rg,.slice (some ⟨gs0,0,none⟩) 8 8,.bool gr],AZ rg rv rd ra N,AR W B,Ch.many R]) κ (s16.pk [0,1,2,3,4,5,7,8,9] rfl) (fun hq11=>?_)
     refine tv1 hq11 h88 0 rfl rfl (v:=π pg) (fun w1 _=>(Am h88 rfl rfl) w1) fun _ h89=>?_
     refine tv1 hq11 h89 1 rfl rfl (v:=π pg) (fun w1 _=>(Bv h89 rfl rfl) w1) fun _ h90=>?_
     refine tv1 hq11 h90 2 rfl rfl (v:=.pointer (some ⟨pg,3,none⟩)) (fun w1 _=>(rfa h90 rfl rfl (fun w=>Cm pg 0 w)) w1) fun _ h91=>?_
     refine tv1 hq11 h91 3 rfl rfl (v:=π dg) (fun w1 hSw=>(rld h91 rfl rfl (ldB υ52 rfl (hSw.get 3 rfl:Blk _ _ _ _) rfl))) fun _ h92=>?_
     refine tv1 hq11 h92 4 rfl rfl (v:=π dg) (fun w1 _=>(Bv h92 rfl rfl) w1) fun _ h93=>?_
     refine tv1 hq11 h93 5 rfl rfl (v:=.pointer (some ⟨dg,1,none⟩)) (fun w1 _=>(rfa h93 rfl rfl (fun w=>FK dg 0 w)) w1) fun _ h94=>?_
     refine tv1 hq11 h94 6 rfl rfl (v:=.slice (some ⟨gs0,0,none⟩) 8 8) (fun w1 hSw=>(rld h94 rfl rfl (ldB υ47 rfl (hSw.get 5 rfl:Blk _ _ _ _) rfl))) fun _ h95=>?_
     refine tv1 hq11 h95 7 rfl rfl (v:=.pointer (some ⟨g3,1,none⟩)) (fun w1 _=>(rfa h95 rfl rfl (fun w=>Bu g3 0 w)) w1) fun _ h96=>?_
     refine tv1 hq11 h96 8 rfl rfl (v:=ν (Q.I 1)) (fun w1 hSw=>(rld h96 rfl rfl (ldB υ3 rfl (hSw.get 1 rfl:Blk _ _ _ _) rfl))) fun _ h97=>?_
     refine tv1 hq11 h97 9 rfl rfl (v:=ν ((Q.I 1)-1)) (fun w1 _=>(CL h97 rfl rfl rfl (Nd _ _ _ ω ω ω)) w1) fun _ h98=>?_
     refine tv1 hq11 h98 10 rfl rfl (v:=.pointer (some ⟨g3,2,none⟩)) (fun w1 _=>(rfa h98 rfl rfl (fun w=>Fo g3 0 w)) w1) fun _ h99=>?_
     refine tv1 hq11 h99 11 rfl rfl (v:=ν (Q.I 2)) (fun w1 hSw=>(rld h99 rfl rfl (ldB υ3 rfl (hSw.get 1 rfl:Blk _ _ _ _) rfl))) fun _ h100=>?_
     refine tv1 hq11 h100 12 rfl rfl (v:=.agg (AL (⟨(Q.I 2),0,P0z,false⟩:SideM)).toArray) (fun w1 _=>(NF h100 (xs:=[(0,.tmp 68)]) rfl (vs:=[(0,ν (Q.I 2))]) rfl (fun w=>κ)) w1) fun _ h101=>?_
     refine tv1 hq11 h101 13 rfl rfl (v:=.pointer (some ⟨gs0,(((Q.I 1)-1).toNat)*46,none⟩)) (fun w1 _=>(Ho h101 rfl rfl rfl (fun w=>ixS υ47 κ (sz:=46) (j:=((Q.I 1)-1).toNat) ω ω rfl w)) w1) fun _ h102=>?_
     refine to_ 14 rfl (wn rfl) κ fun _ hK25=>BE h102 rfl rfl s16 6 rfl rfl rfl (AL (⟨(Q.I 2),0,P0z,false⟩:SideM)) rfl κ rfl (by rw [Hi BV];show (((Q.I 1)-1).toNat)*46+46≤_;omega) (L':=(U.set (((Q.I 1)-1).toNat) (⟨(Q.I 2),0,P0z,false⟩:SideM)).flatMap AL) (Qs BV ω rfl) (cs':=[Ab cg 83 (Ao mg (S.set (Q.I 1-1).toNat (Ac (Q.I 2))) fr),Ab g3 39 (pkC Q pa P.N.length pc),Ab g4 42 (Dh P pa P.N.length pc dst dcr qa qs.length qc),Ab pg 54 [π mg,π cg,π rg,π dg],AK mg mb md mp M,Ab dg 49 [π rg,.slice (some ⟨gs0,0,none⟩) 8 8,.bool gr],Ab gs0 45 ((U.set (((Q.I 1)-1).toNat) (⟨(Q.I 2),0,P0z,false⟩:SideM)).flatMap AL),AZ rg rv rd ra N,AR W B,Ch.many R]) rfl fun _ w12 h103 s17 _=>?_
     refine hK25 _ _ (s17.pk [0,1,2,3,4,5,7,8,9] rfl) fun hq12=>h103.sk [5,4,3,0,1] rfl fun h104=>?_
     refine wpAnyH_done κ ?_ _
     refine hK23 _ _ ?_
     refine sqr fun _ hK26=>h104.sk [5,3,0,1] rfl fun h105=>mv h105 rfl fun _ h106=>wpList_nil<|hK26 _ _<|wp_ret ?_
     try simp only [Exit.then,Exit.inBlock]
     refine CD (v:=.bool true) (CC h106 rfl rfl) h106.defs ?_
     exact ⟨M,(S.set (Q.I 1-1).toNat (Ac (Q.I 2))),fr,N,(U.set (((Q.I 1)-1).toNat) (⟨(Q.I 2),0,P0z,false⟩:SideM)),gr,_,rfl,Sep.tail_un (xs:=[_,_,_,_,_,_,_]) (s17.pk [3,0,4,5,6,7,8,9] rfl),(sok.le (Nat.le_succ k)).set _ ⟨⟨Int.le_refl 0,Int.natCast_nonneg _⟩,rfl⟩,hM,(uok.le (Nat.le_succ k)).set _ ⟨⟨Int.le_refl 0,Int.natCast_nonneg _⟩,rfl⟩,hN2,(fun _ j hj=>Px (by rw [← hQI] at hj;omega)),fun q1 q2 q3=>(by rw [q1,q2,q3];exact ⟨rfl,rfl,rfl,rfl⟩)⟩
    ·skip
     have hp5:¬ ((Q.I 1)≤8):=(dF hc5)
     refine to_ 8 rfl (wn rfl) κ fun _ hK27=>Bc h76 rfl rfl rfl (xs:=[.tmp 43,.tmp 45,.tmp 47]) rfl Ce rfl (vs:=[π cg,ν (Q.I 1),ν (Q.I 2)]) rfl (args:=#[π cg,ν (Q.I 1),ν (Q.I 2)]) rfl (KB (s14.pk [3,0,1,2,4,5,6,7,8,9] rfl) sok.len (wQ 1) ω) fun _ v7 w13 r7 h107=>?_
     obtain ⟨rfl,s18⟩:=r7
     refine hK27 _ _ (s18.pk [1,2,3,4,5,6,7,8,9] rfl) fun hq10=>h107.sk [5,4,3,0,1] rfl fun h108=>?_
     refine wpAnyH_done κ ?_ _
     refine hK21 _ _ ?_
     refine sq fun _ hK28=>sqr fun _ hK29=>fav h108 rfl (Bu _ _) fun _ h109=>ldv h109 s18 1 υ3 rfl rfl rfl rfl fun _ h110=>bv h110 (z:=.bool true) rfl (cGe _ _ _ _ (decide_eq_true ω)) fun _ h111=>mv h111 rfl fun _ h112=>sv h112 (wT h112 (E:=true) rfl rfl rfl) rfl rfl rfl (v:=.pointer (some ⟨g3,1,none⟩)) (rfa h112 rfl rfl (fun w=>Bu g3 0 w)) fun _ h113=>sw h113 (wT h113 (E:=true) rfl rfl rfl) rfl rfl rfl (v:=ν (Q.I 1)) (rld h113 rfl rfl (ldB υ3 rfl (s18.get 1 rfl:Blk _ _ _ _) rfl)) fun _ h114=>sv h114 (wT h114 (E:=true) rfl rfl rfl) rfl rfl rfl (v:=.bool false) (CL h114 rfl rfl rfl (cLe _ _ _ _ (decide_eq_false ω))) fun _ h115=>sv1 h115 rfl (v:=.bool false) (CB h115 rfl rfl rfl) fun _ h116=>h116.sk [56,5,4,3,0,1] rfl fun h117=>?_
     refine wpList_nil<|hK29 _ _<|wcF h117 rfl rfl<|h117.sk [5,4,3,0,1] rfl fun h118=>wp_skip<|hK28 _ _<|sqr fun _ hK30=>h118.sk [5,3,0,1] rfl fun h119=>mv h119 rfl fun _ h120=>wpList_nil<|hK30 _ _<|wp_ret ?_
     try simp only [Exit.then,Exit.inBlock]
     refine CD (v:=.bool true) (CC h120 rfl rfl) h120.defs ?_
     exact ⟨M,S,fr,N,U,gr,_,rfl,Sep.tail_un (xs:=[_,_,_,_,_,_,_]) (s18.pk [3,0,4,5,6,7,8,9] rfl),sok.le (Nat.le_succ k),hM,uok.le (Nat.le_succ k),hN2,(fun _ _ _=>rfl),fun q1 q2 q3=>(by rw [q1,q2,q3];exact ⟨rfl,rfl,rfl,rfl⟩)⟩
   ·skip
    have hp6:¬ ((Q.I 1)≥1):=(dF hc4)
    refine to_ 8 rfl (wn rfl) κ fun _ hK31=>Bc h76 rfl rfl rfl (xs:=[.tmp 43,.tmp 45,.tmp 47]) rfl Ce rfl (vs:=[π cg,ν (Q.I 1),ν (Q.I 2)]) rfl (args:=#[π cg,ν (Q.I 1),ν (Q.I 2)]) rfl (KB (s14.pk [3,0,1,2,4,5,6,7,8,9] rfl) sok.len (wQ 1) ω) fun _ v8 w14 r8 h121=>?_
    obtain ⟨rfl,s19⟩:=r8
    refine hK31 _ _ (s19.pk [1,2,3,4,5,6,7,8,9] rfl) fun hq10=>h121.sk [5,4,3,0,1] rfl fun h122=>?_
    refine wpAnyH_done κ ?_ _
    refine hK21 _ _ ?_
    refine sq fun _ hK32=>sqr fun _ hK33=>fav h122 rfl (Bu _ _) fun _ h123=>ldv h123 s19 1 υ3 rfl rfl rfl rfl fun _ h124=>bv h124 (z:=.bool false) rfl (cGe _ _ _ _ (decide_eq_false ω)) fun _ h125=>mv h125 rfl fun _ h126=>su h126 (wT h126 (E:=false) rfl rfl rfl) rfl rfl rfl fun _ h127=>su h127 (wT h127 (E:=false) rfl rfl rfl) rfl rfl rfl fun _ h128=>su h128 (wT h128 (E:=false) rfl rfl rfl) rfl rfl rfl fun _ h129=>sv1 h129 rfl (v:=.bool false) (CB h129 rfl rfl rfl) fun _ h130=>h130.sk [56,5,4,3,0,1] rfl fun h131=>?_
    refine wpList_nil<|hK33 _ _<|wcF h131 rfl rfl<|h131.sk [5,4,3,0,1] rfl fun h132=>wp_skip<|hK32 _ _<|sqr fun _ hK34=>h132.sk [5,3,0,1] rfl fun h133=>mv h133 rfl fun _ h134=>wpList_nil<|hK34 _ _<|wp_ret ?_
    try simp only [Exit.then,Exit.inBlock]
    refine CD (v:=.bool true) (CC h134 rfl rfl) h134.defs ?_
    exact ⟨M,S,fr,N,U,gr,_,rfl,Sep.tail_un (xs:=[_,_,_,_,_,_,_]) (s19.pk [3,0,4,5,6,7,8,9] rfl),sok.le (Nat.le_succ k),hM,uok.le (Nat.le_succ k),hN2,(fun _ _ _=>rfl),fun q1 q2 q3=>(by rw [q1,q2,q3];exact ⟨rfl,rfl,rfl,rfl⟩)⟩
  ·skip
   refine wcF h67 rfl hc3<|h67.sk [5,4,3,0,1] rfl fun h135=>wp_skip<|hK19 _ _<|sq fun K1 hK35=>?_
   have hJ365:∀ (g1:Nat) (M1:MemM) (S1:List SideM) (f1:Bool) (A1:PkM) (b1:Bool) a' w',Kn 113 [(5,π g3),(4,.bool false),(3,π g4),(0,π pg),(1,.agg (Dh P pa P.N.length pc dst dcr qa qs.length qc).toArray),(6,π g1),(7,.bool b1)] a'→Sep w' [Ab g1 39 (pkC A1 none 0 0),Ab g3 39 (pkC Q pa P.N.length pc),Ab g4 42 (Dh P pa P.N.length pc dst dcr qa qs.length qc),Ab pg 54 [π mg,π cg,π rg,π dg],Ab cg 83 (Ao mg S1 f1),AK mg mb md mp M1,Ab dg 49 [π rg,.slice (some ⟨gs0,0,none⟩) 8 8,.bool gr],Ab gs0 45 (U.flatMap AL),AZ rg rv rd ra N,AR W B,Ch.many R]→(SOk S1 (k+1))→(M1.V.length=23168)→(A1.N=[])→(∀ j:Nat,(j:Int)+1≠Q.I 1→S1.getD j (Ac 0)=S.getD j (Ac 0))→(doC ⟨M,S,fr⟩ Q=(⟨M1,S1,f1⟩,A1,b1))→K1 a' w':=by
    intro g1 M1 S1 f1 A1 b1 a1 w15 h136 s20 sok1 hM1 hAN1 hel1 hdo1
    have h8M:=sok1.len
    refine hK35 _ _ ?_
    refine sq fun K2 hK36=>?_
    have hJ371:∀ (g2:Nat) (N2:MemM) (U2:List SideM) (f2:Bool) (A2:PkM) (b2:Bool) a' w',Kn 113 [(5,π g3),(4,.bool false),(3,π g4),(0,π pg),(1,.agg (Dh P pa P.N.length pc dst dcr qa qs.length qc).toArray),(6,π g1),(7,.bool b1),(8,π g2),(9,.bool b2)] a'→Sep w' [Ab g2 39 (pkC A2 none 0 0),Ab g1 39 (pkC A1 none 0 0),Ab g3 39 (pkC Q pa P.N.length pc),Ab g4 42 (Dh P pa P.N.length pc dst dcr qa qs.length qc),Ab pg 54 [π mg,π cg,π rg,π dg],Ab cg 83 (Ao mg S1 f1),AK mg mb md mp M1,Ab dg 49 [π rg,.slice (some ⟨gs0,0,none⟩) 8 8,.bool f2],Ab gs0 45 (U2.flatMap AL),AZ rg rv rd ra N2,AR W B,Ch.many R]→(SOk U2 (k+1))→(N2.V.length=23168)→(A2.N=[])→(doC ⟨N,U,gr⟩ Q=(⟨N2,U2,f2⟩,A2,b2))→K2 a' w':=by
     intro g2 N2 U2 f2 A2 b2 a2 w16 h137 s21 sok2 hM2 hAN2 hdo2
     refine hK36 _ _ ?_
     refine sqr fun _ hK37=>sw1 h137 rfl (v:=.agg (pkC A1 none 0 0).toArray) (rld h137 rfl rfl (ldA υ39 rfl (n:=43) κ (s21.get 1 rfl:Blk _ _ _ _) rfl rfl)) fun _ h138=>sw1 h138 rfl (v:=.agg (pkC A2 none 0 0).toArray) (rld h138 rfl rfl (ldA υ39 rfl (n:=43) κ (s21.get 0 rfl:Blk _ _ _ _) rfl rfl)) fun _ h139=>cl h139 rfl Gp (Dd s21 (UC hAN1 hAN2 _)) fun _ v9 w17 r9 h140=>?_
     obtain ⟨rfl,s22⟩:=r9
     refine mv h140 rfl fun _ h141=>h141.sn [10,5,4,3,0,1,6,7,8,9] rfl fun h142=>hK37 _ _<|sq fun _ hK38=>?_
     have s23:=s22.drew
     refine wp_region_held_drew (S:=fun w'=>Sep w' [Ab g2 39 (pkC A2 none 0 0),Ab g1 39 (pkC A1 none 0 0),Ab g3 39 (pkC Q pa P.N.length pc),Ab g4 42 (Dh P pa P.N.length pc dst dcr qa qs.length qc),Ab pg 54 [π mg,π cg,π rg,π dg],Ab cg 83 (Ao mg S1 f1),AK mg mb md mp M1,Ab dg 49 [π rg,.slice (some ⟨gs0,0,none⟩) 8 8,.bool f2],Ab gs0 45 (U2.flatMap AL),AZ rg rv rd ra N2,AR W B,Ch.many R]) κ s23 (fun hq13=>?_)
     refine tv1 hq13 h142 0 rfl rfl (v:=.bool (BT A1 A2)) (fun w1 _=>(Am h142 rfl rfl) w1) fun _ h143=>?_
     refine tv1 hq13 h143 1 rfl rfl (v:=.bool (BT A1 A2)) (fun w1 _=>(Am h143 rfl rfl) w1) fun _ h144=>?_
     refine tgv hq13 h144 2 rfl rfl rfl rfl κ κ κ (fun _ _ _ _ h=>h) (wT h144 rfl rfl rfl) (v:=.bool b1) (fun w1 hSw hC1=>(Am h144 rfl rfl) w1) fun _ h145=>?_
     refine tgv hq13 h145 3 rfl rfl rfl rfl κ κ κ (fun _ _ _ _ h=>h) (wT h145 rfl rfl rfl) (v:=.bool b2) (fun w1 hSw hC2=>(Am h145 rfl rfl) w1) fun _ h146=>?_
     refine tgv hq13 h146 4 rfl rfl rfl rfl κ κ κ (fun _ _ _ _ h=>h) (wT h146 rfl rfl rfl) (v:=.bool (b1 == b2)) (fun w1 hSw hC3=>(CL h146 rfl (opg rfl hC3) (opg rfl hC3) (We .eql υ4 _ _ _ _)) w1) fun _ h147=>?_
     refine tv1 hq13 h147 5 rfl rfl (v:=.bool ((BT A1 A2)&&(b1 == b2))) (fun w1 _=>(In h147 rfl (E:=(BT A1 A2)) (F:=(b1 == b2)) rfl rfl rfl (fun e=>if_pos (by rw [e];try rfl))) w1) fun _ h148=>?_
     refine tv1 hq13 h148 6 rfl rfl (v:=.bool ((BT A1 A2)&&(b1 == b2))) (fun w1 _=>(Am h148 rfl rfl) w1) fun _ h149=>?_
     refine tgv hq13 h149 7 rfl rfl rfl rfl κ κ κ (fun _ _ _ _ h=>h) (wT h149 rfl rfl rfl) (v:=π pg) (fun w1 hSw hC4=>by have hq:=(And.intro (AS hC4).1 (AS hC4).2);exact (Am h149 rfl rfl) w1) fun _ h150=>?_
     refine tgv hq13 h150 8 rfl rfl rfl rfl κ κ κ (fun _ _ _ _ h=>h) (wT h150 rfl rfl rfl) (v:=π pg) (fun w1 hSw hC5=>by have hq:=(And.intro (AS hC5).1 (AS hC5).2);exact (Bv h150 rfl (opg rfl hC5)) w1) fun _ h151=>?_
     refine tgv hq13 h151 9 rfl rfl rfl rfl κ κ κ (fun _ _ _ _ h=>h) (wT h151 rfl rfl rfl) (v:=.pointer (some ⟨pg,1,none⟩)) (fun w1 hSw hC6=>by have hq:=(And.intro (AS hC6).1 (AS hC6).2);exact (rfa h151 rfl (opg rfl hC6) (fun w=>Cl pg 0 w)) w1) fun _ h152=>?_
     refine tgv hq13 h152 10 rfl rfl rfl rfl κ κ κ (fun _ _ _ _ h=>h) (wT h152 rfl rfl rfl) (v:=π cg) (fun w1 hSw hC7=>by have hq:=(And.intro (AS hC7).1 (AS hC7).2);exact (rld h152 rfl (opg rfl hC7) (ldB υ51 rfl (hSw.get 4 rfl:Blk _ _ _ _) rfl))) fun _ h153=>?_
     refine tgv hq13 h153 12 rfl rfl rfl rfl κ κ κ (fun _ _ _ _ h=>h) (wT h153 rfl rfl rfl) (v:=π pg) (fun w1 hSw hC8=>by have hq:=(And.intro (AS hC8).1 (AS hC8).2);exact (Am h153 rfl rfl) w1) fun _ h154=>?_
     refine tgv hq13 h154 13 rfl rfl rfl rfl κ κ κ (fun _ _ _ _ h=>h) (wT h154 rfl rfl rfl) (v:=π pg) (fun w1 hSw hC9=>by have hq:=(And.intro (AS hC9).1 (AS hC9).2);exact (Bv h154 rfl (opg rfl hC9)) w1) fun _ h155=>?_
     refine tgv hq13 h155 14 rfl rfl rfl rfl κ κ κ (fun _ _ _ _ h=>h) (wT h155 rfl rfl rfl) (v:=.pointer (some ⟨pg,3,none⟩)) (fun w1 hSw hC10=>by have hq:=(And.intro (AS hC10).1 (AS hC10).2);exact (rfa h155 rfl (opg rfl hC10) (fun w=>Cm pg 0 w)) w1) fun _ h156=>?_
     refine tgv hq13 h156 15 rfl rfl rfl rfl κ κ κ (fun _ _ _ _ h=>h) (wT h156 rfl rfl rfl) (v:=π dg) (fun w1 hSw hC11=>by have hq:=(And.intro (AS hC11).1 (AS hC11).2);exact (rld h156 rfl (opg rfl hC11) (ldB υ52 rfl (hSw.get 4 rfl:Blk _ _ _ _) rfl))) fun _ h157=>?_
     refine tgv hq13 h157 16 rfl rfl rfl rfl κ κ κ (fun _ _ _ _ h=>h) (wT h157 rfl rfl rfl) (v:=π dg) (fun w1 hSw hC12=>by have hq:=(And.intro (AS hC12).1 (AS hC12).2);exact (Bv h157 rfl (opg rfl hC12)) w1) fun _ h158=>?_
     refine tgv hq13 h158 17 rfl rfl rfl rfl κ κ κ (fun _ _ _ _ h=>h) (wT h158 rfl rfl rfl) (v:=.pointer (some ⟨dg,2,none⟩)) (fun w1 hSw hC13=>by have hq:=(And.intro (AS hC13).1 (AS hC13).2);exact (rfa h158 rfl (opg rfl hC13) (fun w=>FL dg 0 w)) w1) fun _ h159=>?_
     refine tgv hq13 h159 18 rfl rfl rfl rfl κ κ κ (fun _ _ _ _ h=>h) (wT h159 rfl rfl rfl) (v:=.bool f2) (fun w1 hSw hC14=>by have hq:=(And.intro (AS hC14).1 (AS hC14).2);exact (rld h159 rfl (opg rfl hC14) (ldB υ4 rfl (hSw.get 7 rfl:Blk _ _ _ _) rfl))) fun _ h160=>?_
     rcases bC ((BT A1 A2)&&(b1 == b2)) with hc6 | hc6
     ·skip
      have hp7:((BT A1 A2)=true)∧((b1 == b2)=true):=(And.intro (AS hc6).1 (AS hc6).2)
      refine to_ 11 rfl ((wT h160 rfl rfl rfl).trans hc6) κ fun _ hK39=>Bc h160 rfl rfl rfl (xs:=[.tmp 102]) rfl Gw rfl (vs:=[π cg]) (EF (opg rfl hc6) rfl) (args:=#[π cg]) rfl (Nj (s23.pk [5,0,1,2,3,4,6,7,8,9,10,11] rfl) h8M) fun _ v10 w18 r10 h161=>?_
      obtain ⟨rfl,s24⟩:=r10
      refine hK39 _ _ (s24.pk [1,2,3,4,5,0,6,7,8,9,10,11] rfl) fun hq14=>?_
      refine tv hq14 h161 19 rfl rfl rfl rfl κ κ κ (fun _ _ _ _ h=>h) ((wT h161 rfl rfl rfl).trans hc6) (v:=.bool (f1 == f2)) (fun w1 _=>(CL h161 rfl rfl (opg rfl hc6) (We .eql υ4 _ _ _ _)) w1) fun _ h162=>?_
      refine tv1 hq14 h162 20 rfl rfl (v:=.bool (f1 == f2)) (fun w1 _=>(CK h162 rfl (E:=((BT A1 A2)&&(b1 == b2))) (b:=true) rfl hc6 rfl) w1) fun _ h163=>?_
      refine h163.sk [112,111,103,110,109,108,107,106,105,104,102,101,100,99,98,97,96,95,94,93,92,10,5,3,0,1,6,7,8,9] rfl fun h164=>?_
      refine tv1 hq14 h164 21 rfl rfl (v:=.bool (f1 == f2)) (fun w1 _=>(Az h164 rfl rfl) w1) fun _ h165=>?_
      refine h165.sk [4,10,5,3,0,1,6,7,8,9] rfl fun h166=>?_
      refine wpAnyH_done κ ?_ _
      refine hK38 _ _ ?_
      refine wp_ret ?_

      refine CD (v:=.bool (f1 == f2)) (CC h166 rfl rfl) h166.defs ?_
      exact ⟨M1,S1,f1,N2,U2,f2,_,rfl,Sep.tail_un (xs:=[_,_,_,_,_,_,_]) (s24.pk [5,0,6,7,8,9,10,11] rfl),sok1,hM1,sok2,hM2,(fun _ j hj=>hel1 j (by rw [hQI];exact hj)),fun q1 q2 q3=>(by rw [q1,q2,q3,hdo2] at hdo1;cases hdo1;simp_all [Mv])⟩
     ·skip
      have hp8:((BT A1 A2)=false)∨((b1 == b2)=false):=((Wp hc6).imp (fun q=>q) (fun q=>q))
      refine tu hq13 h160 11 rfl rfl rfl rfl κ κ κ (fun _ _ _ _ h=>h) ((wT h160 rfl rfl rfl).trans hc6) fun _ h167=>?_
      refine tu hq13 h167 19 rfl rfl rfl rfl κ κ κ (fun _ _ _ _ h=>h) ((wT h167 rfl rfl rfl).trans hc6) fun _ h168=>?_
      refine tv1 hq13 h168 20 rfl rfl (v:=.bool false) (fun w1 _=>(CK h168 rfl (E:=((BT A1 A2)&&(b1 == b2))) (b:=false) rfl hc6 rfl) w1) fun _ h169=>?_
      refine h169.sk [112,111,103,110,109,108,107,106,105,104,102,101,100,99,98,97,96,95,94,93,92,10,5,3,0,1,6,7,8,9] rfl fun h170=>?_
      refine tv1 hq13 h170 21 rfl rfl (v:=.bool false) (fun w1 _=>(Az h170 rfl rfl) w1) fun _ h171=>?_
      refine h171.sk [4,10,5,3,0,1,6,7,8,9] rfl fun h172=>?_
      refine wpAnyH_done κ ?_ _
      refine hK38 _ _ ?_
      refine wp_ret ?_

      refine CD (v:=.bool false) (CC h172 rfl rfl) h172.defs ?_
      exact ⟨M1,S1,f1,N2,U2,f2,_,rfl,Sep.tail_un (xs:=[_,_,_,_,_,_,_]) (s23.pk [4,5,6,7,8,9,10,11] rfl),sok1,hM1,sok2,hM2,(fun _ j hj=>hel1 j (by rw [hQI];exact hj)),fun q1 q2 q3=>(by rw [q1,q2,q3,hdo2] at hdo1;cases hdo1;simp_all [Mv])⟩
    have s25:=s20.drew
    refine wp_region_held_drew (S:=fun w'=>Sep w' [Ab g1 39 (pkC A1 none 0 0),Ab g3 39 (pkC Q pa P.N.length pc),Ab g4 42 (Dh P pa P.N.length pc dst dcr qa qs.length qc),Ab pg 54 [π mg,π cg,π rg,π dg],Ab cg 83 (Ao mg S1 f1),AK mg mb md mp M1,AR W B,Ch.many R]) κ (s25.pk [0,1,2,3,4,5,9,10] rfl) (fun hq15=>?_)
    refine tv1 hq15 h136 0 rfl rfl (v:=π pg) (fun w1 _=>(Am h136 rfl rfl) w1) fun _ h173=>?_
    refine tv1 hq15 h173 1 rfl rfl (v:=π pg) (fun w1 _=>(Bv h173 rfl rfl) w1) fun _ h174=>?_
    refine tv1 hq15 h174 2 rfl rfl (v:=.pointer (some ⟨pg,3,none⟩)) (fun w1 _=>(rfa h174 rfl rfl (fun w=>Cm pg 0 w)) w1) fun _ h175=>?_
    refine tv1 hq15 h175 3 rfl rfl (v:=π dg) (fun w1 hSw=>(rld h175 rfl rfl (ldB υ52 rfl (hSw.get 3 rfl:Blk _ _ _ _) rfl))) fun _ h176=>?_
    refine tv1 hq15 h176 4 rfl rfl (v:=.agg (pkC Q pa P.N.length pc).toArray) (fun w1 hSw=>(rld h176 rfl rfl (ldA υ39 rfl (n:=43) κ (hSw.get 1 rfl:Blk _ _ _ _) rfl rfl))) fun _ h177=>?_
    refine wpAnyH_ready (rs:=[5,9]) κ (by simp) (toc rfl (wn rfl) (fun K3 hK40=>?_) (toc rfl (wn rfl) (fun K3 hK40=>?_) AllReadyH.nil))
    ·skip
     refine Bc h177 rfl rfl rfl (xs:=[.tmp 84,.tmp 85]) rfl Dg rfl (vs:=[π dg,.agg (pkC Q pa P.N.length pc).toArray]) rfl (args:=#[π dg,.agg (pkC Q pa P.N.length pc).toArray]) rfl ((by have z:=Tt (P:=Q) (pa:=pa) (pc:=pc) (s25.pk [6,7,8,9,0,1,2,3,4,5,10] rfl) uok hk hN2 hB wQ hPQ hSQ hNQ hn9Q hNmQ;rw [hNl] at z;exact z)) fun _ v11 w19 r11 h178=>?_
     obtain ⟨Mx487,Sx488,frx489,Qax490,bx491,rfl,s26,hso496,hM496,hQN496,hdo496⟩:=r11
     refine hK40 _ _ (s26.pk [4,5,6,7,8,9,3,10] rfl) fun hq16=>?_
     refine tv1 hq16 h178 6 rfl rfl (v:=.tuple #[.agg (pkC Qax490 none 0 0).toArray,.bool bx491]) (fun w1 _=>(Am h178 rfl rfl) w1) fun _ h179=>?_
     refine tv1 hq16 h179 7 rfl rfl (v:=.agg (pkC Qax490 none 0 0).toArray) (fun w1 _=>(DM h179 rfl rfl rfl) w1) fun _ h180=>?_
     refine tv1 hq16 h180 8 rfl rfl (v:=.bool bx491) (fun w1 _=>(DM h180 rfl rfl rfl) w1) fun _ h181=>?_
     refine to_ 9 rfl (wn rfl) κ fun _ hK41=>Cj h181 rfl rfl rfl rfl (z:=[ν 0,ν 0,ν 0,ν 0,ν 0,ν 0,ν 0,σ [],ν 0,ν 0,ν 0,σ [],σ [],ν 0,ν 0,ν 0,ν 0,σ [],ν 0,ν 0,ν 0,ν 0,σ [],.slice none 0 0,ν 0,ν 0,ν 0,ν 0,ν 0,ν 0,ν 0,ν 0,ν 0,ν 0,ν 0,ν 0,ν 0,ν 0,ν 0,ν 0,ν 0,ν 0,ν 0]) (fun _=>rfl) s26 fun _ g5 w20 h182 s27 _ _=>?_
     refine hK41 _ _ (s27.pk [5,6,7,8,9,10,4,11] rfl) fun hq17=>?_
     refine to_ 10 rfl (wn rfl) κ fun _ hK42=>BE h182 rfl rfl s27 0 rfl rfl rfl [ν (Qax490.I 0),ν (Qax490.I 1),ν (Qax490.I 2),ν (Qax490.I 3),ν (Qax490.I 4),ν (Qax490.I 5),ν (Qax490.I 6),σ (Qax490.S 7),ν (Qax490.I 8),ν (Qax490.I 9),ν (Qax490.I 10),σ (Qax490.S 11),σ (Qax490.S 12),ν (Qax490.I 13),ν (Qax490.I 14),ν (Qax490.I 15),ν (Qax490.I 16),σ (Qax490.S 17),ν (Qax490.I 18),ν (Qax490.I 19),ν (Qax490.I 20),ν (Qax490.I 21),σ (Qax490.S 22),.slice none 0 0,ν (Qax490.I 24),ν (Qax490.I 25),ν (Qax490.I 26),ν (Qax490.I 27),ν (Qax490.I 28),ν (Qax490.I 29),ν (Qax490.I 30),ν (Qax490.I 31),ν (Qax490.I 32),ν (Qax490.I 33),ν (Qax490.I 34),ν (Qax490.I 35),ν (Qax490.I 36),ν (Qax490.I 37),ν (Qax490.I 38),ν (Qax490.I 39),ν (Qax490.I 40),ν (Qax490.I 41),ν (Qax490.I 42)] rfl κ rfl (by show 0+43≤43;decide) (L':=[ν (Qax490.I 0),ν (Qax490.I 1),ν (Qax490.I 2),ν (Qax490.I 3),ν (Qax490.I 4),ν (Qax490.I 5),ν (Qax490.I 6),σ (Qax490.S 7),ν (Qax490.I 8),ν (Qax490.I 9),ν (Qax490.I 10),σ (Qax490.S 11),σ (Qax490.S 12),ν (Qax490.I 13),ν (Qax490.I 14),ν (Qax490.I 15),ν (Qax490.I 16),σ (Qax490.S 17),ν (Qax490.I 18),ν (Qax490.I 19),ν (Qax490.I 20),ν (Qax490.I 21),σ (Qax490.S 22),.slice none 0 0,ν (Qax490.I 24),ν (Qax490.I 25),ν (Qax490.I 26),ν (Qax490.I 27),ν (Qax490.I 28),ν (Qax490.I 29),ν (Qax490.I 30),ν (Qax490.I 31),ν (Qax490.I 32),ν (Qax490.I 33),ν (Qax490.I 34),ν (Qax490.I 35),ν (Qax490.I 36),ν (Qax490.I 37),ν (Qax490.I 38),ν (Qax490.I 39),ν (Qax490.I 40),ν (Qax490.I 41),ν (Qax490.I 42)]) rfl (cs':=[Ab g5 39 (pkC Qax490 none 0 0),Ab dg 49 [π rg,.slice (some ⟨gs0,0,none⟩) 8 8,.bool frx489],Ab gs0 45 (Sx488.flatMap AL),AZ rg rv rd ra Mx487,AR W B,Ab g1 39 (pkC A1 none 0 0),Ab g3 39 (pkC Q pa P.N.length pc),Ab g4 42 (Dh P pa P.N.length pc dst dcr qa qs.length qc),Ab pg 54 [π mg,π cg,π rg,π dg],Ab cg 83 (Ao mg S1 f1),AK mg mb md mp M1,Ch.many R]) rfl fun _ w21 h183 s28 _=>?_
     refine hK42 _ _ (s28.pk [5,6,7,8,9,10,4,11] rfl) fun hq18=>?_
     refine tv1 hq18 h183 11 rfl rfl (v:=.bool bx491) (fun w1 _=>(Az h183 rfl rfl) w1) fun _ h184=>?_
     refine h184.sk [9,8,5,4,3,0,1,6,7] rfl fun h185=>?_
     refine wpAnyH_done κ ?_ _
     exact hJ371 g5 Mx487 Sx488 frx489 Qax490 bx491 _ _ (h185.subs rfl) (s28.pk [0,5,6,7,8,9,10,1,2,3,4,11] rfl) hso496 hM496 hQN496 hdo496
    ·skip
     refine Cj h177 rfl rfl rfl rfl (z:=[ν 0,ν 0,ν 0,ν 0,ν 0,ν 0,ν 0,σ [],ν 0,ν 0,ν 0,σ [],σ [],ν 0,ν 0,ν 0,ν 0,σ [],ν 0,ν 0,ν 0,ν 0,σ [],.slice none 0 0,ν 0,ν 0,ν 0,ν 0,ν 0,ν 0,ν 0,ν 0,ν 0,ν 0,ν 0,ν 0,ν 0,ν 0,ν 0,ν 0,ν 0,ν 0,ν 0]) (fun _=>rfl) s25 fun _ g6 w22 h186 s29 _ _=>hK40 _ _ (s29.pk [1,2,3,4,5,6,10,11] rfl) fun hq19=>?_
     refine to_ 5 rfl (wn rfl) κ fun _ hK43=>Bc h186 rfl rfl rfl (xs:=[.tmp 84,.tmp 85]) rfl Dg rfl (vs:=[π dg,.agg (pkC Q pa P.N.length pc).toArray]) rfl (args:=#[π dg,.agg (pkC Q pa P.N.length pc).toArray]) rfl ((by have z:=Tt (P:=Q) (pa:=pa) (pc:=pc) (s29.pk [7,8,9,10,0,1,2,3,4,5,6,11] rfl) uok hk hN2 hB wQ hPQ hSQ hNQ hn9Q hNmQ;rw [hNl] at z;exact z)) fun _ v12 w23 r12 h187=>?_
     obtain ⟨Mx532,Sx533,frx534,Qax535,bx536,rfl,s30,hso541,hM541,hQN541,hdo541⟩:=r12
     refine hK43 _ _ (s30.pk [5,6,7,8,9,10,3,11] rfl) fun hq20=>?_
     refine tv1 hq20 h187 6 rfl rfl (v:=.tuple #[.agg (pkC Qax535 none 0 0).toArray,.bool bx536]) (fun w1 _=>(Am h187 rfl rfl) w1) fun _ h188=>?_
     refine tv1 hq20 h188 7 rfl rfl (v:=.agg (pkC Qax535 none 0 0).toArray) (fun w1 _=>(DM h188 rfl rfl rfl) w1) fun _ h189=>?_
     refine tv1 hq20 h189 8 rfl rfl (v:=.bool bx536) (fun w1 _=>(DM h189 rfl rfl rfl) w1) fun _ h190=>?_
     refine to_ 10 rfl (wn rfl) κ fun _ hK44=>BE h190 rfl rfl s30 4 rfl rfl rfl [ν (Qax535.I 0),ν (Qax535.I 1),ν (Qax535.I 2),ν (Qax535.I 3),ν (Qax535.I 4),ν (Qax535.I 5),ν (Qax535.I 6),σ (Qax535.S 7),ν (Qax535.I 8),ν (Qax535.I 9),ν (Qax535.I 10),σ (Qax535.S 11),σ (Qax535.S 12),ν (Qax535.I 13),ν (Qax535.I 14),ν (Qax535.I 15),ν (Qax535.I 16),σ (Qax535.S 17),ν (Qax535.I 18),ν (Qax535.I 19),ν (Qax535.I 20),ν (Qax535.I 21),σ (Qax535.S 22),.slice none 0 0,ν (Qax535.I 24),ν (Qax535.I 25),ν (Qax535.I 26),ν (Qax535.I 27),ν (Qax535.I 28),ν (Qax535.I 29),ν (Qax535.I 30),ν (Qax535.I 31),ν (Qax535.I 32),ν (Qax535.I 33),ν (Qax535.I 34),ν (Qax535.I 35),ν (Qax535.I 36),ν (Qax535.I 37),ν (Qax535.I 38),ν (Qax535.I 39),ν (Qax535.I 40),ν (Qax535.I 41),ν (Qax535.I 42)] rfl κ rfl (by show 0+43≤43;decide) (L':=[ν (Qax535.I 0),ν (Qax535.I 1),ν (Qax535.I 2),ν (Qax535.I 3),ν (Qax535.I 4),ν (Qax535.I 5),ν (Qax535.I 6),σ (Qax535.S 7),ν (Qax535.I 8),ν (Qax535.I 9),ν (Qax535.I 10),σ (Qax535.S 11),σ (Qax535.S 12),ν (Qax535.I 13),ν (Qax535.I 14),ν (Qax535.I 15),ν (Qax535.I 16),σ (Qax535.S 17),ν (Qax535.I 18),ν (Qax535.I 19),ν (Qax535.I 20),ν (Qax535.I 21),σ (Qax535.S 22),.slice none 0 0,ν (Qax535.I 24),ν (Qax535.I 25),ν (Qax535.I 26),ν (Qax535.I 27),ν (Qax535.I 28),ν (Qax535.I 29),ν (Qax535.I 30),ν (Qax535.I 31),ν (Qax535.I 32),ν (Qax535.I 33),ν (Qax535.I 34),ν (Qax535.I 35),ν (Qax535.I 36),ν (Qax535.I 37),ν (Qax535.I 38),ν (Qax535.I 39),ν (Qax535.I 40),ν (Qax535.I 41),ν (Qax535.I 42)]) rfl (cs':=[Ab dg 49 [π rg,.slice (some ⟨gs0,0,none⟩) 8 8,.bool frx534],Ab gs0 45 (Sx533.flatMap AL),AZ rg rv rd ra Mx532,AR W B,Ab g6 39 (pkC Qax535 none 0 0),Ab g1 39 (pkC A1 none 0 0),Ab g3 39 (pkC Q pa P.N.length pc),Ab g4 42 (Dh P pa P.N.length pc dst dcr qa qs.length qc),Ab pg 54 [π mg,π cg,π rg,π dg],Ab cg 83 (Ao mg S1 f1),AK mg mb md mp M1,Ch.many R]) rfl fun _ w24 h191 s31 _=>?_
     refine hK44 _ _ (s31.pk [5,6,7,8,9,10,3,11] rfl) fun hq21=>?_
     refine tv1 hq21 h191 11 rfl rfl (v:=.bool bx536) (fun w1 _=>(Az h191 rfl rfl) w1) fun _ h192=>?_
     refine h192.sk [9,8,5,4,3,0,1,6,7] rfl fun h193=>?_
     refine wpAnyH_done κ ?_ _
     exact hJ371 g6 Mx532 Sx533 frx534 Qax535 bx536 _ _ (h193.subs rfl) (s31.pk [4,5,6,7,8,9,10,0,1,2,3,11] rfl) hso541 hM541 hQN541 hdo541
   have s32:=s3.drew
   refine wp_region_held_drew (S:=fun w'=>Sep w' [Ab g3 39 (pkC Q pa P.N.length pc),Ab g4 42 (Dh P pa P.N.length pc dst dcr qa qs.length qc),Ab pg 54 [π mg,π cg,π rg,π dg],Ab dg 49 [π rg,.slice (some ⟨gs0,0,none⟩) 8 8,.bool gr],Ab gs0 45 (U.flatMap AL),AZ rg rv rd ra N,AR W B,Ch.many R]) κ (s32.pk [0,1,2,5,6,7,8,9] rfl) (fun hq22=>?_)
   refine tv1 hq22 h135 0 rfl rfl (v:=π pg) (fun w1 _=>(Am h135 rfl rfl) w1) fun _ h194=>?_
   refine tv1 hq22 h194 1 rfl rfl (v:=π pg) (fun w1 _=>(Bv h194 rfl rfl) w1) fun _ h195=>?_
   refine tv1 hq22 h195 2 rfl rfl (v:=.pointer (some ⟨pg,1,none⟩)) (fun w1 _=>(rfa h195 rfl rfl (fun w=>Cl pg 0 w)) w1) fun _ h196=>?_
   refine tv1 hq22 h196 3 rfl rfl (v:=π cg) (fun w1 hSw=>(rld h196 rfl rfl (ldB υ51 rfl (hSw.get 2 rfl:Blk _ _ _ _) rfl))) fun _ h197=>?_
   refine tv1 hq22 h197 4 rfl rfl (v:=.agg (pkC Q pa P.N.length pc).toArray) (fun w1 hSw=>(rld h197 rfl rfl (ldA υ39 rfl (n:=43) κ (hSw.get 0 rfl:Blk _ _ _ _) rfl rfl))) fun _ h198=>?_
   refine wpAnyH_ready (rs:=[5,9]) κ (by simp) (toc rfl (wn rfl) (fun K4 hK45=>?_) (toc rfl (wn rfl) (fun K4 hK45=>?_) AllReadyH.nil))
   ·skip
    refine Bc h198 rfl rfl rfl (xs:=[.tmp 75,.tmp 76]) rfl EC rfl (vs:=[π cg,.agg (pkC Q pa P.N.length pc).toArray]) rfl (args:=#[π cg,.agg (pkC Q pa P.N.length pc).toArray]) rfl ((by have z:=Wf (P:=Q) (pa:=pa) (pc:=pc) (s32.pk [3,4,8,0,1,2,5,6,7,9] rfl) sok hM hB wQ hPQ hSQ hNQ hn9Q hNmQ;rw [hNl] at z;exact z)) fun _ v13 w25 r13 h199=>?_
    obtain ⟨Mx574,Sx575,frx576,Qax577,bx578,rfl,s33,hso583,hM583,hQN583,hel583,hdo583⟩:=r13
    refine hK45 _ _ (s33.pk [3,4,5,6,7,8,2,9] rfl) fun hq23=>?_
    refine tv1 hq23 h199 6 rfl rfl (v:=.tuple #[.agg (pkC Qax577 none 0 0).toArray,.bool bx578]) (fun w1 _=>(Am h199 rfl rfl) w1) fun _ h200=>?_
    refine tv1 hq23 h200 7 rfl rfl (v:=.agg (pkC Qax577 none 0 0).toArray) (fun w1 _=>(DM h200 rfl rfl rfl) w1) fun _ h201=>?_
    refine tv1 hq23 h201 8 rfl rfl (v:=.bool bx578) (fun w1 _=>(DM h201 rfl rfl rfl) w1) fun _ h202=>?_
    refine to_ 9 rfl (wn rfl) κ fun _ hK46=>Cj h202 rfl rfl rfl rfl (z:=[ν 0,ν 0,ν 0,ν 0,ν 0,ν 0,ν 0,σ [],ν 0,ν 0,ν 0,σ [],σ [],ν 0,ν 0,ν 0,ν 0,σ [],ν 0,ν 0,ν 0,ν 0,σ [],.slice none 0 0,ν 0,ν 0,ν 0,ν 0,ν 0,ν 0,ν 0,ν 0,ν 0,ν 0,ν 0,ν 0,ν 0,ν 0,ν 0,ν 0,ν 0,ν 0,ν 0]) (fun _=>rfl) s33 fun _ g7 w26 h203 s34 _ _=>?_
    refine hK46 _ _ (s34.pk [4,5,6,7,8,9,3,10] rfl) fun hq24=>?_
    refine to_ 10 rfl (wn rfl) κ fun _ hK47=>BE h203 rfl rfl s34 0 rfl rfl rfl [ν (Qax577.I 0),ν (Qax577.I 1),ν (Qax577.I 2),ν (Qax577.I 3),ν (Qax577.I 4),ν (Qax577.I 5),ν (Qax577.I 6),σ (Qax577.S 7),ν (Qax577.I 8),ν (Qax577.I 9),ν (Qax577.I 10),σ (Qax577.S 11),σ (Qax577.S 12),ν (Qax577.I 13),ν (Qax577.I 14),ν (Qax577.I 15),ν (Qax577.I 16),σ (Qax577.S 17),ν (Qax577.I 18),ν (Qax577.I 19),ν (Qax577.I 20),ν (Qax577.I 21),σ (Qax577.S 22),.slice none 0 0,ν (Qax577.I 24),ν (Qax577.I 25),ν (Qax577.I 26),ν (Qax577.I 27),ν (Qax577.I 28),ν (Qax577.I 29),ν (Qax577.I 30),ν (Qax577.I 31),ν (Qax577.I 32),ν (Qax577.I 33),ν (Qax577.I 34),ν (Qax577.I 35),ν (Qax577.I 36),ν (Qax577.I 37),ν (Qax577.I 38),ν (Qax577.I 39),ν (Qax577.I 40),ν (Qax577.I 41),ν (Qax577.I 42)] rfl κ rfl (by show 0+43≤43;decide) (L':=[ν (Qax577.I 0),ν (Qax577.I 1),ν (Qax577.I 2),ν (Qax577.I 3),ν (Qax577.I 4),ν (Qax577.I 5),ν (Qax577.I 6),σ (Qax577.S 7),ν (Qax577.I 8),ν (Qax577.I 9),ν (Qax577.I 10),σ (Qax577.S 11),σ (Qax577.S 12),ν (Qax577.I 13),ν (Qax577.I 14),ν (Qax577.I 15),ν (Qax577.I 16),σ (Qax577.S 17),ν (Qax577.I 18),ν (Qax577.I 19),ν (Qax577.I 20),ν (Qax577.I 21),σ (Qax577.S 22),.slice none 0 0,ν (Qax577.I 24),ν (Qax577.I 25),ν (Qax577.I 26),ν (Qax577.I 27),ν (Qax577.I 28),ν (Qax577.I 29),ν (Qax577.I 30),ν (Qax577.I 31),ν (Qax577.I 32),ν (Qax577.I 33),ν (Qax577.I 34),ν (Qax577.I 35),ν (Qax577.I 36),ν (Qax577.I 37),ν (Qax577.I 38),ν (Qax577.I 39),ν (Qax577.I 40),ν (Qax577.I 41),ν (Qax577.I 42)]) rfl (cs':=[Ab g7 39 (pkC Qax577 none 0 0),Ab cg 83 (Ao mg Sx575 frx576),AK mg mb md mp Mx574,AR W B,Ab g3 39 (pkC Q pa P.N.length pc),Ab g4 42 (Dh P pa P.N.length pc dst dcr qa qs.length qc),Ab pg 54 [π mg,π cg,π rg,π dg],Ab dg 49 [π rg,.slice (some ⟨gs0,0,none⟩) 8 8,.bool gr],Ab gs0 45 (U.flatMap AL),AZ rg rv rd ra N,Ch.many R]) rfl fun _ w27 h204 s35 _=>?_
    refine hK47 _ _ (s35.pk [4,5,6,7,8,9,3,10] rfl) fun hq25=>?_
    refine tv1 hq25 h204 11 rfl rfl (v:=.bool bx578) (fun w1 _=>(Az h204 rfl rfl) w1) fun _ h205=>?_
    refine h205.sk [7,6,5,4,3,0,1] rfl fun h206=>?_
    refine wpAnyH_done κ ?_ _
    exact hJ365 g7 Mx574 Sx575 frx576 Qax577 bx578 _ _ (h206.subs rfl) (s35.pk [0,4,5,6,1,2,7,8,9,3,10] rfl) hso583 hM583 hQN583 hel583 hdo583
   ·skip
    refine Cj h198 rfl rfl rfl rfl (z:=[ν 0,ν 0,ν 0,ν 0,ν 0,ν 0,ν 0,σ [],ν 0,ν 0,ν 0,σ [],σ [],ν 0,ν 0,ν 0,ν 0,σ [],ν 0,ν 0,ν 0,ν 0,σ [],.slice none 0 0,ν 0,ν 0,ν 0,ν 0,ν 0,ν 0,ν 0,ν 0,ν 0,ν 0,ν 0,ν 0,ν 0,ν 0,ν 0,ν 0,ν 0,ν 0,ν 0]) (fun _=>rfl) s32 fun _ g8 w28 h207 s36 _ _=>hK45 _ _ (s36.pk [1,2,3,6,7,8,9,10] rfl) fun hq26=>?_
    refine to_ 5 rfl (wn rfl) κ fun _ hK48=>Bc h207 rfl rfl rfl (xs:=[.tmp 75,.tmp 76]) rfl EC rfl (vs:=[π cg,.agg (pkC Q pa P.N.length pc).toArray]) rfl (args:=#[π cg,.agg (pkC Q pa P.N.length pc).toArray]) rfl ((by have z:=Wf (P:=Q) (pa:=pa) (pc:=pc) (s36.pk [4,5,9,0,1,2,3,6,7,8,10] rfl) sok hM hB wQ hPQ hSQ hNQ hn9Q hNmQ;rw [hNl] at z;exact z)) fun _ v14 w29 r14 h208=>?_
    obtain ⟨Mx619,Sx620,frx621,Qax622,bx623,rfl,s37,hso628,hM628,hQN628,hel628,hdo628⟩:=r14
    refine hK48 _ _ (s37.pk [4,5,6,7,8,9,2,10] rfl) fun hq27=>?_
    refine tv1 hq27 h208 6 rfl rfl (v:=.tuple #[.agg (pkC Qax622 none 0 0).toArray,.bool bx623]) (fun w1 _=>(Am h208 rfl rfl) w1) fun _ h209=>?_
    refine tv1 hq27 h209 7 rfl rfl (v:=.agg (pkC Qax622 none 0 0).toArray) (fun w1 _=>(DM h209 rfl rfl rfl) w1) fun _ h210=>?_
    refine tv1 hq27 h210 8 rfl rfl (v:=.bool bx623) (fun w1 _=>(DM h210 rfl rfl rfl) w1) fun _ h211=>?_
    refine to_ 10 rfl (wn rfl) κ fun _ hK49=>BE h211 rfl rfl s37 3 rfl rfl rfl [ν (Qax622.I 0),ν (Qax622.I 1),ν (Qax622.I 2),ν (Qax622.I 3),ν (Qax622.I 4),ν (Qax622.I 5),ν (Qax622.I 6),σ (Qax622.S 7),ν (Qax622.I 8),ν (Qax622.I 9),ν (Qax622.I 10),σ (Qax622.S 11),σ (Qax622.S 12),ν (Qax622.I 13),ν (Qax622.I 14),ν (Qax622.I 15),ν (Qax622.I 16),σ (Qax622.S 17),ν (Qax622.I 18),ν (Qax622.I 19),ν (Qax622.I 20),ν (Qax622.I 21),σ (Qax622.S 22),.slice none 0 0,ν (Qax622.I 24),ν (Qax622.I 25),ν (Qax622.I 26),ν (Qax622.I 27),ν (Qax622.I 28),ν (Qax622.I 29),ν (Qax622.I 30),ν (Qax622.I 31),ν (Qax622.I 32),ν (Qax622.I 33),ν (Qax622.I 34),ν (Qax622.I 35),ν (Qax622.I 36),ν (Qax622.I 37),ν (Qax622.I 38),ν (Qax622.I 39),ν (Qax622.I 40),ν (Qax622.I 41),ν (Qax622.I 42)] rfl κ rfl (by show 0+43≤43;decide) (L':=[ν (Qax622.I 0),ν (Qax622.I 1),ν (Qax622.I 2),ν (Qax622.I 3),ν (Qax622.I 4),ν (Qax622.I 5),ν (Qax622.I 6),σ (Qax622.S 7),ν (Qax622.I 8),ν (Qax622.I 9),ν (Qax622.I 10),σ (Qax622.S 11),σ (Qax622.S 12),ν (Qax622.I 13),ν (Qax622.I 14),ν (Qax622.I 15),ν (Qax622.I 16),σ (Qax622.S 17),ν (Qax622.I 18),ν (Qax622.I 19),ν (Qax622.I 20),ν (Qax622.I 21),σ (Qax622.S 22),.slice none 0 0,ν (Qax622.I 24),ν (Qax622.I 25),ν (Qax622.I 26),ν (Qax622.I 27),ν (Qax622.I 28),ν (Qax622.I 29),ν (Qax622.I 30),ν (Qax622.I 31),ν (Qax622.I 32),ν (Qax622.I 33),ν (Qax622.I 34),ν (Qax622.I 35),ν (Qax622.I 36),ν (Qax622.I 37),ν (Qax622.I 38),ν (Qax622.I 39),ν (Qax622.I 40),ν (Qax622.I 41),ν (Qax622.I 42)]) rfl (cs':=[Ab cg 83 (Ao mg Sx620 frx621),AK mg mb md mp Mx619,AR W B,Ab g8 39 (pkC Qax622 none 0 0),Ab g3 39 (pkC Q pa P.N.length pc),Ab g4 42 (Dh P pa P.N.length pc dst dcr qa qs.length qc),Ab pg 54 [π mg,π cg,π rg,π dg],Ab dg 49 [π rg,.slice (some ⟨gs0,0,none⟩) 8 8,.bool gr],Ab gs0 45 (U.flatMap AL),AZ rg rv rd ra N,Ch.many R]) rfl fun _ w30 h212 s38 _=>?_
    refine hK49 _ _ (s38.pk [4,5,6,7,8,9,2,10] rfl) fun hq28=>?_
    refine tv1 hq28 h212 11 rfl rfl (v:=.bool bx623) (fun w1 _=>(Az h212 rfl rfl) w1) fun _ h213=>?_
    refine h213.sk [7,6,5,4,3,0,1] rfl fun h214=>?_
    refine wpAnyH_done κ ?_ _
    exact hJ365 g8 Mx619 Sx620 frx621 Qax622 bx623 _ _ (h214.subs rfl) (s38.pk [3,4,5,6,0,1,7,8,9,2,10] rfl) hso628 hM628 hQN628 hel628 hdo628
end
section
theorem Sq:(CS 64).V.length=64:=List.length_replicate
theorem Tv {w:World} {R:List Ch} {pg cg mg mb md mp dg gs0 rg rv rd ra k:Nat} {S:List SideM} {fr:Bool} {M:MemM} {W:World} {x:DeedT20} (hS0:Sep w ([Ab pg 54 [π mg,π cg,π rg,π dg],Ab cg 83 (Ao mg S fr),AK mg mb md mp M,Ab dg 49 [π rg,.slice (some ⟨gs0,0,none⟩) 8 8,.bool fr],Ab gs0 45 (S.flatMap AL),AZ rg rv rd ra M,AR W W.heap.size]++R)) (sok:SOk S k) (hk:k≤1000) (hM:M.V.length=23168) (hx:DeedOk W x) :
  CallsR Tryz.prog 8 #[π pg,.agg (Tl x).toArray] w (fun v w'=>∃ M' S' fr',v=.bool true∧Sep w' ([Ab pg 54 [π mg,π cg,π rg,π dg],Ab cg 83 (Ao mg S' fr'),AK mg mb md mp M',Ab dg 49 [π rg,.slice (some ⟨gs0,0,none⟩) 8 8,.bool fr'],Ab gs0 45 (S'.flatMap AL),AZ rg rv rd ra M',AR W W.heap.size]++R)∧SOk S' (k+1)∧M'.V.length=23168∧(x.cr=false→∀ j:Nat,(j:Int)+1≠x.P.I 1→S'.getD j (Ac 0)=S.getD j (Ac 0))):=
 CallsR.mono (Tw (R:=R) (P:=x.P) (pa:=x.pa) (pc:=x.pc) (dst:=x.st) (dcr:=x.cr) (qa:=x.qa) (qc:=x.qc) (qs:=x.qs) hS0 sok sok hk hM hM rfl hx.p.wP hx.p.S7 hx.p.hN hx.p.hn9 hx.p.row hx.q hx.o) fun v w' ⟨M',S',fr',N',U',gr',bb,e,h1,h2,h3,_,_,h4,h5⟩=>by
  obtain ⟨e1,e2,e3,e4⟩:=h5 rfl rfl rfl
  subst e1 e2 e3 e4
  exact ⟨M',S',fr',e,h1,h2,h3,h4⟩
theorem Gd (args:Array Value) (w:World):(callFunc 7 args).run Tryz.prog w=.ok (.enter 7 args) w:=by
 have h:=Tryz.func7
 go_simp
theorem EL (args:Array Value) (w:World):(callFunc 8 args).run Tryz.prog w=.ok (.enter 8 args) w:=by
 have h:=Tryz.func8
 go_simp
theorem EM (args:Array Value) (w:World):(callFunc 9 args).run Tryz.prog w=.ok (.enter 9 args) w:=by
 have h:=Tryz.func9
 go_simp
theorem FI (g off:Nat) (w:World):(Instr.fieldAt 54 (.pointer (some ⟨g,off,none⟩)) 3).run Tryz.prog w=.ok (.pointer (some ⟨g,off+3,none⟩)) w:=rfl
theorem FJ (g off:Nat) (w:World):(Instr.fieldAt 49 (.pointer (some ⟨g,off,none⟩)) 1).run Tryz.prog w=.ok (.pointer (some ⟨g,off+1,none⟩)) w:=rfl
theorem FO (g off:Nat) (w:World):(Instr.fieldAt 45 (.pointer (some ⟨g,off,none⟩)) 0).run Tryz.prog w=.ok (.pointer (some ⟨g,off+0,none⟩)) w:=rfl
theorem Ds (g off:Nat) (w:World):(Instr.fieldAt 54 (.pointer (some ⟨g,off,none⟩)) 1).run Tryz.prog w=.ok (.pointer (some ⟨g,off+1,none⟩)) w:=rfl
theorem CG (args:Array Value) (w:World):(callFunc 10 args).run Tryz.prog w=.ok (.enter 10 args) w:=by
 have h:=Tryz.func10
 go_simp
theorem Gy (args:Array Value) (w:World):(callFunc 11 args).run Tryz.prog w=.ok (.enter 11 args) w:=by
 have h:=Tryz.func11
 go_simp
theorem Li (args:Array Value) (w:World):(callFunc 12 args).run Tryz.prog w=.ok (.enter 12 args) w:=by
 have h:=Tryz.func12
 go_simp
theorem Ge (args:Array Value) (w:World):(callFunc 13 args).run Tryz.prog w=.ok (.enter 13 args) w:=by
 have h:=Tryz.func13
 go_simp
theorem RegionPlays_walk (W:World) (a0:Option Addr) (n0 c0:Nat) (f:Nat→DeedT20) (rb:SV W a0 n0 c0 f) :
  Calls Tryz.prog 3 #[.slice a0 n0 c0] W fun e W'=>e=.returned (.bool true)∧Below W.heap.size W W':=by
 obtain ⟨hX0,hw⟩:=rb;have hXl:=hX0.lt;unfold maxLen at hXl;obtain ⟨bX,oX,hX⟩:=hX0.at;have hS:Sep W [AR W W.heap.size]:=Sep.start W;have hB:W.heap.size=W.heap.size:=rfl
 suffices hZ:CallsR Tryz.prog 3 #[.slice a0 n0 c0] W (fun v W'=>v=.bool true∧Below W.heap.size W W') from Calls.mono hZ fun e W' ⟨v,e1,e2,h⟩=>⟨by rw [e1,e2],h⟩
 refine BK Tryz.func3 rfl (N:=75) Tryz.ntmps3 (by show 1≤75;decide) [(0,.slice a0 n0 c0)] rfl fun _ h1=>sqr fun _ hK3=>mv h1 rfl fun _ h4=>wpList_nil<|hK3 _ _<|sqr fun _ hK6=>cl h4 rfl Gd (Mo hS) fun _ v9 w1 r1 h7=>?_
 obtain ⟨pg,cg,mg,mb,md,mp,dg,gs0,rg,rv,rd,ra,rfl,s1⟩:=r1
 refine mv h7 rfl fun _ h2=>h2.sn [3,2,0] rfl fun h3=>hK6 _ _<|sq fun _ hK1=>sqr fun _ hK2=>mv h3 rfl fun _ h5=>bv h5 (z:=.bool false) rfl (Nc _ υ23 _ _ _) fun _ h6=>h6.sn [11,3,2,0] rfl fun h8=>hK2 _ _<|wcF h8 rfl rfl<|h8.sk [3,2,0] rfl fun h9=>?_
 refine wp_skip<|hK1 _ _<|sq fun _ hK4=>sqr fun _ hK5=>mv h9 rfl fun _ h10=>wpList_nil<|hK5 _ _<|wp_block ?_
 refine UU (fun (k:Nat) (M:MemM) (S:List SideM) (fr:Bool) a' w'=>Kn 75 [(4,ν (k:Int)),(3,π pg),(2,.bool false),(0,.slice a0 n0 c0)] a'∧Sep w' [Ab pg 54 [π mg,π cg,π rg,π dg],Ab cg 83 (Ao mg S fr),AK mg mb md mp M,Ab dg 49 [π rg,.slice (some ⟨gs0,0,none⟩) 8 8,.bool fr],Ab gs0 45 (S.flatMap AL),AZ rg rv rd ra M,AR W W.heap.size]∧(SOk S k)∧(M.V.length=23168)∧(k≤25)) (fun (k:Nat) (M:MemM) (S:List SideM) (fr:Bool)=>25-k) 0 (CS 23168) (List.replicate 8 (Ac 0)) false ⟨h10.subs rfl,s1,VG,GC,Nat.zero_le _⟩ ?_
 rintro k1 M38 S39 fr40 a1 w2 ⟨h11,s2,sok34,hM35,hk36⟩ K1 hK7
 have h8S:=sok34.len
 refine sq fun _ hK8=>sqr fun _ hK9=>mvs 2 h11 rfl fun _ h12=>sv1 h12 rfl (v:=ν (n0:Int)) (Wn h12 rfl rfl υ22) fun _ h13=>bv h13 (z:=.bool (decide ((k1:Int)<(n0:Int)))) rfl (cLt _ _ _ _ rfl) fun _ h14=>mv h14 rfl fun _ h15=>sg h15 (wT h15 rfl rfl rfl) rfl rfl rfl (v:=ν (k1:Int)) (fun hC1=>by have hq:=(dT hC1);exact Am h15 rfl rfl _) fun _ h16=>sg h16 (wT h16 rfl rfl rfl) rfl rfl rfl (v:=.bool (decide ((k1:Int)<25))) (fun hC2=>by have hq:=(dT hC2);exact CL h16 rfl (opg rfl hC2) rfl (cLt _ _ _ _ rfl) _) fun _ h17=>sv1 h17 rfl (v:=.bool ((decide ((k1:Int)<(n0:Int)))&&(decide ((k1:Int)<25)))) (In h17 rfl (E:=(decide ((k1:Int)<(n0:Int)))) (F:=(decide ((k1:Int)<25))) rfl rfl rfl (fun e=>if_pos (by rw [e];try rfl))) fun _ h18=>h18.sn [19,4,3,2,0] rfl fun h19=>hK9 _ _ ?_
 rcases bC ((decide ((k1:Int)<(n0:Int)))&&(decide ((k1:Int)<25))) with hc1 | hc1
 ·skip
  have hp1:((k1:Int)<(n0:Int))∧((k1:Int)<25):=(And.intro (dT (AS hc1).1) (dT (AS hc1).2))
  refine wcT h19 rfl hc1<|h19.sk [4,3,2,0] rfl fun h20=>wp_skip<|hK8 _ _<|sq fun _ hK10=>wp_block ?_
  refine sqr fun _ hK11=>mvs 3 h20 rfl fun _ h21=>sv1 h21 rfl (v:=.pointer (some ⟨bX,oX+k1*46,none⟩)) (Ho h21 rfl rfl rfl (fun w=>ixO υ22 κ (sz:=46) (hX ω).1 (j:=k1) rfl ω rfl w)) fun _ h22=>sw1 h22 rfl (v:=.agg (Dh ((f k1).P) ((f k1).pa) ((f k1).P.N.length) ((f k1).pc) ((f k1).st) ((f k1).cr) ((f k1).qa) ((f k1).qs.length) ((f k1).qc)).toArray) (rld h22 rfl rfl (ldX (sz:=46) (n:=n0) (f:=(fun i=>Tl (f i))) υ42 rfl κ (fun _=>rfl) (hX ω).2 (Nat.le_refl _) (s2.get 6 rfl:Below _ _ _∧_) (j:=k1) ω rfl)) fun _ h23=>cl h23 rfl EL (Tv (x:=(f k1)) s2 sok34 ω hM35 (hw k1 ω)) fun _ v1 w3 r2 h24=>?_
  obtain ⟨Mx77,Sx78,frx79,rfl,s3,hso84,hM84,hel84⟩:=r2
  refine mv h24 rfl fun _ h25=>h25.sn [5,4,3,2,0] rfl fun h26=>hK11 _ _<|sqr fun _ hK12=>mvs 2 h26 rfl fun _ h27=>h27.sn [29,5,4,3,2,0] rfl fun h28=>hK12 _ _<|wcF h28 rfl rfl<|h28.sk [5,4,3,2,0] rfl fun h29=>wp_skip<|hK10 _ _ ?_
  refine wp_region_lit<|mv h29 rfl fun _ h30=>bv h30 (z:=ν ((k1+1:Nat):Int)) rfl (Mf _ _ _ ω ω ω) fun _ h31=>h31.sk [21,20,5,3,2,0] rfl fun h32=>mv h32 rfl fun _ h33=>h33.sk [4,5,3,2,0] rfl fun h34=>wpList_nil ?_
  exact hK7 (k1+1) Mx77 Sx78 frx79 _ _ ⟨h34.subs rfl,s3,hso84,hM84,ω⟩ ω
 ·skip
  have hp2:(¬ ((k1:Int)<(n0:Int)))∨(¬ ((k1:Int)<25)):=((Wp hc1).imp (fun q=>(dF q)) (fun q=>(dF q)))
  refine wcF h19 rfl hc1<|h19.sk [4,3,2,0] rfl fun h35=>wp_exit ?_
  refine hK4 _ _ ?_
  refine sqr fun _ hK13=>mv h35 rfl fun _ h36=>cl h36 rfl EM (TW s2 hM35) fun _ v2 w4 r3 h37=>?_
  obtain ⟨rfl,s4⟩:=r3
  refine mv h37 rfl fun _ h38=>h38.sn [6,4,3,2,0] rfl fun h39=>hK13 _ _<|sq fun _ hK14=>sqr fun _ hK15=>mv h39 rfl fun _ h40=>wpList_nil<|hK15 _ _<|wp_block ?_
  refine UT (fun (c:Nat) a' w'=>Kn 75 [(7,ν (c:Int)),(6,.bool true),(4,ν (k1:Int)),(3,π pg),(2,.bool false),(0,.slice a0 n0 c0)] a'∧Sep w' [Ab pg 54 [π mg,π cg,π rg,π dg],Ab cg 83 (Ao mg S39 fr40),AK mg mb md mp M38,Ab dg 49 [π rg,.slice (some ⟨gs0,0,none⟩) 8 8,.bool fr40],Ab gs0 45 (S39.flatMap AL),AZ rg rv rd ra M38,AR W W.heap.size]∧(c≤10)) (fun (c:Nat)=>10-c) 0 ⟨h40.subs rfl,s4,ω⟩ ?_
  rintro c130 a2 w5 ⟨h41,s5,hc2⟩ K2 hK16
  refine sq fun _ hK17=>sqr fun _ hK18=>mv h41 rfl fun _ h42=>bv h42 (z:=.bool (decide ((c130:Int)≤9))) rfl (cLe _ _ _ _ rfl) fun _ h43=>h43.sn [33,7,6,4,3,2,0] rfl fun h44=>hK18 _ _ ?_
  rcases bC (decide ((c130:Int)≤9)) with hc3 | hc3
  ·skip
   have hp3:(c130:Int)≤9:=(dT hc3)
   refine wcT h44 rfl hc3<|h44.sk [7,6,4,3,2,0] rfl fun h45=>wp_skip<|hK17 _ _<|sq fun _ hK19=>wp_block ?_
   refine sqr fun _ hK20=>mv h45 rfl fun _ h46=>wpList_nil<|hK20 _ _<|sq fun _ hK21=>sqr fun _ hK22=>mv h46 rfl fun _ h47=>bv h47 (z:=.bool (decide ((c130:Int)≥1))) rfl (cGe _ _ _ _ rfl) fun _ h48=>mv h48 rfl fun _ h49=>sg h49 (wT h49 rfl rfl rfl) rfl rfl rfl (v:=ν (c130:Int)) (fun hC3=>by have hq:=(dT hC3);exact Am h49 rfl rfl _) fun _ h50=>sg h50 (wT h50 rfl rfl rfl) rfl rfl rfl (v:=.bool (decide ((c130:Int)≤8))) (fun hC4=>by have hq:=(dT hC4);exact CL h50 rfl (opg rfl hC4) rfl (cLe _ _ _ _ rfl) _) fun _ h51=>sv1 h51 rfl (v:=.bool ((decide ((c130:Int)≥1))&&(decide ((c130:Int)≤8)))) (In h51 rfl (E:=(decide ((c130:Int)≥1))) (F:=(decide ((c130:Int)≤8))) rfl rfl rfl (fun e=>if_pos (by rw [e];try rfl))) fun _ h52=>?_
   refine h52.sn [41,8,7,6,4,3,2,0] rfl fun h53=>hK22 _ _ ?_
   rcases bC ((decide ((c130:Int)≥1))&&(decide ((c130:Int)≤8))) with hc4 | hc4
   ·skip
    have hp4:((c130:Int)≥1)∧((c130:Int)≤8):=(And.intro (dT (AS hc4).1) (dT (AS hc4).2))
    refine wcT h53 rfl hc4<|h53.sk [8,7,6,4,3,2,0] rfl fun h54=>wp_region_lit<|mvs 2 h54 rfl fun _ h55=>fav h55 rfl (FI _ _) fun _ h56=>ldv h56 s5 0 υ52 rfl rfl rfl rfl fun _ h57=>mv h57 rfl fun _ h58=>fav h58 rfl (FJ _ _) fun _ h59=>ldv h59 s5 3 υ47 rfl rfl rfl rfl fun _ h60=>mv h60 rfl fun _ h61=>?_
    refine bv h61 (z:=ν ((c130-1:Nat):Int)) rfl (Nd _ _ _ ω ω ω) fun _ h62=>sv1 h62 rfl (v:=.pointer (some ⟨gs0,(c130-1)*46,none⟩)) (Ho h62 rfl rfl rfl (fun w=>ixS υ47 κ (sz:=46) (j:=c130-1) rfl ω rfl w)) fun _ h63=>sv1 h63 rfl (v:=.pointer (some ⟨gs0,(c130-1)*46+0,none⟩)) (rfa h63 rfl rfl (fun w=>FO gs0 ((c130-1)*46) w)) fun _ h64=>sw1 h64 rfl (v:=ν ((S39.getD (c130-1) (Ac 0)).ep)) (rld h64 rfl rfl (ldB υ3 rfl (s5.get 4 rfl:Blk _ _ _ _) ((Nq BV (j:=(c130-1)) (k:=0) (Ac 0) ω (by decide) rfl).trans rfl))) fun _ h65=>h65.sk [53,52,51,50,49,48,47,46,45,44,43,42,7,6,4,3,2,0] rfl fun h66=>mv h66 rfl fun _ h67=>h67.sn [8,7,6,4,3,2,0] rfl fun h68=>hK21 _ _<|sqr fun _ hK23=>mvs 2 h68 rfl fun _ h69=>?_
    refine fav h69 rfl (Ds _ _) fun _ h70=>ldv h70 s5 0 υ51 rfl rfl rfl rfl fun _ h71=>mv h71 rfl fun _ h72=>cl h72 rfl CG (Re (c:=(c130:Int)) (j:=(c130-1)) (s5.pk [1,0,2,3,4,5,6] rfl) sok34.len ω ω) fun _ v3 w6 r4 h73=>?_
    obtain ⟨rfl,s6⟩:=r4
    refine mv h73 rfl fun _ h74=>bv h74 (z:=.bool false) rfl (cNe _ _ _ _ (decide_eq_false (fun h=>h rfl))) fun _ h75=>h75.sn [61,8,7,6,4,3,2,0] rfl fun h76=>hK23 _ _<|wcF h76 rfl rfl<|h76.sk [8,7,6,4,3,2,0] rfl fun h77=>wp_skip<|hK19 _ _<|wp_region_lit<|mv h77 rfl fun _ h78=>bv h78 (z:=ν ((c130+1:Nat):Int)) rfl (Mf _ _ _ ω ω ω) fun _ h79=>?_
    refine h79.sk [35,34,8,6,4,3,2,0] rfl fun h80=>mv h80 rfl fun _ h81=>h81.sk [7,8,6,4,3,2,0] rfl fun h82=>wpList_nil ?_
    exact hK16 (c130+1) _ _ ⟨h82.subs rfl,(s6.pk [1,0,2,3,4,5,6] rfl),ω⟩ ω
   ·skip
    have hp5:(¬ ((c130:Int)≥1))∨(¬ ((c130:Int)≤8)):=((Wp hc4).imp (fun q=>(dF q)) (fun q=>(dF q)))
    refine wcF h53 rfl hc4<|h53.sk [8,7,6,4,3,2,0] rfl fun h83=>wp_skip<|hK21 _ _<|sqr fun _ hK24=>mvs 2 h83 rfl fun _ h84=>fav h84 rfl (Ds _ _) fun _ h85=>ldv h85 s5 0 υ51 rfl rfl rfl rfl fun _ h86=>mv h86 rfl fun _ h87=>?_
    rcases bC (decide ((c130:Int)≥1)) with hc5 | hc5
    ·skip
     have hp6:(c130:Int)≥1:=(dT hc5)
     refine cl h87 rfl CG (Ou (c:=(c130:Int)) (s5.pk [1,0,2,3,4,5,6] rfl) sok34.len (by unfold wfI;omega) ω) fun _ v4 w7 r5 h88=>?_
     obtain ⟨rfl,s7⟩:=r5
     refine mv h88 rfl fun _ h89=>bv h89 (z:=.bool false) rfl (cNe _ _ _ _ rfl) fun _ h90=>h90.sn [61,8,7,6,4,3,2,0] rfl fun h91=>hK24 _ _<|wcF h91 rfl rfl<|h91.sk [8,7,6,4,3,2,0] rfl fun h92=>wp_skip<|hK19 _ _<|wp_region_lit<|mv h92 rfl fun _ h93=>bv h93 (z:=ν ((c130+1:Nat):Int)) rfl (Mf _ _ _ ω ω ω) fun _ h94=>?_
     refine h94.sk [35,34,8,6,4,3,2,0] rfl fun h95=>mv h95 rfl fun _ h96=>h96.sk [7,8,6,4,3,2,0] rfl fun h97=>wpList_nil ?_
     exact hK16 (c130+1) _ _ ⟨h97.subs rfl,(s7.pk [1,0,2,3,4,5,6] rfl),ω⟩ ω
    ·skip
     have hp7:¬ ((c130:Int)≥1):=(dF hc5)
     refine cl h87 rfl CG (Ou (c:=(c130:Int)) (s5.pk [1,0,2,3,4,5,6] rfl) sok34.len (by unfold wfI;omega) ω) fun _ v5 w8 r6 h98=>?_
     obtain ⟨rfl,s8⟩:=r6
     refine mv h98 rfl fun _ h99=>bv h99 (z:=.bool false) rfl (cNe _ _ _ _ rfl) fun _ h100=>h100.sn [61,8,7,6,4,3,2,0] rfl fun h101=>hK24 _ _<|wcF h101 rfl rfl<|h101.sk [8,7,6,4,3,2,0] rfl fun h102=>wp_skip<|hK19 _ _<|wp_region_lit<|mv h102 rfl fun _ h103=>bv h103 (z:=ν ((c130+1:Nat):Int)) rfl (Mf _ _ _ ω ω ω) fun _ h104=>?_
     refine h104.sk [35,34,8,6,4,3,2,0] rfl fun h105=>mv h105 rfl fun _ h106=>h106.sk [7,8,6,4,3,2,0] rfl fun h107=>wpList_nil ?_
     exact hK16 (c130+1) _ _ ⟨h107.subs rfl,(s8.pk [1,0,2,3,4,5,6] rfl),ω⟩ ω
  ·skip
   have hp8:¬ ((c130:Int)≤9):=(dF hc3)
   refine wcF h44 rfl hc3<|h44.sk [7,6,4,3,2,0] rfl fun h108=>wp_exit ?_
   refine hK14 _ _ ?_
   refine sqr fun _ hK25=>mvs 2 h108 rfl fun _ h109=>so (wT h109 (E:=true) rfl rfl rfl) fun _ hK26=>Bc h109 rfl rfl rfl (xs:=[.const (.pointer none)]) rfl Gy rfl (vs:=[.pointer none]) rfl (args:=#[.pointer none]) rfl (Ua s5) fun _ v6 w9 r7 h110=>hK26 _ _ ?_
   obtain ⟨rfl,s9⟩:=r7
   refine sv h110 (wT h110 (E:=true) rfl rfl rfl) rfl rfl rfl (v:=.bool true) (CL h110 rfl rfl rfl (Nc _ υ51 _ _ _)) fun _ h111=>sv1 h111 rfl (v:=.bool true) (CB h111 rfl rfl rfl) fun _ h112=>mv h112 rfl fun _ h113=>so (wT h113 (E:=true) rfl rfl rfl) fun _ hK27=>Bc h113 rfl rfl rfl (xs:=[.const (ν 64)]) rfl Li rfl (vs:=[ν 64]) rfl (args:=#[ν 64]) rfl (Ud (n:=64) s9 (by unfold DO;omega)) fun _ v7 w10 r8 h114=>hK27 _ _ ?_
   obtain ⟨ngx303,nbx304,ndx305,npx306,rfl,s10⟩:=r8
   refine so (wT h114 (E:=true) rfl rfl rfl) fun _ hK28=>Bc h114 rfl rfl rfl (xs:=[.tmp 68]) rfl Gy rfl (vs:=[π ngx303]) rfl (args:=#[π ngx303]) rfl (VE s10 (by show (CS 64).V.length≠23168;rw [Sq];decide)) fun _ v8 w11 r9 h115=>hK28 _ _ ?_
   obtain ⟨rfl,s11⟩:=r9
   refine sv h115 (wT h115 (E:=true) rfl rfl rfl) rfl rfl rfl (v:=.bool true) (CL h115 rfl rfl rfl (Nc _ υ51 _ _ _)) fun _ h116=>sv1 h116 rfl (v:=.bool true) (CB h116 rfl rfl rfl) fun _ h117=>mv h117 rfl fun _ h118=>so (wT h118 (E:=true) rfl rfl rfl) fun _ hK29=>Bc h118 rfl rfl rfl (xs:=[]) rfl Ge rfl (vs:=[]) rfl (args:=#[]) rfl (Sk s11) fun _ v10 w12 r10 h119=>hK29 _ _ ?_
   obtain ⟨rfl,s12⟩:=r10
   refine sv1 h119 rfl (v:=.bool true) (CB h119 rfl rfl rfl) fun _ h120=>h120.sk [74,73,72,71,70,69,68,67,66,65,64,63,62,7,6,4,3,0] rfl fun h121=>mv h121 rfl fun _ h122=>h122.sn [2,7,6,4,3,0] rfl fun h123=>hK25 _ _<|wp_ret ?_
   try simp only [Exit.then,Exit.inBlock]
   refine CD (v:=.bool true) (CC h123 rfl rfl) h123.defs ?_
   exact ⟨rfl,(s12.get 7 rfl:Below _ _ _∧_).1⟩
end
end Go.Proofs.YtjgajoljgepioaaGreat
