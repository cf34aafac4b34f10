/- Parts of the proof. -/
import Derived.Test.YtjgajoljgepioaaGreatQal
namespace Go.Proofs.YtjgajoljgepioaaGreat
open Go.RowKit
set_option linter.unusedSimpArgs false
set_option linter.unusedVariables false
set_option linter.unusedSectionVars false
set_option maxRecDepth 100000
set_option maxHeartbeats 8000000
section
theorem Up {P Q:PkM} (hP:P.N=[]) (hQ:Q.N=[]) (w:World):Calls Tryz.prog 20 #[.agg (pk0 P).toArray,.agg (pk0 Q).toArray] w fun e w'=>e=.returned (.bool (BS P Q))∧Below w.heap.size w w':=by
 have r:Row w 1 none P.N.length 0 (P.N.map AS):=by rw [hP];exact Row.nil w 1
 have r2:Row w 1 none Q.N.length 0 (Q.N.map AS):=by rw [hQ];exact Row.nil w 1
 have z:=DM P Q none none 0 0 w r r2
 rw [hP,hQ] at z;exact z
theorem VO {w:World} {R:List Ch} {P:PkM} {pa:Option Addr} {pc:Nat} {cg mg mb md mp B k:Nat} {S:List SideM} {fr:Bool} {M:MemM} {W:World} (hS0:Sep w ([Ab cg 83 (An mg S fr),AJ mg mb md mp M,AO W B]++R)) (sok:SOk S k) (hM:M.V.length=23168) (hB:B=W.heap.size) (wP:wfP P) (hP:Be P) (hS7:shortP P) (hN:∀ s∈P.N,s.length≤1100000) (hn9:P.N.length≤1100000) (hNm:Row W 1 pa P.N.length pc (P.N.map AS)) :
  CallsR Tryz.prog 17 #[π cg,.agg (pkC P pa P.N.length pc).toArray] w (fun v w'=>∃ M' S' fr' Q b,v=.tuple #[.agg (pk0 Q).toArray,.bool b]∧Sep w' ([Ab cg 83 (An mg S' fr'),AJ mg mb md mp M',AO W B]++R)∧SOk S' (k+1)∧M'.V.length=23168∧Q.N=[]∧(∀ j:Nat,(j:Int)+1≠P.I 1→S'.getD j (Ac 0)=S.getD j (Ac 0))∧doC ⟨M,S,fr⟩ P=(⟨M',S',fr'⟩,Q,b)):=
 CallsR.mono (PM hS0 sok.len hM hB wP hP hS7 hN hn9 hNm) fun v w' ⟨M',S',fr',Q,b,e,s,hd⟩=>by
  have z:=PL (fr:=fr) (P:=P) sok hM
  rw [hd] at z
  exact ⟨M',S',fr',Q,b,e,s,z.1,z.2.2,z.2.1,fun j hj=>Tk hd j hj,hd⟩
theorem Tm {w:World} {R:List Ch} {P:PkM} {pa:Option Addr} {pc:Nat} {dg gs0 rg rv rd ra B k:Nat} {S:List SideM} {fr:Bool} {M:MemM} {W:World} (hS0:Sep w ([Ab dg 49 [π rg,.slice (some ⟨gs0,0,none⟩) 8 8,.bool fr],Ab gs0 45 (S.flatMap AM),AV rg rv rd ra M,AO W B]++R)) (sok:SOk S k) (hk:k≤1000) (hM:M.V.length=23168) (hB:B=W.heap.size) (wP:wfP P) (hP:Be P) (hS7:shortP P) (hN:∀ s∈P.N,s.length≤1100000) (hn9:P.N.length≤1100000) (hNm:Row W 1 pa P.N.length pc (P.N.map AS)) :
  CallsR Tryz.prog 26 #[π dg,.agg (pkC P pa P.N.length pc).toArray] w (fun v w'=>∃ M' S' fr' Q b,v=.tuple #[.agg (pk0 Q).toArray,.bool b]∧Sep w' ([Ab dg 49 [π rg,.slice (some ⟨gs0,0,none⟩) 8 8,.bool fr'],Ab gs0 45 (S'.flatMap AM),AV rg rv rd ra M',AO W B]++R)∧SOk S' (k+1)∧M'.V.length=23168∧Q.N=[]∧doC ⟨M,S,fr⟩ P=(⟨M',S',fr'⟩,Q,b)):=
 CallsR.mono (WI hS0 sok.len hM hB (fun j=>by have:=sok.get j;unfold wfI;omega) wP hP hS7 hN hn9 hNm) fun v w' ⟨M',S',fr',Q,b,e,s,hd⟩=>by
  have z:=PL (fr:=fr) (P:=P) sok hM
  rw [hd] at z
  exact ⟨M',S',fr',Q,b,e,s,z.1,z.2.2,z.2.1,hd⟩
theorem FA (g off:Nat) (w:World):(Instr.fieldAt 42 (.pointer (some ⟨g,off,none⟩)) 0).run Tryz.prog w=.ok (.pointer (some ⟨g,off+0,none⟩)) w:=rfl
theorem GD (args:Array Value) (w:World):(callFunc 14 args).run Tryz.prog w=.ok (.enter 14 args) w:=by
 have h:=Tryz.func14
 go_simp
theorem FC (g off:Nat) (w:World):(Instr.fieldAt 42 (.pointer (some ⟨g,off,none⟩)) 2).run Tryz.prog w=.ok (.pointer (some ⟨g,off+44,none⟩)) w:=rfl
theorem AR (g off:Nat) (w:World):(Instr.fieldAt 42 (.pointer (some ⟨g,off,none⟩)) 3).run Tryz.prog w=.ok (.pointer (some ⟨g,off+45,none⟩)) w:=rfl
theorem Dq (g off:Nat) (w:World):(Instr.fieldAt 54 (.pointer (some ⟨g,off,none⟩)) 0).run Tryz.prog w=.ok (.pointer (some ⟨g,off+0,none⟩)) w:=rfl
theorem DQ (args:Array Value) (w:World):(callFunc 23 args).run Tryz.prog w=.ok (.enter 23 args) w:=by
 have h:=Tryz.func23
 go_simp
theorem Dr (g off:Nat) (w:World):(Instr.fieldAt 54 (.pointer (some ⟨g,off,none⟩)) 2).run Tryz.prog w=.ok (.pointer (some ⟨g,off+2,none⟩)) w:=rfl
theorem CA (args:Array Value) (w:World):(callFunc 24 args).run Tryz.prog w=.ok (.enter 24 args) w:=by
 have h:=Tryz.func24
 go_simp
theorem FB (g off:Nat) (w:World):(Instr.fieldAt 42 (.pointer (some ⟨g,off,none⟩)) 1).run Tryz.prog w=.ok (.pointer (some ⟨g,off+43,none⟩)) w:=rfl
theorem Cl (g off:Nat) (w:World):(Instr.fieldAt 54 (.pointer (some ⟨g,off,none⟩)) 1).run Tryz.prog w=.ok (.pointer (some ⟨g,off+1,none⟩)) w:=rfl
theorem Bu (g off:Nat) (w:World):(Instr.fieldAt 39 (.pointer (some ⟨g,off,none⟩)) 1).run Tryz.prog w=.ok (.pointer (some ⟨g,off+1,none⟩)) w:=rfl
theorem Fi (g off:Nat) (w:World):(Instr.fieldAt 39 (.pointer (some ⟨g,off,none⟩)) 2).run Tryz.prog w=.ok (.pointer (some ⟨g,off+2,none⟩)) w:=rfl
theorem Cc (args:Array Value) (w:World):(callFunc 25 args).run Tryz.prog w=.ok (.enter 25 args) w:=by
 have h:=Tryz.func25
 go_simp
theorem Cm (g off:Nat) (w:World):(Instr.fieldAt 54 (.pointer (some ⟨g,off,none⟩)) 3).run Tryz.prog w=.ok (.pointer (some ⟨g,off+3,none⟩)) w:=rfl
theorem FE (g off:Nat) (w:World):(Instr.fieldAt 49 (.pointer (some ⟨g,off,none⟩)) 1).run Tryz.prog w=.ok (.pointer (some ⟨g,off+1,none⟩)) w:=rfl
theorem Gh (args:Array Value) (w:World):(callFunc 20 args).run Tryz.prog w=.ok (.enter 20 args) w:=by
 have h:=Tryz.func20
 go_simp
theorem FF (g off:Nat) (w:World):(Instr.fieldAt 49 (.pointer (some ⟨g,off,none⟩)) 2).run Tryz.prog w=.ok (.pointer (some ⟨g,off+2,none⟩)) w:=rfl
theorem Gn (args:Array Value) (w:World):(callFunc 19 args).run Tryz.prog w=.ok (.enter 19 args) w:=by
 have h:=Tryz.func19
 go_simp
theorem Df (args:Array Value) (w:World):(callFunc 26 args).run Tryz.prog w=.ok (.enter 26 args) w:=by
 have h:=Tryz.func26
 go_simp
theorem EC (args:Array Value) (w:World):(callFunc 17 args).run Tryz.prog w=.ok (.enter 17 args) w:=by
 have h:=Tryz.func17
 go_simp
theorem To {w:World} {R:List Ch} {P:PkM} {pa:Option Addr} {pc:Nat} {pg cg mg mb md mp dg gs0 rg rv rd ra B k:Nat} {S U:List SideM} {fr gr dst dcr:Bool} {M N:MemM} {W:World} {qa:Option Addr} {qc:Nat} {qs:List Int} (hS0:Sep w ([Ab pg 54 [π mg,π cg,π rg,π dg],Ab cg 83 (An mg S fr),AJ mg mb md mp M,Ab dg 49 [π rg,.slice (some ⟨gs0,0,none⟩) 8 8,.bool gr],Ab gs0 45 (U.flatMap AM),AV rg rv rd ra N,AO W B]++R)) (sok:SOk S k) (uok:SOk U k) (hk:k≤1000) (hM:M.V.length=23168) (hN2:N.V.length=23168) (hB:B=W.heap.size) (wP:wfP P) (hS7:shortP P) (hN:∀ s∈P.N,s.length≤1100000) (hn9:P.N.length≤1100000) (hNm:Row W 1 pa P.N.length pc (P.N.map AS)) (hqs:GB W qa qc qs) (hqo:Ga qs) :
  CallsR Tryz.prog 8 #[π pg,.agg (Dg P pa P.N.length pc dst dcr qa qs.length qc).toArray] w (fun v w'=>∃ M' S' fr' N' U' gr' bb,v=.bool bb∧Sep w' ([Ab pg 54 [π mg,π cg,π rg,π dg],Ab cg 83 (An mg S' fr'),AJ mg mb md mp M',Ab dg 49 [π rg,.slice (some ⟨gs0,0,none⟩) 8 8,.bool gr'],Ab gs0 45 (U'.flatMap AM),AV rg rv rd ra N',AO W B]++R)∧SOk S' (k+1)∧M'.V.length=23168∧SOk U' (k+1)∧N'.V.length=23168∧(dcr=false→∀ j:Nat,(j:Int)+1≠P.I 1→S'.getD j (Ac 0)=S.getD j (Ac 0))∧(M=N→S=U→fr=gr→bb=true∧M'=N'∧S'=U'∧fr'=gr')):=by
 have hS:Sep w [Ab pg 54 [π mg,π cg,π rg,π dg],Ab cg 83 (An mg S fr),AJ mg mb md mp M,Ab dg 49 [π rg,.slice (some ⟨gs0,0,none⟩) 8 8,.bool gr],Ab gs0 45 (U.flatMap AM),AV rg rv rd ra N,AO W B,Ch.many R]:=Sep.tail_many (xs:=[_,_,_,_,_,_,_]) hS0;clear hS0
 obtain ⟨Q,hQ⟩:∃ Q,El P=Q:=⟨_,rfl⟩
 have hQN:Q.N=P.N:=by rw [← hQ];exact Jp P
 have hQI:Q.I 1=P.I 1:=by rw [← hQ,QV]
 have hNl:Q.N.length=P.N.length:=by rw [hQN]
 have wQ:wfP Q:=by rw [← hQ];exact Oc wP
 have hPQ:Be Q:=LY wQ
 have hSQ:shortP Q:=by rw [← hQ];exact Km hS7
 have hNQ:∀ s∈Q.N,s.length≤1100000:=by rw [hQN];exact hN
 have hn9Q:Q.N.length≤1100000:=by rw [hQN];exact hn9
 have hNmQ:Row W 1 pa Q.N.length pc (Q.N.map AS):=by rw [hQN];exact hNm
 have h8:=sok.len
 have h8U:=uok.len
 have hMo:M.ok:=(hS.get 2 rfl:MemP _ _ _ _ _ _).1
 have hNo:N.ok:=(hS.get 5 rfl:MemR _ _ _ _ _ _).1
 have hqc:qs.length≤qc:=hqs.2.1
 refine Cd Tryz.func8 rfl (N:=113) Tryz.ntmps8 (by show 2≤113;decide) [(0,π pg),(1,.agg (Dg P pa P.N.length pc dst dcr qa qs.length qc).toArray)] rfl fun _ h1=>sqr fun _ hK3=>so (wn rfl) fun _ hK1=>Jk h1 rfl rfl rfl rfl rfl (z:=(Dg P pa P.N.length pc dst dcr qa qs.length qc)) rfl hS fun _ g4 w7 h5 s8 _ _=>hK1 _ _ ?_
 refine mv h5 rfl fun _ h2=>wpList_nil<|hK3 _ _<|sqr fun _ hK2=>fav h2 rfl (FA _ _) fun _ h3=>sw1 h3 rfl (v:=.agg (pkC P pa P.N.length pc).toArray) (rld h3 rfl rfl (ldA υ39 rfl (n:=43) κ (s8.get 0 rfl:Blk _ _ _ _) rfl rfl)) fun _ h4=>cl h4 rfl GD ((by have z:=QW (P:=P) (pa:=pa) (pc:=pc) s8 (hS7 7 (by decide));rw [hQ] at z;exact z)) fun _ v1 w2 r1 h6=>?_
 obtain ⟨rfl,s1⟩:=r1
 refine so (wn rfl) fun _ hK4=>Cj h6 rfl rfl rfl rfl (z:=[ν 0,ν 0,ν 0,ν 0,ν 0,ν 0,ν 0,σ [],ν 0,ν 0,ν 0,σ [],σ [],ν 0,ν 0,ν 0,ν 0,σ [],ν 0,ν 0,ν 0,ν 0,σ [],.slice none 0 0,ν 0,ν 0,ν 0,ν 0,ν 0,ν 0,ν 0,ν 0,ν 0,ν 0,ν 0,ν 0,ν 0,ν 0,ν 0,ν 0,ν 0,ν 0,ν 0]) (fun _=>rfl) s1 fun _ g3 w3 h7 s2 _ _=>hK4 _ _ ?_
 refine stA h7 s2 0 rfl rfl rfl κ rfl rfl rfl rfl fun _ w4 h9 s3 _=>h9.sn [5,4,3,0,1] rfl fun h10=>hK2 _ _<|sq fun _ hK5=>sqr fun _ hK6=>fav h10 rfl (FC _ _) fun _ h11=>ldv h11 s3 1 υ4 rfl rfl rfl rfl fun _ h12=>h12.sn [15,5,4,3,0,1] rfl fun h13=>hK6 _ _ ?_
 rcases bC dcr with hc1 | hc1
 ·skip
  refine wcT h13 rfl hc1<|h13.sk [5,4,3,0,1] rfl fun h14=>sq fun _ hK7=>sqr fun _ hK8=>fav h14 rfl (AR _ _) fun _ h15=>ldv h15 s3 1 υ40 rfl rfl rfl rfl fun _ h16=>sv1 h16 rfl (v:=ν (qs.length:Int)) (Rq h16 rfl rfl υ40) fun _ h17=>bv h17 (z:=.bool (decide ((qs.length:Int)>200))) rfl (cGt _ _ _ _ rfl) fun _ h18=>h18.sn [19,5,4,3,0,1] rfl fun h19=>hK8 _ _ ?_
  rcases bC (decide ((qs.length:Int)>200)) with hc2 | hc2
  ·skip
   have hp1:(qs.length:Int)>200:=(dT hc2)
   refine wcT h19 rfl hc2<|h19.sk [5,4,3,0,1] rfl fun h20=>wp_region_lit<|fav h20 rfl (AR _ _) fun _ h21=>ldv h21 s3 1 υ40 rfl rfl rfl rfl fun _ h22=>sv1 h22 rfl (v:=.slice qa 200 qc) (Wz h22 rfl rfl (vl:=none) (vh:=some (ν 200)) rfl rfl (fun w=>slL 40 3 υ40 κ qa qs.length qc (b:=200) ω w)) fun _ h23=>fav h23 rfl (AR _ _) fun _ h24=>st1 h24 s3 1 rfl rfl κ rfl rfl rfl rfl fun _ w5 h25 s4 _=>h25.sn [5,4,3,0,1] rfl fun h26=>hK7 _ _ ?_
   refine sq fun _ hK9=>?_
   have s5:=s4.drew
   refine wp_region_held_drew (S:=fun w'=>Sep w' [Ab g3 39 (pkC Q pa P.N.length pc),Ab g4 42 (Dg P pa P.N.length pc dst dcr qa 200 qc),Ab pg 54 [π mg,π cg,π rg,π dg],Ab cg 83 (An mg S fr),Ab dg 49 [π rg,.slice (some ⟨gs0,0,none⟩) 8 8,.bool gr],Ab gs0 45 (U.flatMap AM),AV rg rv rd ra N,AO W B,Ch.many R]) κ (s5.pk [0,1,2,3,5,6,7,8,9] rfl) (fun hq1=>?_)
   refine tv1 hq1 h26 0 rfl rfl (v:=π pg) (fun w1 _=>(Aj h26 rfl rfl) w1) fun _ h27=>?_
   refine tv1 hq1 h27 1 rfl rfl (v:=π pg) (fun w1 _=>(Bt h27 rfl rfl) w1) fun _ h28=>?_
   refine tv1 hq1 h28 2 rfl rfl (v:=π pg) (fun w1 _=>(rfa h28 rfl rfl (fun w=>Dq pg 0 w)) w1) fun _ h29=>?_
   refine tv1 hq1 h29 3 rfl rfl (v:=π mg) (fun w1 hSw=>(rld h29 rfl rfl (ldB υ50 rfl (hSw.get 2 rfl:Blk _ _ _ _) rfl))) fun _ h30=>?_
   refine tv1 hq1 h30 4 rfl rfl (v:=.pointer (some ⟨g4,45,none⟩)) (fun w1 _=>(rfa h30 rfl rfl (fun w=>AR g4 0 w)) w1) fun _ h31=>?_
   refine tv1 hq1 h31 5 rfl rfl (v:=.slice qa 200 qc) (fun w1 hSw=>(rld h31 rfl rfl (ldB υ40 rfl (hSw.get 1 rfl:Blk _ _ _ _) rfl))) fun _ h32=>?_
   refine to_ 6 rfl (wn rfl) κ fun _ hK10=>Bo h32 rfl rfl rfl (xs:=[.tmp 27,.tmp 29]) rfl DQ rfl (vs:=[π mg,.slice qa 200 qc]) rfl (args:=#[π mg,.slice qa 200 qc]) rfl (QT (n:=200) (s5.pk [4,0,1,2,3,5,6,7,8,9] rfl) (s5.get 8 rfl:Below _ _ _∧_) hB hqs hqo (fun b hb=>MB s5 (show 8≠4 by decide) rfl rfl (hB ▸ hb)) ω) fun _ v2 w6 r2 h33=>?_
   obtain ⟨yx96,rfl,s6⟩:=r2
   refine hK10 _ _ (s6.pk [1,2,3,4,5,6,7,8,9] rfl) fun hq2=>h33.sk [5,4,3,0,1] rfl fun h34=>?_
   refine wpAnyH_done κ ?_ _
   refine hK9 _ _ ?_
   refine sq fun _ hK11=>?_
   have s7:=s6.drew
   refine wp_region_held_drew (S:=fun w'=>Sep w' [AJ mg mb md mp (DY M (qs.take 200)),Ab g3 39 (pkC Q pa P.N.length pc),Ab g4 42 (Dg P pa P.N.length pc dst dcr qa 200 qc),Ab pg 54 [π mg,π cg,π rg,π dg],Ab cg 83 (An mg S fr),Ab dg 49 [π rg,.slice (some ⟨gs0,0,none⟩) 8 8,.bool gr],Ab gs0 45 (U.flatMap AM),AO W B,Ch.many R]) κ (s7.pk [0,1,2,3,4,5,6,8,9] rfl) (fun hq3=>?_)
   refine tv1 hq3 h34 0 rfl rfl (v:=π pg) (fun w1 _=>(Aj h34 rfl rfl) w1) fun _ h35=>?_
   refine tv1 hq3 h35 1 rfl rfl (v:=π pg) (fun w1 _=>(Bt h35 rfl rfl) w1) fun _ h36=>?_
   refine tv1 hq3 h36 2 rfl rfl (v:=.pointer (some ⟨pg,2,none⟩)) (fun w1 _=>(rfa h36 rfl rfl (fun w=>Dr pg 0 w)) w1) fun _ h37=>?_
   refine tv1 hq3 h37 3 rfl rfl (v:=π rg) (fun w1 hSw=>(rld h37 rfl rfl (ldB υ46 rfl (hSw.get 3 rfl:Blk _ _ _ _) rfl))) fun _ h38=>?_
   refine tv1 hq3 h38 4 rfl rfl (v:=.pointer (some ⟨g4,45,none⟩)) (fun w1 _=>(rfa h38 rfl rfl (fun w=>AR g4 0 w)) w1) fun _ h39=>?_
   refine tv1 hq3 h39 5 rfl rfl (v:=.slice qa 200 qc) (fun w1 hSw=>(rld h39 rfl rfl (ldB υ40 rfl (hSw.get 2 rfl:Blk _ _ _ _) rfl))) fun _ h40=>?_
   refine to_ 6 rfl (wn rfl) κ fun _ hK12=>Bo h40 rfl rfl rfl (xs:=[.tmp 34,.tmp 36]) rfl CA rfl (vs:=[π rg,.slice qa 200 qc]) rfl (args:=#[π rg,.slice qa 200 qc]) rfl (Oa (n:=200) (s7.pk [7,0,1,2,3,4,5,6,8,9] rfl) (s7.get 8 rfl:Below _ _ _∧_) hB hqs hqo (fun b hb=>Lz s7 (show 8≠7 by decide) rfl rfl (hB ▸ hb)) ω) fun _ v3 w8 r3 h41=>?_
   obtain ⟨yx121,rfl,s9⟩:=r3
   refine hK12 _ _ (s9.pk [1,2,3,4,5,6,7,8,9] rfl) fun hq4=>h41.sk [5,4,3,0,1] rfl fun h42=>?_
   refine wpAnyH_done κ ?_ _
   refine hK11 _ _ ?_
   refine sqr fun _ hK13=>h42.sk [5,3,0,1] rfl fun h43=>mv h43 rfl fun _ h44=>wpList_nil<|hK13 _ _<|wp_ret ?_
   try simp only [Exit.then,Exit.inBlock]
   refine CO (v:=.bool true) (CN h44 rfl rfl) h44.defs ?_
   exact ⟨(DY M (qs.take 200)),S,fr,(DY N (qs.take 200)),U,gr,_,rfl,Sep.tail_un (xs:=[_,_,_,_,_,_,_]) (s9.pk [4,5,1,6,7,0,8,9] rfl),sok.le (Nat.le_succ k),(GO M _).trans (hMo.1.trans hM),uok.le (Nat.le_succ k),(GO N _).trans (hNo.1.trans hN2),(fun hc=>absurd (hc1.symm.trans hc) Bool.noConfusion),fun q1 q2 q3=>(by rw [q1,q2,q3];exact ⟨rfl,rfl,rfl,rfl⟩)⟩
  ·skip
   have hp2:¬ ((qs.length:Int)>200):=(dF hc2)
   refine wcF h19 rfl hc2<|h19.sk [5,4,3,0,1] rfl fun h45=>wp_skip<|hK7 _ _<|sq fun _ hK14=>?_
   have s10:=s3.drew
   refine wp_region_held_drew (S:=fun w'=>Sep w' [Ab g3 39 (pkC Q pa P.N.length pc),Ab g4 42 (Dg P pa P.N.length pc dst dcr qa qs.length qc),Ab pg 54 [π mg,π cg,π rg,π dg],Ab cg 83 (An mg S fr),Ab dg 49 [π rg,.slice (some ⟨gs0,0,none⟩) 8 8,.bool gr],Ab gs0 45 (U.flatMap AM),AV rg rv rd ra N,AO W B,Ch.many R]) κ (s10.pk [0,1,2,3,5,6,7,8,9] rfl) (fun hq5=>?_)
   refine tv1 hq5 h45 0 rfl rfl (v:=π pg) (fun w1 _=>(Aj h45 rfl rfl) w1) fun _ h46=>?_
   refine tv1 hq5 h46 1 rfl rfl (v:=π pg) (fun w1 _=>(Bt h46 rfl rfl) w1) fun _ h47=>?_
   refine tv1 hq5 h47 2 rfl rfl (v:=π pg) (fun w1 _=>(rfa h47 rfl rfl (fun w=>Dq pg 0 w)) w1) fun _ h48=>?_
   refine tv1 hq5 h48 3 rfl rfl (v:=π mg) (fun w1 hSw=>(rld h48 rfl rfl (ldB υ50 rfl (hSw.get 2 rfl:Blk _ _ _ _) rfl))) fun _ h49=>?_
   refine tv1 hq5 h49 4 rfl rfl (v:=.pointer (some ⟨g4,45,none⟩)) (fun w1 _=>(rfa h49 rfl rfl (fun w=>AR g4 0 w)) w1) fun _ h50=>?_
   refine tv1 hq5 h50 5 rfl rfl (v:=.slice qa qs.length qc) (fun w1 hSw=>(rld h50 rfl rfl (ldB υ40 rfl (hSw.get 1 rfl:Blk _ _ _ _) rfl))) fun _ h51=>?_
   refine to_ 6 rfl (wn rfl) κ fun _ hK15=>Bo h51 rfl rfl rfl (xs:=[.tmp 27,.tmp 29]) rfl DQ rfl (vs:=[π mg,.slice qa qs.length qc]) rfl (args:=#[π mg,.slice qa qs.length qc]) rfl (QT (n:=qs.length) (s10.pk [4,0,1,2,3,5,6,7,8,9] rfl) (s10.get 8 rfl:Below _ _ _∧_) hB hqs hqo (fun b hb=>MB s10 (show 8≠4 by decide) rfl rfl (hB ▸ hb)) ω) fun _ v4 w9 r4 h52=>?_
   obtain ⟨yx152,rfl,s11⟩:=r4
   refine hK15 _ _ (s11.pk [1,2,3,4,5,6,7,8,9] rfl) fun hq6=>h52.sk [5,4,3,0,1] rfl fun h53=>?_
   refine wpAnyH_done κ ?_ _
   refine hK14 _ _ ?_
   refine sq fun _ hK16=>?_
   have s12:=s11.drew
   refine wp_region_held_drew (S:=fun w'=>Sep w' [AJ mg mb md mp (DY M (qs.take 200)),Ab g3 39 (pkC Q pa P.N.length pc),Ab g4 42 (Dg P pa P.N.length pc dst dcr qa qs.length qc),Ab pg 54 [π mg,π cg,π rg,π dg],Ab cg 83 (An mg S fr),Ab dg 49 [π rg,.slice (some ⟨gs0,0,none⟩) 8 8,.bool gr],Ab gs0 45 (U.flatMap AM),AO W B,Ch.many R]) κ (s12.pk [0,1,2,3,4,5,6,8,9] rfl) (fun hq7=>?_)
   refine tv1 hq7 h53 0 rfl rfl (v:=π pg) (fun w1 _=>(Aj h53 rfl rfl) w1) fun _ h54=>?_
   refine tv1 hq7 h54 1 rfl rfl (v:=π pg) (fun w1 _=>(Bt h54 rfl rfl) w1) fun _ h55=>?_
   refine tv1 hq7 h55 2 rfl rfl (v:=.pointer (some ⟨pg,2,none⟩)) (fun w1 _=>(rfa h55 rfl rfl (fun w=>Dr pg 0 w)) w1) fun _ h56=>?_
   refine tv1 hq7 h56 3 rfl rfl (v:=π rg) (fun w1 hSw=>(rld h56 rfl rfl (ldB υ46 rfl (hSw.get 3 rfl:Blk _ _ _ _) rfl))) fun _ h57=>?_
   refine tv1 hq7 h57 4 rfl rfl (v:=.pointer (some ⟨g4,45,none⟩)) (fun w1 _=>(rfa h57 rfl rfl (fun w=>AR g4 0 w)) w1) fun _ h58=>?_
   refine tv1 hq7 h58 5 rfl rfl (v:=.slice qa qs.length qc) (fun w1 hSw=>(rld h58 rfl rfl (ldB υ40 rfl (hSw.get 2 rfl:Blk _ _ _ _) rfl))) fun _ h59=>?_
   refine to_ 6 rfl (wn rfl) κ fun _ hK17=>Bo h59 rfl rfl rfl (xs:=[.tmp 34,.tmp 36]) rfl CA rfl (vs:=[π rg,.slice qa qs.length qc]) rfl (args:=#[π rg,.slice qa qs.length qc]) rfl (Oa (n:=qs.length) (s12.pk [7,0,1,2,3,4,5,6,8,9] rfl) (s12.get 8 rfl:Below _ _ _∧_) hB hqs hqo (fun b hb=>Lz s12 (show 8≠7 by decide) rfl rfl (hB ▸ hb)) ω) fun _ v5 w10 r5 h60=>?_
   obtain ⟨yx177,rfl,s13⟩:=r5
   refine hK17 _ _ (s13.pk [1,2,3,4,5,6,7,8,9] rfl) fun hq8=>h60.sk [5,4,3,0,1] rfl fun h61=>?_
   refine wpAnyH_done κ ?_ _
   refine hK16 _ _ ?_
   refine sqr fun _ hK18=>h61.sk [5,3,0,1] rfl fun h62=>mv h62 rfl fun _ h63=>wpList_nil<|hK18 _ _<|wp_ret ?_
   try simp only [Exit.then,Exit.inBlock]
   refine CO (v:=.bool true) (CN h63 rfl rfl) h63.defs ?_
   exact ⟨(DY M (qs.take 200)),S,fr,(DY N (qs.take 200)),U,gr,_,rfl,Sep.tail_un (xs:=[_,_,_,_,_,_,_]) (s13.pk [4,5,1,6,7,0,8,9] rfl),sok.le (Nat.le_succ k),(GO M _).trans (hMo.1.trans hM),uok.le (Nat.le_succ k),(GO N _).trans (hNo.1.trans hN2),(fun hc=>absurd (hc1.symm.trans hc) Bool.noConfusion),fun q1 q2 q3=>(by rw [q1,q2,q3];exact ⟨rfl,rfl,rfl,rfl⟩)⟩
 ·skip
  refine wcF h13 rfl hc1<|h13.sk [5,4,3,0,1] rfl fun h64=>wp_skip<|hK5 _ _<|sq fun _ hK19=>sqr fun _ hK20=>fav h64 rfl (FB _ _) fun _ h65=>ldv h65 s3 1 υ4 rfl rfl rfl rfl fun _ h66=>h66.sn [39,5,4,3,0,1] rfl fun h67=>hK20 _ _ ?_
  rcases bC dst with hc3 | hc3
  ·skip
   refine wcT h67 rfl hc3<|h67.sk [5,4,3,0,1] rfl fun h68=>sq fun _ hK21=>?_
   have s14:=s3.drew
   refine wp_region_held_drew (S:=fun w'=>Sep w' [Ab g3 39 (pkC Q pa P.N.length pc),Ab g4 42 (Dg P pa P.N.length pc dst dcr qa qs.length qc),Ab pg 54 [π mg,π cg,π rg,π dg],AJ mg mb md mp M,Ab dg 49 [π rg,.slice (some ⟨gs0,0,none⟩) 8 8,.bool gr],Ab gs0 45 (U.flatMap AM),AV rg rv rd ra N,AO W B,Ch.many R]) κ (s14.pk [0,1,2,4,5,6,7,8,9] rfl) (fun hq9=>?_)
   refine tv1 hq9 h68 0 rfl rfl (v:=π pg) (fun w1 _=>(Aj h68 rfl rfl) w1) fun _ h69=>?_
   refine tv1 hq9 h69 1 rfl rfl (v:=π pg) (fun w1 _=>(Bt h69 rfl rfl) w1) fun _ h70=>?_
   refine tv1 hq9 h70 2 rfl rfl (v:=.pointer (some ⟨pg,1,none⟩)) (fun w1 _=>(rfa h70 rfl rfl (fun w=>Cl pg 0 w)) w1) fun _ h71=>?_
   refine tv1 hq9 h71 3 rfl rfl (v:=π cg) (fun w1 hSw=>(rld h71 rfl rfl (ldB υ51 rfl (hSw.get 2 rfl:Blk _ _ _ _) rfl))) fun _ h72=>?_
   refine tv1 hq9 h72 4 rfl rfl (v:=.pointer (some ⟨g3,1,none⟩)) (fun w1 _=>(rfa h72 rfl rfl (fun w=>Bu g3 0 w)) w1) fun _ h73=>?_
   refine tv1 hq9 h73 5 rfl rfl (v:=ν (Q.I 1)) (fun w1 hSw=>(rld h73 rfl rfl (ldB υ3 rfl (hSw.get 0 rfl:Blk _ _ _ _) rfl))) fun _ h74=>?_
   refine tv1 hq9 h74 6 rfl rfl (v:=.pointer (some ⟨g3,2,none⟩)) (fun w1 _=>(rfa h74 rfl rfl (fun w=>Fi g3 0 w)) w1) fun _ h75=>?_
   refine tv1 hq9 h75 7 rfl rfl (v:=ν (Q.I 2)) (fun w1 hSw=>(rld h75 rfl rfl (ldB υ3 rfl (hSw.get 0 rfl:Blk _ _ _ _) rfl))) fun _ h76=>?_
   rcases bC (decide ((Q.I 1)≥1)) with hc4 | hc4
   ·skip
    have hp3:(Q.I 1)≥1:=(dT hc4)
    rcases bC (decide ((Q.I 1)≤8)) with hc5 | hc5
    ·skip
     have hp4:(Q.I 1)≤8:=(dT hc5)
     refine to_ 8 rfl (wn rfl) κ fun _ hK22=>Bo h76 rfl rfl rfl (xs:=[.tmp 43,.tmp 45,.tmp 47]) rfl Cc rfl (vs:=[π cg,ν (Q.I 1),ν (Q.I 2)]) rfl (args:=#[π cg,ν (Q.I 1),ν (Q.I 2)]) rfl (LM (j:=(Q.I 1-1).toNat) (s14.pk [3,0,1,2,4,5,6,7,8,9] rfl) sok.len ω ω) fun _ v6 w11 r6 h77=>?_
     obtain ⟨rfl,s15⟩:=r6
     refine hK22 _ _ (s15.pk [1,2,3,4,5,6,7,8,9] rfl) fun hq10=>h77.sk [5,4,3,0,1] rfl fun h78=>?_
     refine wpAnyH_done κ ?_ _
     refine hK21 _ _ ?_
     refine sq fun _ hK23=>sqr fun _ hK24=>fav h78 rfl (Bu _ _) fun _ h79=>ldv h79 s15 1 υ3 rfl rfl rfl rfl fun _ h80=>bv h80 (z:=.bool true) rfl (cGe _ _ _ _ (decide_eq_true ω)) fun _ h81=>mv h81 rfl fun _ h82=>sv h82 (wT h82 (E:=true) rfl rfl rfl) rfl rfl rfl (v:=.pointer (some ⟨g3,1,none⟩)) (rfa h82 rfl rfl (fun w=>Bu g3 0 w)) fun _ h83=>sw h83 (wT h83 (E:=true) rfl rfl rfl) rfl rfl rfl (v:=ν (Q.I 1)) (rld h83 rfl rfl (ldB υ3 rfl (s15.get 1 rfl:Blk _ _ _ _) rfl)) fun _ h84=>sv h84 (wT h84 (E:=true) rfl rfl rfl) rfl rfl rfl (v:=.bool true) (Cy h84 rfl rfl rfl (cLe _ _ _ _ (decide_eq_true ω))) fun _ h85=>sv1 h85 rfl (v:=.bool true) (CX h85 rfl rfl rfl) fun _ h86=>h86.sk [56,5,4,3,0,1] rfl fun h87=>?_
     refine wpList_nil<|hK24 _ _<|wcT h87 rfl rfl<|h87.sk [5,4,3,0,1] rfl fun h88=>?_
     have s16:=s15.drew
     refine wp_region_held_drew (S:=fun w'=>Sep w' [Ab cg 83 (An mg (S.set (Q.I 1-1).toNat (Ac (Q.I 2))) fr),Ab g3 39 (pkC Q pa P.N.length pc),Ab g4 42 (Dg P pa P.N.length pc dst dcr qa qs.length qc),Ab pg 54 [π mg,π cg,π rg,π dg],AJ mg mb md mp M,Ab dg 49 [π rg,.slice (some ⟨gs0,0,none⟩) 8 8,.bool gr],AV rg rv rd ra N,AO W B,Ch.many R]) κ (s16.pk [0,1,2,3,4,5,7,8,9] rfl) (fun hq11=>?_)
     refine tv1 hq11 h88 0 rfl rfl (v:=π pg) (fun w1 _=>(Aj h88 rfl rfl) w1) fun _ h89=>?_
     refine tv1 hq11 h89 1 rfl rfl (v:=π pg) (fun w1 _=>(Bt h89 rfl rfl) w1) fun _ h90=>?_
     refine tv1 hq11 h90 2 rfl rfl (v:=.pointer (some ⟨pg,3,none⟩)) (fun w1 _=>(rfa h90 rfl rfl (fun w=>Cm pg 0 w)) w1) fun _ h91=>?_
     refine tv1 hq11 h91 3 rfl rfl (v:=π dg) (fun w1 hSw=>(rld h91 rfl rfl (ldB υ52 rfl (hSw.get 3 rfl:Blk _ _ _ _) rfl))) fun _ h92=>?_
     refine tv1 hq11 h92 4 rfl rfl (v:=π dg) (fun w1 _=>(Bt h92 rfl rfl) w1) fun _ h93=>?_
     refine tv1 hq11 h93 5 rfl rfl (v:=.pointer (some ⟨dg,1,none⟩)) (fun w1 _=>(rfa h93 rfl rfl (fun w=>FE dg 0 w)) w1) fun _ h94=>?_
     refine tv1 hq11 h94 6 rfl rfl (v:=.slice (some ⟨gs0,0,none⟩) 8 8) (fun w1 hSw=>(rld h94 rfl rfl (ldB υ47 rfl (hSw.get 5 rfl:Blk _ _ _ _) rfl))) fun _ h95=>?_
     refine tv1 hq11 h95 7 rfl rfl (v:=.pointer (some ⟨g3,1,none⟩)) (fun w1 _=>(rfa h95 rfl rfl (fun w=>Bu g3 0 w)) w1) fun _ h96=>?_
     refine tv1 hq11 h96 8 rfl rfl (v:=ν (Q.I 1)) (fun w1 hSw=>(rld h96 rfl rfl (ldB υ3 rfl (hSw.get 1 rfl:Blk _ _ _ _) rfl))) fun _ h97=>?_
     refine tv1 hq11 h97 9 rfl rfl (v:=ν ((Q.I 1)-1)) (fun w1 _=>(Cy h97 rfl rfl rfl (MX _ _ _ ω ω ω)) w1) fun _ h98=>?_
     refine tv1 hq11 h98 10 rfl rfl (v:=.pointer (some ⟨g3,2,none⟩)) (fun w1 _=>(rfa h98 rfl rfl (fun w=>Fi g3 0 w)) w1) fun _ h99=>?_
     refine tv1 hq11 h99 11 rfl rfl (v:=ν (Q.I 2)) (fun w1 hSw=>(rld h99 rfl rfl (ldB υ3 rfl (hSw.get 1 rfl:Blk _ _ _ _) rfl))) fun _ h100=>?_
     refine tv1 hq11 h100 12 rfl rfl (v:=.agg (AM (⟨(Q.I 2),0,P0z,false⟩:SideM)).toArray) (fun w1 _=>(Nx h100 (xs:=[(0,.tmp 68)]) rfl (vs:=[(0,ν (Q.I 2))]) rfl (fun w=>κ)) w1) fun _ h101=>?_
     refine tv1 hq11 h101 13 rfl rfl (v:=.pointer (some ⟨gs0,(((Q.I 1)-1).toNat)*46,none⟩)) (fun w1 _=>(Dy h101 rfl rfl rfl (fun w=>ixS υ47 κ (sz:=46) (j:=((Q.I 1)-1).toNat) ω ω rfl w)) w1) fun _ h102=>?_
     refine to_ 14 rfl (wn rfl) κ fun _ hK25=>BE h102 rfl rfl s16 6 rfl rfl rfl (AM (⟨(Q.I 2),0,P0z,false⟩:SideM)) rfl κ rfl (by rw [GY Cg];show (((Q.I 1)-1).toNat)*46+46≤_;omega) (L':=(U.set (((Q.I 1)-1).toNat) (⟨(Q.I 2),0,P0z,false⟩:SideM)).flatMap AM) (Qk Cg ω rfl) (cs':=[Ab cg 83 (An mg (S.set (Q.I 1-1).toNat (Ac (Q.I 2))) fr),Ab g3 39 (pkC Q pa P.N.length pc),Ab g4 42 (Dg P pa P.N.length pc dst dcr qa qs.length qc),Ab pg 54 [π mg,π cg,π rg,π dg],AJ mg mb md mp M,Ab dg 49 [π rg,.slice (some ⟨gs0,0,none⟩) 8 8,.bool gr],Ab gs0 45 ((U.set (((Q.I 1)-1).toNat) (⟨(Q.I 2),0,P0z,false⟩:SideM)).flatMap AM),AV rg rv rd ra N,AO W B,Ch.many R]) rfl fun _ w12 h103 s17 _=>?_
     refine hK25 _ _ (s17.pk [0,1,2,3,4,5,7,8,9] rfl) fun hq12=>h103.sk [5,4,3,0,1] rfl fun h104=>?_
     refine wpAnyH_done κ ?_ _
     refine hK23 _ _ ?_
     refine sqr fun _ hK26=>h104.sk [5,3,0,1] rfl fun h105=>mv h105 rfl fun _ h106=>wpList_nil<|hK26 _ _<|wp_ret ?_
     try simp only [Exit.then,Exit.inBlock]
     refine CO (v:=.bool true) (CN h106 rfl rfl) h106.defs ?_
     exact ⟨M,(S.set (Q.I 1-1).toNat (Ac (Q.I 2))),fr,N,(U.set (((Q.I 1)-1).toNat) (⟨(Q.I 2),0,P0z,false⟩:SideM)),gr,_,rfl,Sep.tail_un (xs:=[_,_,_,_,_,_,_]) (s17.pk [3,0,4,5,6,7,8,9] rfl),(sok.le (Nat.le_succ k)).set _ ⟨⟨Int.le_refl 0,Int.natCast_nonneg _⟩,rfl⟩,hM,(uok.le (Nat.le_succ k)).set _ ⟨⟨Int.le_refl 0,Int.natCast_nonneg _⟩,rfl⟩,hN2,(fun _ j hj=>Pp (by rw [← hQI] at hj;omega)),fun q1 q2 q3=>(by rw [q1,q2,q3];exact ⟨rfl,rfl,rfl,rfl⟩)⟩
    ·skip
     have hp5:¬ ((Q.I 1)≤8):=(dF hc5)
     refine to_ 8 rfl (wn rfl) κ fun _ hK27=>Bo h76 rfl rfl rfl (xs:=[.tmp 43,.tmp 45,.tmp 47]) rfl Cc rfl (vs:=[π cg,ν (Q.I 1),ν (Q.I 2)]) rfl (args:=#[π cg,ν (Q.I 1),ν (Q.I 2)]) rfl (Kv (s14.pk [3,0,1,2,4,5,6,7,8,9] rfl) sok.len (wQ 1) ω) fun _ v7 w13 r7 h107=>?_
     obtain ⟨rfl,s18⟩:=r7
     refine hK27 _ _ (s18.pk [1,2,3,4,5,6,7,8,9] rfl) fun hq10=>h107.sk [5,4,3,0,1] rfl fun h108=>?_
     refine wpAnyH_done κ ?_ _
     refine hK21 _ _ ?_
     refine sq fun _ hK28=>sqr fun _ hK29=>fav h108 rfl (Bu _ _) fun _ h109=>ldv h109 s18 1 υ3 rfl rfl rfl rfl fun _ h110=>bv h110 (z:=.bool true) rfl (cGe _ _ _ _ (decide_eq_true ω)) fun _ h111=>mv h111 rfl fun _ h112=>sv h112 (wT h112 (E:=true) rfl rfl rfl) rfl rfl rfl (v:=.pointer (some ⟨g3,1,none⟩)) (rfa h112 rfl rfl (fun w=>Bu g3 0 w)) fun _ h113=>sw h113 (wT h113 (E:=true) rfl rfl rfl) rfl rfl rfl (v:=ν (Q.I 1)) (rld h113 rfl rfl (ldB υ3 rfl (s18.get 1 rfl:Blk _ _ _ _) rfl)) fun _ h114=>sv h114 (wT h114 (E:=true) rfl rfl rfl) rfl rfl rfl (v:=.bool false) (Cy h114 rfl rfl rfl (cLe _ _ _ _ (decide_eq_false ω))) fun _ h115=>sv1 h115 rfl (v:=.bool false) (CX h115 rfl rfl rfl) fun _ h116=>h116.sk [56,5,4,3,0,1] rfl fun h117=>?_
     refine wpList_nil<|hK29 _ _<|wcF h117 rfl rfl<|h117.sk [5,4,3,0,1] rfl fun h118=>wp_skip<|hK28 _ _<|sqr fun _ hK30=>h118.sk [5,3,0,1] rfl fun h119=>mv h119 rfl fun _ h120=>wpList_nil<|hK30 _ _<|wp_ret ?_
     try simp only [Exit.then,Exit.inBlock]
     refine CO (v:=.bool true) (CN h120 rfl rfl) h120.defs ?_
     exact ⟨M,S,fr,N,U,gr,_,rfl,Sep.tail_un (xs:=[_,_,_,_,_,_,_]) (s18.pk [3,0,4,5,6,7,8,9] rfl),sok.le (Nat.le_succ k),hM,uok.le (Nat.le_succ k),hN2,(fun _ _ _=>rfl),fun q1 q2 q3=>(by rw [q1,q2,q3];exact ⟨rfl,rfl,rfl,rfl⟩)⟩
   ·skip
    have hp6:¬ ((Q.I 1)≥1):=(dF hc4)
    refine to_ 8 rfl (wn rfl) κ fun _ hK31=>Bo h76 rfl rfl rfl (xs:=[.tmp 43,.tmp 45,.tmp 47]) rfl Cc rfl (vs:=[π cg,ν (Q.I 1),ν (Q.I 2)]) rfl (args:=#[π cg,ν (Q.I 1),ν (Q.I 2)]) rfl (Kv (s14.pk [3,0,1,2,4,5,6,7,8,9] rfl) sok.len (wQ 1) ω) fun _ v8 w14 r8 h121=>?_
    obtain ⟨rfl,s19⟩:=r8
    refine hK31 _ _ (s19.pk [1,2,3,4,5,6,7,8,9] rfl) fun hq10=>h121.sk [5,4,3,0,1] rfl fun h122=>?_
    refine wpAnyH_done κ ?_ _
    refine hK21 _ _ ?_
    refine sq fun _ hK32=>sqr fun _ hK33=>fav h122 rfl (Bu _ _) fun _ h123=>ldv h123 s19 1 υ3 rfl rfl rfl rfl fun _ h124=>bv h124 (z:=.bool false) rfl (cGe _ _ _ _ (decide_eq_false ω)) fun _ h125=>mv h125 rfl fun _ h126=>su h126 (wT h126 (E:=false) rfl rfl rfl) rfl rfl rfl fun _ h127=>su h127 (wT h127 (E:=false) rfl rfl rfl) rfl rfl rfl fun _ h128=>su h128 (wT h128 (E:=false) rfl rfl rfl) rfl rfl rfl fun _ h129=>sv1 h129 rfl (v:=.bool false) (CX h129 rfl rfl rfl) fun _ h130=>h130.sk [56,5,4,3,0,1] rfl fun h131=>?_
    refine wpList_nil<|hK33 _ _<|wcF h131 rfl rfl<|h131.sk [5,4,3,0,1] rfl fun h132=>wp_skip<|hK32 _ _<|sqr fun _ hK34=>h132.sk [5,3,0,1] rfl fun h133=>mv h133 rfl fun _ h134=>wpList_nil<|hK34 _ _<|wp_ret ?_
    try simp only [Exit.then,Exit.inBlock]
    refine CO (v:=.bool true) (CN h134 rfl rfl) h134.defs ?_
    exact ⟨M,S,fr,N,U,gr,_,rfl,Sep.tail_un (xs:=[_,_,_,_,_,_,_]) (s19.pk [3,0,4,5,6,7,8,9] rfl),sok.le (Nat.le_succ k),hM,uok.le (Nat.le_succ k),hN2,(fun _ _ _=>rfl),fun q1 q2 q3=>(by rw [q1,q2,q3];exact ⟨rfl,rfl,rfl,rfl⟩)⟩
  ·skip
   refine wcF h67 rfl hc3<|h67.sk [5,4,3,0,1] rfl fun h135=>wp_skip<|hK19 _ _<|sq fun K1 hK35=>?_
   have hJ365:∀ (g1:Nat) (M1:MemM) (S1:List SideM) (f1:Bool) (A1:PkM) (b1:Bool) a' w',Kn 113 [(5,π g3),(4,.bool false),(3,π g4),(0,π pg),(1,.agg (Dg P pa P.N.length pc dst dcr qa qs.length qc).toArray),(6,π g1),(7,.bool b1)] a'→Sep w' [Ab g1 39 (pkC A1 none 0 0),Ab g3 39 (pkC Q pa P.N.length pc),Ab g4 42 (Dg P pa P.N.length pc dst dcr qa qs.length qc),Ab pg 54 [π mg,π cg,π rg,π dg],Ab cg 83 (An mg S1 f1),AJ mg mb md mp M1,Ab dg 49 [π rg,.slice (some ⟨gs0,0,none⟩) 8 8,.bool gr],Ab gs0 45 (U.flatMap AM),AV rg rv rd ra N,AO W B,Ch.many R]→(SOk S1 (k+1))→(M1.V.length=23168)→(A1.N=[])→(∀ j:Nat,(j:Int)+1≠Q.I 1→S1.getD j (Ac 0)=S.getD j (Ac 0))→(doC ⟨M,S,fr⟩ Q=(⟨M1,S1,f1⟩,A1,b1))→K1 a' w':=by
    intro g1 M1 S1 f1 A1 b1 a1 w15 h136 s20 sok1 hM1 hAN1 hel1 hdo1
    have h8M:=sok1.len
    refine hK35 _ _ ?_
    refine sq fun K2 hK36=>?_
    have hJ371:∀ (g2:Nat) (N2:MemM) (U2:List SideM) (f2:Bool) (A2:PkM) (b2:Bool) a' w',Kn 113 [(5,π g3),(4,.bool false),(3,π g4),(0,π pg),(1,.agg (Dg P pa P.N.length pc dst dcr qa qs.length qc).toArray),(6,π g1),(7,.bool b1),(8,π g2),(9,.bool b2)] a'→Sep w' [Ab g2 39 (pkC A2 none 0 0),Ab g1 39 (pkC A1 none 0 0),Ab g3 39 (pkC Q pa P.N.length pc),Ab g4 42 (Dg P pa P.N.length pc dst dcr qa qs.length qc),Ab pg 54 [π mg,π cg,π rg,π dg],Ab cg 83 (An mg S1 f1),AJ mg mb md mp M1,Ab dg 49 [π rg,.slice (some ⟨gs0,0,none⟩) 8 8,.bool f2],Ab gs0 45 (U2.flatMap AM),AV rg rv rd ra N2,AO W B,Ch.many R]→(SOk U2 (k+1))→(N2.V.length=23168)→(A2.N=[])→(doC ⟨N,U,gr⟩ Q=(⟨N2,U2,f2⟩,A2,b2))→K2 a' w':=by
     intro g2 N2 U2 f2 A2 b2 a2 w16 h137 s21 sok2 hM2 hAN2 hdo2
     refine hK36 _ _ ?_
     refine sqr fun _ hK37=>sw1 h137 rfl (v:=.agg (pkC A1 none 0 0).toArray) (rld h137 rfl rfl (ldA υ39 rfl (n:=43) κ (s21.get 1 rfl:Blk _ _ _ _) rfl rfl)) fun _ h138=>sw1 h138 rfl (v:=.agg (pkC A2 none 0 0).toArray) (rld h138 rfl rfl (ldA υ39 rfl (n:=43) κ (s21.get 0 rfl:Blk _ _ _ _) rfl rfl)) fun _ h139=>cl h139 rfl Gh (Er s21 (Up hAN1 hAN2 _)) fun _ v9 w17 r9 h140=>?_
     obtain ⟨rfl,s22⟩:=r9
     refine mv h140 rfl fun _ h141=>h141.sn [10,5,4,3,0,1,6,7,8,9] rfl fun h142=>hK37 _ _<|sq fun _ hK38=>?_
     have s23:=s22.drew
     refine wp_region_held_drew (S:=fun w'=>Sep w' [Ab g2 39 (pkC A2 none 0 0),Ab g1 39 (pkC A1 none 0 0),Ab g3 39 (pkC Q pa P.N.length pc),Ab g4 42 (Dg P pa P.N.length pc dst dcr qa qs.length qc),Ab pg 54 [π mg,π cg,π rg,π dg],Ab cg 83 (An mg S1 f1),AJ mg mb md mp M1,Ab dg 49 [π rg,.slice (some ⟨gs0,0,none⟩) 8 8,.bool f2],Ab gs0 45 (U2.flatMap AM),AV rg rv rd ra N2,AO W B,Ch.many R]) κ s23 (fun hq13=>?_)
     refine tv1 hq13 h142 0 rfl rfl (v:=.bool (BS A1 A2)) (fun w1 _=>(Aj h142 rfl rfl) w1) fun _ h143=>?_
     refine tv1 hq13 h143 1 rfl rfl (v:=.bool (BS A1 A2)) (fun w1 _=>(Aj h143 rfl rfl) w1) fun _ h144=>?_
     refine tgv hq13 h144 2 rfl rfl rfl rfl κ κ κ (fun _ _ _ _ h=>h) (wT h144 rfl rfl rfl) (v:=.bool b1) (fun w1 hSw hC1=>(Aj h144 rfl rfl) w1) fun _ h145=>?_
     refine tgv hq13 h145 3 rfl rfl rfl rfl κ κ κ (fun _ _ _ _ h=>h) (wT h145 rfl rfl rfl) (v:=.bool b2) (fun w1 hSw hC2=>(Aj h145 rfl rfl) w1) fun _ h146=>?_
     refine tgv hq13 h146 4 rfl rfl rfl rfl κ κ κ (fun _ _ _ _ h=>h) (wT h146 rfl rfl rfl) (v:=.bool (b1 == b2)) (fun w1 hSw hC3=>(Cy h146 rfl (opg rfl hC3) (opg rfl hC3) (VL .eql υ4 _ _ _ _)) w1) fun _ h147=>?_
     refine tv1 hq13 h147 5 rfl rfl (v:=.bool ((BS A1 A2)&&(b1 == b2))) (fun w1 _=>(Ib h147 rfl (E:=(BS A1 A2)) (F:=(b1 == b2)) rfl rfl rfl (fun e=>if_pos (by rw [e];try rfl))) w1) fun _ h148=>?_
     refine tv1 hq13 h148 6 rfl rfl (v:=.bool ((BS A1 A2)&&(b1 == b2))) (fun w1 _=>(Aj h148 rfl rfl) w1) fun _ h149=>?_
     refine tgv hq13 h149 7 rfl rfl rfl rfl κ κ κ (fun _ _ _ _ h=>h) (wT h149 rfl rfl rfl) (v:=π pg) (fun w1 hSw hC4=>by have hq:=(And.intro (AQ hC4).1 (AQ hC4).2);exact (Aj h149 rfl rfl) w1) fun _ h150=>?_
     refine tgv hq13 h150 8 rfl rfl rfl rfl κ κ κ (fun _ _ _ _ h=>h) (wT h150 rfl rfl rfl) (v:=π pg) (fun w1 hSw hC5=>by have hq:=(And.intro (AQ hC5).1 (AQ hC5).2);exact (Bt h150 rfl (opg rfl hC5)) w1) fun _ h151=>?_
     refine tgv hq13 h151 9 rfl rfl rfl rfl κ κ κ (fun _ _ _ _ h=>h) (wT h151 rfl rfl rfl) (v:=.pointer (some ⟨pg,1,none⟩)) (fun w1 hSw hC6=>by have hq:=(And.intro (AQ hC6).1 (AQ hC6).2);exact (rfa h151 rfl (opg rfl hC6) (fun w=>Cl pg 0 w)) w1) fun _ h152=>?_
     refine tgv hq13 h152 10 rfl rfl rfl rfl κ κ κ (fun _ _ _ _ h=>h) (wT h152 rfl rfl rfl) (v:=π cg) (fun w1 hSw hC7=>by have hq:=(And.intro (AQ hC7).1 (AQ hC7).2);exact (rld h152 rfl (opg rfl hC7) (ldB υ51 rfl (hSw.get 4 rfl:Blk _ _ _ _) rfl))) fun _ h153=>?_
     refine tgv hq13 h153 12 rfl rfl rfl rfl κ κ κ (fun _ _ _ _ h=>h) (wT h153 rfl rfl rfl) (v:=π pg) (fun w1 hSw hC8=>by have hq:=(And.intro (AQ hC8).1 (AQ hC8).2);exact (Aj h153 rfl rfl) w1) fun _ h154=>?_
     refine tgv hq13 h154 13 rfl rfl rfl rfl κ κ κ (fun _ _ _ _ h=>h) (wT h154 rfl rfl rfl) (v:=π pg) (fun w1 hSw hC9=>by have hq:=(And.intro (AQ hC9).1 (AQ hC9).2);exact (Bt h154 rfl (opg rfl hC9)) w1) fun _ h155=>?_
     refine tgv hq13 h155 14 rfl rfl rfl rfl κ κ κ (fun _ _ _ _ h=>h) (wT h155 rfl rfl rfl) (v:=.pointer (some ⟨pg,3,none⟩)) (fun w1 hSw hC10=>by have hq:=(And.intro (AQ hC10).1 (AQ hC10).2);exact (rfa h155 rfl (opg rfl hC10) (fun w=>Cm pg 0 w)) w1) fun _ h156=>?_
     refine tgv hq13 h156 15 rfl rfl rfl rfl κ κ κ (fun _ _ _ _ h=>h) (wT h156 rfl rfl rfl) (v:=π dg) (fun w1 hSw hC11=>by have hq:=(And.intro (AQ hC11).1 (AQ hC11).2);exact (rld h156 rfl (opg rfl hC11) (ldB υ52 rfl (hSw.get 4 rfl:Blk _ _ _ _) rfl))) fun _ h157=>?_
     refine tgv hq13 h157 16 rfl rfl rfl rfl κ κ κ (fun _ _ _ _ h=>h) (wT h157 rfl rfl rfl) (v:=π dg) (fun w1 hSw hC12=>by have hq:=(And.intro (AQ hC12).1 (AQ hC12).2);exact (Bt h157 rfl (opg rfl hC12)) w1) fun _ h158=>?_
     refine tgv hq13 h158 17 rfl rfl rfl rfl κ κ κ (fun _ _ _ _ h=>h) (wT h158 rfl rfl rfl) (v:=.pointer (some ⟨dg,2,none⟩)) (fun w1 hSw hC13=>by have hq:=(And.intro (AQ hC13).1 (AQ hC13).2);exact (rfa h158 rfl (opg rfl hC13) (fun w=>FF dg 0 w)) w1) fun _ h159=>?_
     refine tgv hq13 h159 18 rfl rfl rfl rfl κ κ κ (fun _ _ _ _ h=>h) (wT h159 rfl rfl rfl) (v:=.bool f2) (fun w1 hSw hC14=>by have hq:=(And.intro (AQ hC14).1 (AQ hC14).2);exact (rld h159 rfl (opg rfl hC14) (ldB υ4 rfl (hSw.get 7 rfl:Blk _ _ _ _) rfl))) fun _ h160=>?_
     rcases bC ((BS A1 A2)&&(b1 == b2)) with hc6 | hc6
     ·skip
      have hp7:((BS A1 A2)=true)∧((b1 == b2)=true):=(And.intro (AQ hc6).1 (AQ hc6).2)
      refine to_ 11 rfl ((wT h160 rfl rfl rfl).trans hc6) κ fun _ hK39=>Bo h160 rfl rfl rfl (xs:=[.tmp 102]) rfl Gn rfl (vs:=[π cg]) (EF (opg rfl hc6) rfl) (args:=#[π cg]) rfl (Nd (s23.pk [5,0,1,2,3,4,6,7,8,9,10,11] rfl) h8M) fun _ v10 w18 r10 h161=>?_
      obtain ⟨rfl,s24⟩:=r10
      refine hK39 _ _ (s24.pk [1,2,3,4,5,0,6,7,8,9,10,11] rfl) fun hq14=>?_
      refine tv hq14 h161 19 rfl rfl rfl rfl κ κ κ (fun _ _ _ _ h=>h) ((wT h161 rfl rfl rfl).trans hc6) (v:=.bool (f1 == f2)) (fun w1 _=>(Cy h161 rfl rfl (opg rfl hc6) (VL .eql υ4 _ _ _ _)) w1) fun _ h162=>?_
      refine tv1 hq14 h162 20 rfl rfl (v:=.bool (f1 == f2)) (fun w1 _=>(CL h162 rfl (E:=((BS A1 A2)&&(b1 == b2))) (b:=true) rfl hc6 rfl) w1) fun _ h163=>?_
      refine h163.sk [112,111,103,110,109,108,107,106,105,104,102,101,100,99,98,97,96,95,94,93,92,10,5,3,0,1,6,7,8,9] rfl fun h164=>?_
      refine tv1 hq14 h164 21 rfl rfl (v:=.bool (f1 == f2)) (fun w1 _=>(AA h164 rfl rfl) w1) fun _ h165=>?_
      refine h165.sk [4,10,5,3,0,1,6,7,8,9] rfl fun h166=>?_
      refine wpAnyH_done κ ?_ _
      refine hK38 _ _ ?_
      refine wp_ret ?_

      refine CO (v:=.bool (f1 == f2)) (CN h166 rfl rfl) h166.defs ?_
      exact ⟨M1,S1,f1,N2,U2,f2,_,rfl,Sep.tail_un (xs:=[_,_,_,_,_,_,_]) (s24.pk [5,0,6,7,8,9,10,11] rfl),sok1,hM1,sok2,hM2,(fun _ j hj=>hel1 j (by rw [hQI];exact hj)),fun q1 q2 q3=>(by rw [q1,q2,q3,hdo2] at hdo1;cases hdo1;simp_all [Mr])⟩
     ·skip
      have hp8:((BS A1 A2)=false)∨((b1 == b2)=false):=((VX hc6).imp (fun q=>q) (fun q=>q))
      refine tu hq13 h160 11 rfl rfl rfl rfl κ κ κ (fun _ _ _ _ h=>h) ((wT h160 rfl rfl rfl).trans hc6) fun _ h167=>?_
      refine tu hq13 h167 19 rfl rfl rfl rfl κ κ κ (fun _ _ _ _ h=>h) ((wT h167 rfl rfl rfl).trans hc6) fun _ h168=>?_
      refine tv1 hq13 h168 20 rfl rfl (v:=.bool false) (fun w1 _=>(CL h168 rfl (E:=((BS A1 A2)&&(b1 == b2))) (b:=false) rfl hc6 rfl) w1) fun _ h169=>?_
      refine h169.sk [112,111,103,110,109,108,107,106,105,104,102,101,100,99,98,97,96,95,94,93,92,10,5,3,0,1,6,7,8,9] rfl fun h170=>?_
      refine tv1 hq13 h170 21 rfl rfl (v:=.bool false) (fun w1 _=>(AA h170 rfl rfl) w1) fun _ h171=>?_
      refine h171.sk [4,10,5,3,0,1,6,7,8,9] rfl fun h172=>?_
      refine wpAnyH_done κ ?_ _
      refine hK38 _ _ ?_
      refine wp_ret ?_

      refine CO (v:=.bool false) (CN h172 rfl rfl) h172.defs ?_
      exact ⟨M1,S1,f1,N2,U2,f2,_,rfl,Sep.tail_un (xs:=[_,_,_,_,_,_,_]) (s23.pk [4,5,6,7,8,9,10,11] rfl),sok1,hM1,sok2,hM2,(fun _ j hj=>hel1 j (by rw [hQI];exact hj)),fun q1 q2 q3=>(by rw [q1,q2,q3,hdo2] at hdo1;cases hdo1;simp_all [Mr])⟩
    have s25:=s20.drew
    refine wp_region_held_drew (S:=fun w'=>Sep w' [Ab g1 39 (pkC A1 none 0 0),Ab g3 39 (pkC Q pa P.N.length pc),Ab g4 42 (Dg P pa P.N.length pc dst dcr qa qs.length qc),Ab pg 54 [π mg,π cg,π rg,π dg],Ab cg 83 (An mg S1 f1),AJ mg mb md mp M1,AO W B,Ch.many R]) κ (s25.pk [0,1,2,3,4,5,9,10] rfl) (fun hq15=>?_)
    refine tv1 hq15 h136 0 rfl rfl (v:=π pg) (fun w1 _=>(Aj h136 rfl rfl) w1) fun _ h173=>?_
    refine tv1 hq15 h173 1 rfl rfl (v:=π pg) (fun w1 _=>(Bt h173 rfl rfl) w1) fun _ h174=>?_
    refine tv1 hq15 h174 2 rfl rfl (v:=.pointer (some ⟨pg,3,none⟩)) (fun w1 _=>(rfa h174 rfl rfl (fun w=>Cm pg 0 w)) w1) fun _ h175=>?_
    refine tv1 hq15 h175 3 rfl rfl (v:=π dg) (fun w1 hSw=>(rld h175 rfl rfl (ldB υ52 rfl (hSw.get 3 rfl:Blk _ _ _ _) rfl))) fun _ h176=>?_
    refine tv1 hq15 h176 4 rfl rfl (v:=.agg (pkC Q pa P.N.length pc).toArray) (fun w1 hSw=>(rld h176 rfl rfl (ldA υ39 rfl (n:=43) κ (hSw.get 1 rfl:Blk _ _ _ _) rfl rfl))) fun _ h177=>?_
    refine wpAnyH_ready (rs:=[5,9]) κ (by simp) (toc rfl (wn rfl) (fun K3 hK40=>?_) (toc rfl (wn rfl) (fun K3 hK40=>?_) AllReadyH.nil))
    ·skip
     refine Bo h177 rfl rfl rfl (xs:=[.tmp 84,.tmp 85]) rfl Df rfl (vs:=[π dg,.agg (pkC Q pa P.N.length pc).toArray]) rfl (args:=#[π dg,.agg (pkC Q pa P.N.length pc).toArray]) rfl ((by have z:=Tm (P:=Q) (pa:=pa) (pc:=pc) (s25.pk [6,7,8,9,0,1,2,3,4,5,10] rfl) uok hk hN2 hB wQ hPQ hSQ hNQ hn9Q hNmQ;rw [hNl] at z;exact z)) fun _ v11 w19 r11 h178=>?_
     obtain ⟨Mx487,Sx488,frx489,Qax490,bx491,rfl,s26,hso496,hM496,hQN496,hdo496⟩:=r11
     refine hK40 _ _ (s26.pk [4,5,6,7,8,9,3,10] rfl) fun hq16=>?_
     refine tv1 hq16 h178 6 rfl rfl (v:=.tuple #[.agg (pkC Qax490 none 0 0).toArray,.bool bx491]) (fun w1 _=>(Aj h178 rfl rfl) w1) fun _ h179=>?_
     refine tv1 hq16 h179 7 rfl rfl (v:=.agg (pkC Qax490 none 0 0).toArray) (fun w1 _=>(DL h179 rfl rfl rfl) w1) fun _ h180=>?_
     refine tv1 hq16 h180 8 rfl rfl (v:=.bool bx491) (fun w1 _=>(DL h180 rfl rfl rfl) w1) fun _ h181=>?_
     refine to_ 9 rfl (wn rfl) κ fun _ hK41=>Cj h181 rfl rfl rfl rfl (z:=[ν 0,ν 0,ν 0,ν 0,ν 0,ν 0,ν 0,σ [],ν 0,ν 0,ν 0,σ [],σ [],ν 0,ν 0,ν 0,ν 0,σ [],ν 0,ν 0,ν 0,ν 0,σ [],.slice none 0 0,ν 0,ν 0,ν 0,ν 0,ν 0,ν 0,ν 0,ν 0,ν 0,ν 0,ν 0,ν 0,ν 0,ν 0,ν 0,ν 0,ν 0,ν 0,ν 0]) (fun _=>rfl) s26 fun _ g5 w20 h182 s27 _ _=>?_
     refine hK41 _ _ (s27.pk [5,6,7,8,9,10,4,11] rfl) fun hq17=>?_
     refine to_ 10 rfl (wn rfl) κ fun _ hK42=>BE h182 rfl rfl s27 0 rfl rfl rfl [ν (Qax490.I 0),ν (Qax490.I 1),ν (Qax490.I 2),ν (Qax490.I 3),ν (Qax490.I 4),ν (Qax490.I 5),ν (Qax490.I 6),σ (Qax490.S 7),ν (Qax490.I 8),ν (Qax490.I 9),ν (Qax490.I 10),σ (Qax490.S 11),σ (Qax490.S 12),ν (Qax490.I 13),ν (Qax490.I 14),ν (Qax490.I 15),ν (Qax490.I 16),σ (Qax490.S 17),ν (Qax490.I 18),ν (Qax490.I 19),ν (Qax490.I 20),ν (Qax490.I 21),σ (Qax490.S 22),.slice none 0 0,ν (Qax490.I 24),ν (Qax490.I 25),ν (Qax490.I 26),ν (Qax490.I 27),ν (Qax490.I 28),ν (Qax490.I 29),ν (Qax490.I 30),ν (Qax490.I 31),ν (Qax490.I 32),ν (Qax490.I 33),ν (Qax490.I 34),ν (Qax490.I 35),ν (Qax490.I 36),ν (Qax490.I 37),ν (Qax490.I 38),ν (Qax490.I 39),ν (Qax490.I 40),ν (Qax490.I 41),ν (Qax490.I 42)] rfl κ rfl (by show 0+43≤43;decide) (L':=[ν (Qax490.I 0),ν (Qax490.I 1),ν (Qax490.I 2),ν (Qax490.I 3),ν (Qax490.I 4),ν (Qax490.I 5),ν (Qax490.I 6),σ (Qax490.S 7),ν (Qax490.I 8),ν (Qax490.I 9),ν (Qax490.I 10),σ (Qax490.S 11),σ (Qax490.S 12),ν (Qax490.I 13),ν (Qax490.I 14),ν (Qax490.I 15),ν (Qax490.I 16),σ (Qax490.S 17),ν (Qax490.I 18),ν (Qax490.I 19),ν (Qax490.I 20),ν (Qax490.I 21),σ (Qax490.S 22),.slice none 0 0,ν (Qax490.I 24),ν (Qax490.I 25),ν (Qax490.I 26),ν (Qax490.I 27),ν (Qax490.I 28),ν (Qax490.I 29),ν (Qax490.I 30),ν (Qax490.I 31),ν (Qax490.I 32),ν (Qax490.I 33),ν (Qax490.I 34),ν (Qax490.I 35),ν (Qax490.I 36),ν (Qax490.I 37),ν (Qax490.I 38),ν (Qax490.I 39),ν (Qax490.I 40),ν (Qax490.I 41),ν (Qax490.I 42)]) rfl (cs':=[Ab g5 39 (pkC Qax490 none 0 0),Ab dg 49 [π rg,.slice (some ⟨gs0,0,none⟩) 8 8,.bool frx489],Ab gs0 45 (Sx488.flatMap AM),AV rg rv rd ra Mx487,AO W B,Ab g1 39 (pkC A1 none 0 0),Ab g3 39 (pkC Q pa P.N.length pc),Ab g4 42 (Dg P pa P.N.length pc dst dcr qa qs.length qc),Ab pg 54 [π mg,π cg,π rg,π dg],Ab cg 83 (An mg S1 f1),AJ mg mb md mp M1,Ch.many R]) rfl fun _ w21 h183 s28 _=>?_
     refine hK42 _ _ (s28.pk [5,6,7,8,9,10,4,11] rfl) fun hq18=>?_
     refine tv1 hq18 h183 11 rfl rfl (v:=.bool bx491) (fun w1 _=>(AA h183 rfl rfl) w1) fun _ h184=>?_
     refine h184.sk [9,8,5,4,3,0,1,6,7] rfl fun h185=>?_
     refine wpAnyH_done κ ?_ _
     exact hJ371 g5 Mx487 Sx488 frx489 Qax490 bx491 _ _ (h185.subs rfl) (s28.pk [0,5,6,7,8,9,10,1,2,3,4,11] rfl) hso496 hM496 hQN496 hdo496
    ·skip
     refine Cj h177 rfl rfl rfl rfl (z:=[ν 0,ν 0,ν 0,ν 0,ν 0,ν 0,ν 0,σ [],ν 0,ν 0,ν 0,σ [],σ [],ν 0,ν 0,ν 0,ν 0,σ [],ν 0,ν 0,ν 0,ν 0,σ [],.slice none 0 0,ν 0,ν 0,ν 0,ν 0,ν 0,ν 0,ν 0,ν 0,ν 0,ν 0,ν 0,ν 0,ν 0,ν 0,ν 0,ν 0,ν 0,ν 0,ν 0]) (fun _=>rfl) s25 fun _ g6 w22 h186 s29 _ _=>hK40 _ _ (s29.pk [1,2,3,4,5,6,10,11] rfl) fun hq19=>?_
     refine to_ 5 rfl (wn rfl) κ fun _ hK43=>Bo h186 rfl rfl rfl (xs:=[.tmp 84,.tmp 85]) rfl Df rfl (vs:=[π dg,.agg (pkC Q pa P.N.length pc).toArray]) rfl (args:=#[π dg,.agg (pkC Q pa P.N.length pc).toArray]) rfl ((by have z:=Tm (P:=Q) (pa:=pa) (pc:=pc) (s29.pk [7,8,9,10,0,1,2,3,4,5,6,11] rfl) uok hk hN2 hB wQ hPQ hSQ hNQ hn9Q hNmQ;rw [hNl] at z;exact z)) fun _ v12 w23 r12 h187=>?_
     obtain ⟨Mx532,Sx533,frx534,Qax535,bx536,rfl,s30,hso541,hM541,hQN541,hdo541⟩:=r12
     refine hK43 _ _ (s30.pk [5,6,7,8,9,10,3,11] rfl) fun hq20=>?_
     refine tv1 hq20 h187 6 rfl rfl (v:=.tuple #[.agg (pkC Qax535 none 0 0).toArray,.bool bx536]) (fun w1 _=>(Aj h187 rfl rfl) w1) fun _ h188=>?_
     refine tv1 hq20 h188 7 rfl rfl (v:=.agg (pkC Qax535 none 0 0).toArray) (fun w1 _=>(DL h188 rfl rfl rfl) w1) fun _ h189=>?_
     refine tv1 hq20 h189 8 rfl rfl (v:=.bool bx536) (fun w1 _=>(DL h189 rfl rfl rfl) w1) fun _ h190=>?_
     refine to_ 10 rfl (wn rfl) κ fun _ hK44=>BE h190 rfl rfl s30 4 rfl rfl rfl [ν (Qax535.I 0),ν (Qax535.I 1),ν (Qax535.I 2),ν (Qax535.I 3),ν (Qax535.I 4),ν (Qax535.I 5),ν (Qax535.I 6),σ (Qax535.S 7),ν (Qax535.I 8),ν (Qax535.I 9),ν (Qax535.I 10),σ (Qax535.S 11),σ (Qax535.S 12),ν (Qax535.I 13),ν (Qax535.I 14),ν (Qax535.I 15),ν (Qax535.I 16),σ (Qax535.S 17),ν (Qax535.I 18),ν (Qax535.I 19),ν (Qax535.I 20),ν (Qax535.I 21),σ (Qax535.S 22),.slice none 0 0,ν (Qax535.I 24),ν (Qax535.I 25),ν (Qax535.I 26),ν (Qax535.I 27),ν (Qax535.I 28),ν (Qax535.I 29),ν (Qax535.I 30),ν (Qax535.I 31),ν (Qax535.I 32),ν (Qax535.I 33),ν (Qax535.I 34),ν (Qax535.I 35),ν (Qax535.I 36),ν (Qax535.I 37),ν (Qax535.I 38),ν (Qax535.I 39),ν (Qax535.I 40),ν (Qax535.I 41),ν (Qax535.I 42)] rfl κ rfl (by show 0+43≤43;decide) (L':=[ν (Qax535.I 0),ν (Qax535.I 1),ν (Qax535.I 2),ν (Qax535.I 3),ν (Qax535.I 4),ν (Qax535.I 5),ν (Qax535.I 6),σ (Qax535.S 7),ν (Qax535.I 8),ν (Qax535.I 9),ν (Qax535.I 10),σ (Qax535.S 11),σ (Qax535.S 12),ν (Qax535.I 13),ν (Qax535.I 14),ν (Qax535.I 15),ν (Qax535.I 16),σ (Qax535.S 17),ν (Qax535.I 18),ν (Qax535.I 19),ν (Qax535.I 20),ν (Qax535.I 21),σ (Qax535.S 22),.slice none 0 0,ν (Qax535.I 24),ν (Qax535.I 25),ν (Qax535.I 26),ν (Qax535.I 27),ν (Qax535.I 28),ν (Qax535.I 29),ν (Qax535.I 30),ν (Qax535.I 31),ν (Qax535.I 32),ν (Qax535.I 33),ν (Qax535.I 34),ν (Qax535.I 35),ν (Qax535.I 36),ν (Qax535.I 37),ν (Qax535.I 38),ν (Qax535.I 39),ν (Qax535.I 40),ν (Qax535.I 41),ν (Qax535.I 42)]) rfl (cs':=[Ab dg 49 [π rg,.slice (some ⟨gs0,0,none⟩) 8 8,.bool frx534],Ab gs0 45 (Sx533.flatMap AM),AV rg rv rd ra Mx532,AO W B,Ab g6 39 (pkC Qax535 none 0 0),Ab g1 39 (pkC A1 none 0 0),Ab g3 39 (pkC Q pa P.N.length pc),Ab g4 42 (Dg P pa P.N.length pc dst dcr qa qs.length qc),Ab pg 54 [π mg,π cg,π rg,π dg],Ab cg 83 (An mg S1 f1),AJ mg mb md mp M1,Ch.many R]) rfl fun _ w24 h191 s31 _=>?_
     refine hK44 _ _ (s31.pk [5,6,7,8,9,10,3,11] rfl) fun hq21=>?_
     refine tv1 hq21 h191 11 rfl rfl (v:=.bool bx536) (fun w1 _=>(AA h191 rfl rfl) w1) fun _ h192=>?_
     refine h192.sk [9,8,5,4,3,0,1,6,7] rfl fun h193=>?_
     refine wpAnyH_done κ ?_ _
     exact hJ371 g6 Mx532 Sx533 frx534 Qax535 bx536 _ _ (h193.subs rfl) (s31.pk [4,5,6,7,8,9,10,0,1,2,3,11] rfl) hso541 hM541 hQN541 hdo541
   have s32:=s3.drew
   refine wp_region_held_drew (S:=fun w'=>Sep w' [Ab g3 39 (pkC Q pa P.N.length pc),Ab g4 42 (Dg P pa P.N.length pc dst dcr qa qs.length qc),Ab pg 54 [π mg,π cg,π rg,π dg],Ab dg 49 [π rg,.slice (some ⟨gs0,0,none⟩) 8 8,.bool gr],Ab gs0 45 (U.flatMap AM),AV rg rv rd ra N,AO W B,Ch.many R]) κ (s32.pk [0,1,2,5,6,7,8,9] rfl) (fun hq22=>?_)
   refine tv1 hq22 h135 0 rfl rfl (v:=π pg) (fun w1 _=>(Aj h135 rfl rfl) w1) fun _ h194=>?_
   refine tv1 hq22 h194 1 rfl rfl (v:=π pg) (fun w1 _=>(Bt h194 rfl rfl) w1) fun _ h195=>?_
   refine tv1 hq22 h195 2 rfl rfl (v:=.pointer (some ⟨pg,1,none⟩)) (fun w1 _=>(rfa h195 rfl rfl (fun w=>Cl pg 0 w)) w1) fun _ h196=>?_
   refine tv1 hq22 h196 3 rfl rfl (v:=π cg) (fun w1 hSw=>(rld h196 rfl rfl (ldB υ51 rfl (hSw.get 2 rfl:Blk _ _ _ _) rfl))) fun _ h197=>?_
   refine tv1 hq22 h197 4 rfl rfl (v:=.agg (pkC Q pa P.N.length pc).toArray) (fun w1 hSw=>(rld h197 rfl rfl (ldA υ39 rfl (n:=43) κ (hSw.get 0 rfl:Blk _ _ _ _) rfl rfl))) fun _ h198=>?_
   refine wpAnyH_ready (rs:=[5,9]) κ (by simp) (toc rfl (wn rfl) (fun K4 hK45=>?_) (toc rfl (wn rfl) (fun K4 hK45=>?_) AllReadyH.nil))
   ·skip
    refine Bo h198 rfl rfl rfl (xs:=[.tmp 75,.tmp 76]) rfl EC rfl (vs:=[π cg,.agg (pkC Q pa P.N.length pc).toArray]) rfl (args:=#[π cg,.agg (pkC Q pa P.N.length pc).toArray]) rfl ((by have z:=VO (P:=Q) (pa:=pa) (pc:=pc) (s32.pk [3,4,8,0,1,2,5,6,7,9] rfl) sok hM hB wQ hPQ hSQ hNQ hn9Q hNmQ;rw [hNl] at z;exact z)) fun _ v13 w25 r13 h199=>?_
    obtain ⟨Mx574,Sx575,frx576,Qax577,bx578,rfl,s33,hso583,hM583,hQN583,hel583,hdo583⟩:=r13
    refine hK45 _ _ (s33.pk [3,4,5,6,7,8,2,9] rfl) fun hq23=>?_
    refine tv1 hq23 h199 6 rfl rfl (v:=.tuple #[.agg (pkC Qax577 none 0 0).toArray,.bool bx578]) (fun w1 _=>(Aj h199 rfl rfl) w1) fun _ h200=>?_
    refine tv1 hq23 h200 7 rfl rfl (v:=.agg (pkC Qax577 none 0 0).toArray) (fun w1 _=>(DL h200 rfl rfl rfl) w1) fun _ h201=>?_
    refine tv1 hq23 h201 8 rfl rfl (v:=.bool bx578) (fun w1 _=>(DL h201 rfl rfl rfl) w1) fun _ h202=>?_
    refine to_ 9 rfl (wn rfl) κ fun _ hK46=>Cj h202 rfl rfl rfl rfl (z:=[ν 0,ν 0,ν 0,ν 0,ν 0,ν 0,ν 0,σ [],ν 0,ν 0,ν 0,σ [],σ [],ν 0,ν 0,ν 0,ν 0,σ [],ν 0,ν 0,ν 0,ν 0,σ [],.slice none 0 0,ν 0,ν 0,ν 0,ν 0,ν 0,ν 0,ν 0,ν 0,ν 0,ν 0,ν 0,ν 0,ν 0,ν 0,ν 0,ν 0,ν 0,ν 0,ν 0]) (fun _=>rfl) s33 fun _ g7 w26 h203 s34 _ _=>?_
    refine hK46 _ _ (s34.pk [4,5,6,7,8,9,3,10] rfl) fun hq24=>?_
    refine to_ 10 rfl (wn rfl) κ fun _ hK47=>BE h203 rfl rfl s34 0 rfl rfl rfl [ν (Qax577.I 0),ν (Qax577.I 1),ν (Qax577.I 2),ν (Qax577.I 3),ν (Qax577.I 4),ν (Qax577.I 5),ν (Qax577.I 6),σ (Qax577.S 7),ν (Qax577.I 8),ν (Qax577.I 9),ν (Qax577.I 10),σ (Qax577.S 11),σ (Qax577.S 12),ν (Qax577.I 13),ν (Qax577.I 14),ν (Qax577.I 15),ν (Qax577.I 16),σ (Qax577.S 17),ν (Qax577.I 18),ν (Qax577.I 19),ν (Qax577.I 20),ν (Qax577.I 21),σ (Qax577.S 22),.slice none 0 0,ν (Qax577.I 24),ν (Qax577.I 25),ν (Qax577.I 26),ν (Qax577.I 27),ν (Qax577.I 28),ν (Qax577.I 29),ν (Qax577.I 30),ν (Qax577.I 31),ν (Qax577.I 32),ν (Qax577.I 33),ν (Qax577.I 34),ν (Qax577.I 35),ν (Qax577.I 36),ν (Qax577.I 37),ν (Qax577.I 38),ν (Qax577.I 39),ν (Qax577.I 40),ν (Qax577.I 41),ν (Qax577.I 42)] rfl κ rfl (by show 0+43≤43;decide) (L':=[ν (Qax577.I 0),ν (Qax577.I 1),ν (Qax577.I 2),ν (Qax577.I 3),ν (Qax577.I 4),ν (Qax577.I 5),ν (Qax577.I 6),σ (Qax577.S 7),ν (Qax577.I 8),ν (Qax577.I 9),ν (Qax577.I 10),σ (Qax577.S 11),σ (Qax577.S 12),ν (Qax577.I 13),ν (Qax577.I 14),ν (Qax577.I 15),ν (Qax577.I 16),σ (Qax577.S 17),ν (Qax577.I 18),ν (Qax577.I 19),ν (Qax577.I 20),ν (Qax577.I 21),σ (Qax577.S 22),.slice none 0 0,ν (Qax577.I 24),ν (Qax577.I 25),ν (Qax577.I 26),ν (Qax577.I 27),ν (Qax577.I 28),ν (Qax577.I 29),ν (Qax577.I 30),ν (Qax577.I 31),ν (Qax577.I 32),ν (Qax577.I 33),ν (Qax577.I 34),ν (Qax577.I 35),ν (Qax577.I 36),ν (Qax577.I 37),ν (Qax577.I 38),ν (Qax577.I 39),ν (Qax577.I 40),ν (Qax577.I 41),ν (Qax577.I 42)]) rfl (cs':=[Ab g7 39 (pkC Qax577 none 0 0),Ab cg 83 (An mg Sx575 frx576),AJ mg mb md mp Mx574,AO W B,Ab g3 39 (pkC Q pa P.N.length pc),Ab g4 42 (Dg P pa P.N.length pc dst dcr qa qs.length qc),Ab pg 54 [π mg,π cg,π rg,π dg],Ab dg 49 [π rg,.slice (some ⟨gs0,0,none⟩) 8 8,.bool gr],Ab gs0 45 (U.flatMap AM),AV rg rv rd ra N,Ch.many R]) rfl fun _ w27 h204 s35 _=>?_
    refine hK47 _ _ (s35.pk [4,5,6,7,8,9,3,10] rfl) fun hq25=>?_
    refine tv1 hq25 h204 11 rfl rfl (v:=.bool bx578) (fun w1 _=>(AA h204 rfl rfl) w1) fun _ h205=>?_
    refine h205.sk [7,6,5,4,3,0,1] rfl fun h206=>?_
    refine wpAnyH_done κ ?_ _
    exact hJ365 g7 Mx574 Sx575 frx576 Qax577 bx578 _ _ (h206.subs rfl) (s35.pk [0,4,5,6,1,2,7,8,9,3,10] rfl) hso583 hM583 hQN583 hel583 hdo583
   ·skip
    refine Cj h198 rfl rfl rfl rfl (z:=[ν 0,ν 0,ν 0,ν 0,ν 0,ν 0,ν 0,σ [],ν 0,ν 0,ν 0,σ [],σ [],ν 0,ν 0,ν 0,ν 0,σ [],ν 0,ν 0,ν 0,ν 0,σ [],.slice none 0 0,ν 0,ν 0,ν 0,ν 0,ν 0,ν 0,ν 0,ν 0,ν 0,ν 0,ν 0,ν 0,ν 0,ν 0,ν 0,ν 0,ν 0,ν 0,ν 0]) (fun _=>rfl) s32 fun _ g8 w28 h207 s36 _ _=>hK45 _ _ (s36.pk [1,2,3,6,7,8,9,10] rfl) fun hq26=>?_
    refine to_ 5 rfl (wn rfl) κ fun _ hK48=>Bo h207 rfl rfl rfl (xs:=[.tmp 75,.tmp 76]) rfl EC rfl (vs:=[π cg,.agg (pkC Q pa P.N.length pc).toArray]) rfl (args:=#[π cg,.agg (pkC Q pa P.N.length pc).toArray]) rfl ((by have z:=VO (P:=Q) (pa:=pa) (pc:=pc) (s36.pk [4,5,9,0,1,2,3,6,7,8,10] rfl) sok hM hB wQ hPQ hSQ hNQ hn9Q hNmQ;rw [hNl] at z;exact z)) fun _ v14 w29 r14 h208=>?_
    obtain ⟨Mx619,Sx620,frx621,Qax622,bx623,rfl,s37,hso628,hM628,hQN628,hel628,hdo628⟩:=r14
    refine hK48 _ _ (s37.pk [4,5,6,7,8,9,2,10] rfl) fun hq27=>?_
    refine tv1 hq27 h208 6 rfl rfl (v:=.tuple #[.agg (pkC Qax622 none 0 0).toArray,.bool bx623]) (fun w1 _=>(Aj h208 rfl rfl) w1) fun _ h209=>?_
    refine tv1 hq27 h209 7 rfl rfl (v:=.agg (pkC Qax622 none 0 0).toArray) (fun w1 _=>(DL h209 rfl rfl rfl) w1) fun _ h210=>?_
    refine tv1 hq27 h210 8 rfl rfl (v:=.bool bx623) (fun w1 _=>(DL h210 rfl rfl rfl) w1) fun _ h211=>?_
    refine to_ 10 rfl (wn rfl) κ fun _ hK49=>BE h211 rfl rfl s37 3 rfl rfl rfl [ν (Qax622.I 0),ν (Qax622.I 1),ν (Qax622.I 2),ν (Qax622.I 3),ν (Qax622.I 4),ν (Qax622.I 5),ν (Qax622.I 6),σ (Qax622.S 7),ν (Qax622.I 8),ν (Qax622.I 9),ν (Qax622.I 10),σ (Qax622.S 11),σ (Qax622.S 12),ν (Qax622.I 13),ν (Qax622.I 14),ν (Qax622.I 15),ν (Qax622.I 16),σ (Qax622.S 17),ν (Qax622.I 18),ν (Qax622.I 19),ν (Qax622.I 20),ν (Qax622.I 21),σ (Qax622.S 22),.slice none 0 0,ν (Qax622.I 24),ν (Qax622.I 25),ν (Qax622.I 26),ν (Qax622.I 27),ν (Qax622.I 28),ν (Qax622.I 29),ν (Qax622.I 30),ν (Qax622.I 31),ν (Qax622.I 32),ν (Qax622.I 33),ν (Qax622.I 34),ν (Qax622.I 35),ν (Qax622.I 36),ν (Qax622.I 37),ν (Qax622.I 38),ν (Qax622.I 39),ν (Qax622.I 40),ν (Qax622.I 41),ν (Qax622.I 42)] rfl κ rfl (by show 0+43≤43;decide) (L':=[ν (Qax622.I 0),ν (Qax622.I 1),ν (Qax622.I 2),ν (Qax622.I 3),ν (Qax622.I 4),ν (Qax622.I 5),ν (Qax622.I 6),σ (Qax622.S 7),ν (Qax622.I 8),ν (Qax622.I 9),ν (Qax622.I 10),σ (Qax622.S 11),σ (Qax622.S 12),ν (Qax622.I 13),ν (Qax622.I 14),ν (Qax622.I 15),ν (Qax622.I 16),σ (Qax622.S 17),ν (Qax622.I 18),ν (Qax622.I 19),ν (Qax622.I 20),ν (Qax622.I 21),σ (Qax622.S 22),.slice none 0 0,ν (Qax622.I 24),ν (Qax622.I 25),ν (Qax622.I 26),ν (Qax622.I 27),ν (Qax622.I 28),ν (Qax622.I 29),ν (Qax622.I 30),ν (Qax622.I 31),ν (Qax622.I 32),ν (Qax622.I 33),ν (Qax622.I 34),ν (Qax622.I 35),ν (Qax622.I 36),ν (Qax622.I 37),ν (Qax622.I 38),ν (Qax622.I 39),ν (Qax622.I 40),ν (Qax622.I 41),ν (Qax622.I 42)]) rfl (cs':=[Ab cg 83 (An mg Sx620 frx621),AJ mg mb md mp Mx619,AO W B,Ab g8 39 (pkC Qax622 none 0 0),Ab g3 39 (pkC Q pa P.N.length pc),Ab g4 42 (Dg P pa P.N.length pc dst dcr qa qs.length qc),Ab pg 54 [π mg,π cg,π rg,π dg],Ab dg 49 [π rg,.slice (some ⟨gs0,0,none⟩) 8 8,.bool gr],Ab gs0 45 (U.flatMap AM),AV rg rv rd ra N,Ch.many R]) rfl fun _ w30 h212 s38 _=>?_
    refine hK49 _ _ (s38.pk [4,5,6,7,8,9,2,10] rfl) fun hq28=>?_
    refine tv1 hq28 h212 11 rfl rfl (v:=.bool bx623) (fun w1 _=>(AA h212 rfl rfl) w1) fun _ h213=>?_
    refine h213.sk [7,6,5,4,3,0,1] rfl fun h214=>?_
    refine wpAnyH_done κ ?_ _
    exact hJ365 g8 Mx619 Sx620 frx621 Qax622 bx623 _ _ (h214.subs rfl) (s38.pk [3,4,5,6,0,1,7,8,9,2,10] rfl) hso628 hM628 hQN628 hel628 hdo628
end
section
theorem Tn {w:World} {R:List Ch} {pg cg mg mb md mp dg gs0 rg rv rd ra k:Nat} {S:List SideM} {fr:Bool} {M:MemM} {W:World} {x:DeedT20} (hS0:Sep w ([Ab pg 54 [π mg,π cg,π rg,π dg],Ab cg 83 (An mg S fr),AJ mg mb md mp M,Ab dg 49 [π rg,.slice (some ⟨gs0,0,none⟩) 8 8,.bool fr],Ab gs0 45 (S.flatMap AM),AV rg rv rd ra M,AO W W.heap.size]++R)) (sok:SOk S k) (hk:k≤1000) (hM:M.V.length=23168) (hx:DeedOk W x) :
  CallsR Tryz.prog 8 #[π pg,.agg (Te x).toArray] w (fun v w'=>∃ M' S' fr',v=.bool true∧Sep w' ([Ab pg 54 [π mg,π cg,π rg,π dg],Ab cg 83 (An mg S' fr'),AJ mg mb md mp M',Ab dg 49 [π rg,.slice (some ⟨gs0,0,none⟩) 8 8,.bool fr'],Ab gs0 45 (S'.flatMap AM),AV rg rv rd ra M',AO W W.heap.size]++R)∧SOk S' (k+1)∧M'.V.length=23168∧(x.cr=false→∀ j:Nat,(j:Int)+1≠x.P.I 1→S'.getD j (Ac 0)=S.getD j (Ac 0))):=
 CallsR.mono (To (R:=R) (P:=x.P) (pa:=x.pa) (pc:=x.pc) (dst:=x.st) (dcr:=x.cr) (qa:=x.qa) (qc:=x.qc) (qs:=x.qs) hS0 sok sok hk hM hM rfl hx.p.wP hx.p.S7 hx.p.hN hx.p.hn9 hx.p.row hx.q hx.o) fun v w' ⟨M',S',fr',N',U',gr',bb,e,h1,h2,h3,_,_,h4,h5⟩=>by
  obtain ⟨e1,e2,e3,e4⟩:=h5 rfl rfl rfl
  subst e1 e2 e3 e4
  exact ⟨M',S',fr',e,h1,h2,h3,h4⟩
end
section
theorem PkIn.cut {W:World} {P:PkM} {a:Option Addr} {c:Nat} (h:PkIn W P a c):PkIn W (El P) a c:=
 ⟨Oc h.wP,Km h.S7,by rw [Jp];exact h.hN,by rw [Jp];exact h.hn9,by rw [Jp];exact h.row⟩
theorem WP {M:MemM} (hM:M.V.length=23168):inM M 0 23168=true:=decide_eq_true ω
theorem VZ {w:World} {R:List Ch} {Q:PkM} {pa:Option Addr} {pc n k:Nat} {cg mg mb md mp:Nat} {S:List SideM} {fr:Bool} {M:MemM} {W:World} (hS0:Sep w ([Ab cg 83 (An mg S fr),AJ mg mb md mp M,AO W W.heap.size]++R)) (sok:SOk S k) (hM:M.V.length=23168) (qx:PkIn W Q pa pc) (hn:Q.N.length=n) :
  CallsR Tryz.prog 17 #[π cg,.agg (pkC Q pa n pc).toArray] w (fun v w'=>∃ M' S' fr' A b,v=.tuple #[.agg (pk0 A).toArray,.bool b]∧Sep w' ([Ab cg 83 (An mg S' fr'),AJ mg mb md mp M',AO W W.heap.size]++R)∧doC ⟨M,S,fr⟩ Q=(⟨M',S',fr'⟩,A,b)):=by
 subst hn
 exact PM hS0 sok.len hM rfl qx.wP (LY qx.wP) qx.S7 qx.hN qx.hn9 qx.row
end
section
theorem KB {X b:List UInt8} {a i:Nat} (h:a+b.length≤X.length) (hi:i<a∨a+b.length≤i):(splice X a b).getD i 0=X.getD i 0:=by
 rw [List.getD_eq_getElem?_getD,List.getD_eq_getElem?_getD,Jg _ _ _ _ h,if_neg ω]
theorem MM {M:MemM} {c at_:Int} {b:List UInt8} {n:Int} (hn:n=(b.length:Int)) (hM:M.V.length=23168) (hc:1≤c∧c≤8) (h:CJ c at_ n=true) {i:Nat} (hi:(CM M at_.toNat b).V.getD i 0≠M.V.getD i 0) :
  6784+1024*(c-1)≤(i:Int)∧(i:Int)<6784+1024*(c-1)+1024:=by
 subst hn
 unfold CJ inF at h
 have h:=dT h
 simp only at h
 refine Classical.byContradiction fun q=>hi ?_
 exact KB ω ω
theorem UE {P:PkM} {M:MemM} (hM:M.V.length=23168) (hc:1≤P.I 1∧P.I 1≤8) {i:Nat} (hi:(CD P M).1.V.getD i 0≠M.V.getD i 0) :
  6784+1024*(P.I 1-1)≤(i:Int)∧(i:Int)<6784+1024*(P.I 1-1)+1024:=by
 unfold CD Ki LW Fr FR at hi
 repeat' split at hi
 all_goals first | exact absurd rfl hi | skip
 ·rename_i q;exact MM rfl hM hc q.2 hi
 ·rename_i q1 q2;exact MM (by rw [AH];rfl) hM hc q1.2 hi
theorem XE {M:MemM} {S:List SideM} {fr:Bool} {Q:PkM} {C':CardM} {A:PkM} {b:Bool} (h:doC ⟨M,S,fr⟩ Q=(C',A,b)) (hM:M.V.length=23168) {i:Nat} (hi:C'.M.V.getD i 0≠M.V.getD i 0) :
  (1≤Q.I 1∧Q.I 1≤8)∧6784+1024*(Q.I 1-1)≤(i:Int)∧(i:Int)<6784+1024*(Q.I 1-1)+1024:=by
 unfold doC at h
 split at h
 ·cases h;exact absurd rfl hi
 ·rename_i q0
  have hv:=LX (P:=Q) ω ω
  split at h
  ·cases h;exact absurd rfl hi
  ·split at h
   ·cases h;exact absurd rfl hi
   ·split at h
    ·cases h;exact absurd rfl hi
    ·obtain ⟨M2,er,d,ol,hw⟩:∃ M2 er d ol,CD Q M=(M2,er,d,ol):=⟨_,_,_,_,rfl⟩
     rw [hw] at h;cases h
     refine ⟨hv.c,UE hM hv.c ?_⟩
     rw [hw];exact hi
theorem KG {M:MemM} (hM:M.V.length=23168):Ay M.V 0 23168=M.V:=by
 show List.take 23168 (List.drop 0 M.V)=M.V
 rw [List.drop_zero,List.take_of_length_le ω]
theorem WJ {w:World} {R:List Ch} {Q:PkM} {pa:Option Addr} {pc n k:Nat} {cg mg mb md mp:Nat} {S:List SideM} {fr:Bool} {M:MemM} {W:World} (hS0:Sep w ([Ab cg 83 (An mg S fr),AJ mg mb md mp M,AO W W.heap.size]++R)) (sok:SOk S k) (hM:M.V.length=23168) (qx:PkIn W Q pa pc) (hn:Q.N.length=n) :
  CallsR Tryz.prog 17 #[π cg,.agg (pkC Q pa n pc).toArray] w (fun v w'=>∃ M' S' fr' A b,v=.tuple #[.agg (pk0 A).toArray,.bool b]∧Sep w' ([Ab cg 83 (An mg S' fr'),AJ mg mb md mp M',AO W W.heap.size]++R)∧SOk S' (k+1)∧M'.V.length=23168∧(∀ i:Nat,(Ay M.V 0 23168).getD i 0≠(Ay M'.V 0 23168).getD i 0→(1≤Q.I 1∧Q.I 1≤8)∧6784+1024*(Q.I 1-1)≤(i:Int)∧(i:Int)<6784+1024*(Q.I 1-1)+1024)):=
 CallsR.mono (VZ hS0 sok hM qx hn) fun v w' ⟨M',S',fr',A,b,e,s,hd⟩=>by
  have z:=PL (fr:=fr) (P:=Q) sok hM
  rw [hd] at z
  exact ⟨M',S',fr',A,b,e,s,z.1,z.2.2,fun i hi=>XE hd hM (i:=i) (by rw [KG hM,KG z.2.2] at hi;exact fun q=>hi q.symm)⟩
theorem Sd {T:TypeId} {k:TypeDesc} (hu:Tryz.prog.underlying T=some k) (hk:k.isRow=false) {w:World} {B:Nat} {e:TypeId} {a:Option Addr} {q c j:Nat} {L:List UInt8} (h:Own w B e 1 a L.length c (L.map Ap)) (ha:a=some ⟨q,0,none⟩) (hj:j<L.length):(Instr.loadAt T (.pointer (some ⟨q,j,none⟩))).run Tryz.prog w=.ok (.int .u8 ((L.getD j 0).toNat:Int)) w:=by
 subst ha
 obtain ⟨L',hb,_,_,ht,hnc,_⟩:=Own.blk h
 refine ldB hu hk hb ?_
 have:(L.map Ap)[j]? = some (.int .u8 ((L.getD j 0).toNat:Int)):=by
  rw [List.getElem?_map,List.getElem?_eq_getElem hj,List.getD_eq_getElem?_getD,List.getElem?_eq_getElem hj];rfl
 rw [← ht,List.getElem?_take] at this
 split at this
 ·exact this
 ·cases this
theorem VN (T:TypeId) (x y:Operand) (i j:Int) (w:World):(do eqGuard .sub T x y (ν i) (ν j);binOp .sub T (ν i) (ν j):Sem Value).run Tryz.prog w=.ok (ν (IntKind.i64.wrap (i-j))) w:=bI .sub T x y .i64 i j rfl w
theorem VM (T:TypeId) (x y:Operand) (i j:Int) (w:World):(do eqGuard .mul T x y (ν i) (ν j);binOp .mul T (ν i) (ν j):Sem Value).run Tryz.prog w=.ok (ν (IntKind.i64.wrap (i*j))) w:=bI .mul T x y .i64 i j rfl w
theorem VK (T:TypeId) (x y:Operand) (i j:Int) (w:World):(do eqGuard .add T x y (ν i) (ν j);binOp .add T (ν i) (ν j):Sem Value).run Tryz.prog w=.ok (ν (IntKind.i64.wrap (i+j))) w:=bI .add T x y .i64 i j rfl w
theorem QX {X Y:List UInt8} {c:Int} (h:∀ i:Nat,X.getD i 0≠Y.getD i 0→(1≤c∧c≤8)∧6784+1024*(c-1)≤(i:Int)∧(i:Int)<6784+1024*(c-1)+1024) (hc:¬ (1≤c∧c≤8)) (i:Nat):X.getD i 0=Y.getD i 0:=Classical.byContradiction fun q=>hc (h i q).1
theorem FY (args:Array Value) (w:World):(callFunc 7 args).run Tryz.prog w=.ok (.enter 7 args) w:=by
 have h:=Tryz.func7
 go_simp
theorem EK (args:Array Value) (w:World):(callFunc 8 args).run Tryz.prog w=.ok (.enter 8 args) w:=by
 have h:=Tryz.func8
 go_simp
theorem GC (args:Array Value) (w:World):(callFunc 14 args).run Tryz.prog w=.ok (.enter 14 args) w:=by
 have h:=Tryz.func14
 go_simp
theorem Dp (g off:Nat) (w:World):(Instr.fieldAt 54 (.pointer (some ⟨g,off,none⟩)) 0).run Tryz.prog w=.ok (.pointer (some ⟨g,off+0,none⟩)) w:=rfl
theorem DX (args:Array Value) (w:World):(callFunc 15 args).run Tryz.prog w=.ok (.enter 15 args) w:=by
 have h:=Tryz.func15
 go_simp
theorem FD (g off:Nat) (w:World):(Instr.fieldAt 54 (.pointer (some ⟨g,off,none⟩)) 1).run Tryz.prog w=.ok (.pointer (some ⟨g,off+1,none⟩)) w:=rfl
theorem Hp (args:Array Value) (w:World):(callFunc 17 args).run Tryz.prog w=.ok (.enter 17 args) w:=by
 have h:=Tryz.func17
 go_simp
theorem DJ (g off:Nat) (w:World):(Instr.fieldAt 39 (.pointer (some ⟨g,off,none⟩)) 1).run Tryz.prog w=.ok (.pointer (some ⟨g,off+1,none⟩)) w:=rfl
theorem Cw (args:Array Value) (w:World):(callFunc 13 args).run Tryz.prog w=.ok (.enter 13 args) w:=by
 have h:=Tryz.func13
 go_simp
theorem RegionOwn_walk (W:World) (a0:Option Addr) (n0 c0:Nat) (f:Nat→DeedT20) (rb:SO W a0 n0 c0 f) (P:PkM) (pa:Option Addr) (pc:Nat) (px:PkIn W P pa pc) :
  Calls Tryz.prog 6 #[.slice a0 n0 c0,.agg (pkC P pa P.N.length pc).toArray] W fun e W'=>e=.returned (.bool true)∧Below W.heap.size W W':=by
 obtain ⟨hX0,hw⟩:=rb;have hXl:=hX0.lt;unfold maxLen at hXl;obtain ⟨bX,oX,hX⟩:=hX0.at;have hS:Sep W [AO W W.heap.size]:=Sep.start W;have hB:W.heap.size=W.heap.size:=rfl
 suffices hZ:CallsR Tryz.prog 6 #[.slice a0 n0 c0,.agg (pkC P pa P.N.length pc).toArray] W (fun v W'=>v=.bool true∧Below W.heap.size W W') from Calls.mono hZ fun e W' ⟨v,e1,e2,h⟩=>⟨by rw [e1,e2],h⟩
 obtain ⟨Q,hQ⟩:∃ Q,El P=Q:=⟨_,rfl⟩
 have hNl:Q.N.length=P.N.length:=by rw [← hQ,Jp]
 have qx:PkIn W Q pa pc:=hQ ▸ px.cut
 have wQ:wfP Q:=qx.wP
 have wQ1:=wQ 1
 unfold wfI at wQ1
 refine Cd Tryz.func6 rfl (N:=94) Tryz.ntmps6 (by show 2≤94;decide) [(0,.slice a0 n0 c0),(1,.agg (pkC P pa P.N.length pc).toArray)] rfl fun _ h1=>sqr fun _ hK3=>so (wn rfl) fun _ hK1=>Jk h1 rfl rfl rfl rfl rfl (z:=(pkC P pa P.N.length pc)) rfl hS fun _ g4 w7 h5 s8 _ _=>hK1 _ _ ?_
 refine mv h5 rfl fun _ h2=>wpList_nil<|hK3 _ _<|sqr fun _ hK2=>cl h2 rfl FY (Mk s8) fun _ v1 w2 r1 h3=>?_
 obtain ⟨pg,cg,mg,mb,md,mp,dg,gs0,rg,rv,rd,ra,rfl,s1⟩:=r1
 refine mv h3 rfl fun _ h4=>h4.sn [5,4,3,0,1] rfl fun h6=>hK2 _ _<|sq fun _ hK4=>sqr fun _ hK5=>mv h6 rfl fun _ h7=>bv h7 (z:=.bool false) rfl (SU _ υ23 _ _ _) fun _ h8=>h8.sn [15,5,4,3,0,1] rfl fun h9=>hK5 _ _<|wcF h9 rfl rfl<|h9.sk [5,4,3,0,1] rfl fun h10=>?_
 refine wp_skip<|hK4 _ _<|sq fun _ hK6=>sqr fun _ hK7=>mv h10 rfl fun _ h11=>wpList_nil<|hK7 _ _<|wp_block ?_
 refine UF (fun (k:Nat) (M:MemM) (S:List SideM) (fr:Bool) a' w'=>Kn 94 [(6,ν (k:Int)),(5,π pg),(4,.bool false),(3,π g4),(0,.slice a0 n0 c0),(1,.agg (pkC P pa P.N.length pc).toArray)] a'∧Sep w' [Ab pg 54 [π mg,π cg,π rg,π dg],Ab cg 83 (An mg S fr),AJ mg mb md mp M,Ab dg 49 [π rg,.slice (some ⟨gs0,0,none⟩) 8 8,.bool fr],Ab gs0 45 (S.flatMap AM),AV rg rv rd ra M,AO W W.heap.size,Ab g4 39 (pkC P pa P.N.length pc)]∧(SOk S k)∧(M.V.length=23168)∧(k≤15)) (fun (k:Nat) (M:MemM) (S:List SideM) (fr:Bool)=>15-k) 0 (Dd 23168) (List.replicate 8 (Ac 0)) false ⟨h11.subs rfl,(s1.pk [0,1,2,3,4,5,7,6] rfl),Vn,Gt,Nat.zero_le _⟩ ?_
 rintro k1 M46 S47 fr48 a1 w3 ⟨h12,s2,sok42,hM43,hk44⟩ K1 hK8
 have h8S:=sok42.len
 refine sq fun _ hK9=>sqr fun _ hK10=>mvs 2 h12 rfl fun _ h13=>sv1 h13 rfl (v:=ν (n0:Int)) (Rq h13 rfl rfl υ22) fun _ h14=>bv h14 (z:=.bool (decide ((k1:Int)<(n0:Int)))) rfl (cLt _ _ _ _ rfl) fun _ h15=>mv h15 rfl fun _ h16=>sg h16 (wT h16 rfl rfl rfl) rfl rfl rfl (v:=ν (k1:Int)) (fun hC1=>by have hq:=(dT hC1);exact Aj h16 rfl rfl _) fun _ h17=>sg h17 (wT h17 rfl rfl rfl) rfl rfl rfl (v:=.bool (decide ((k1:Int)<15))) (fun hC2=>by have hq:=(dT hC2);exact Cy h17 rfl (opg rfl hC2) rfl (cLt _ _ _ _ rfl) _) fun _ h18=>sv1 h18 rfl (v:=.bool ((decide ((k1:Int)<(n0:Int)))&&(decide ((k1:Int)<15)))) (Ib h18 rfl (E:=(decide ((k1:Int)<(n0:Int)))) (F:=(decide ((k1:Int)<15))) rfl rfl rfl (fun e=>if_pos (by rw [e];try rfl))) fun _ h19=>h19.sn [23,6,5,4,3,0,1] rfl fun h20=>hK10 _ _ ?_
 rcases bC ((decide ((k1:Int)<(n0:Int)))&&(decide ((k1:Int)<15))) with hc1 | hc1
 ·skip
  have hp1:((k1:Int)<(n0:Int))∧((k1:Int)<15):=(And.intro (dT (AQ hc1).1) (dT (AQ hc1).2))
  refine wcT h20 rfl hc1<|h20.sk [6,5,4,3,0,1] rfl fun h21=>wp_skip<|hK9 _ _<|sq fun _ hK11=>wp_block ?_
  refine wp_region_lit<|mvs 3 h21 rfl fun _ h22=>sv1 h22 rfl (v:=.pointer (some ⟨bX,oX+k1*46,none⟩)) (Dy h22 rfl rfl rfl (fun w=>ixO υ22 κ (sz:=46) (hX ω).1 (j:=k1) rfl ω rfl w)) fun _ h23=>sw1 h23 rfl (v:=.agg (Dg ((f k1).P) ((f k1).pa) ((f k1).P.N.length) ((f k1).pc) ((f k1).st) ((f k1).cr) ((f k1).qa) ((f k1).qs.length) ((f k1).qc)).toArray) (rld h23 rfl rfl (ldX (sz:=46) (n:=n0) (f:=(fun i=>Te (f i))) υ42 rfl κ (fun _=>rfl) (hX ω).2 (Nat.le_refl _) (s2.get 6 rfl:Below _ _ _∧_) (j:=k1) ω rfl)) fun _ h24=>cl h24 rfl EK (Tn (x:=(f k1)) s2 sok42 ω hM43 (hw k1 ω)) fun _ v2 w4 r2 h25=>?_
  obtain ⟨Mx84,Sx85,frx86,rfl,s3,hso91,hM91,hel91⟩:=r2
  refine h25.sn [6,5,4,3,0,1] rfl fun h26=>hK11 _ _<|wp_region_lit<|mv h26 rfl fun _ h27=>bv h27 (z:=ν ((k1+1:Nat):Int)) rfl (Kx _ _ _ ω ω ω) fun _ h28=>h28.sk [25,24,5,4,3,0,1] rfl fun h29=>mv h29 rfl fun _ h30=>h30.sk [6,5,4,3,0,1] rfl fun h31=>wpList_nil ?_
  exact hK8 (k1+1) Mx84 Sx85 frx86 _ _ ⟨h31.subs rfl,s3,hso91,hM91,ω⟩ ω
 ·skip
  have hp2:(¬ ((k1:Int)<(n0:Int)))∨(¬ ((k1:Int)<15)):=((VX hc1).imp (fun q=>(dF q)) (fun q=>(dF q)))
  refine wcF h20 rfl hc1<|h20.sk [6,5,4,3,0,1] rfl fun h32=>wp_exit ?_
  refine hK6 _ _ ?_
  refine sqr fun _ hK12=>sw1 h32 rfl (v:=.agg (pkC P pa P.N.length pc).toArray) (rld h32 rfl rfl (ldA υ39 rfl (n:=43) κ (s2.get 7 rfl:Blk _ _ _ _) rfl rfl)) fun _ h33=>cl h33 rfl GC ((by have z:=QW (P:=P) (pa:=pa) (pc:=pc) s2 (px.S7 7 (by decide));rw [hQ] at z;exact z)) fun _ v3 w5 r3 h34=>?_
  obtain ⟨rfl,s4⟩:=r3
  refine stA h34 s4 7 rfl rfl rfl κ rfl rfl rfl rfl fun _ w6 h35 s5 _=>h35.sn [6,5,4,3,0,1] rfl fun h36=>hK12 _ _<|sqr fun _ hK13=>mvs 2 h36 rfl fun _ h37=>fav h37 rfl (Dp _ _) fun _ h38=>ldv h38 s5 0 υ50 rfl rfl rfl rfl fun _ h39=>?_
  have hcl131:(Ay M46.V 0 23168).length=23168:=(congrArg List.length (KG hM43)).trans hM43
  refine cl h39 rfl DX (Nk (at_:=0) (n:=23168) (s5.pk [2,0,1,3,4,5,6,7] rfl) (WP hM43) (by unfold JX;omega) (by unfold JX;omega)) fun _ v4 w8 r4 h40=>?_
  obtain ⟨ra_x132,rc_x133,rfl,s6⟩:=r4
  refine mvs 5 h40 rfl fun _ h41=>h41.sn [7,6,5,4,3,0,1] rfl fun h42=>hK13 _ _<|sq fun _ hK14=>?_
  have s7:=s6.drew
  refine wp_region_held_drew (S:=fun w'=>Sep w' [Gb 0 5 1 ra_x132 ((Ay M46.V 0 23168)).length rc_x133 (((Ay M46.V 0 23168)).map Ap),Ab pg 54 [π mg,π cg,π rg,π dg],Ab dg 49 [π rg,.slice (some ⟨gs0,0,none⟩) 8 8,.bool fr48],Ab gs0 45 (S47.flatMap AM),AV rg rv rd ra M46,AO W W.heap.size,Ab g4 39 (pkC Q pa P.N.length pc)]) κ (s7.pk [0,2,4,5,6,7,8] rfl) (fun hq1=>?_)
  refine tv1 hq1 h42 0 rfl rfl (v:=π pg) (fun w1 _=>(Aj h42 rfl rfl) w1) fun _ h43=>?_
  refine tv1 hq1 h43 1 rfl rfl (v:=π pg) (fun w1 _=>(Bt h43 rfl rfl) w1) fun _ h44=>?_
  refine tv1 hq1 h44 2 rfl rfl (v:=.pointer (some ⟨pg,1,none⟩)) (fun w1 _=>(rfa h44 rfl rfl (fun w=>FD pg 0 w)) w1) fun _ h45=>?_
  refine tv1 hq1 h45 3 rfl rfl (v:=π cg) (fun w1 hSw=>(rld h45 rfl rfl (ldB υ51 rfl (hSw.get 1 rfl:Blk _ _ _ _) rfl))) fun _ h46=>?_
  refine tv1 hq1 h46 4 rfl rfl (v:=.agg (pkC Q pa P.N.length pc).toArray) (fun w1 hSw=>(rld h46 rfl rfl (ldA υ39 rfl (n:=43) κ (hSw.get 6 rfl:Blk _ _ _ _) rfl rfl))) fun _ h47=>?_
  refine to_ 5 rfl (wn rfl) κ fun _ hK15=>Bo h47 rfl rfl rfl (xs:=[.tmp 45,.tmp 46]) rfl Hp rfl (vs:=[π cg,.agg (pkC Q pa P.N.length pc).toArray]) rfl (args:=#[π cg,.agg (pkC Q pa P.N.length pc).toArray]) rfl (WJ (Q:=Q) (s7.pk [3,1,7,0,2,4,5,6,8] rfl) sok42 hM43 qx hNl) fun _ v5 w9 r5 h48=>?_
  obtain ⟨Mx166,Sx167,frx168,Ax169,bx170,rfl,s9,hso175,hM175,how175⟩:=r5
  refine hK15 _ _ (s9.pk [3,4,5,6,7,2,8] rfl) fun hq2=>h48.sk [7,6,5,4,3,0,1] rfl fun h49=>?_
  refine wpAnyH_done κ ?_ _
  refine hK14 _ _ ?_
  refine sqr fun _ hK16=>mvs 2 h49 rfl fun _ h50=>fav h50 rfl (Dp _ _) fun _ h51=>ldv h51 s9 4 υ50 rfl rfl rfl rfl fun _ h52=>?_
  have hcl188:(Ay Mx166.V 0 23168).length=23168:=(congrArg List.length (KG hM175)).trans hM175
  refine cl h52 rfl DX (Nk (at_:=0) (n:=23168) (s9.pk [1,0,2,3,4,5,6,7,8] rfl) (WP hM175) (by unfold JX;omega) (by unfold JX;omega)) fun _ v6 w10 r6 h53=>?_
  obtain ⟨ra_x189,rc_x190,rfl,s10⟩:=r6
  refine mvs 5 h53 rfl fun _ h54=>h54.sn [9,7,6,5,4,3,0,1] rfl fun h55=>hK16 _ _<|sq fun _ hK17=>sqr fun _ hK18=>mv h55 rfl fun _ h56=>sv1 h56 rfl (v:=ν (((Ay Mx166.V 0 23168).length:Nat):Int)) (Rq h56 rfl rfl υ60) fun _ h57=>bv h57 (z:=.bool false) rfl (cNe _ _ _ _ (decide_eq_false ω)) fun _ h58=>mv h58 rfl fun _ h59=>sv h59 (wF h59 (E:=false) rfl rfl rfl) rfl rfl rfl (v:=.slice ra_x132 ((Ay M46.V 0 23168).length) rc_x133) (Aj h59 rfl rfl) fun _ h60=>sv h60 (wF h60 (E:=false) rfl rfl rfl) rfl rfl rfl (v:=ν (((Ay M46.V 0 23168).length:Nat):Int)) (Rq h60 rfl rfl υ60) fun _ h61=>?_
  refine sv h61 (wF h61 (E:=false) rfl rfl rfl) rfl rfl rfl (v:=.bool false) (Cy h61 rfl rfl rfl (cNe _ _ _ _ (decide_eq_false ω))) fun _ h62=>sv1 h62 rfl (v:=.bool false) (CX h62 rfl rfl rfl) fun _ h63=>h63.sn [63,9,7,6,5,4,3,0,1] rfl fun h64=>hK18 _ _<|wcF h64 rfl rfl<|h64.sk [9,7,6,5,4,3,0,1] rfl fun h65=>wp_skip<|hK17 _ _<|sq fun _ hK19=>?_
  rcases bC (decide ((Q.I 1)≥1)) with hc2 | hc2
  ·skip
   have hp3:(Q.I 1)≥1:=(dT hc2)
   rcases bC (decide ((Q.I 1)≤8)) with hc3 | hc3
   ·skip
    have hp4:(Q.I 1)≤8:=(dT hc3)
    refine wp_region_lit<|fav h65 rfl (DJ _ _) fun _ h66=>ldv h66 s10 9 υ3 rfl rfl rfl rfl fun _ h67=>bv h67 (z:=ν ((Q.I 1)-1)) rfl (MX _ _ _ ω ω ω) fun _ h68=>bv h68 (z:=ν (1024*((Q.I 1)-1))) rfl (WF _ _ _ ω ω ω) fun _ h69=>bv h69 (z:=ν (6784+1024*((Q.I 1)-1))) rfl (Kx _ _ _ ω ω ω) fun _ h70=>mv h70 rfl fun _ h71=>h71.sn [11,9,7,6,5,4,3,0,1] rfl fun h72=>hK19 _ _<|sq fun _ hK20=>sq fun _ hK21=>wp_region_lit ?_
    refine mv h72 rfl fun _ h73=>wpList_nil<|hK21 _ _<|wp_block ?_
    refine LZ (fun (z:Nat) a' w'=>Kn 94 [(12,ν (z:Int)),(11,ν (6784+1024*((Q.I 1)-1))),(9,.slice ra_x189 ((Ay Mx166.V 0 23168).length) rc_x190),(7,.slice ra_x132 ((Ay M46.V 0 23168).length) rc_x133),(6,ν (k1:Int)),(5,π pg),(4,.bool false),(3,π g4),(0,.slice a0 n0 c0),(1,.agg (pkC P pa P.N.length pc).toArray)] a'∧Sep w' [Gb 0 5 1 ra_x189 ((Ay Mx166.V 0 23168)).length rc_x190 (((Ay Mx166.V 0 23168)).map Ap),AJ mg mb md mp Mx166,Ab cg 83 (An mg Sx167 frx168),AO W W.heap.size,Gb 0 5 1 ra_x132 ((Ay M46.V 0 23168)).length rc_x133 (((Ay M46.V 0 23168)).map Ap),Ab pg 54 [π mg,π cg,π rg,π dg],Ab dg 49 [π rg,.slice (some ⟨gs0,0,none⟩) 8 8,.bool fr48],Ab gs0 45 (S47.flatMap AM),AV rg rv rd ra M46,Ab g4 39 (pkC Q pa P.N.length pc)]∧(z≤23168)) (fun (z:Nat)=>23168-z) 0 ⟨h73.subs rfl,s10,Nat.zero_le _⟩ ?_
    rintro z257 a2 w11 ⟨h74,s11,hz256⟩ K2 hK22
    refine sq fun _ hK23=>sqr fun _ hK24=>mv h74 rfl fun _ h75=>bv h75 (z:=.bool (decide ((z257:Int)<23168))) rfl (cLt _ _ _ _ rfl) fun _ h76=>h76.sn [70,12,11,9,7,6,5,4,3,0,1] rfl fun h77=>hK24 _ _ ?_
    rcases bC (decide ((z257:Int)<23168)) with hc4 | hc4
    ·skip
     have hp5:(z257:Int)<23168:=(dT hc4)
     refine wcT h77 rfl hc4<|h77.sk [12,11,9,7,6,5,4,3,0,1] rfl fun h78=>wp_skip<|hK23 _ _<|sq fun _ hK25=>wp_block ?_
     refine sq fun _ hK26=>?_
     have s12:=s11.drew
     refine wp_region_held_drew (S:=fun w'=>Sep w' [Gb 0 5 1 ra_x189 ((Ay Mx166.V 0 23168)).length rc_x190 (((Ay Mx166.V 0 23168)).map Ap),AJ mg mb md mp Mx166,Ab cg 83 (An mg Sx167 frx168),AO W W.heap.size,Gb 0 5 1 ra_x132 ((Ay M46.V 0 23168)).length rc_x133 (((Ay M46.V 0 23168)).map Ap),Ab pg 54 [π mg,π cg,π rg,π dg],Ab dg 49 [π rg,.slice (some ⟨gs0,0,none⟩) 8 8,.bool fr48],Ab gs0 45 (S47.flatMap AM),AV rg rv rd ra M46,Ab g4 39 (pkC Q pa P.N.length pc)]) κ s12 (fun hq3=>?_)
     refine tv1 hq3 h78 0 rfl rfl (v:=.slice ra_x132 ((Ay M46.V 0 23168).length) rc_x133) (fun w1 _=>(Aj h78 rfl rfl) w1) fun _ h79=>?_
     refine tv1 hq3 h79 1 rfl rfl (v:=ν (z257:Int)) (fun w1 _=>(Aj h79 rfl rfl) w1) fun _ h80=>?_
     obtain ⟨q276,hq4⟩:=Gu (s12.get 4 rfl:Own _ _ _ _ _ _ _ _)
     refine tv1 hq3 h80 2 rfl rfl (v:=.pointer (some ⟨q276,z257,none⟩)) (fun w1 _=>(Dy h80 rfl rfl rfl (fun w=>ixO υ60 κ (sz:=1) (hq4 ω) (j:=z257) rfl ω ω w)) w1) fun _ h81=>?_
     refine tv1 hq3 h81 3 rfl rfl (v:=.int .u8 (((Ay M46.V 0 23168).getD z257 0).toNat:Int)) (fun w1 hSw=>(rld h81 rfl rfl (Sd υ5 rfl (hSw.get 4 rfl:Own _ _ _ _ _ _ _ _) (hq4 ω) ω))) fun _ h82=>?_
     refine tv1 hq3 h82 4 rfl rfl (v:=.slice ra_x189 ((Ay Mx166.V 0 23168).length) rc_x190) (fun w1 _=>(Aj h82 rfl rfl) w1) fun _ h83=>?_
     refine tv1 hq3 h83 5 rfl rfl (v:=ν (z257:Int)) (fun w1 _=>(Aj h83 rfl rfl) w1) fun _ h84=>?_
     obtain ⟨q286,hq5⟩:=Gu (s12.get 0 rfl:Own _ _ _ _ _ _ _ _)
     refine tv1 hq3 h84 6 rfl rfl (v:=.pointer (some ⟨q286,z257,none⟩)) (fun w1 _=>(Dy h84 rfl rfl rfl (fun w=>ixO υ60 κ (sz:=1) (hq5 ω) (j:=z257) rfl ω ω w)) w1) fun _ h85=>?_
     refine tv1 hq3 h85 7 rfl rfl (v:=.int .u8 (((Ay Mx166.V 0 23168).getD z257 0).toNat:Int)) (fun w1 hSw=>(rld h85 rfl rfl (Sd υ5 rfl (hSw.get 0 rfl:Own _ _ _ _ _ _ _ _) (hq5 ω) ω))) fun _ h86=>?_
     refine tv1 hq3 h86 8 rfl rfl (v:=.bool (decide ((((Ay M46.V 0 23168).getD z257 0).toNat:Int)≠(((Ay Mx166.V 0 23168).getD z257 0).toNat:Int)))) (fun w1 _=>(Cy h86 rfl rfl rfl (cNe _ _ _ _ rfl)) w1) fun _ h87=>?_
     refine tv1 hq3 h87 9 rfl rfl (v:=.bool (decide ((((Ay M46.V 0 23168).getD z257 0).toNat:Int)≠(((Ay Mx166.V 0 23168).getD z257 0).toNat:Int)))) (fun w1 _=>(Aj h87 rfl rfl) w1) fun _ h88=>?_
     refine tgv hq3 h88 10 rfl rfl rfl rfl κ κ κ (fun _ _ _ _ h=>h) (wT h88 rfl rfl rfl) (v:=ν (z257:Int)) (fun w1 hSw hC3=>by have hq:=(dT hC3);exact (Aj h88 rfl rfl) w1) fun _ h89=>?_
     refine tgv hq3 h89 11 rfl rfl rfl rfl κ κ κ (fun _ _ _ _ h=>h) (wT h89 rfl rfl rfl) (v:=ν (6784+1024*((Q.I 1)-1))) (fun w1 hSw hC4=>by have hq:=(dT hC4);exact (Aj h89 rfl rfl) w1) fun _ h90=>?_
     refine tgv hq3 h90 12 rfl rfl rfl rfl κ κ κ (fun _ _ _ _ h=>h) (wT h90 rfl rfl rfl) (v:=.bool (decide ((z257:Int)<6784+1024*((Q.I 1)-1)))) (fun w1 hSw hC5=>by have hq:=(dT hC5);exact (Cy h90 rfl (opg rfl hC5) (opg rfl hC5) (cLt _ _ _ _ rfl)) w1) fun _ h91=>?_
     refine tgv hq3 h91 13 rfl rfl rfl rfl κ κ κ (fun _ _ _ _ h=>h) (wT h91 rfl rfl rfl) (v:=.bool (decide ((z257:Int)<6784+1024*((Q.I 1)-1)))) (fun w1 hSw hC6=>by have hq:=(dT hC6);exact (Aj h91 rfl (opg rfl hC6)) w1) fun _ h92=>?_
     refine tgv hq3 h92 14 rfl rfl rfl rfl κ κ κ (fun _ _ _ _ h=>h) (wnF h92 rfl rfl rfl) (v:=ν (z257:Int)) (fun w1 hSw hC7=>by have hq:=(And.intro (dT (AQ hC7).1) (dF (CE (AQ hC7).2)));exact (Aj h92 rfl rfl) w1) fun _ h93=>?_
     refine tgv hq3 h93 15 rfl rfl rfl rfl κ κ κ (fun _ _ _ _ h=>h) (wnF h93 rfl rfl rfl) (v:=ν (6784+1024*((Q.I 1)-1))) (fun w1 hSw hC8=>by have hq:=(And.intro (dT (AQ hC8).1) (dF (CE (AQ hC8).2)));exact (Aj h93 rfl rfl) w1) fun _ h94=>?_
     refine tgv hq3 h94 16 rfl rfl rfl rfl κ κ κ (fun _ _ _ _ h=>h) (wnF h94 rfl rfl rfl) (v:=ν (6784+1024*((Q.I 1)-1)+1024)) (fun w1 hSw hC9=>by have hq:=(And.intro (dT (AQ hC9).1) (dF (CE (AQ hC9).2)));exact (Cy h94 rfl (opg rfl hC9) rfl (Kx _ _ _ ω ω ω)) w1) fun _ h95=>?_
     refine tgv hq3 h95 17 rfl rfl rfl rfl κ κ κ (fun _ _ _ _ h=>h) (wnF h95 rfl rfl rfl) (v:=.bool (decide ((z257:Int)≥6784+1024*((Q.I 1)-1)+1024))) (fun w1 hSw hC10=>by have hq:=(And.intro (dT (AQ hC10).1) (dF (CE (AQ hC10).2)));exact (Cy h95 rfl (opg rfl hC10) (opg rfl hC10) (cGe _ _ _ _ rfl)) w1) fun _ h96=>?_
     refine tgv hq3 h96 18 rfl rfl rfl rfl κ κ κ (fun _ _ _ _ h=>h) (wT h96 rfl rfl rfl) (v:=.bool ((decide ((z257:Int)<6784+1024*((Q.I 1)-1)))||(decide ((z257:Int)≥6784+1024*((Q.I 1)-1)+1024)))) (fun w1 hSw hC11=>by have hq:=(dT hC11);exact (Jf h96 rfl (E:=(decide ((z257:Int)<6784+1024*((Q.I 1)-1)))) (F:=(decide ((z257:Int)≥6784+1024*((Q.I 1)-1)+1024))) (opg rfl hC11) rfl rfl (fun e=>if_pos (by rw [hC11,e];try rfl))) w1) fun _ h97=>?_
     refine tv1 hq3 h97 19 rfl rfl (v:=.bool ((decide ((((Ay M46.V 0 23168).getD z257 0).toNat:Int)≠(((Ay Mx166.V 0 23168).getD z257 0).toNat:Int)))&&((decide ((z257:Int)<6784+1024*((Q.I 1)-1)))||(decide ((z257:Int)≥6784+1024*((Q.I 1)-1)+1024))))) (fun w1 _=>(Ib h97 rfl (E:=(decide ((((Ay M46.V 0 23168).getD z257 0).toNat:Int)≠(((Ay Mx166.V 0 23168).getD z257 0).toNat:Int)))) (F:=((decide ((z257:Int)<6784+1024*((Q.I 1)-1)))||(decide ((z257:Int)≥6784+1024*((Q.I 1)-1)+1024)))) rfl rfl rfl (fun e=>if_pos (by rw [e];try rfl))) w1) fun _ h98=>?_
     refine h98.sk [92,12,11,9,7,6,5,4,3,0,1] rfl fun h99=>?_
     refine wpAnyH_done κ ?_ _
     refine hK26 _ _ ?_
     rcases bC ((decide ((((Ay M46.V 0 23168).getD z257 0).toNat:Int)≠(((Ay Mx166.V 0 23168).getD z257 0).toNat:Int)))&&((decide ((z257:Int)<6784+1024*((Q.I 1)-1)))||(decide ((z257:Int)≥6784+1024*((Q.I 1)-1)+1024)))) with hc5 | hc5
     ·skip
      have hp6:((((Ay M46.V 0 23168).getD z257 0).toNat:Int)≠(((Ay Mx166.V 0 23168).getD z257 0).toNat:Int))∧(((z257:Int)<6784+1024*((Q.I 1)-1))∨((z257:Int)≥6784+1024*((Q.I 1)-1)+1024)):=(And.intro (dT (AQ hc5).1) ((orT (AQ hc5).2).imp (fun q=>(dT q)) (fun q=>(dT q))))
      have hz9:=how175 z257 (fun q=>hp6.1 (by rw [q]))
      omega
     ·skip
      have hp7:(¬ ((((Ay M46.V 0 23168).getD z257 0).toNat:Int)≠(((Ay Mx166.V 0 23168).getD z257 0).toNat:Int)))∨((¬ ((z257:Int)<6784+1024*((Q.I 1)-1)))∧(¬ ((z257:Int)≥6784+1024*((Q.I 1)-1)+1024))):=((VX hc5).imp (fun q=>(dF q)) (fun q=>(And.intro (dF (orF q).1) (dF (orF q).2))))
      refine wcF h99 rfl hc5<|h99.sk [12,11,9,7,6,5,4,3,0,1] rfl fun h100=>wp_skip<|hK25 _ _<|wp_region_lit<|mv h100 rfl fun _ h101=>bv h101 (z:=ν ((z257+1:Nat):Int)) rfl (Kx _ _ _ ω ω ω) fun _ h102=>h102.sk [72,71,11,9,7,6,5,4,3,0,1] rfl fun h103=>mv h103 rfl fun _ h104=>h104.sk [12,11,9,7,6,5,4,3,0,1] rfl fun h105=>wpList_nil ?_
      exact hK22 (z257+1) _ _ ⟨h105.subs rfl,s12,ω⟩ ω
    ·skip
     have hp8:¬ ((z257:Int)<23168):=(dF hc4)
     refine wcF h77 rfl hc4<|h77.sk [12,11,9,7,6,5,4,3,0,1] rfl fun h106=>wp_exit ?_
     refine hK20 _ _ ?_
     refine sqr fun _ hK27=>cl h106 rfl Cw (JZ s11) fun _ v7 w12 r7 h107=>?_
     obtain ⟨rfl,s13⟩:=r7
     refine h107.sk [93,12,11,9,7,6,5,3,0,1] rfl fun h108=>mv h108 rfl fun _ h109=>h109.sn [4,12,11,9,7,6,5,3,0,1] rfl fun h110=>hK27 _ _<|wp_ret ?_
     try simp only [Exit.then,Exit.inBlock]
     refine CO (v:=.bool true) (CN h110 rfl rfl) h110.defs ?_
     exact ⟨rfl,(s13.get 3 rfl:Below _ _ _∧_).1⟩
   ·skip
    have hp9:¬ ((Q.I 1)≤8):=(dF hc3)
    refine wp_region_lit<|fav h65 rfl (DJ _ _) fun _ h111=>ldv h111 s10 9 υ3 rfl rfl rfl rfl fun _ h112=>bv h112 (z:=ν (IntKind.i64.wrap ((Q.I 1)-1))) rfl (VN _ _ _ _ _) fun _ h113=>bv h113 (z:=ν (IntKind.i64.wrap (1024*(IntKind.i64.wrap ((Q.I 1)-1))))) rfl (VM _ _ _ _ _) fun _ h114=>bv h114 (z:=ν (IntKind.i64.wrap (6784+(IntKind.i64.wrap (1024*(IntKind.i64.wrap ((Q.I 1)-1))))))) rfl (VK _ _ _ _ _) fun _ h115=>mv h115 rfl fun _ h116=>h116.sn [11,9,7,6,5,4,3,0,1] rfl fun h117=>hK19 _ _<|sq fun _ hK28=>sq fun _ hK29=>wp_region_lit ?_
    refine mv h117 rfl fun _ h118=>wpList_nil<|hK29 _ _<|wp_block ?_
    refine LZ (fun (z:Nat) a' w'=>Kn 94 [(12,ν (z:Int)),(11,ν (IntKind.i64.wrap (6784+(IntKind.i64.wrap (1024*(IntKind.i64.wrap ((Q.I 1)-1))))))),(9,.slice ra_x189 ((Ay Mx166.V 0 23168).length) rc_x190),(7,.slice ra_x132 ((Ay M46.V 0 23168).length) rc_x133),(6,ν (k1:Int)),(5,π pg),(4,.bool false),(3,π g4),(0,.slice a0 n0 c0),(1,.agg (pkC P pa P.N.length pc).toArray)] a'∧Sep w' [Gb 0 5 1 ra_x189 ((Ay Mx166.V 0 23168)).length rc_x190 (((Ay Mx166.V 0 23168)).map Ap),AJ mg mb md mp Mx166,Ab cg 83 (An mg Sx167 frx168),AO W W.heap.size,Gb 0 5 1 ra_x132 ((Ay M46.V 0 23168)).length rc_x133 (((Ay M46.V 0 23168)).map Ap),Ab pg 54 [π mg,π cg,π rg,π dg],Ab dg 49 [π rg,.slice (some ⟨gs0,0,none⟩) 8 8,.bool fr48],Ab gs0 45 (S47.flatMap AM),AV rg rv rd ra M46,Ab g4 39 (pkC Q pa P.N.length pc)]∧(z≤23168)) (fun (z:Nat)=>23168-z) 0 ⟨h118.subs rfl,s10,Nat.zero_le _⟩ ?_
    rintro z376 a3 w13 ⟨h119,s14,hz375⟩ K3 hK30
    refine sq fun _ hK31=>sqr fun _ hK32=>mv h119 rfl fun _ h120=>bv h120 (z:=.bool (decide ((z376:Int)<23168))) rfl (cLt _ _ _ _ rfl) fun _ h121=>h121.sn [70,12,11,9,7,6,5,4,3,0,1] rfl fun h122=>hK32 _ _ ?_
    rcases bC (decide ((z376:Int)<23168)) with hc6 | hc6
    ·skip
     have hp10:(z376:Int)<23168:=(dT hc6)
     refine wcT h122 rfl hc6<|h122.sk [12,11,9,7,6,5,4,3,0,1] rfl fun h123=>wp_skip<|hK31 _ _<|sq fun _ hK33=>wp_block ?_
     refine sq fun _ hK34=>?_
     have s15:=s14.drew
     refine wp_region_held_drew (S:=fun w'=>Sep w' [Gb 0 5 1 ra_x189 ((Ay Mx166.V 0 23168)).length rc_x190 (((Ay Mx166.V 0 23168)).map Ap),AJ mg mb md mp Mx166,Ab cg 83 (An mg Sx167 frx168),AO W W.heap.size,Gb 0 5 1 ra_x132 ((Ay M46.V 0 23168)).length rc_x133 (((Ay M46.V 0 23168)).map Ap),Ab pg 54 [π mg,π cg,π rg,π dg],Ab dg 49 [π rg,.slice (some ⟨gs0,0,none⟩) 8 8,.bool fr48],Ab gs0 45 (S47.flatMap AM),AV rg rv rd ra M46,Ab g4 39 (pkC Q pa P.N.length pc)]) κ s15 (fun hq6=>?_)
     refine tv1 hq6 h123 0 rfl rfl (v:=.slice ra_x132 ((Ay M46.V 0 23168).length) rc_x133) (fun w1 _=>(Aj h123 rfl rfl) w1) fun _ h124=>?_
     refine tv1 hq6 h124 1 rfl rfl (v:=ν (z376:Int)) (fun w1 _=>(Aj h124 rfl rfl) w1) fun _ h125=>?_
     obtain ⟨q395,hq7⟩:=Gu (s15.get 4 rfl:Own _ _ _ _ _ _ _ _)
     refine tv1 hq6 h125 2 rfl rfl (v:=.pointer (some ⟨q395,z376,none⟩)) (fun w1 _=>(Dy h125 rfl rfl rfl (fun w=>ixO υ60 κ (sz:=1) (hq7 ω) (j:=z376) rfl ω ω w)) w1) fun _ h126=>?_
     refine tv1 hq6 h126 3 rfl rfl (v:=.int .u8 (((Ay M46.V 0 23168).getD z376 0).toNat:Int)) (fun w1 hSw=>(rld h126 rfl rfl (Sd υ5 rfl (hSw.get 4 rfl:Own _ _ _ _ _ _ _ _) (hq7 ω) ω))) fun _ h127=>?_
     refine tv1 hq6 h127 4 rfl rfl (v:=.slice ra_x189 ((Ay Mx166.V 0 23168).length) rc_x190) (fun w1 _=>(Aj h127 rfl rfl) w1) fun _ h128=>?_
     refine tv1 hq6 h128 5 rfl rfl (v:=ν (z376:Int)) (fun w1 _=>(Aj h128 rfl rfl) w1) fun _ h129=>?_
     obtain ⟨q405,hq8⟩:=Gu (s15.get 0 rfl:Own _ _ _ _ _ _ _ _)
     refine tv1 hq6 h129 6 rfl rfl (v:=.pointer (some ⟨q405,z376,none⟩)) (fun w1 _=>(Dy h129 rfl rfl rfl (fun w=>ixO υ60 κ (sz:=1) (hq8 ω) (j:=z376) rfl ω ω w)) w1) fun _ h130=>?_
     refine tv1 hq6 h130 7 rfl rfl (v:=.int .u8 (((Ay Mx166.V 0 23168).getD z376 0).toNat:Int)) (fun w1 hSw=>(rld h130 rfl rfl (Sd υ5 rfl (hSw.get 0 rfl:Own _ _ _ _ _ _ _ _) (hq8 ω) ω))) fun _ h131=>?_
     refine tv1 hq6 h131 8 rfl rfl (v:=.bool false) (fun w1 _=>(Cy h131 rfl rfl rfl (cNe _ _ _ _ (decide_eq_false (fun q=>q (by rw [QX how175 ω z376]))))) w1) fun _ h132=>?_
     refine tv1 hq6 h132 9 rfl rfl (v:=.bool false) (fun w1 _=>(Aj h132 rfl rfl) w1) fun _ h133=>?_
     refine tu hq6 h133 10 rfl rfl rfl rfl κ κ κ (fun _ _ _ _ h=>h) (wT h133 (E:=false) rfl rfl rfl) fun _ h134=>?_
     refine tu hq6 h134 11 rfl rfl rfl rfl κ κ κ (fun _ _ _ _ h=>h) (wT h134 (E:=false) rfl rfl rfl) fun _ h135=>?_
     refine tu hq6 h135 12 rfl rfl rfl rfl κ κ κ (fun _ _ _ _ h=>h) (wT h135 (E:=false) rfl rfl rfl) fun _ h136=>?_
     refine tu hq6 h136 13 rfl rfl rfl rfl κ κ κ (fun _ _ _ _ h=>h) (wT h136 (E:=false) rfl rfl rfl) fun _ h137=>?_
     refine tu hq6 h137 14 rfl rfl rfl rfl κ κ κ (fun _ _ _ _ h=>h) (wgu h137 rfl rfl rfl) fun _ h138=>?_
     refine tu hq6 h138 15 rfl rfl rfl rfl κ κ κ (fun _ _ _ _ h=>h) (wgu h138 rfl rfl rfl) fun _ h139=>?_
     refine tu hq6 h139 16 rfl rfl rfl rfl κ κ κ (fun _ _ _ _ h=>h) (wgu h139 rfl rfl rfl) fun _ h140=>?_
     refine tu hq6 h140 17 rfl rfl rfl rfl κ κ κ (fun _ _ _ _ h=>h) (wgu h140 rfl rfl rfl) fun _ h141=>?_
     refine tu hq6 h141 18 rfl rfl rfl rfl κ κ κ (fun _ _ _ _ h=>h) (wT h141 (E:=false) rfl rfl rfl) fun _ h142=>?_
     refine tv1 hq6 h142 19 rfl rfl (v:=.bool false) (fun w1 _=>(CX h142 rfl rfl rfl) w1) fun _ h143=>?_
     refine h143.sk [92,12,11,9,7,6,5,4,3,0,1] rfl fun h144=>?_
     refine wpAnyH_done κ ?_ _
     refine hK34 _ _ ?_
     refine wcF h144 rfl rfl<|h144.sk [12,11,9,7,6,5,4,3,0,1] rfl fun h145=>wp_skip<|hK33 _ _<|wp_region_lit<|mv h145 rfl fun _ h146=>bv h146 (z:=ν ((z376+1:Nat):Int)) rfl (Kx _ _ _ ω ω ω) fun _ h147=>h147.sk [72,71,11,9,7,6,5,4,3,0,1] rfl fun h148=>mv h148 rfl fun _ h149=>h149.sk [12,11,9,7,6,5,4,3,0,1] rfl fun h150=>wpList_nil ?_
     exact hK30 (z376+1) _ _ ⟨h150.subs rfl,s15,ω⟩ ω
    ·skip
     have hp11:¬ ((z376:Int)<23168):=(dF hc6)
     refine wcF h122 rfl hc6<|h122.sk [12,11,9,7,6,5,4,3,0,1] rfl fun h151=>wp_exit ?_
     refine hK28 _ _ ?_
     refine sqr fun _ hK35=>cl h151 rfl Cw (JZ s14) fun _ v8 w14 r8 h152=>?_
     obtain ⟨rfl,s16⟩:=r8
     refine h152.sk [93,12,11,9,7,6,5,3,0,1] rfl fun h153=>mv h153 rfl fun _ h154=>h154.sn [4,12,11,9,7,6,5,3,0,1] rfl fun h155=>hK35 _ _<|wp_ret ?_
     try simp only [Exit.then,Exit.inBlock]
     refine CO (v:=.bool true) (CN h155 rfl rfl) h155.defs ?_
     exact ⟨rfl,(s16.get 3 rfl:Below _ _ _∧_).1⟩
  ·skip
   have hp12:¬ ((Q.I 1)≥1):=(dF hc2)
   refine wp_region_lit<|fav h65 rfl (DJ _ _) fun _ h156=>ldv h156 s10 9 υ3 rfl rfl rfl rfl fun _ h157=>bv h157 (z:=ν (IntKind.i64.wrap ((Q.I 1)-1))) rfl (VN _ _ _ _ _) fun _ h158=>bv h158 (z:=ν (IntKind.i64.wrap (1024*(IntKind.i64.wrap ((Q.I 1)-1))))) rfl (VM _ _ _ _ _) fun _ h159=>bv h159 (z:=ν (IntKind.i64.wrap (6784+(IntKind.i64.wrap (1024*(IntKind.i64.wrap ((Q.I 1)-1))))))) rfl (VK _ _ _ _ _) fun _ h160=>mv h160 rfl fun _ h161=>h161.sn [11,9,7,6,5,4,3,0,1] rfl fun h162=>hK19 _ _<|sq fun _ hK36=>sq fun _ hK37=>wp_region_lit ?_
   refine mv h162 rfl fun _ h163=>wpList_nil<|hK37 _ _<|wp_block ?_
   refine LZ (fun (z:Nat) a' w'=>Kn 94 [(12,ν (z:Int)),(11,ν (IntKind.i64.wrap (6784+(IntKind.i64.wrap (1024*(IntKind.i64.wrap ((Q.I 1)-1))))))),(9,.slice ra_x189 ((Ay Mx166.V 0 23168).length) rc_x190),(7,.slice ra_x132 ((Ay M46.V 0 23168).length) rc_x133),(6,ν (k1:Int)),(5,π pg),(4,.bool false),(3,π g4),(0,.slice a0 n0 c0),(1,.agg (pkC P pa P.N.length pc).toArray)] a'∧Sep w' [Gb 0 5 1 ra_x189 ((Ay Mx166.V 0 23168)).length rc_x190 (((Ay Mx166.V 0 23168)).map Ap),AJ mg mb md mp Mx166,Ab cg 83 (An mg Sx167 frx168),AO W W.heap.size,Gb 0 5 1 ra_x132 ((Ay M46.V 0 23168)).length rc_x133 (((Ay M46.V 0 23168)).map Ap),Ab pg 54 [π mg,π cg,π rg,π dg],Ab dg 49 [π rg,.slice (some ⟨gs0,0,none⟩) 8 8,.bool fr48],Ab gs0 45 (S47.flatMap AM),AV rg rv rd ra M46,Ab g4 39 (pkC Q pa P.N.length pc)]∧(z≤23168)) (fun (z:Nat)=>23168-z) 0 ⟨h163.subs rfl,s10,Nat.zero_le _⟩ ?_
   rintro z483 a4 w15 ⟨h164,s17,hz482⟩ K4 hK38
   refine sq fun _ hK39=>sqr fun _ hK40=>mv h164 rfl fun _ h165=>bv h165 (z:=.bool (decide ((z483:Int)<23168))) rfl (cLt _ _ _ _ rfl) fun _ h166=>h166.sn [70,12,11,9,7,6,5,4,3,0,1] rfl fun h167=>hK40 _ _ ?_
   rcases bC (decide ((z483:Int)<23168)) with hc7 | hc7
   ·skip
    have hp13:(z483:Int)<23168:=(dT hc7)
    refine wcT h167 rfl hc7<|h167.sk [12,11,9,7,6,5,4,3,0,1] rfl fun h168=>wp_skip<|hK39 _ _<|sq fun _ hK41=>wp_block ?_
    refine sq fun _ hK42=>?_
    have s18:=s17.drew
    refine wp_region_held_drew (S:=fun w'=>Sep w' [Gb 0 5 1 ra_x189 ((Ay Mx166.V 0 23168)).length rc_x190 (((Ay Mx166.V 0 23168)).map Ap),AJ mg mb md mp Mx166,Ab cg 83 (An mg Sx167 frx168),AO W W.heap.size,Gb 0 5 1 ra_x132 ((Ay M46.V 0 23168)).length rc_x133 (((Ay M46.V 0 23168)).map Ap),Ab pg 54 [π mg,π cg,π rg,π dg],Ab dg 49 [π rg,.slice (some ⟨gs0,0,none⟩) 8 8,.bool fr48],Ab gs0 45 (S47.flatMap AM),AV rg rv rd ra M46,Ab g4 39 (pkC Q pa P.N.length pc)]) κ s18 (fun hq9=>?_)
    refine tv1 hq9 h168 0 rfl rfl (v:=.slice ra_x132 ((Ay M46.V 0 23168).length) rc_x133) (fun w1 _=>(Aj h168 rfl rfl) w1) fun _ h169=>?_
    refine tv1 hq9 h169 1 rfl rfl (v:=ν (z483:Int)) (fun w1 _=>(Aj h169 rfl rfl) w1) fun _ h170=>?_
    obtain ⟨q502,hq10⟩:=Gu (s18.get 4 rfl:Own _ _ _ _ _ _ _ _)
    refine tv1 hq9 h170 2 rfl rfl (v:=.pointer (some ⟨q502,z483,none⟩)) (fun w1 _=>(Dy h170 rfl rfl rfl (fun w=>ixO υ60 κ (sz:=1) (hq10 ω) (j:=z483) rfl ω ω w)) w1) fun _ h171=>?_
    refine tv1 hq9 h171 3 rfl rfl (v:=.int .u8 (((Ay M46.V 0 23168).getD z483 0).toNat:Int)) (fun w1 hSw=>(rld h171 rfl rfl (Sd υ5 rfl (hSw.get 4 rfl:Own _ _ _ _ _ _ _ _) (hq10 ω) ω))) fun _ h172=>?_
    refine tv1 hq9 h172 4 rfl rfl (v:=.slice ra_x189 ((Ay Mx166.V 0 23168).length) rc_x190) (fun w1 _=>(Aj h172 rfl rfl) w1) fun _ h173=>?_
    refine tv1 hq9 h173 5 rfl rfl (v:=ν (z483:Int)) (fun w1 _=>(Aj h173 rfl rfl) w1) fun _ h174=>?_
    obtain ⟨q512,hq11⟩:=Gu (s18.get 0 rfl:Own _ _ _ _ _ _ _ _)
    refine tv1 hq9 h174 6 rfl rfl (v:=.pointer (some ⟨q512,z483,none⟩)) (fun w1 _=>(Dy h174 rfl rfl rfl (fun w=>ixO υ60 κ (sz:=1) (hq11 ω) (j:=z483) rfl ω ω w)) w1) fun _ h175=>?_
    refine tv1 hq9 h175 7 rfl rfl (v:=.int .u8 (((Ay Mx166.V 0 23168).getD z483 0).toNat:Int)) (fun w1 hSw=>(rld h175 rfl rfl (Sd υ5 rfl (hSw.get 0 rfl:Own _ _ _ _ _ _ _ _) (hq11 ω) ω))) fun _ h176=>?_
    refine tv1 hq9 h176 8 rfl rfl (v:=.bool false) (fun w1 _=>(Cy h176 rfl rfl rfl (cNe _ _ _ _ (decide_eq_false (fun q=>q (by rw [QX how175 ω z483]))))) w1) fun _ h177=>?_
    refine tv1 hq9 h177 9 rfl rfl (v:=.bool false) (fun w1 _=>(Aj h177 rfl rfl) w1) fun _ h178=>?_
    refine tu hq9 h178 10 rfl rfl rfl rfl κ κ κ (fun _ _ _ _ h=>h) (wT h178 (E:=false) rfl rfl rfl) fun _ h179=>?_
    refine tu hq9 h179 11 rfl rfl rfl rfl κ κ κ (fun _ _ _ _ h=>h) (wT h179 (E:=false) rfl rfl rfl) fun _ h180=>?_
    refine tu hq9 h180 12 rfl rfl rfl rfl κ κ κ (fun _ _ _ _ h=>h) (wT h180 (E:=false) rfl rfl rfl) fun _ h181=>?_
    refine tu hq9 h181 13 rfl rfl rfl rfl κ κ κ (fun _ _ _ _ h=>h) (wT h181 (E:=false) rfl rfl rfl) fun _ h182=>?_
    refine tu hq9 h182 14 rfl rfl rfl rfl κ κ κ (fun _ _ _ _ h=>h) (wgu h182 rfl rfl rfl) fun _ h183=>?_
    refine tu hq9 h183 15 rfl rfl rfl rfl κ κ κ (fun _ _ _ _ h=>h) (wgu h183 rfl rfl rfl) fun _ h184=>?_
    refine tu hq9 h184 16 rfl rfl rfl rfl κ κ κ (fun _ _ _ _ h=>h) (wgu h184 rfl rfl rfl) fun _ h185=>?_
    refine tu hq9 h185 17 rfl rfl rfl rfl κ κ κ (fun _ _ _ _ h=>h) (wgu h185 rfl rfl rfl) fun _ h186=>?_
    refine tu hq9 h186 18 rfl rfl rfl rfl κ κ κ (fun _ _ _ _ h=>h) (wT h186 (E:=false) rfl rfl rfl) fun _ h187=>?_
    refine tv1 hq9 h187 19 rfl rfl (v:=.bool false) (fun w1 _=>(CX h187 rfl rfl rfl) w1) fun _ h188=>?_
    refine h188.sk [92,12,11,9,7,6,5,4,3,0,1] rfl fun h189=>?_
    refine wpAnyH_done κ ?_ _
    refine hK42 _ _ ?_
    refine wcF h189 rfl rfl<|h189.sk [12,11,9,7,6,5,4,3,0,1] rfl fun h190=>wp_skip<|hK41 _ _<|wp_region_lit<|mv h190 rfl fun _ h191=>bv h191 (z:=ν ((z483+1:Nat):Int)) rfl (Kx _ _ _ ω ω ω) fun _ h192=>h192.sk [72,71,11,9,7,6,5,4,3,0,1] rfl fun h193=>mv h193 rfl fun _ h194=>h194.sk [12,11,9,7,6,5,4,3,0,1] rfl fun h195=>wpList_nil ?_
    exact hK38 (z483+1) _ _ ⟨h195.subs rfl,s18,ω⟩ ω
   ·skip
    have hp14:¬ ((z483:Int)<23168):=(dF hc7)
    refine wcF h167 rfl hc7<|h167.sk [12,11,9,7,6,5,4,3,0,1] rfl fun h196=>wp_exit ?_
    refine hK36 _ _ ?_
    refine sqr fun _ hK43=>cl h196 rfl Cw (JZ s17) fun _ v9 w16 r9 h197=>?_
    obtain ⟨rfl,s19⟩:=r9
    refine h197.sk [93,12,11,9,7,6,5,3,0,1] rfl fun h198=>mv h198 rfl fun _ h199=>h199.sn [4,12,11,9,7,6,5,3,0,1] rfl fun h200=>hK43 _ _<|wp_ret ?_
    try simp only [Exit.then,Exit.inBlock]
    refine CO (v:=.bool true) (CN h200 rfl rfl) h200.defs ?_
    exact ⟨rfl,(s19.get 3 rfl:Below _ _ _∧_).1⟩
end
end Go.Proofs.YtjgajoljgepioaaGreat
