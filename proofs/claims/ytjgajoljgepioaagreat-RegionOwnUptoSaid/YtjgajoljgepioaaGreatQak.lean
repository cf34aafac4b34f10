/- Parts of the proof. -/
import Derived.Test.YtjgajoljgepioaaGreatQaj
namespace Go.Proofs.YtjgajoljgepioaaGreat
open Go.RowKit
set_option linter.unusedSimpArgs false
set_option linter.unusedVariables false
set_option linter.unusedSectionVars false
set_option maxRecDepth 100000
set_option maxHeartbeats 8000000
section
section
variable {P:PkM} {M:MemM}
theorem Pw (h:¬ ((P.I 5).tmod 8=0∧CJ (P.I 1) (P.I 5) 8=true)):FR P M=(M,35,[],0):=by unfold FR;rw [if_neg h]
theorem UA (h:(P.I 5).tmod 8=0∧CJ (P.I 1) (P.I 5) 8=true) (h2:BQ (Ay M.V (P.I 5) 8)=P.I 8):FR P M=(CM M (P.I 5).toNat (le 8 (P.I 9).toNat),0,[],BQ (Ay M.V (P.I 5) 8)):=by unfold FR;rw [if_pos h,if_pos h2]
theorem UB (h:(P.I 5).tmod 8=0∧CJ (P.I 1) (P.I 5) 8=true) (h2:¬ BQ (Ay M.V (P.I 5) 8)=P.I 8):FR P M=(M,0,[],BQ (Ay M.V (P.I 5) 8)):=by unfold FR;rw [if_pos h,if_neg h2]
end
theorem Wm {c t n:Int} (h:Ka c t n=true):1≤n∧n≤64:=dT (Bool.and_eq_true _ _ ▸ (show (decide (1≤n∧n≤64)&&TP c t n)=true from h)).1
theorem Lr {M:MemM} {P:PkM} (hM:M.V.length=23168) (hc:1≤P.I 1∧P.I 1≤8) (h:Ka (P.I 1) (P.I 5) (P.I 6)=true):inM M (P.I 5) (P.I 6)=true:=Rd hM hc ((Nl P).trans (Bool.and_eq_true _ _ ▸ (show (decide (1≤P.I 6∧P.I 6≤64)&&TP (P.I 1) (P.I 5) (P.I 6))=true from h)).2)
theorem Co (g off:Nat) (w:World):(Instr.fieldAt 49 (.pointer (some ⟨g,off,none⟩)) 2).run Tryz.prog w=.ok (.pointer (some ⟨g,off+2,none⟩)) w:=rfl
theorem GH (args:Array Value) (w:World):(callFunc 40 args).run Tryz.prog w=.ok (.enter 40 args) w:=by
 have h:=Tryz.func40
 go_simp
theorem IU (g off:Nat) (w:World):(Instr.fieldAt 39 (.pointer (some ⟨g,off,none⟩)) 0).run Tryz.prog w=.ok (.pointer (some ⟨g,off+0,none⟩)) w:=rfl
theorem Cn (g off:Nat) (w:World):(Instr.fieldAt 49 (.pointer (some ⟨g,off,none⟩)) 1).run Tryz.prog w=.ok (.pointer (some ⟨g,off+1,none⟩)) w:=rfl
theorem Bc (g off:Nat) (w:World):(Instr.fieldAt 39 (.pointer (some ⟨g,off,none⟩)) 1).run Tryz.prog w=.ok (.pointer (some ⟨g,off+1,none⟩)) w:=rfl
theorem Ff (g off:Nat) (w:World):(Instr.fieldAt 39 (.pointer (some ⟨g,off,none⟩)) 2).run Tryz.prog w=.ok (.pointer (some ⟨g,off+2,none⟩)) w:=rfl
theorem Ce (g off:Nat) (w:World):(Instr.fieldAt 39 (.pointer (some ⟨g,off,none⟩)) 3).run Tryz.prog w=.ok (.pointer (some ⟨g,off+3,none⟩)) w:=rfl
theorem Fg (g off:Nat) (w:World):(Instr.fieldAt 39 (.pointer (some ⟨g,off,none⟩)) 4).run Tryz.prog w=.ok (.pointer (some ⟨g,off+4,none⟩)) w:=rfl
theorem Cp (g off:Nat) (w:World):(Instr.fieldAt 45 (.pointer (some ⟨g,off,none⟩)) 0).run Tryz.prog w=.ok (.pointer (some ⟨g,off+0,none⟩)) w:=rfl
theorem EN (g off:Nat) (w:World):(Instr.fieldAt 39 (.pointer (some ⟨g,off,none⟩)) 12).run Tryz.prog w=.ok (.pointer (some ⟨g,off+19,none⟩)) w:=rfl
theorem Ds (g off:Nat) (w:World):(Instr.fieldAt 45 (.pointer (some ⟨g,off,none⟩)) 1).run Tryz.prog w=.ok (.pointer (some ⟨g,off+1,none⟩)) w:=rfl
theorem FG (g off:Nat) (w:World):(Instr.fieldAt 45 (.pointer (some ⟨g,off,none⟩)) 2).run Tryz.prog w=.ok (.pointer (some ⟨g,off+2,none⟩)) w:=rfl
theorem FH (g off:Nat) (w:World):(Instr.fieldAt 45 (.pointer (some ⟨g,off,none⟩)) 3).run Tryz.prog w=.ok (.pointer (some ⟨g,off+45,none⟩)) w:=rfl
theorem AN (g off:Nat) (w:World):(Instr.fieldAt 39 (.pointer (some ⟨g,off,none⟩)) 5).run Tryz.prog w=.ok (.pointer (some ⟨g,off+5,none⟩)) w:=rfl
theorem DG (g off:Nat) (w:World):(Instr.fieldAt 39 (.pointer (some ⟨g,off,none⟩)) 7).run Tryz.prog w=.ok (.pointer (some ⟨g,off+7,none⟩)) w:=rfl
theorem Bh (args:Array Value) (w:World):(callFunc 41 args).run Tryz.prog w=.ok (.enter 41 args) w:=by
 have h:=Tryz.func41
 go_simp
theorem AZ (g off:Nat) (w:World):(Instr.fieldAt 49 (.pointer (some ⟨g,off,none⟩)) 0).run Tryz.prog w=.ok (.pointer (some ⟨g,off+0,none⟩)) w:=rfl
theorem CB (args:Array Value) (w:World):(callFunc 42 args).run Tryz.prog w=.ok (.enter 42 args) w:=by
 have h:=Tryz.func42
 go_simp
theorem CT (g off:Nat) (w:World):(Instr.fieldAt 39 (.pointer (some ⟨g,off,none⟩)) 6).run Tryz.prog w=.ok (.pointer (some ⟨g,off+6,none⟩)) w:=rfl
theorem DW (args:Array Value) (w:World):(callFunc 43 args).run Tryz.prog w=.ok (.enter 43 args) w:=by
 have h:=Tryz.func43
 go_simp
theorem De (g off:Nat) (w:World):(Instr.fieldAt 75 (.pointer (some ⟨g,off,none⟩)) 0).run Tryz.prog w=.ok (.pointer (some ⟨g,off+0,none⟩)) w:=rfl
theorem Eh (args:Array Value) (w:World):(callFunc 44 args).run Tryz.prog w=.ok (.enter 44 args) w:=by
 have h:=Tryz.func44
 go_simp
theorem Eg (args:Array Value) (w:World):(callFunc 45 args).run Tryz.prog w=.ok (.enter 45 args) w:=by
 have h:=Tryz.func45
 go_simp
theorem GE (args:Array Value) (w:World):(callFunc 46 args).run Tryz.prog w=.ok (.enter 46 args) w:=by
 have h:=Tryz.func46
 go_simp
theorem DH (g off:Nat) (w:World):(Instr.fieldAt 39 (.pointer (some ⟨g,off,none⟩)) 8).run Tryz.prog w=.ok (.pointer (some ⟨g,off+8,none⟩)) w:=rfl
theorem IV (g off:Nat) (w:World):(Instr.fieldAt 39 (.pointer (some ⟨g,off,none⟩)) 9).run Tryz.prog w=.ok (.pointer (some ⟨g,off+9,none⟩)) w:=rfl
theorem GF (args:Array Value) (w:World):(callFunc 47 args).run Tryz.prog w=.ok (.enter 47 args) w:=by
 have h:=Tryz.func47
 go_simp
theorem WI {w:World} {R:List Ch} {P:PkM} {pa:Option Addr} {pc:Nat} {dg gs0 rg rv rd ra B:Nat} {S:List SideM} {fr:Bool} {M:MemM} {W:World} (hS0:Sep w ([Ab dg 49 [π rg,.slice (some ⟨gs0,0,none⟩) 8 8,.bool fr],Ab gs0 45 (S.flatMap AM),AV rg rv rd ra M,AO W B]++R)) (h8:S.length=8) (hM:M.V.length=23168) (hB:B=W.heap.size) (hbS:∀ j,wfI ((S.getD j (Ac 0)).last+1)∧wfI (S.getD j (Ac 0)).last) (wP:wfP P) (hP:Be P) (hS7:shortP P) (hN:∀ s∈P.N,s.length≤1100000) (hn9:P.N.length≤1100000) (hNm:Row W 1 pa P.N.length pc (P.N.map AS)) :
  CallsR Tryz.prog 26 #[π dg,.agg (pkC P pa P.N.length pc).toArray] w (fun v w'=>∃ M' S' fr' Q b,v=.tuple #[.agg (pk0 Q).toArray,.bool b]∧Sep w' ([Ab dg 49 [π rg,.slice (some ⟨gs0,0,none⟩) 8 8,.bool fr'],Ab gs0 45 (S'.flatMap AM),AV rg rv rd ra M',AO W B]++R)∧doC ⟨M,S,fr⟩ P=(⟨M',S',fr'⟩,Q,b)):=by
 have hS:Sep w [Ab dg 49 [π rg,.slice (some ⟨gs0,0,none⟩) 8 8,.bool fr],Ab gs0 45 (S.flatMap AM),AV rg rv rd ra M,AO W B,Ch.many R]:=Sep.tail_many (xs:=[_,_,_,_]) hS0;clear hS0
 refine Cd Tryz.func26 rfl (N:=215) Tryz.ntmps26 (by show 2≤215;decide) [(0,π dg),(1,.agg (pkC P pa P.N.length pc).toArray)] rfl fun _ h1=>sqr fun _ hK3=>so (wn rfl) fun _ hK1=>Jk h1 rfl rfl rfl rfl rfl (z:=(pkC P pa P.N.length pc)) rfl hS fun _ g4 w7 h5 s8 _ _=>hK1 _ _ ?_
 refine so (wn rfl) fun _ hK2=>Cj h5 rfl rfl rfl rfl (z:=[ν 0,ν 0,ν 0,ν 0,ν 0,ν 0,ν 0,σ [],ν 0,ν 0,ν 0,σ [],σ [],ν 0,ν 0,ν 0,ν 0,σ [],ν 0,ν 0,ν 0,ν 0,σ [],.slice none 0 0,ν 0,ν 0,ν 0,ν 0,ν 0,ν 0,ν 0,ν 0,ν 0,ν 0,ν 0,ν 0,ν 0,ν 0,ν 0,ν 0,ν 0,ν 0,ν 0]) (fun _=>rfl) s8 fun _ g1 w2 h2 s1 _ _=>hK2 _ _ ?_
 refine mv h2 rfl fun _ h4=>wpList_nil<|hK3 _ _<|sqr fun _ hK4=>mvs 2 h4 rfl fun _ h9=>fav h9 rfl (Co _ _) fun _ h10=>st1 h10 s1 2 rfl rfl κ rfl rfl rfl rfl fun _ w3 h11 s2 _=>h11.sn [5,4,3,0,1] rfl fun h12=>hK4 _ _<|sqr fun _ hK5=>sw1 h12 rfl (v:=.agg (pkC P pa P.N.length pc).toArray) (rld h12 rfl rfl (ldA υ39 rfl (n:=43) κ (s2.get 1 rfl:Blk _ _ _ _) rfl rfl)) fun _ h13=>?_
 refine cl h13 rfl GH (Ww s2 hP hS7 hN hn9 (hNm.mono_of (s2.get 5 rfl:Below _ _ _∧_) hB)) fun _ v1 w4 r1 h14=>?_
 obtain ⟨bax39,bcx40,rfl,s3⟩:=r1
 refine mvs 5 h14 rfl fun _ h15=>h15.sn [7,5,4,3,0,1] rfl fun h16=>hK5 _ _<|sq fun _ hK6=>sqr fun _ hK7=>mv h16 rfl fun _ h17=>bv h17 (z:=.bool (decide (CV P≠0))) rfl (cNe _ _ _ _ rfl) fun _ h18=>mv h18 rfl fun _ h19=>sg h19 (wF h19 rfl rfl rfl) rfl rfl rfl (v:=π g4) (fun hC1=>by have hq:=(dF (CE hC1));exact rfa h19 rfl rfl (fun w=>IU g4 0 w) _) fun _ h20=>sg h20 (wF h20 rfl rfl rfl) rfl rfl rfl (v:=ν (P.I 0)) (fun hC2=>by have hq:=(dF (CE hC2));exact (rld h20 rfl (opg rfl hC2) (ldB υ3 rfl (s3.get 1 rfl:Blk _ _ _ _) rfl))) fun _ h21=>sg h21 (wF h21 rfl rfl rfl) rfl rfl rfl (v:=.bool (decide ((P.I 0)≠1))) (fun hC3=>by have hq:=(dF (CE hC3));exact Cy h21 rfl (opg rfl hC3) rfl (cNe _ _ _ _ rfl) _) fun _ h22=>?_
 refine sv1 h22 rfl (v:=.bool ((decide (CV P≠0))||(decide ((P.I 0)≠1)))) (Jf h22 rfl (E:=(decide (CV P≠0))) (F:=(decide ((P.I 0)≠1))) rfl rfl rfl (fun e=>if_pos (by rw [e];try rfl))) fun _ h23=>h23.sn [25,7,5,4,3,0,1] rfl fun h24=>hK7 _ _ ?_
 rcases bC ((decide (CV P≠0))||(decide ((P.I 0)≠1))) with hc1 | hc1
 ·skip
  have hp1:(CV P≠0)∨((P.I 0)≠1):=((orT hc1).imp (fun q=>(dT q)) (fun q=>(dT q)))
  refine wcT h24 rfl hc1<|h24.sk [7,5,4,3,0,1] rfl fun h25=>sqr fun _ hK8=>bu h25 (v:=.agg (pk0 P0z).toArray) rfl (fun w=>κ) fun _ h26=>stA h26 s3 0 rfl rfl rfl κ rfl rfl rfl rfl fun _ w5 h27 s4 _=>h27.sk [26,7,4,3,0,1] rfl fun h28=>mv h28 rfl fun _ h29=>h29.sn [5,7,4,3,0,1] rfl fun h30=>hK8 _ _<|wp_ret ?_
  try simp only [Exit.then,Exit.inBlock]
  refine rCt h30 s4 0 υ39 rfl rfl rfl rfl rfl ?_
  exact ⟨M,S,false,P0z,false,rfl,Sep.tail_un (xs:=[_,_,_,_]) (s4.pk [2,3,4,5,6] rfl),(by unfold doC;rw [if_pos ω])⟩
 ·skip
  have hp2:(¬ (CV P≠0))∧(¬ ((P.I 0)≠1)):=(And.intro (dF (orF hc1).1) (dF (orF hc1).2))
  have hz0:CV P=0∧P.I 0=1:=ω
  have hok:=LX hz0.1 hz0.2
  have hc2:=hok.c
  have hop:=hok.op
  have h3:=hok.n3
  have h5:=hok.n5
  have h5u:=hok.u5
  have h6:=hok.n6
  have h6u:=hok.u6
  have h3u:=wP 3
  unfold wfI at h3u
  have h7:=hok.d
  have hls:=hbS (P.I 1-1).toNat
  unfold wfI at hls
  refine wcF h24 rfl hc1<|h24.sk [7,5,4,3,0,1] rfl fun h31=>wp_skip<|hK6 _ _<|sq fun _ hK9=>?_
  have s5:=s3.drew
  refine wp_region_held_drew (S:=fun w'=>Sep w' [Ab g1 39 (pk0 P0z),Ab g4 39 (pkC P pa P.N.length pc),Ab dg 49 [π rg,.slice (some ⟨gs0,0,none⟩) 8 8,.bool false],Ab gs0 45 (S.flatMap AM),AV rg rv rd ra M,AO W B,Ch.many R]) κ s5 (fun hq1=>?_)
  refine tv1 hq1 h31 0 rfl rfl (v:=π dg) (fun w1 _=>(Aj h31 rfl rfl) w1) fun _ h32=>?_
  refine tv1 hq1 h32 1 rfl rfl (v:=π dg) (fun w1 _=>(Bt h32 rfl rfl) w1) fun _ h33=>?_
  refine tv1 hq1 h33 2 rfl rfl (v:=.pointer (some ⟨dg,1,none⟩)) (fun w1 _=>(rfa h33 rfl rfl (fun w=>Cn dg 0 w)) w1) fun _ h34=>?_
  refine tv1 hq1 h34 3 rfl rfl (v:=.slice (some ⟨gs0,0,none⟩) 8 8) (fun w1 hSw=>(rld h34 rfl rfl (ldB υ47 rfl (hSw.get 2 rfl:Blk _ _ _ _) rfl))) fun _ h35=>?_
  refine tv1 hq1 h35 4 rfl rfl (v:=.pointer (some ⟨g4,1,none⟩)) (fun w1 _=>(rfa h35 rfl rfl (fun w=>Bc g4 0 w)) w1) fun _ h36=>?_
  refine tv1 hq1 h36 5 rfl rfl (v:=ν (P.I 1)) (fun w1 hSw=>(rld h36 rfl rfl (ldB υ3 rfl (hSw.get 1 rfl:Blk _ _ _ _) rfl))) fun _ h37=>?_
  refine tv1 hq1 h37 6 rfl rfl (v:=ν ((P.I 1)-1)) (fun w1 _=>(Cy h37 rfl rfl rfl (MX _ _ _ ω ω ω)) w1) fun _ h38=>?_
  refine tv1 hq1 h38 7 rfl rfl (v:=.pointer (some ⟨gs0,(((P.I 1)-1).toNat)*46,none⟩)) (fun w1 _=>(Dy h38 rfl rfl rfl (fun w=>ixS υ47 κ (sz:=46) (j:=((P.I 1)-1).toNat) ω ω rfl w)) w1) fun _ h39=>?_
  refine tv1 hq1 h39 8 rfl rfl (v:=.agg (AM (S.getD (((P.I 1)-1).toNat) (Ac 0))).toArray) (fun w1 hSw=>(rld h39 rfl rfl (ldA υ45 rfl (n:=46) κ (hSw.get 3 rfl:Blk _ _ _ _) (Wj Cg (Ac 0) ω rfl) rfl))) fun _ h40=>?_
  refine to_ 9 rfl (wn rfl) κ fun _ hK10=>Cj h40 rfl rfl rfl rfl (z:=[ν 0,ν 0,ν 0,ν 0,ν 0,ν 0,ν 0,ν 0,ν 0,σ [],ν 0,ν 0,ν 0,σ [],σ [],ν 0,ν 0,ν 0,ν 0,σ [],ν 0,ν 0,ν 0,ν 0,σ [],.slice none 0 0,ν 0,ν 0,ν 0,ν 0,ν 0,ν 0,ν 0,ν 0,ν 0,ν 0,ν 0,ν 0,ν 0,ν 0,ν 0,ν 0,ν 0,ν 0,ν 0,.bool false]) (fun _=>rfl) s5 fun _ g2 w6 h41 s6 _ _=>?_
  refine hK10 _ _ (s6.pk [1,2,3,4,5,6,7] rfl) fun hq2=>?_
  refine to_ 10 rfl (wn rfl) κ fun _ hK11=>BE h41 rfl rfl s6 0 rfl rfl rfl [ν ((S.getD (((P.I 1)-1).toNat) (Ac 0)).ep),ν ((S.getD (((P.I 1)-1).toNat) (Ac 0)).last),ν (((S.getD (((P.I 1)-1).toNat) (Ac 0)).told).I 0),ν (((S.getD (((P.I 1)-1).toNat) (Ac 0)).told).I 1),ν (((S.getD (((P.I 1)-1).toNat) (Ac 0)).told).I 2),ν (((S.getD (((P.I 1)-1).toNat) (Ac 0)).told).I 3),ν (((S.getD (((P.I 1)-1).toNat) (Ac 0)).told).I 4),ν (((S.getD (((P.I 1)-1).toNat) (Ac 0)).told).I 5),ν (((S.getD (((P.I 1)-1).toNat) (Ac 0)).told).I 6),σ (((S.getD (((P.I 1)-1).toNat) (Ac 0)).told).S 7),ν (((S.getD (((P.I 1)-1).toNat) (Ac 0)).told).I 8),ν (((S.getD (((P.I 1)-1).toNat) (Ac 0)).told).I 9),ν (((S.getD (((P.I 1)-1).toNat) (Ac 0)).told).I 10),σ (((S.getD (((P.I 1)-1).toNat) (Ac 0)).told).S 11),σ (((S.getD (((P.I 1)-1).toNat) (Ac 0)).told).S 12),ν (((S.getD (((P.I 1)-1).toNat) (Ac 0)).told).I 13),ν (((S.getD (((P.I 1)-1).toNat) (Ac 0)).told).I 14),ν (((S.getD (((P.I 1)-1).toNat) (Ac 0)).told).I 15),ν (((S.getD (((P.I 1)-1).toNat) (Ac 0)).told).I 16),σ (((S.getD (((P.I 1)-1).toNat) (Ac 0)).told).S 17),ν (((S.getD (((P.I 1)-1).toNat) (Ac 0)).told).I 18),ν (((S.getD (((P.I 1)-1).toNat) (Ac 0)).told).I 19),ν (((S.getD (((P.I 1)-1).toNat) (Ac 0)).told).I 20),ν (((S.getD (((P.I 1)-1).toNat) (Ac 0)).told).I 21),σ (((S.getD (((P.I 1)-1).toNat) (Ac 0)).told).S 22),.slice none 0 0,ν (((S.getD (((P.I 1)-1).toNat) (Ac 0)).told).I 24),ν (((S.getD (((P.I 1)-1).toNat) (Ac 0)).told).I 25),ν (((S.getD (((P.I 1)-1).toNat) (Ac 0)).told).I 26),ν (((S.getD (((P.I 1)-1).toNat) (Ac 0)).told).I 27),ν (((S.getD (((P.I 1)-1).toNat) (Ac 0)).told).I 28),ν (((S.getD (((P.I 1)-1).toNat) (Ac 0)).told).I 29),ν (((S.getD (((P.I 1)-1).toNat) (Ac 0)).told).I 30),ν (((S.getD (((P.I 1)-1).toNat) (Ac 0)).told).I 31),ν (((S.getD (((P.I 1)-1).toNat) (Ac 0)).told).I 32),ν (((S.getD (((P.I 1)-1).toNat) (Ac 0)).told).I 33),ν (((S.getD (((P.I 1)-1).toNat) (Ac 0)).told).I 34),ν (((S.getD (((P.I 1)-1).toNat) (Ac 0)).told).I 35),ν (((S.getD (((P.I 1)-1).toNat) (Ac 0)).told).I 36),ν (((S.getD (((P.I 1)-1).toNat) (Ac 0)).told).I 37),ν (((S.getD (((P.I 1)-1).toNat) (Ac 0)).told).I 38),ν (((S.getD (((P.I 1)-1).toNat) (Ac 0)).told).I 39),ν (((S.getD (((P.I 1)-1).toNat) (Ac 0)).told).I 40),ν (((S.getD (((P.I 1)-1).toNat) (Ac 0)).told).I 41),ν (((S.getD (((P.I 1)-1).toNat) (Ac 0)).told).I 42),.bool ((S.getD (((P.I 1)-1).toNat) (Ac 0)).had)] rfl κ rfl (by show 0+46≤46;decide) (L':=[ν ((S.getD (((P.I 1)-1).toNat) (Ac 0)).ep),ν ((S.getD (((P.I 1)-1).toNat) (Ac 0)).last),ν (((S.getD (((P.I 1)-1).toNat) (Ac 0)).told).I 0),ν (((S.getD (((P.I 1)-1).toNat) (Ac 0)).told).I 1),ν (((S.getD (((P.I 1)-1).toNat) (Ac 0)).told).I 2),ν (((S.getD (((P.I 1)-1).toNat) (Ac 0)).told).I 3),ν (((S.getD (((P.I 1)-1).toNat) (Ac 0)).told).I 4),ν (((S.getD (((P.I 1)-1).toNat) (Ac 0)).told).I 5),ν (((S.getD (((P.I 1)-1).toNat) (Ac 0)).told).I 6),σ (((S.getD (((P.I 1)-1).toNat) (Ac 0)).told).S 7),ν (((S.getD (((P.I 1)-1).toNat) (Ac 0)).told).I 8),ν (((S.getD (((P.I 1)-1).toNat) (Ac 0)).told).I 9),ν (((S.getD (((P.I 1)-1).toNat) (Ac 0)).told).I 10),σ (((S.getD (((P.I 1)-1).toNat) (Ac 0)).told).S 11),σ (((S.getD (((P.I 1)-1).toNat) (Ac 0)).told).S 12),ν (((S.getD (((P.I 1)-1).toNat) (Ac 0)).told).I 13),ν (((S.getD (((P.I 1)-1).toNat) (Ac 0)).told).I 14),ν (((S.getD (((P.I 1)-1).toNat) (Ac 0)).told).I 15),ν (((S.getD (((P.I 1)-1).toNat) (Ac 0)).told).I 16),σ (((S.getD (((P.I 1)-1).toNat) (Ac 0)).told).S 17),ν (((S.getD (((P.I 1)-1).toNat) (Ac 0)).told).I 18),ν (((S.getD (((P.I 1)-1).toNat) (Ac 0)).told).I 19),ν (((S.getD (((P.I 1)-1).toNat) (Ac 0)).told).I 20),ν (((S.getD (((P.I 1)-1).toNat) (Ac 0)).told).I 21),σ (((S.getD (((P.I 1)-1).toNat) (Ac 0)).told).S 22),.slice none 0 0,ν (((S.getD (((P.I 1)-1).toNat) (Ac 0)).told).I 24),ν (((S.getD (((P.I 1)-1).toNat) (Ac 0)).told).I 25),ν (((S.getD (((P.I 1)-1).toNat) (Ac 0)).told).I 26),ν (((S.getD (((P.I 1)-1).toNat) (Ac 0)).told).I 27),ν (((S.getD (((P.I 1)-1).toNat) (Ac 0)).told).I 28),ν (((S.getD (((P.I 1)-1).toNat) (Ac 0)).told).I 29),ν (((S.getD (((P.I 1)-1).toNat) (Ac 0)).told).I 30),ν (((S.getD (((P.I 1)-1).toNat) (Ac 0)).told).I 31),ν (((S.getD (((P.I 1)-1).toNat) (Ac 0)).told).I 32),ν (((S.getD (((P.I 1)-1).toNat) (Ac 0)).told).I 33),ν (((S.getD (((P.I 1)-1).toNat) (Ac 0)).told).I 34),ν (((S.getD (((P.I 1)-1).toNat) (Ac 0)).told).I 35),ν (((S.getD (((P.I 1)-1).toNat) (Ac 0)).told).I 36),ν (((S.getD (((P.I 1)-1).toNat) (Ac 0)).told).I 37),ν (((S.getD (((P.I 1)-1).toNat) (Ac 0)).told).I 38),ν (((S.getD (((P.I 1)-1).toNat) (Ac 0)).told).I 39),ν (((S.getD (((P.I 1)-1).toNat) (Ac 0)).told).I 40),ν (((S.getD (((P.I 1)-1).toNat) (Ac 0)).told).I 41),ν (((S.getD (((P.I 1)-1).toNat) (Ac 0)).told).I 42),.bool ((S.getD (((P.I 1)-1).toNat) (Ac 0)).had)]) rfl (cs':=[Ab g2 45 (AM (S.getD (((P.I 1)-1).toNat) (Ac 0))),Ab g1 39 (pk0 P0z),Ab g4 39 (pkC P pa P.N.length pc),Ab dg 49 [π rg,.slice (some ⟨gs0,0,none⟩) 8 8,.bool false],Ab gs0 45 (S.flatMap AM),AV rg rv rd ra M,AO W B,Ch.many R]) rfl fun _ w8 h42 s7 _=>?_
  refine hK11 _ _ (s7.pk [1,2,3,4,5,6,7] rfl) fun hq3=>h42.sk [8,7,5,4,3,0,1] rfl fun h43=>?_
  refine wpAnyH_done κ ?_ _
  refine hK9 _ _ ?_
  refine sqr fun _ hK12=>fav h43 rfl (Bc _ _) fun _ h44=>ldv h44 s7 2 υ3 rfl rfl rfl rfl fun _ h45=>fav h45 rfl (Ff _ _) fun _ h46=>ldv h46 s7 2 υ3 rfl rfl rfl rfl fun _ h47=>fav h47 rfl (Ce _ _) fun _ h48=>ldv h48 s7 2 υ3 rfl rfl rfl rfl fun _ h49=>fav h49 rfl (Fg _ _) fun _ h50=>ldv h50 s7 2 υ3 rfl rfl rfl rfl fun _ h51=>bu h51 (v:=.agg (pk0 (Ai P 0 [] 0)).toArray) rfl (fun w=>κ) fun _ h52=>?_
  refine so (wn rfl) fun _ hK13=>Cj h52 rfl rfl rfl rfl (z:=[ν 0,ν 0,ν 0,ν 0,ν 0,ν 0,ν 0,σ [],ν 0,ν 0,ν 0,σ [],σ [],ν 0,ν 0,ν 0,ν 0,σ [],ν 0,ν 0,ν 0,ν 0,σ [],.slice none 0 0,ν 0,ν 0,ν 0,ν 0,ν 0,ν 0,ν 0,ν 0,ν 0,ν 0,ν 0,ν 0,ν 0,ν 0,ν 0,ν 0,ν 0,ν 0,ν 0]) (fun _=>rfl) s7 fun _ g3 w9 h53 s9 _ _=>hK13 _ _ ?_
  refine stA h53 s9 0 rfl rfl rfl κ rfl rfl rfl rfl fun _ w10 h54 s10 _=>h54.sn [9,8,7,5,4,3,0,1] rfl fun h55=>hK12 _ _<|sq fun _ hK14=>sqr fun _ hK15=>fav h55 rfl (Ff _ _) fun _ h56=>ldv h56 s10 3 υ3 rfl rfl rfl rfl fun _ h57=>fav h57 rfl (Cp _ _) fun _ h58=>ldv h58 s10 1 υ3 rfl rfl rfl rfl fun _ h59=>bv h59 (z:=.bool (decide ((P.I 2)≠(S.getD (((P.I 1)-1).toNat) (Ac 0)).ep))) rfl (cNe _ _ _ _ rfl) fun _ h60=>h60.sk [49,9,8,7,5,4,3,0,1] rfl fun h61=>?_
  refine wpList_nil<|hK15 _ _ ?_
  rcases bC (decide ((P.I 2)≠(S.getD (((P.I 1)-1).toNat) (Ac 0)).ep)) with hc3 | hc3
  ·skip
   have hp3:(P.I 2)≠(S.getD (((P.I 1)-1).toNat) (Ac 0)).ep:=(dT hc3)
   refine wcT h61 rfl hc3<|h61.sk [9,8,7,5,4,3,0,1] rfl fun h62=>sqr fun _ hK16=>fav h62 rfl (EN _ _) fun _ h63=>st1 h63 s10 0 rfl rfl κ rfl rfl rfl rfl fun _ w11 h64 s11 _=>h64.sn [9,8,7,5,4,3,0,1] rfl fun h65=>hK16 _ _<|sqr fun _ hK17=>sw1 h65 rfl (v:=.agg (pk0 (Ai P 31 [] 0)).toArray) (rld h65 rfl rfl (ldA υ39 rfl (n:=43) κ (s11.get 0 rfl:Blk _ _ _ _) rfl rfl)) fun _ h66=>stA h66 s11 2 rfl rfl rfl κ rfl rfl rfl rfl fun _ w12 h67 s12 _=>?_
   refine h67.sk [51,9,8,7,4,3,0,1] rfl fun h68=>mv h68 rfl fun _ h69=>h69.sn [5,9,8,7,4,3,0,1] rfl fun h70=>hK17 _ _<|wp_ret ?_
   try simp only [Exit.then,Exit.inBlock]
   refine rCt h70 s12 2 υ39 rfl rfl rfl rfl rfl ?_
   exact ⟨M,S,false,(Ai P 31 [] 0),true,rfl,Sep.tail_un (xs:=[_,_,_,_]) (s12.pk [4,5,6,7,8] rfl),(by unfold doC;rw [if_neg ω];dsimp only;rw [if_pos ω])⟩
  ·skip
   have hp4:¬ ((P.I 2)≠(S.getD (((P.I 1)-1).toNat) (Ac 0)).ep):=(dF hc3)
   refine wcF h61 rfl hc3<|h61.sk [9,8,7,5,4,3,0,1] rfl fun h71=>wp_skip<|hK14 _ _<|sq fun _ hK18=>sqr fun _ hK19=>fav h71 rfl (Ce _ _) fun _ h72=>ldv h72 s10 3 υ3 rfl rfl rfl rfl fun _ h73=>fav h73 rfl (Ds _ _) fun _ h74=>ldv h74 s10 1 υ3 rfl rfl rfl rfl fun _ h75=>bv h75 (z:=.bool (decide ((P.I 3)=(S.getD (((P.I 1)-1).toNat) (Ac 0)).last))) rfl (cEq _ _ _ _ rfl) fun _ h76=>h76.sk [56,9,8,7,5,4,3,0,1] rfl fun h77=>?_
   refine wpList_nil<|hK19 _ _ ?_
   rcases bC (decide ((P.I 3)=(S.getD (((P.I 1)-1).toNat) (Ac 0)).last)) with hc4 | hc4
   ·skip
    have hp5:(P.I 3)=(S.getD (((P.I 1)-1).toNat) (Ac 0)).last:=(dT hc4)
    refine wcT h77 rfl hc4<|h77.sk [9,8,7,5,4,3,0,1] rfl fun h78=>sq fun _ hK20=>?_
    have s13:=s10.drew
    refine wp_region_held_drew (S:=fun w'=>Sep w' [Ab g3 39 (pk0 (Ai P 0 [] 0)),Ab g2 45 (AM (S.getD (((P.I 1)-1).toNat) (Ac 0))),Ab g4 39 (pkC P pa P.N.length pc),Ab dg 49 [π rg,.slice (some ⟨gs0,0,none⟩) 8 8,.bool false],Ab gs0 45 (S.flatMap AM),AV rg rv rd ra M,AO W B,Ch.many R]) κ (s13.pk [0,1,3,4,5,6,7,8] rfl) (fun hq4=>?_)
    refine tv1 hq4 h78 0 rfl rfl (v:=.pointer (some ⟨g2,2,none⟩)) (fun w1 _=>(rfa h78 rfl rfl (fun w=>FG g2 0 w)) w1) fun _ h79=>?_
    refine tv1 hq4 h79 1 rfl rfl (v:=.agg (pkC ((S.getD (((P.I 1)-1).toNat) (Ac 0)).told) none 0 0).toArray) (fun w1 hSw=>(rld h79 rfl rfl (ldA υ39 rfl (n:=43) κ (hSw.get 1 rfl:Blk _ _ _ _) rfl rfl))) fun _ h80=>?_
    refine tv1 hq4 h80 2 rfl rfl (v:=.pointer (some ⟨g2,45,none⟩)) (fun w1 _=>(rfa h80 rfl rfl (fun w=>FH g2 0 w)) w1) fun _ h81=>?_
    refine tv1 hq4 h81 3 rfl rfl (v:=.bool ((S.getD (((P.I 1)-1).toNat) (Ac 0)).had)) (fun w1 hSw=>(rld h81 rfl rfl (ldB υ4 rfl (hSw.get 1 rfl:Blk _ _ _ _) rfl))) fun _ h82=>?_
    refine to_ 4 rfl (wn rfl) κ fun _ hK21=>BE h82 rfl rfl s13 2 rfl rfl rfl [ν (((S.getD (((P.I 1)-1).toNat) (Ac 0)).told).I 0),ν (((S.getD (((P.I 1)-1).toNat) (Ac 0)).told).I 1),ν (((S.getD (((P.I 1)-1).toNat) (Ac 0)).told).I 2),ν (((S.getD (((P.I 1)-1).toNat) (Ac 0)).told).I 3),ν (((S.getD (((P.I 1)-1).toNat) (Ac 0)).told).I 4),ν (((S.getD (((P.I 1)-1).toNat) (Ac 0)).told).I 5),ν (((S.getD (((P.I 1)-1).toNat) (Ac 0)).told).I 6),σ (((S.getD (((P.I 1)-1).toNat) (Ac 0)).told).S 7),ν (((S.getD (((P.I 1)-1).toNat) (Ac 0)).told).I 8),ν (((S.getD (((P.I 1)-1).toNat) (Ac 0)).told).I 9),ν (((S.getD (((P.I 1)-1).toNat) (Ac 0)).told).I 10),σ (((S.getD (((P.I 1)-1).toNat) (Ac 0)).told).S 11),σ (((S.getD (((P.I 1)-1).toNat) (Ac 0)).told).S 12),ν (((S.getD (((P.I 1)-1).toNat) (Ac 0)).told).I 13),ν (((S.getD (((P.I 1)-1).toNat) (Ac 0)).told).I 14),ν (((S.getD (((P.I 1)-1).toNat) (Ac 0)).told).I 15),ν (((S.getD (((P.I 1)-1).toNat) (Ac 0)).told).I 16),σ (((S.getD (((P.I 1)-1).toNat) (Ac 0)).told).S 17),ν (((S.getD (((P.I 1)-1).toNat) (Ac 0)).told).I 18),ν (((S.getD (((P.I 1)-1).toNat) (Ac 0)).told).I 19),ν (((S.getD (((P.I 1)-1).toNat) (Ac 0)).told).I 20),ν (((S.getD (((P.I 1)-1).toNat) (Ac 0)).told).I 21),σ (((S.getD (((P.I 1)-1).toNat) (Ac 0)).told).S 22),.slice none 0 0,ν (((S.getD (((P.I 1)-1).toNat) (Ac 0)).told).I 24),ν (((S.getD (((P.I 1)-1).toNat) (Ac 0)).told).I 25),ν (((S.getD (((P.I 1)-1).toNat) (Ac 0)).told).I 26),ν (((S.getD (((P.I 1)-1).toNat) (Ac 0)).told).I 27),ν (((S.getD (((P.I 1)-1).toNat) (Ac 0)).told).I 28),ν (((S.getD (((P.I 1)-1).toNat) (Ac 0)).told).I 29),ν (((S.getD (((P.I 1)-1).toNat) (Ac 0)).told).I 30),ν (((S.getD (((P.I 1)-1).toNat) (Ac 0)).told).I 31),ν (((S.getD (((P.I 1)-1).toNat) (Ac 0)).told).I 32),ν (((S.getD (((P.I 1)-1).toNat) (Ac 0)).told).I 33),ν (((S.getD (((P.I 1)-1).toNat) (Ac 0)).told).I 34),ν (((S.getD (((P.I 1)-1).toNat) (Ac 0)).told).I 35),ν (((S.getD (((P.I 1)-1).toNat) (Ac 0)).told).I 36),ν (((S.getD (((P.I 1)-1).toNat) (Ac 0)).told).I 37),ν (((S.getD (((P.I 1)-1).toNat) (Ac 0)).told).I 38),ν (((S.getD (((P.I 1)-1).toNat) (Ac 0)).told).I 39),ν (((S.getD (((P.I 1)-1).toNat) (Ac 0)).told).I 40),ν (((S.getD (((P.I 1)-1).toNat) (Ac 0)).told).I 41),ν (((S.getD (((P.I 1)-1).toNat) (Ac 0)).told).I 42)] rfl κ rfl (by show 0+43≤43;decide) (L':=[ν (((S.getD (((P.I 1)-1).toNat) (Ac 0)).told).I 0),ν (((S.getD (((P.I 1)-1).toNat) (Ac 0)).told).I 1),ν (((S.getD (((P.I 1)-1).toNat) (Ac 0)).told).I 2),ν (((S.getD (((P.I 1)-1).toNat) (Ac 0)).told).I 3),ν (((S.getD (((P.I 1)-1).toNat) (Ac 0)).told).I 4),ν (((S.getD (((P.I 1)-1).toNat) (Ac 0)).told).I 5),ν (((S.getD (((P.I 1)-1).toNat) (Ac 0)).told).I 6),σ (((S.getD (((P.I 1)-1).toNat) (Ac 0)).told).S 7),ν (((S.getD (((P.I 1)-1).toNat) (Ac 0)).told).I 8),ν (((S.getD (((P.I 1)-1).toNat) (Ac 0)).told).I 9),ν (((S.getD (((P.I 1)-1).toNat) (Ac 0)).told).I 10),σ (((S.getD (((P.I 1)-1).toNat) (Ac 0)).told).S 11),σ (((S.getD (((P.I 1)-1).toNat) (Ac 0)).told).S 12),ν (((S.getD (((P.I 1)-1).toNat) (Ac 0)).told).I 13),ν (((S.getD (((P.I 1)-1).toNat) (Ac 0)).told).I 14),ν (((S.getD (((P.I 1)-1).toNat) (Ac 0)).told).I 15),ν (((S.getD (((P.I 1)-1).toNat) (Ac 0)).told).I 16),σ (((S.getD (((P.I 1)-1).toNat) (Ac 0)).told).S 17),ν (((S.getD (((P.I 1)-1).toNat) (Ac 0)).told).I 18),ν (((S.getD (((P.I 1)-1).toNat) (Ac 0)).told).I 19),ν (((S.getD (((P.I 1)-1).toNat) (Ac 0)).told).I 20),ν (((S.getD (((P.I 1)-1).toNat) (Ac 0)).told).I 21),σ (((S.getD (((P.I 1)-1).toNat) (Ac 0)).told).S 22),.slice none 0 0,ν (((S.getD (((P.I 1)-1).toNat) (Ac 0)).told).I 24),ν (((S.getD (((P.I 1)-1).toNat) (Ac 0)).told).I 25),ν (((S.getD (((P.I 1)-1).toNat) (Ac 0)).told).I 26),ν (((S.getD (((P.I 1)-1).toNat) (Ac 0)).told).I 27),ν (((S.getD (((P.I 1)-1).toNat) (Ac 0)).told).I 28),ν (((S.getD (((P.I 1)-1).toNat) (Ac 0)).told).I 29),ν (((S.getD (((P.I 1)-1).toNat) (Ac 0)).told).I 30),ν (((S.getD (((P.I 1)-1).toNat) (Ac 0)).told).I 31),ν (((S.getD (((P.I 1)-1).toNat) (Ac 0)).told).I 32),ν (((S.getD (((P.I 1)-1).toNat) (Ac 0)).told).I 33),ν (((S.getD (((P.I 1)-1).toNat) (Ac 0)).told).I 34),ν (((S.getD (((P.I 1)-1).toNat) (Ac 0)).told).I 35),ν (((S.getD (((P.I 1)-1).toNat) (Ac 0)).told).I 36),ν (((S.getD (((P.I 1)-1).toNat) (Ac 0)).told).I 37),ν (((S.getD (((P.I 1)-1).toNat) (Ac 0)).told).I 38),ν (((S.getD (((P.I 1)-1).toNat) (Ac 0)).told).I 39),ν (((S.getD (((P.I 1)-1).toNat) (Ac 0)).told).I 40),ν (((S.getD (((P.I 1)-1).toNat) (Ac 0)).told).I 41),ν (((S.getD (((P.I 1)-1).toNat) (Ac 0)).told).I 42)]) rfl (cs':=[Ab g3 39 (pk0 (Ai P 0 [] 0)),Ab g2 45 (AM (S.getD (((P.I 1)-1).toNat) (Ac 0))),Ab g1 39 (pkC ((S.getD (((P.I 1)-1).toNat) (Ac 0)).told) none 0 0),Ab g4 39 (pkC P pa P.N.length pc),Ab dg 49 [π rg,.slice (some ⟨gs0,0,none⟩) 8 8,.bool false],Ab gs0 45 (S.flatMap AM),AV rg rv rd ra M,AO W B,Ch.many R]) rfl fun _ w13 h83 s14 _=>?_
    refine hK21 _ _ (s14.pk [0,1,3,4,5,6,7,8] rfl) fun hq5=>h83.sk [60,59,58,57,9,8,7,4,3,0,1] rfl fun h84=>?_
    refine tv1 hq5 h84 5 rfl rfl (v:=.bool ((S.getD (((P.I 1)-1).toNat) (Ac 0)).had)) (fun w1 _=>(AA h84 rfl rfl) w1) fun _ h85=>?_
    refine h85.sk [5,9,8,7,4,3,0,1] rfl fun h86=>?_
    refine wpAnyH_done κ ?_ _
    refine hK20 _ _ ?_
    refine wp_ret ?_
    try simp only [Exit.then,Exit.inBlock]
    refine rCt h86 s14 2 υ39 rfl rfl rfl rfl rfl ?_
    exact ⟨M,S,false,((S.getD (((P.I 1)-1).toNat) (Ac 0)).told),((S.getD (((P.I 1)-1).toNat) (Ac 0)).had),rfl,Sep.tail_un (xs:=[_,_,_,_]) (s14.pk [4,5,6,7,8] rfl),(by unfold doC;rw [if_neg ω];dsimp only;rw [if_neg ω];rw [if_pos ω])⟩
   ·skip
    have hp6:¬ ((P.I 3)=(S.getD (((P.I 1)-1).toNat) (Ac 0)).last):=(dF hc4)
    refine wcF h77 rfl hc4<|h77.sk [9,8,7,5,4,3,0,1] rfl fun h87=>wp_skip<|hK18 _ _<|sq fun _ hK22=>sqr fun _ hK23=>fav h87 rfl (Ce _ _) fun _ h88=>ldv h88 s10 3 υ3 rfl rfl rfl rfl fun _ h89=>fav h89 rfl (Ds _ _) fun _ h90=>ldv h90 s10 1 υ3 rfl rfl rfl rfl fun _ h91=>bv h91 (z:=ν ((S.getD (((P.I 1)-1).toNat) (Ac 0)).last+1)) rfl (Kx _ _ _ ω ω ω) fun _ h92=>bv h92 (z:=.bool (decide ((P.I 3)≠(S.getD (((P.I 1)-1).toNat) (Ac 0)).last+1))) rfl (cNe _ _ _ _ rfl) fun _ h93=>?_
    refine h93.sn [66,9,8,7,5,4,3,0,1] rfl fun h94=>hK23 _ _ ?_
    rcases bC (decide ((P.I 3)≠(S.getD (((P.I 1)-1).toNat) (Ac 0)).last+1)) with hc5 | hc5
    ·skip
     have hp7:(P.I 3)≠(S.getD (((P.I 1)-1).toNat) (Ac 0)).last+1:=(dT hc5)
     refine wcT h94 rfl hc5<|h94.sk [9,8,7,5,4,3,0,1] rfl fun h95=>sqr fun _ hK24=>bu h95 (v:=.agg (pk0 P0z).toArray) rfl (fun w=>κ) fun _ h96=>stA h96 s10 2 rfl rfl rfl κ rfl rfl rfl rfl fun _ w14 h97 s15 _=>h97.sk [67,9,8,7,4,3,0,1] rfl fun h98=>mv h98 rfl fun _ h99=>h99.sn [5,9,8,7,4,3,0,1] rfl fun h100=>hK24 _ _<|wp_ret ?_
     try simp only [Exit.then,Exit.inBlock]
     refine rCt h100 s15 2 υ39 rfl rfl rfl rfl rfl ?_
     exact ⟨M,S,false,P0z,false,rfl,Sep.tail_un (xs:=[_,_,_,_]) (s15.pk [4,5,6,7,8] rfl),(by unfold doC;rw [if_neg ω];dsimp only;rw [if_neg ω];rw [if_neg ω];rw [if_pos ω])⟩
    ·skip
     have hp8:¬ ((P.I 3)≠(S.getD (((P.I 1)-1).toNat) (Ac 0)).last+1):=(dF hc5)
     refine wcF h94 rfl hc5<|h94.sk [9,8,7,5,4,3,0,1] rfl fun h101=>wp_skip<|hK22 _ _<|sqr fun _ hK25=>mv h101 rfl fun _ h102=>wpList_nil<|hK25 _ _<|sq fun K1 hK26=>?_
     have hJ287:∀ (M9:MemM) (bad9:Bool) (d9:List UInt8) (ol9:Int) a' w',Kn 215 [(10,.bool bad9),(9,π g3),(8,π g2),(7,ν (CV P)),(5,.bool false),(4,π g1),(3,π g4),(0,π dg),(1,.agg (pkC P pa P.N.length pc).toArray)] a'→Sep w' [Ab g3 39 (pk0 (Ai P 0 d9 ol9)),Ab g2 45 (AM (S.getD (((P.I 1)-1).toNat) (Ac 0))),Ab g1 39 (pk0 P0z),Ab g4 39 (pkC P pa P.N.length pc),Ab dg 49 [π rg,.slice (some ⟨gs0,0,none⟩) 8 8,.bool false],Ab gs0 45 (S.flatMap AM),AV rg rv rd ra M9,AO W B,Ch.many R]→(CD P M=(M9,(if bad9 then 35 else 0),d9,ol9))→K1 a' w':=by
      intro M9 bad9 d9 ol9 a1 w15 h103 s16 hv9
      refine hK26 _ _ ?_
      refine sq fun _ hK27=>sqr fun _ hK28=>mv h103 rfl fun _ h104=>wpList_nil<|hK28 _ _ ?_
      rcases bC bad9 with hc6 | hc6
      ·skip
       refine wcT h104 rfl hc6<|h104.sk [10,9,8,7,5,4,3,0,1] rfl fun h105=>wp_region_lit<|fav h105 rfl (EN _ _) fun _ h106=>st1 h106 s16 0 rfl rfl κ rfl rfl rfl rfl fun _ w16 h107 s17 _=>h107.sn [10,9,8,7,5,4,3,0,1] rfl fun h108=>hK27 _ _<|sq fun _ hK29=>?_
       have s18:=s17.drew
       refine wp_region_held_drew (S:=fun w'=>Sep w' [Ab g3 39 (pk0 (Ai P 35 d9 ol9)),Ab g2 45 (AM (S.getD (((P.I 1)-1).toNat) (Ac 0))),Ab g1 39 (pk0 P0z),Ab g4 39 (pkC P pa P.N.length pc),Ab dg 49 [π rg,.slice (some ⟨gs0,0,none⟩) 8 8,.bool false],AV rg rv rd ra M9,AO W B,Ch.many R]) κ (s18.pk [0,1,2,3,4,6,7,8] rfl) (fun hq6=>?_)
       refine tv1 hq6 h108 0 rfl rfl (v:=π dg) (fun w1 _=>(Aj h108 rfl rfl) w1) fun _ h109=>?_
       refine tv1 hq6 h109 1 rfl rfl (v:=π dg) (fun w1 _=>(Bt h109 rfl rfl) w1) fun _ h110=>?_
       refine tv1 hq6 h110 2 rfl rfl (v:=.pointer (some ⟨dg,1,none⟩)) (fun w1 _=>(rfa h110 rfl rfl (fun w=>Cn dg 0 w)) w1) fun _ h111=>?_
       refine tv1 hq6 h111 3 rfl rfl (v:=.slice (some ⟨gs0,0,none⟩) 8 8) (fun w1 hSw=>(rld h111 rfl rfl (ldB υ47 rfl (hSw.get 4 rfl:Blk _ _ _ _) rfl))) fun _ h112=>?_
       refine tv1 hq6 h112 4 rfl rfl (v:=.pointer (some ⟨g4,1,none⟩)) (fun w1 _=>(rfa h112 rfl rfl (fun w=>Bc g4 0 w)) w1) fun _ h113=>?_
       refine tv1 hq6 h113 5 rfl rfl (v:=ν (P.I 1)) (fun w1 hSw=>(rld h113 rfl rfl (ldB υ3 rfl (hSw.get 3 rfl:Blk _ _ _ _) rfl))) fun _ h114=>?_
       refine tv1 hq6 h114 6 rfl rfl (v:=ν ((P.I 1)-1)) (fun w1 _=>(Cy h114 rfl rfl rfl (MX _ _ _ ω ω ω)) w1) fun _ h115=>?_
       refine tv1 hq6 h115 7 rfl rfl (v:=π g2) (fun w1 _=>(rfa h115 rfl rfl (fun w=>Cp g2 0 w)) w1) fun _ h116=>?_
       refine tv1 hq6 h116 8 rfl rfl (v:=ν ((S.getD (((P.I 1)-1).toNat) (Ac 0)).ep)) (fun w1 hSw=>(rld h116 rfl rfl (ldB υ3 rfl (hSw.get 1 rfl:Blk _ _ _ _) rfl))) fun _ h117=>?_
       refine tv1 hq6 h117 9 rfl rfl (v:=.pointer (some ⟨g4,3,none⟩)) (fun w1 _=>(rfa h117 rfl rfl (fun w=>Ce g4 0 w)) w1) fun _ h118=>?_
       refine tv1 hq6 h118 10 rfl rfl (v:=ν (P.I 3)) (fun w1 hSw=>(rld h118 rfl rfl (ldB υ3 rfl (hSw.get 3 rfl:Blk _ _ _ _) rfl))) fun _ h119=>?_
       refine tv1 hq6 h119 11 rfl rfl (v:=.agg (pk0 (Ai P 35 d9 ol9)).toArray) (fun w1 hSw=>(rld h119 rfl rfl (ldA υ39 rfl (n:=43) κ (hSw.get 0 rfl:Blk _ _ _ _) rfl rfl))) fun _ h120=>?_
       refine tv1 hq6 h120 12 rfl rfl (v:=.agg (AM (⟨(S.getD (((P.I 1)-1).toNat) (Ac 0)).ep,(P.I 3),(Ai P 35 d9 ol9),true⟩:SideM)).toArray) (fun w1 _=>(Nx h120 (xs:=[(0,.tmp 203),(1,.tmp 205),(2,.tmp 206),(3,.const (.bool true))]) rfl (vs:=[(0,ν ((S.getD (((P.I 1)-1).toNat) (Ac 0)).ep)),(1,ν (P.I 3)),(2,.agg (pk0 (Ai P 35 d9 ol9)).toArray),(3,.bool true)]) rfl (fun w=>κ)) w1) fun _ h121=>?_
       refine tv1 hq6 h121 13 rfl rfl (v:=.pointer (some ⟨gs0,(((P.I 1)-1).toNat)*46,none⟩)) (fun w1 _=>(Dy h121 rfl rfl rfl (fun w=>ixS υ47 κ (sz:=46) (j:=((P.I 1)-1).toNat) ω ω rfl w)) w1) fun _ h122=>?_
       refine to_ 14 rfl (wn rfl) κ fun _ hK30=>BE h122 rfl rfl s18 5 rfl rfl rfl (AM (⟨(S.getD (((P.I 1)-1).toNat) (Ac 0)).ep,(P.I 3),(Ai P 35 d9 ol9),true⟩:SideM)) rfl κ rfl (by rw [GY Cg];show (((P.I 1)-1).toNat)*46+46≤_;omega) (L':=(S.set (((P.I 1)-1).toNat) (⟨(S.getD (((P.I 1)-1).toNat) (Ac 0)).ep,(P.I 3),(Ai P 35 d9 ol9),true⟩:SideM)).flatMap AM) (Qk Cg ω rfl) (cs':=[Ab g3 39 (pk0 (Ai P 35 d9 ol9)),Ab g2 45 (AM (S.getD (((P.I 1)-1).toNat) (Ac 0))),Ab g1 39 (pk0 P0z),Ab g4 39 (pkC P pa P.N.length pc),Ab dg 49 [π rg,.slice (some ⟨gs0,0,none⟩) 8 8,.bool false],Ab gs0 45 ((S.set (((P.I 1)-1).toNat) (⟨(S.getD (((P.I 1)-1).toNat) (Ac 0)).ep,(P.I 3),(Ai P 35 d9 ol9),true⟩:SideM)).flatMap AM),AV rg rv rd ra M9,AO W B,Ch.many R]) rfl fun _ w17 h123 s19 _=>?_
       refine hK30 _ _ (s19.pk [0,1,2,3,4,6,7,8] rfl) fun hq7=>h123.sk [10,9,8,7,5,4,3,0,1] rfl fun h124=>?_
       refine wpAnyH_done κ ?_ _
       refine hK29 _ _ ?_
       refine sqr fun _ hK31=>mvs 4 h124 rfl fun _ h125=>fav h125 rfl (Co _ _) fun _ h126=>st1 h126 s19 4 rfl rfl κ rfl rfl rfl rfl fun _ w18 h127 s20 _=>h127.sn [10,9,8,7,5,4,3,0,1] rfl fun h128=>hK31 _ _<|sqr fun _ hK32=>sw1 h128 rfl (v:=.agg (pk0 (Ai P 35 d9 ol9)).toArray) (rld h128 rfl rfl (ldA υ39 rfl (n:=43) κ (s20.get 0 rfl:Blk _ _ _ _) rfl rfl)) fun _ h129=>stA h129 s20 2 rfl rfl rfl κ rfl rfl rfl rfl fun _ w19 h130 s21 _=>h130.sk [214,10,9,8,7,4,3,0,1] rfl fun h131=>?_
       refine mv h131 rfl fun _ h132=>h132.sn [5,10,9,8,7,4,3,0,1] rfl fun h133=>hK32 _ _<|wp_ret ?_

       refine rCt h133 s21 2 υ39 rfl rfl rfl rfl rfl ?_
       exact ⟨M9,(S.set (((P.I 1)-1).toNat) (⟨(S.getD (((P.I 1)-1).toNat) (Ac 0)).ep,(P.I 3),(Ai P 35 d9 ol9),true⟩:SideM)),(!bad9),(Ai P 35 d9 ol9),true,rfl,Sep.tail_un (xs:=[_,_,_,_]) (s21.pk [4,5,6,7,8] rfl),(by unfold doC;rw [if_neg ω];dsimp only;rw [if_neg ω];rw [if_neg ω];rw [if_neg ω];rw [hv9];first | (rw [hc6];rfl) | simp_all)⟩
      ·skip
       refine wcF h104 rfl hc6<|h104.sk [10,9,8,7,5,4,3,0,1] rfl fun h134=>wp_skip<|hK27 _ _<|sq fun _ hK33=>?_
       have s22:=s16.drew
       refine wp_region_held_drew (S:=fun w'=>Sep w' [Ab g3 39 (pk0 (Ai P 0 d9 ol9)),Ab g2 45 (AM (S.getD (((P.I 1)-1).toNat) (Ac 0))),Ab g1 39 (pk0 P0z),Ab g4 39 (pkC P pa P.N.length pc),Ab dg 49 [π rg,.slice (some ⟨gs0,0,none⟩) 8 8,.bool false],AV rg rv rd ra M9,AO W B,Ch.many R]) κ (s22.pk [0,1,2,3,4,6,7,8] rfl) (fun hq8=>?_)
       refine tv1 hq8 h134 0 rfl rfl (v:=π dg) (fun w1 _=>(Aj h134 rfl rfl) w1) fun _ h135=>?_
       refine tv1 hq8 h135 1 rfl rfl (v:=π dg) (fun w1 _=>(Bt h135 rfl rfl) w1) fun _ h136=>?_
       refine tv1 hq8 h136 2 rfl rfl (v:=.pointer (some ⟨dg,1,none⟩)) (fun w1 _=>(rfa h136 rfl rfl (fun w=>Cn dg 0 w)) w1) fun _ h137=>?_
       refine tv1 hq8 h137 3 rfl rfl (v:=.slice (some ⟨gs0,0,none⟩) 8 8) (fun w1 hSw=>(rld h137 rfl rfl (ldB υ47 rfl (hSw.get 4 rfl:Blk _ _ _ _) rfl))) fun _ h138=>?_
       refine tv1 hq8 h138 4 rfl rfl (v:=.pointer (some ⟨g4,1,none⟩)) (fun w1 _=>(rfa h138 rfl rfl (fun w=>Bc g4 0 w)) w1) fun _ h139=>?_
       refine tv1 hq8 h139 5 rfl rfl (v:=ν (P.I 1)) (fun w1 hSw=>(rld h139 rfl rfl (ldB υ3 rfl (hSw.get 3 rfl:Blk _ _ _ _) rfl))) fun _ h140=>?_
       refine tv1 hq8 h140 6 rfl rfl (v:=ν ((P.I 1)-1)) (fun w1 _=>(Cy h140 rfl rfl rfl (MX _ _ _ ω ω ω)) w1) fun _ h141=>?_
       refine tv1 hq8 h141 7 rfl rfl (v:=π g2) (fun w1 _=>(rfa h141 rfl rfl (fun w=>Cp g2 0 w)) w1) fun _ h142=>?_
       refine tv1 hq8 h142 8 rfl rfl (v:=ν ((S.getD (((P.I 1)-1).toNat) (Ac 0)).ep)) (fun w1 hSw=>(rld h142 rfl rfl (ldB υ3 rfl (hSw.get 1 rfl:Blk _ _ _ _) rfl))) fun _ h143=>?_
       refine tv1 hq8 h143 9 rfl rfl (v:=.pointer (some ⟨g4,3,none⟩)) (fun w1 _=>(rfa h143 rfl rfl (fun w=>Ce g4 0 w)) w1) fun _ h144=>?_
       refine tv1 hq8 h144 10 rfl rfl (v:=ν (P.I 3)) (fun w1 hSw=>(rld h144 rfl rfl (ldB υ3 rfl (hSw.get 3 rfl:Blk _ _ _ _) rfl))) fun _ h145=>?_
       refine tv1 hq8 h145 11 rfl rfl (v:=.agg (pk0 (Ai P 0 d9 ol9)).toArray) (fun w1 hSw=>(rld h145 rfl rfl (ldA υ39 rfl (n:=43) κ (hSw.get 0 rfl:Blk _ _ _ _) rfl rfl))) fun _ h146=>?_
       refine tv1 hq8 h146 12 rfl rfl (v:=.agg (AM (⟨(S.getD (((P.I 1)-1).toNat) (Ac 0)).ep,(P.I 3),(Ai P 0 d9 ol9),true⟩:SideM)).toArray) (fun w1 _=>(Nx h146 (xs:=[(0,.tmp 203),(1,.tmp 205),(2,.tmp 206),(3,.const (.bool true))]) rfl (vs:=[(0,ν ((S.getD (((P.I 1)-1).toNat) (Ac 0)).ep)),(1,ν (P.I 3)),(2,.agg (pk0 (Ai P 0 d9 ol9)).toArray),(3,.bool true)]) rfl (fun w=>κ)) w1) fun _ h147=>?_
       refine tv1 hq8 h147 13 rfl rfl (v:=.pointer (some ⟨gs0,(((P.I 1)-1).toNat)*46,none⟩)) (fun w1 _=>(Dy h147 rfl rfl rfl (fun w=>ixS υ47 κ (sz:=46) (j:=((P.I 1)-1).toNat) ω ω rfl w)) w1) fun _ h148=>?_
       refine to_ 14 rfl (wn rfl) κ fun _ hK34=>BE h148 rfl rfl s22 5 rfl rfl rfl (AM (⟨(S.getD (((P.I 1)-1).toNat) (Ac 0)).ep,(P.I 3),(Ai P 0 d9 ol9),true⟩:SideM)) rfl κ rfl (by rw [GY Cg];show (((P.I 1)-1).toNat)*46+46≤_;omega) (L':=(S.set (((P.I 1)-1).toNat) (⟨(S.getD (((P.I 1)-1).toNat) (Ac 0)).ep,(P.I 3),(Ai P 0 d9 ol9),true⟩:SideM)).flatMap AM) (Qk Cg ω rfl) (cs':=[Ab g3 39 (pk0 (Ai P 0 d9 ol9)),Ab g2 45 (AM (S.getD (((P.I 1)-1).toNat) (Ac 0))),Ab g1 39 (pk0 P0z),Ab g4 39 (pkC P pa P.N.length pc),Ab dg 49 [π rg,.slice (some ⟨gs0,0,none⟩) 8 8,.bool false],Ab gs0 45 ((S.set (((P.I 1)-1).toNat) (⟨(S.getD (((P.I 1)-1).toNat) (Ac 0)).ep,(P.I 3),(Ai P 0 d9 ol9),true⟩:SideM)).flatMap AM),AV rg rv rd ra M9,AO W B,Ch.many R]) rfl fun _ w20 h149 s23 _=>?_
       refine hK34 _ _ (s23.pk [0,1,2,3,4,6,7,8] rfl) fun hq9=>h149.sk [10,9,8,7,5,4,3,0,1] rfl fun h150=>?_
       refine wpAnyH_done κ ?_ _
       refine hK33 _ _ ?_
       refine sqr fun _ hK35=>mvs 4 h150 rfl fun _ h151=>fav h151 rfl (Co _ _) fun _ h152=>st1 h152 s23 4 rfl rfl κ rfl rfl rfl rfl fun _ w21 h153 s24 _=>h153.sn [10,9,8,7,5,4,3,0,1] rfl fun h154=>hK35 _ _<|sqr fun _ hK36=>sw1 h154 rfl (v:=.agg (pk0 (Ai P 0 d9 ol9)).toArray) (rld h154 rfl rfl (ldA υ39 rfl (n:=43) κ (s24.get 0 rfl:Blk _ _ _ _) rfl rfl)) fun _ h155=>stA h155 s24 2 rfl rfl rfl κ rfl rfl rfl rfl fun _ w22 h156 s25 _=>h156.sk [214,10,9,8,7,4,3,0,1] rfl fun h157=>?_
       refine mv h157 rfl fun _ h158=>h158.sn [5,10,9,8,7,4,3,0,1] rfl fun h159=>hK36 _ _<|wp_ret ?_

       refine rCt h159 s25 2 υ39 rfl rfl rfl rfl rfl ?_
       exact ⟨M9,(S.set (((P.I 1)-1).toNat) (⟨(S.getD (((P.I 1)-1).toNat) (Ac 0)).ep,(P.I 3),(Ai P 0 d9 ol9),true⟩:SideM)),(!bad9),(Ai P 0 d9 ol9),true,rfl,Sep.tail_un (xs:=[_,_,_,_]) (s25.pk [4,5,6,7,8] rfl),(by unfold doC;rw [if_neg ω];dsimp only;rw [if_neg ω];rw [if_neg ω];rw [if_neg ω];rw [hv9];first | (rw [hc6];rfl) | simp_all)⟩
     refine sqr fun _ hK37=>fav h102 rfl (Fg _ _) fun _ h160=>ldv h160 s10 3 υ3 rfl rfl rfl rfl fun _ h161=>h161.sn [69,10,9,8,7,5,4,3,0,1] rfl fun h162=>hK37 _ _<|wp_block ?_
     refine sqr fun _ hK38=>bv h162 (z:=.bool (decide ((P.I 4)=1))) rfl (cEq _ _ _ _ rfl) fun _ h163=>mv h163 rfl fun _ h164=>h164.sn [70,69,10,9,8,7,5,4,3,0,1] rfl fun h165=>hK38 _ _ ?_
     rcases bC (decide ((P.I 4)=1)) with hc7 | hc7
     ·skip
      have hp9:(P.I 4)=1:=(dT hc7)
      refine wcT h165 rfl hc7<|h165.sk [69,10,9,8,7,5,4,3,0,1] rfl fun h166=>sqr fun _ hK39=>fav h166 rfl (Bc _ _) fun _ h167=>ldv h167 s10 3 υ3 rfl rfl rfl rfl fun _ h168=>fav h168 rfl (AN _ _) fun _ h169=>ldv h169 s10 3 υ3 rfl rfl rfl rfl fun _ h170=>fav h170 rfl (DG _ _) fun _ h171=>ldv h171 s10 3 υ9 rfl rfl rfl rfl fun _ h172=>sv1 h172 rfl (v:=ν (((P.S 7).length:Nat):Int)) (Uk h172 rfl rfl υ9) fun _ h173=>?_
      rcases bC (Dn (P.I 1) (P.I 5) (((P.S 7).length:Nat):Int)) with hc8 | hc8
      ·skip
       refine cl h173 rfl Bh (Hb (c:=P.I 1) (t:=P.I 5) (n:=(((P.S 7).length:Nat):Int)) s10 hok.c ⟨hok.n5,by have:=hok.u5;omega⟩ ⟨ω,by have:=hok.d;omega⟩) fun _ v2 w23 r2 h174=>?_
       obtain ⟨rfl,s26⟩:=r2
       refine mv h174 rfl fun _ h175=>h175.sk [80,79,78,77,76,75,74,73,72,69,9,8,7,5,4,3,0,1] rfl fun h176=>mv h176 rfl fun _ h177=>h177.sn [10,69,9,8,7,5,4,3,0,1] rfl fun h178=>hK39 _ _<|sqr fun _ hK40=>mvs 2 h178 rfl fun _ h179=>h179.sn [82,10,69,9,8,7,5,4,3,0,1] rfl fun h180=>hK40 _ _<|wcT h180 rfl (Bj (BX hc8)) ?_
       refine h180.sk [10,69,9,8,7,5,4,3,0,1] rfl fun h181=>?_
       have s27:=s26.drew
       refine wp_region_held_drew (S:=fun w'=>Sep w' [Ab g3 39 (pk0 (Ai P 0 [] 0)),Ab g2 45 (AM (S.getD (((P.I 1)-1).toNat) (Ac 0))),Ab g1 39 (pk0 P0z),Ab g4 39 (pkC P pa P.N.length pc),Ab dg 49 [π rg,.slice (some ⟨gs0,0,none⟩) 8 8,.bool false],Ab gs0 45 (S.flatMap AM),AO W B,Ch.many R]) κ (s27.pk [0,1,2,3,4,5,7,8] rfl) (fun hq10=>?_)
       refine tv1 hq10 h181 0 rfl rfl (v:=π dg) (fun w1 _=>(Aj h181 rfl rfl) w1) fun _ h182=>?_
       refine tv1 hq10 h182 1 rfl rfl (v:=π dg) (fun w1 _=>(Bt h182 rfl rfl) w1) fun _ h183=>?_
       refine tv1 hq10 h183 2 rfl rfl (v:=π dg) (fun w1 _=>(rfa h183 rfl rfl (fun w=>AZ dg 0 w)) w1) fun _ h184=>?_
       refine tv1 hq10 h184 3 rfl rfl (v:=π rg) (fun w1 hSw=>(rld h184 rfl rfl (ldB υ46 rfl (hSw.get 4 rfl:Blk _ _ _ _) rfl))) fun _ h185=>?_
       refine tv1 hq10 h185 4 rfl rfl (v:=.pointer (some ⟨g4,5,none⟩)) (fun w1 _=>(rfa h185 rfl rfl (fun w=>AN g4 0 w)) w1) fun _ h186=>?_
       refine tv1 hq10 h186 5 rfl rfl (v:=ν (P.I 5)) (fun w1 hSw=>(rld h186 rfl rfl (ldB υ3 rfl (hSw.get 3 rfl:Blk _ _ _ _) rfl))) fun _ h187=>?_
       refine tv1 hq10 h187 6 rfl rfl (v:=.pointer (some ⟨g4,7,none⟩)) (fun w1 _=>(rfa h187 rfl rfl (fun w=>DG g4 0 w)) w1) fun _ h188=>?_
       refine tv1 hq10 h188 7 rfl rfl (v:=σ (P.S 7)) (fun w1 hSw=>(rld h188 rfl rfl (ldB υ9 rfl (hSw.get 3 rfl:Blk _ _ _ _) rfl))) fun _ h189=>?_
       refine to_ 8 rfl (wn rfl) κ fun _ hK41=>Rv h189 rfl rfl rfl rfl (X:=(P.S 7)) rfl υ9 υ60 υ5 (by unfold maxLen;omega) s27 fun _ g5 c522 w24 h190 s28=>?_
       refine hK41 _ _ (s28.pk [1,2,3,4,5,6,8,9] rfl) fun hq11=>?_
       refine to_ 9 rfl (wn rfl) κ fun _ hK42=>Bo h190 rfl rfl rfl (xs:=[.tmp 86,.tmp 88,.tmp 91]) rfl CB rfl (vs:=[π rg,ν (P.I 5),.slice (some ⟨g5,0,none⟩) ((P.S 7).length) c522]) rfl (args:=#[π rg,ν (P.I 5),.slice (some ⟨g5,0,none⟩) ((P.S 7).length) c522]) rfl (Pt (b:=(P.S 7)) (s28.pk [7,0,1,2,3,4,5,6,8,9] rfl) ((s28.get 0 rfl:BB _ _ _ _∧_).1) (fun _=>SA s28 (show 0≠7 by decide) rfl rfl) (by first | exact Dm hM hok.c (Hx hc8) ω | (rw [AH];exact Dm hM hok.c (Hx hc8) (by decide))) (wP 5)) fun _ v3 w25 r3 h191=>?_
       obtain ⟨rfl,s29⟩:=r3
       refine hK42 _ _ (s29.pk [2,3,4,5,6,7,8,9] rfl) fun hq12=>h191.sk [10,69,9,8,7,5,4,3,0,1] rfl fun h192=>?_
       refine wpAnyH_done κ ?_ _
       exact hJ287 (CM M (P.I 5).toNat (P.S 7)) (!(Dn (P.I 1) (P.I 5) (((P.S 7).length:Nat):Int))) [] 0 _ _ (h192.subs rfl) (s29.pk [2,3,4,5,6,7,0,8,9] rfl) (by unfold CD;rw [if_pos ω];rw [Uz hc8];first | rfl | (rw [hc8];rfl) | simp_all)
      ·skip
       refine cl h173 rfl Bh (Hb (c:=P.I 1) (t:=P.I 5) (n:=(((P.S 7).length:Nat):Int)) s10 hok.c ⟨hok.n5,by have:=hok.u5;omega⟩ ⟨ω,by have:=hok.d;omega⟩) fun _ v4 w26 r4 h193=>?_
       obtain ⟨rfl,s30⟩:=r4
       refine mv h193 rfl fun _ h194=>h194.sk [80,79,78,77,76,75,74,73,72,69,9,8,7,5,4,3,0,1] rfl fun h195=>mv h195 rfl fun _ h196=>h196.sn [10,69,9,8,7,5,4,3,0,1] rfl fun h197=>hK39 _ _<|sqr fun _ hK43=>mvs 2 h197 rfl fun _ h198=>h198.sn [82,10,69,9,8,7,5,4,3,0,1] rfl fun h199=>hK43 _ _<|wcF h199 rfl (BX (Bj hc8)) ?_
       refine h199.sk [10,69,9,8,7,5,4,3,0,1] rfl fun h200=>wp_skip ?_
       exact hJ287 M (!(Dn (P.I 1) (P.I 5) (((P.S 7).length:Nat):Int))) [] 0 _ _ (h200.subs rfl) s30 (by unfold CD;rw [if_pos ω];rw [VH hc8];first | rfl | (rw [hc8];rfl) | simp_all)
     ·skip
      have hp10:¬ ((P.I 4)=1):=(dF hc7)
      refine wcF h165 rfl hc7<|h165.sk [69,10,9,8,7,5,4,3,0,1] rfl fun h201=>sqr fun _ hK44=>bv h201 (z:=.bool (decide ((P.I 4)=2))) rfl (cEq _ _ _ _ rfl) fun _ h202=>mv h202 rfl fun _ h203=>h203.sn [93,69,10,9,8,7,5,4,3,0,1] rfl fun h204=>hK44 _ _ ?_
      rcases bC (decide ((P.I 4)=2)) with hc9 | hc9
      ·skip
       have hp11:(P.I 4)=2:=(dT hc9)
       refine wcT h204 rfl hc9<|h204.sk [69,10,9,8,7,5,4,3,0,1] rfl fun h205=>sqr fun _ hK45=>fav h205 rfl (Bc _ _) fun _ h206=>ldv h206 s10 3 υ3 rfl rfl rfl rfl fun _ h207=>fav h207 rfl (AN _ _) fun _ h208=>ldv h208 s10 3 υ3 rfl rfl rfl rfl fun _ h209=>fav h209 rfl (CT _ _) fun _ h210=>ldv h210 s10 3 υ3 rfl rfl rfl rfl fun _ h211=>?_
       rcases bC (Ka (P.I 1) (P.I 5) (P.I 6)) with hc10 | hc10
       ·skip
        have hm1:=Wm hc10
        refine cl h211 rfl DW (Rf (c:=P.I 1) (t:=P.I 5) (n:=P.I 6) s10 hok.c ⟨hok.n5,by have:=hok.u5;omega⟩ ⟨hok.n6,by have:=hok.u6;omega⟩) fun _ v5 w27 r5 h212=>?_
        obtain ⟨rfl,s31⟩:=r5
        refine mv h212 rfl fun _ h213=>h213.sk [102,101,100,99,98,97,96,95,69,9,8,7,5,4,3,0,1] rfl fun h214=>mv h214 rfl fun _ h215=>h215.sn [10,69,9,8,7,5,4,3,0,1] rfl fun h216=>hK45 _ _<|sqr fun _ hK46=>mvs 2 h216 rfl fun _ h217=>h217.sn [104,10,69,9,8,7,5,4,3,0,1] rfl fun h218=>hK46 _ _<|wcT h218 rfl (Bj (BX hc10)) ?_
        refine h218.sk [10,69,9,8,7,5,4,3,0,1] rfl fun h219=>?_
        have s32:=s31.drew
        refine wp_region_held_drew (S:=fun w'=>Sep w' [Ab g2 45 (AM (S.getD (((P.I 1)-1).toNat) (Ac 0))),Ab g1 39 (pk0 P0z),Ab g4 39 (pkC P pa P.N.length pc),Ab dg 49 [π rg,.slice (some ⟨gs0,0,none⟩) 8 8,.bool false],Ab gs0 45 (S.flatMap AM),AV rg rv rd ra M,AO W B,Ch.many R]) κ (s32.pk [1,2,3,4,5,6,7,8] rfl) (fun hq13=>?_)
        refine tv1 hq13 h219 0 rfl rfl (v:=π dg) (fun w1 _=>(Aj h219 rfl rfl) w1) fun _ h220=>?_
        refine tv1 hq13 h220 1 rfl rfl (v:=π dg) (fun w1 _=>(Bt h220 rfl rfl) w1) fun _ h221=>?_
        refine tv1 hq13 h221 2 rfl rfl (v:=π dg) (fun w1 _=>(rfa h221 rfl rfl (fun w=>AZ dg 0 w)) w1) fun _ h222=>?_
        refine tv1 hq13 h222 3 rfl rfl (v:=π rg) (fun w1 hSw=>(rld h222 rfl rfl (ldB υ46 rfl (hSw.get 3 rfl:Blk _ _ _ _) rfl))) fun _ h223=>?_
        refine tv1 hq13 h223 4 rfl rfl (v:=π rg) (fun w1 _=>(Bt h223 rfl rfl) w1) fun _ h224=>?_
        refine tv1 hq13 h224 5 rfl rfl (v:=π rg) (fun w1 _=>(rfa h224 rfl rfl (fun w=>De rg 0 w)) w1) fun _ h225=>?_
        refine tv1 hq13 h225 7 rfl rfl (v:=.pointer (some ⟨g4,5,none⟩)) (fun w1 _=>(rfa h225 rfl rfl (fun w=>AN g4 0 w)) w1) fun _ h226=>?_
        refine tv1 hq13 h226 8 rfl rfl (v:=ν (P.I 5)) (fun w1 hSw=>(rld h226 rfl rfl (ldB υ3 rfl (hSw.get 2 rfl:Blk _ _ _ _) rfl))) fun _ h227=>?_
        refine tv1 hq13 h227 9 rfl rfl (v:=.pointer (some ⟨g4,5,none⟩)) (fun w1 _=>(rfa h227 rfl rfl (fun w=>AN g4 0 w)) w1) fun _ h228=>?_
        refine tv1 hq13 h228 10 rfl rfl (v:=ν (P.I 5)) (fun w1 hSw=>(rld h228 rfl rfl (ldB υ3 rfl (hSw.get 2 rfl:Blk _ _ _ _) rfl))) fun _ h229=>?_
        refine tv1 hq13 h229 11 rfl rfl (v:=.pointer (some ⟨g4,6,none⟩)) (fun w1 _=>(rfa h229 rfl rfl (fun w=>CT g4 0 w)) w1) fun _ h230=>?_
        refine tv1 hq13 h230 12 rfl rfl (v:=ν (P.I 6)) (fun w1 hSw=>(rld h230 rfl rfl (ldB υ3 rfl (hSw.get 2 rfl:Blk _ _ _ _) rfl))) fun _ h231=>?_
        refine tv1 hq13 h231 13 rfl rfl (v:=ν ((P.I 5)+(P.I 6))) (fun w1 _=>(Cy h231 rfl rfl rfl (Kx _ _ _ ω ω ω)) w1) fun _ h232=>?_
        refine to_ 6 rfl (wn rfl) κ fun _ hK47=>QR h232 rfl rfl rfl (v:=.slice (some ⟨rv,0,none⟩) M.V.length M.V.length) (w':=w27.drew) ((rld h232 rfl rfl (ldB υ60 rfl (s32.get 6 rfl:MemR _ _ _ _ _ _).2.2.1 rfl))) fun _ h233=>hK47 _ _ (s32.pk [1,2,3,4,5,6,7,8] rfl) fun hq14=>?_
        refine tv1 hq14 h233 14 rfl rfl (v:=.slice (some ⟨rv,(P.I 5).toNat,none⟩) ((Ay M.V (P.I 5) (P.I 6)).length) (M.V.length-(P.I 5).toNat)) (fun w1 _=>(Wz h233 rfl rfl (vl:=some (ν (P.I 5))) (vh:=some (ν ((P.I 5)+(P.I 6)))) rfl rfl (fun w=>by rw [Jq rfl (Lr hM hok.c hc10)];exact Xs _ _ _ (P.I 5).toNat (P.I 6).toNat ω ω (by have:=Lr hM hok.c hc10;unfold inM at this;have:=dT this;omega) ω w)) w1) fun _ h234=>?_
        refine to_ 15 rfl (wn rfl) κ fun _ hK48=>QR h234 rfl rfl rfl (v:=σ (Ay M.V (P.I 5) (P.I 6))) (w':=w27.drew) ((Vz h234 rfl (X:=Ay M.V (P.I 5) (P.I 6)) rfl ((s32.get 6 rfl:MemR _ _ _ _ _ _).seen (by have:=Lr hM hok.c hc10;unfold inM at this;have:=dT this;omega)))) fun _ h235=>hK48 _ _ (s32.pk [1,2,3,4,5,6,7,8] rfl) fun hq15=>?_
        refine tv1 hq15 h235 16 rfl rfl (v:=.pointer (some ⟨g3,7,none⟩)) (fun w1 _=>(rfa h235 rfl rfl (fun w=>DG g3 0 w)) w1) fun _ h236=>?_
        refine to_ 17 rfl (wn rfl) κ fun _ hK49=>BE h236 rfl rfl s32 0 rfl rfl rfl [σ (Ay M.V (P.I 5) (P.I 6))] rfl κ rfl (by show 7+1≤43;decide) (L':=[ν 2,ν (P.I 1),ν (P.I 2),ν (P.I 3),ν (P.I 4),ν 0,ν 0,σ (Ay M.V (P.I 5) (P.I 6)),ν 0,ν 0,ν 0,σ [],σ [],ν 0,ν 0,ν 0,ν 0,σ [],ν 0,ν 0,ν 0,ν 0,σ [],.slice none 0 0,ν 0,ν 0,ν 0,ν 0,ν 0,ν 0,ν 0,ν 0,ν 0,ν 0,ν 0,ν 0,ν 0,ν 0,ν 0,ν 0,ν 0,ν 0,ν 0]) rfl (cs':=[Ab g3 39 (pk0 (Ai P 0 (Ay M.V (P.I 5) (P.I 6)) 0)),Ab g2 45 (AM (S.getD (((P.I 1)-1).toNat) (Ac 0))),Ab g1 39 (pk0 P0z),Ab g4 39 (pkC P pa P.N.length pc),Ab dg 49 [π rg,.slice (some ⟨gs0,0,none⟩) 8 8,.bool false],Ab gs0 45 (S.flatMap AM),AV rg rv rd ra M,AO W B,Ch.many R]) rfl fun _ w28 h237 s33 _=>?_
        refine hK49 _ _ (s33.pk [1,2,3,4,5,6,7,8] rfl) fun hq16=>h237.sk [10,69,9,8,7,5,4,3,0,1] rfl fun h238=>?_
        refine wpAnyH_done κ ?_ _
        exact hJ287 M (!(Ka (P.I 1) (P.I 5) (P.I 6))) (Ay M.V (P.I 5) (P.I 6)) 0 _ _ (h238.subs rfl) s33 (by unfold CD;rw [if_neg ω];rw [if_pos ω];rw [Uy hc10];first | rfl | (rw [hc10];rfl) | simp_all)
       ·skip
        refine cl h211 rfl DW (Rf (c:=P.I 1) (t:=P.I 5) (n:=P.I 6) s10 hok.c ⟨hok.n5,by have:=hok.u5;omega⟩ ⟨hok.n6,by have:=hok.u6;omega⟩) fun _ v6 w29 r6 h239=>?_
        obtain ⟨rfl,s34⟩:=r6
        refine mv h239 rfl fun _ h240=>h240.sk [102,101,100,99,98,97,96,95,69,9,8,7,5,4,3,0,1] rfl fun h241=>mv h241 rfl fun _ h242=>h242.sn [10,69,9,8,7,5,4,3,0,1] rfl fun h243=>hK45 _ _<|sqr fun _ hK50=>mvs 2 h243 rfl fun _ h244=>h244.sn [104,10,69,9,8,7,5,4,3,0,1] rfl fun h245=>hK50 _ _<|wcF h245 rfl (BX (Bj hc10)) ?_
        refine h245.sk [10,69,9,8,7,5,4,3,0,1] rfl fun h246=>wp_skip ?_
        exact hJ287 M (!(Ka (P.I 1) (P.I 5) (P.I 6))) [] 0 _ _ (h246.subs rfl) s34 (by unfold CD;rw [if_neg ω];rw [if_pos ω];rw [VG hok.n6 hc10];first | rfl | (rw [hc10];rfl) | simp_all)
      ·skip
       have hp12:¬ ((P.I 4)=2):=(dF hc9)
       refine wcF h204 rfl hc9<|h204.sk [69,10,9,8,7,5,4,3,0,1] rfl fun h247=>sqr fun _ hK51=>bv h247 (z:=.bool (decide ((P.I 4)=3))) rfl (cEq _ _ _ _ rfl) fun _ h248=>mv h248 rfl fun _ h249=>h249.sn [122,69,10,9,8,7,5,4,3,0,1] rfl fun h250=>hK51 _ _ ?_
       rcases bC (decide ((P.I 4)=3)) with hc11 | hc11
       ·skip
        have hp13:(P.I 4)=3:=(dT hc11)
        refine wcT h250 rfl hc11<|h250.sk [69,10,9,8,7,5,4,3,0,1] rfl fun h251=>sqr fun _ hK52=>fav h251 rfl (Bc _ _) fun _ h252=>ldv h252 s10 3 υ3 rfl rfl rfl rfl fun _ h253=>fav h253 rfl (AN _ _) fun _ h254=>ldv h254 s10 3 υ3 rfl rfl rfl rfl fun _ h255=>fav h255 rfl (CT _ _) fun _ h256=>ldv h256 s10 3 υ3 rfl rfl rfl rfl fun _ h257=>?_
        rcases bC (Dn (P.I 1) (P.I 5) (P.I 6)) with hc12 | hc12
        ·skip
         refine cl h257 rfl Bh (Hb (c:=P.I 1) (t:=P.I 5) (n:=(P.I 6)) s10 hok.c ⟨hok.n5,by have:=hok.u5;omega⟩ ⟨hok.n6,by have:=hok.u6;omega⟩) fun _ v7 w30 r7 h258=>?_
         obtain ⟨rfl,s35⟩:=r7
         refine mv h258 rfl fun _ h259=>h259.sk [131,130,129,128,127,126,125,124,69,9,8,7,5,4,3,0,1] rfl fun h260=>mv h260 rfl fun _ h261=>h261.sn [10,69,9,8,7,5,4,3,0,1] rfl fun h262=>hK52 _ _<|sqr fun _ hK53=>mvs 2 h262 rfl fun _ h263=>h263.sn [133,10,69,9,8,7,5,4,3,0,1] rfl fun h264=>hK53 _ _<|wcT h264 rfl (Bj (BX hc12)) ?_
         refine h264.sk [10,69,9,8,7,5,4,3,0,1] rfl fun h265=>sq fun _ hK54=>?_
         have s36:=s35.drew
         refine wp_region_held_drew (S:=fun w'=>Sep w' [Ab g3 39 (pk0 (Ai P 0 [] 0)),Ab g2 45 (AM (S.getD (((P.I 1)-1).toNat) (Ac 0))),Ab g1 39 (pk0 P0z),Ab g4 39 (pkC P pa P.N.length pc),Ab dg 49 [π rg,.slice (some ⟨gs0,0,none⟩) 8 8,.bool false],Ab gs0 45 (S.flatMap AM),AO W B,Ch.many R]) κ (s36.pk [0,1,2,3,4,5,7,8] rfl) (fun hq17=>?_)
         refine tv1 hq17 h265 0 rfl rfl (v:=π dg) (fun w1 _=>(Aj h265 rfl rfl) w1) fun _ h266=>?_
         refine tv1 hq17 h266 1 rfl rfl (v:=π dg) (fun w1 _=>(Bt h266 rfl rfl) w1) fun _ h267=>?_
         refine tv1 hq17 h267 2 rfl rfl (v:=π dg) (fun w1 _=>(rfa h267 rfl rfl (fun w=>AZ dg 0 w)) w1) fun _ h268=>?_
         refine tv1 hq17 h268 3 rfl rfl (v:=π rg) (fun w1 hSw=>(rld h268 rfl rfl (ldB υ46 rfl (hSw.get 4 rfl:Blk _ _ _ _) rfl))) fun _ h269=>?_
         refine tv1 hq17 h269 4 rfl rfl (v:=.pointer (some ⟨g4,5,none⟩)) (fun w1 _=>(rfa h269 rfl rfl (fun w=>AN g4 0 w)) w1) fun _ h270=>?_
         refine tv1 hq17 h270 5 rfl rfl (v:=ν (P.I 5)) (fun w1 hSw=>(rld h270 rfl rfl (ldB υ3 rfl (hSw.get 3 rfl:Blk _ _ _ _) rfl))) fun _ h271=>?_
         refine tv1 hq17 h271 6 rfl rfl (v:=.pointer (some ⟨g4,6,none⟩)) (fun w1 _=>(rfa h271 rfl rfl (fun w=>CT g4 0 w)) w1) fun _ h272=>?_
         refine tv1 hq17 h272 7 rfl rfl (v:=ν (P.I 6)) (fun w1 hSw=>(rld h272 rfl rfl (ldB υ3 rfl (hSw.get 3 rfl:Blk _ _ _ _) rfl))) fun _ h273=>?_
         refine to_ 8 rfl (wn rfl) κ fun _ hK55=>Bo h273 rfl rfl rfl (xs:=[.tmp 137,.tmp 139,.tmp 141]) rfl Eh rfl (vs:=[π rg,ν (P.I 5),ν (P.I 6)]) rfl (args:=#[π rg,ν (P.I 5),ν (P.I 6)]) rfl (TA (s36.pk [6,0,1,2,3,4,5,7,8] rfl) (Dm hM hok.c (Hx hc12) hok.n6) (wP 5) (wP 6)) fun _ v8 w31 r8 h274=>?_
         obtain ⟨rfl,s37⟩:=r8
         refine hK55 _ _ (s37.pk [1,2,3,4,5,6,7,8] rfl) fun hq18=>h274.sk [10,69,9,8,7,5,4,3,0,1] rfl fun h275=>?_
         refine wpAnyH_done κ ?_ _
         refine hK54 _ _ ?_
         refine wp_region_lit<|mvs 2 h275 rfl fun _ h276=>fav h276 rfl (AZ _ _) fun _ h277=>ldv h277 s37 5 υ46 rfl rfl rfl rfl fun _ h278=>cl h278 rfl Eg (Tx s37) fun _ v9 w32 r9 h279=>?_
         obtain ⟨yx755,rfl,s38⟩:=r9
         refine h279.sk [10,69,9,8,7,5,4,3,0,1] rfl fun h280=>wpList_nil ?_
         exact hJ287 (Fj (En M (P.I 5).toNat (P.I 6).toNat)) (!(Dn (P.I 1) (P.I 5) (P.I 6))) [] 0 _ _ (h280.subs rfl) (s38.pk [1,2,3,4,5,6,0,7,8] rfl) (by unfold CD;rw [if_neg ω];rw [if_neg ω];rw [if_pos ω];rw [QN hc12];first | rfl | (rw [hc12];rfl) | simp_all)
        ·skip
         refine cl h257 rfl Bh (Hb (c:=P.I 1) (t:=P.I 5) (n:=(P.I 6)) s10 hok.c ⟨hok.n5,by have:=hok.u5;omega⟩ ⟨hok.n6,by have:=hok.u6;omega⟩) fun _ v10 w33 r10 h281=>?_
         obtain ⟨rfl,s39⟩:=r10
         refine mv h281 rfl fun _ h282=>h282.sk [131,130,129,128,127,126,125,124,69,9,8,7,5,4,3,0,1] rfl fun h283=>mv h283 rfl fun _ h284=>h284.sn [10,69,9,8,7,5,4,3,0,1] rfl fun h285=>hK52 _ _<|sqr fun _ hK56=>mvs 2 h285 rfl fun _ h286=>h286.sn [133,10,69,9,8,7,5,4,3,0,1] rfl fun h287=>hK56 _ _<|wcF h287 rfl (BX (Bj hc12)) ?_
         refine h287.sk [10,69,9,8,7,5,4,3,0,1] rfl fun h288=>wp_skip ?_
         exact hJ287 M (!(Dn (P.I 1) (P.I 5) (P.I 6))) [] 0 _ _ (h288.subs rfl) s39 (by unfold CD;rw [if_neg ω];rw [if_neg ω];rw [if_pos ω];rw [SH hok.n6 hc12];first | rfl | (rw [hc12];rfl) | simp_all)
       ·skip
        have hp14:¬ ((P.I 4)=3):=(dF hc11)
        refine wcF h250 rfl hc11<|h250.sk [69,10,9,8,7,5,4,3,0,1] rfl fun h289=>sqr fun _ hK57=>bv h289 (z:=.bool (decide ((P.I 4)=4))) rfl (cEq _ _ _ _ rfl) fun _ h290=>mv h290 rfl fun _ h291=>h291.sn [148,69,10,9,8,7,5,4,3,0,1] rfl fun h292=>hK57 _ _ ?_
        rcases bC (decide ((P.I 4)=4)) with hc13 | hc13
        ·skip
         have hp15:(P.I 4)=4:=(dT hc13)
         refine wcT h292 rfl hc13<|h292.sk [69,10,9,8,7,5,4,3,0,1] rfl fun h293=>sqr fun _ hK58=>fav h293 rfl (AN _ _) fun _ h294=>ldv h294 s10 3 υ3 rfl rfl rfl rfl fun _ h295=>bv h295 (z:=ν ((P.I 5).tmod 8)) rfl (WG _ _ _ (by decide) rfl) fun _ h296=>bv h296 (z:=.bool (decide ((P.I 5).tmod 8≠0))) rfl (cNe _ _ _ _ rfl) fun _ h297=>mv h297 rfl fun _ h298=>sg h298 (wF h298 rfl rfl rfl) rfl rfl rfl (v:=.pointer (some ⟨g4,1,none⟩)) (fun hC4=>by have hq:=(dF (CE hC4));exact rfa h298 rfl rfl (fun w=>Bc g4 0 w) _) fun _ h299=>sg h299 (wF h299 rfl rfl rfl) rfl rfl rfl (v:=ν (P.I 1)) (fun hC5=>by have hq:=(dF (CE hC5));exact (rld h299 rfl (opg rfl hC5) (ldB υ3 rfl (s10.get 3 rfl:Blk _ _ _ _) rfl))) fun _ h300=>?_
         refine sg h300 (wF h300 rfl rfl rfl) rfl rfl rfl (v:=.pointer (some ⟨g4,5,none⟩)) (fun hC6=>by have hq:=(dF (CE hC6));exact rfa h300 rfl rfl (fun w=>AN g4 0 w) _) fun _ h301=>sg h301 (wF h301 rfl rfl rfl) rfl rfl rfl (v:=ν (P.I 5)) (fun hC7=>by have hq:=(dF (CE hC7));exact (rld h301 rfl (opg rfl hC7) (ldB υ3 rfl (s10.get 3 rfl:Blk _ _ _ _) rfl))) fun _ h302=>?_
         rcases bC (decide ((P.I 5).tmod 8≠0)) with hc14 | hc14
         ·skip
          have hp16:(P.I 5).tmod 8≠0:=(dT hc14)
          refine su h302 ((wF h302 rfl rfl rfl).trans (BX hc14)) rfl rfl rfl fun _ h303=>su h303 ((wF h303 rfl rfl rfl).trans (BX hc14)) rfl rfl rfl fun _ h304=>sv1 h304 rfl (v:=.bool true) (CL h304 rfl (E:=(decide ((P.I 5).tmod 8≠0))) (b:=true) rfl hc14 rfl) fun _ h305=>h305.sk [161,160,159,158,157,156,155,154,153,152,151,150,69,9,8,7,5,4,3,0,1] rfl fun h306=>mv h306 rfl fun _ h307=>h307.sn [10,69,9,8,7,5,4,3,0,1] rfl fun h308=>hK58 _ _<|sqr fun _ hK59=>mvs 2 h308 rfl fun _ h309=>h309.sk [163,10,69,9,8,7,5,4,3,0,1] rfl fun h310=>?_
          refine wpList_nil<|hK59 _ _<|wcF h310 rfl rfl<|h310.sk [10,69,9,8,7,5,4,3,0,1] rfl fun h311=>wp_skip ?_
          exact hJ287 M true [] 0 _ _ (h311.subs rfl) s10 (by unfold CD;rw [if_neg ω];rw [if_neg ω];rw [if_neg ω];rw [Pw (fun z=>ω)];first | rfl | (rw [hS];rfl) | simp_all)
         ·skip
          have hp17:¬ ((P.I 5).tmod 8≠0):=(dF hc14)
          rcases bC (Dn (P.I 1) (P.I 5) 8) with hc15 | hc15
          ·skip
           refine so ((wF h302 rfl rfl rfl).trans (Bj hc14)) fun _ hK60=>Bo h302 rfl rfl rfl (xs:=[.tmp 156,.tmp 158,.const (ν 8)]) rfl Bh rfl (vs:=[ν (P.I 1),ν (P.I 5),ν 8]) (EF (opg rfl (Bj hc14)) (EF (opg rfl (Bj hc14)) (EF rfl rfl))) (args:=#[ν (P.I 1),ν (P.I 5),ν 8]) rfl (Hb (c:=P.I 1) (t:=P.I 5) (n:=8) s10 hok.c ⟨hok.n5,by have:=hok.u5;omega⟩ ⟨ω,by have:=hok.d;omega⟩) fun _ v11 w34 r11 h312=>hK60 _ _ ?_
           obtain ⟨rfl,s40⟩:=r11
           refine sv h312 ((wF h312 rfl rfl rfl).trans (Bj hc14)) rfl rfl rfl (v:=.bool (!(Dn (P.I 1) (P.I 5) 8))) (Pa h312 rfl (b:=Dn (P.I 1) (P.I 5) 8) rfl) fun _ h313=>sv1 h313 rfl (v:=.bool (!(Dn (P.I 1) (P.I 5) 8))) (CL h313 rfl (E:=(decide ((P.I 5).tmod 8≠0))) (b:=false) rfl hc14 rfl) fun _ h314=>h314.sk [161,160,159,158,157,156,155,154,153,152,151,150,69,9,8,7,5,4,3,0,1] rfl fun h315=>mv h315 rfl fun _ h316=>h316.sn [10,69,9,8,7,5,4,3,0,1] rfl fun h317=>hK58 _ _<|sqr fun _ hK61=>mvs 2 h317 rfl fun _ h318=>h318.sn [163,10,69,9,8,7,5,4,3,0,1] rfl fun h319=>hK61 _ _ ?_
           refine wcT h319 rfl (Bj (BX hc15)) ?_
           refine h319.sk [10,69,9,8,7,5,4,3,0,1] rfl fun h320=>sq fun _ hK62=>?_
           have s41:=s40.drew
           refine wp_region_held_drew (S:=fun w'=>Sep w' [Ab g2 45 (AM (S.getD (((P.I 1)-1).toNat) (Ac 0))),Ab g1 39 (pk0 P0z),Ab g4 39 (pkC P pa P.N.length pc),Ab dg 49 [π rg,.slice (some ⟨gs0,0,none⟩) 8 8,.bool false],Ab gs0 45 (S.flatMap AM),AV rg rv rd ra M,AO W B,Ch.many R]) κ (s41.pk [1,2,3,4,5,6,7,8] rfl) (fun hq19=>?_)
           refine tv1 hq19 h320 0 rfl rfl (v:=π dg) (fun w1 _=>(Aj h320 rfl rfl) w1) fun _ h321=>?_
           refine tv1 hq19 h321 1 rfl rfl (v:=π dg) (fun w1 _=>(Bt h321 rfl rfl) w1) fun _ h322=>?_
           refine tv1 hq19 h322 2 rfl rfl (v:=π dg) (fun w1 _=>(rfa h322 rfl rfl (fun w=>AZ dg 0 w)) w1) fun _ h323=>?_
           refine tv1 hq19 h323 3 rfl rfl (v:=π rg) (fun w1 hSw=>(rld h323 rfl rfl (ldB υ46 rfl (hSw.get 3 rfl:Blk _ _ _ _) rfl))) fun _ h324=>?_
           refine tv1 hq19 h324 4 rfl rfl (v:=π rg) (fun w1 _=>(Bt h324 rfl rfl) w1) fun _ h325=>?_
           refine tv1 hq19 h325 5 rfl rfl (v:=π rg) (fun w1 _=>(rfa h325 rfl rfl (fun w=>De rg 0 w)) w1) fun _ h326=>?_
           refine tv1 hq19 h326 7 rfl rfl (v:=.pointer (some ⟨g4,5,none⟩)) (fun w1 _=>(rfa h326 rfl rfl (fun w=>AN g4 0 w)) w1) fun _ h327=>?_
           refine tv1 hq19 h327 8 rfl rfl (v:=ν (P.I 5)) (fun w1 hSw=>(rld h327 rfl rfl (ldB υ3 rfl (hSw.get 2 rfl:Blk _ _ _ _) rfl))) fun _ h328=>?_
           refine to_ 6 rfl (wn rfl) κ fun _ hK63=>QR h328 rfl rfl rfl (v:=.slice (some ⟨rv,0,none⟩) M.V.length M.V.length) (w':=w34.drew) ((rld h328 rfl rfl (ldB υ60 rfl (s41.get 6 rfl:MemR _ _ _ _ _ _).2.2.1 rfl))) fun _ h329=>hK63 _ _ (s41.pk [1,2,3,4,5,6,7,8] rfl) fun hq20=>?_
           refine to_ 9 rfl (wn rfl) κ fun _ hK64=>Bo h329 rfl rfl rfl (xs:=[.tmp 171,.tmp 173,.const (ν 8)]) rfl GE rfl (vs:=[.slice (some ⟨rv,0,none⟩) M.V.length M.V.length,ν (P.I 5),ν 8]) rfl (args:=#[.slice (some ⟨rv,0,none⟩) M.V.length M.V.length,ν (P.I 5),ν 8]) rfl (Wb (s41.pk [6,0,1,2,3,4,5,7,8] rfl) (Dm hM hok.c (Hx hc15) (by decide))) fun _ v12 w35 r12 h330=>?_
           obtain ⟨okgx887,rfl,s42⟩:=r12
           refine hK64 _ _ (s42.pk [2,3,4,5,6,0,7,8] rfl) fun hq21=>?_
           refine tv1 hq21 h330 10 rfl rfl (v:=.tuple #[ν (BQ (Ay M.V (P.I 5) 8)),.bool okgx887]) (fun w1 _=>(Aj h330 rfl rfl) w1) fun _ h331=>?_
           refine tv1 hq21 h331 11 rfl rfl (v:=ν (BQ (Ay M.V (P.I 5) 8))) (fun w1 _=>(DL h331 rfl rfl rfl) w1) fun _ h332=>?_
           refine tv1 hq21 h332 12 rfl rfl (v:=.bool okgx887) (fun w1 _=>(DL h332 rfl rfl rfl) w1) fun _ h333=>?_
           refine tv1 hq21 h333 13 rfl rfl (v:=.pointer (some ⟨g3,8,none⟩)) (fun w1 _=>(rfa h333 rfl rfl (fun w=>DH g3 0 w)) w1) fun _ h334=>?_
           refine to_ 14 rfl (wn rfl) κ fun _ hK65=>BE h334 rfl rfl s42 1 rfl rfl rfl [ν (BQ (Ay M.V (P.I 5) 8))] rfl κ rfl (by show 8+1≤43;decide) (L':=[ν 2,ν (P.I 1),ν (P.I 2),ν (P.I 3),ν (P.I 4),ν 0,ν 0,σ [],ν (BQ (Ay M.V (P.I 5) 8)),ν 0,ν 0,σ [],σ [],ν 0,ν 0,ν 0,ν 0,σ [],ν 0,ν 0,ν 0,ν 0,σ [],.slice none 0 0,ν 0,ν 0,ν 0,ν 0,ν 0,ν 0,ν 0,ν 0,ν 0,ν 0,ν 0,ν 0,ν 0,ν 0,ν 0,ν 0,ν 0,ν 0,ν 0]) rfl (cs':=[AV rg rv rd ra M,Ab g3 39 (pk0 (Ai P 0 [] (BQ (Ay M.V (P.I 5) 8)))),Ab g2 45 (AM (S.getD (((P.I 1)-1).toNat) (Ac 0))),Ab g1 39 (pk0 P0z),Ab g4 39 (pkC P pa P.N.length pc),Ab dg 49 [π rg,.slice (some ⟨gs0,0,none⟩) 8 8,.bool false],Ab gs0 45 (S.flatMap AM),AO W B,Ch.many R]) rfl fun _ w36 h335 s43 _=>?_
           refine hK65 _ _ (s43.pk [2,3,4,5,6,0,7,8] rfl) fun hq22=>h335.sk [10,69,9,8,7,5,4,3,0,1] rfl fun h336=>?_
           refine wpAnyH_done κ ?_ _
           refine hK62 _ _ ?_
           refine sqr fun _ hK66=>fav h336 rfl (DH _ _) fun _ h337=>ldv h337 s43 1 υ3 rfl rfl rfl rfl fun _ h338=>fav h338 rfl (DH _ _) fun _ h339=>ldv h339 s43 4 υ3 rfl rfl rfl rfl fun _ h340=>bv h340 (z:=.bool (decide (BQ (Ay M.V (P.I 5) 8)=(P.I 8)))) rfl (cEq _ _ _ _ rfl) fun _ h341=>h341.sn [182,10,69,9,8,7,5,4,3,0,1] rfl fun h342=>hK66 _ _ ?_
           rcases bC (decide (BQ (Ay M.V (P.I 5) 8)=(P.I 8))) with hc16 | hc16
           ·skip
            have hp18:BQ (Ay M.V (P.I 5) 8)=(P.I 8):=(dT hc16)
            refine wcT h342 rfl hc16<|h342.sk [10,69,9,8,7,5,4,3,0,1] rfl fun h343=>?_
            have s44:=s43.drew
            refine wp_region_held_drew (S:=fun w'=>Sep w' [Ab g3 39 (pk0 (Ai P 0 [] (BQ (Ay M.V (P.I 5) 8)))),Ab g2 45 (AM (S.getD (((P.I 1)-1).toNat) (Ac 0))),Ab g1 39 (pk0 P0z),Ab g4 39 (pkC P pa P.N.length pc),Ab dg 49 [π rg,.slice (some ⟨gs0,0,none⟩) 8 8,.bool false],Ab gs0 45 (S.flatMap AM),AO W B,Ch.many R]) κ (s44.pk [1,2,3,4,5,6,7,8] rfl) (fun hq23=>?_)
            refine tv1 hq23 h343 0 rfl rfl (v:=π dg) (fun w1 _=>(Aj h343 rfl rfl) w1) fun _ h344=>?_
            refine tv1 hq23 h344 1 rfl rfl (v:=π dg) (fun w1 _=>(Bt h344 rfl rfl) w1) fun _ h345=>?_
            refine tv1 hq23 h345 2 rfl rfl (v:=π dg) (fun w1 _=>(rfa h345 rfl rfl (fun w=>AZ dg 0 w)) w1) fun _ h346=>?_
            refine tv1 hq23 h346 3 rfl rfl (v:=π rg) (fun w1 hSw=>(rld h346 rfl rfl (ldB υ46 rfl (hSw.get 4 rfl:Blk _ _ _ _) rfl))) fun _ h347=>?_
            refine tv1 hq23 h347 4 rfl rfl (v:=.pointer (some ⟨g4,5,none⟩)) (fun w1 _=>(rfa h347 rfl rfl (fun w=>AN g4 0 w)) w1) fun _ h348=>?_
            refine tv1 hq23 h348 5 rfl rfl (v:=ν (P.I 5)) (fun w1 hSw=>(rld h348 rfl rfl (ldB υ3 rfl (hSw.get 3 rfl:Blk _ _ _ _) rfl))) fun _ h349=>?_
            refine tv1 hq23 h349 6 rfl rfl (v:=.pointer (some ⟨g4,9,none⟩)) (fun w1 _=>(rfa h349 rfl rfl (fun w=>IV g4 0 w)) w1) fun _ h350=>?_
            refine tv1 hq23 h350 7 rfl rfl (v:=ν (P.I 9)) (fun w1 hSw=>(rld h350 rfl rfl (ldB υ3 rfl (hSw.get 3 rfl:Blk _ _ _ _) rfl))) fun _ h351=>?_
            refine to_ 8 rfl (wn rfl) κ fun _ hK67=>Bo h351 rfl rfl rfl (xs:=[.const (.slice none 0 0),.tmp 190,.const (ν 8)]) rfl GF rfl (vs:=[.slice none 0 0,ν (P.I 9),ν 8]) rfl (args:=#[.slice none 0 0,ν (P.I 9),ν 8]) rfl (Wv s44 hok.n9 (wP 9)) fun _ v13 w37 r13 h352=>?_
            obtain ⟨pax945,pcx946,rfl,s45⟩:=r13
            refine hK67 _ _ (s45.pk [2,3,4,5,6,7,8,9] rfl) fun hq24=>?_
            refine to_ 9 rfl (wn rfl) κ fun _ hK68=>Bo h352 rfl rfl rfl (xs:=[.tmp 186,.tmp 188,.tmp 191]) rfl CB rfl (vs:=[π rg,ν (P.I 5),.slice pax945 ((le 8 (P.I 9).toNat).length) pcx946]) rfl (args:=#[π rg,ν (P.I 5),.slice pax945 ((le 8 (P.I 9).toNat).length) pcx946]) rfl (Pt (b:=(le 8 (P.I 9).toNat)) (s45.pk [1,0,2,3,4,5,6,7,8,9] rfl) ((s45.get 0 rfl:Own _ _ _ _ _ _ _ _).row) (fun _=>Sn s45 (show 0≠1 by decide) rfl rfl) (by first | exact Dm hM hok.c (Hx hc15) ω | (rw [AH];exact Dm hM hok.c (Hx hc15) (by decide))) (wP 5)) fun _ v14 w38 r14 h353=>?_
            obtain ⟨rfl,s46⟩:=r14
            refine hK68 _ _ (s46.pk [2,3,4,5,6,7,8,9] rfl) fun hq25=>h353.sk [10,69,9,8,7,5,4,3,0,1] rfl fun h354=>?_
            refine wpAnyH_done κ ?_ _
            exact hJ287 (CM M (P.I 5).toNat (le 8 (P.I 9).toNat)) (!(Dn (P.I 1) (P.I 5) 8)) [] (BQ (Ay M.V (P.I 5) 8)) _ _ (h354.subs rfl) (s46.pk [2,3,4,5,6,7,0,8,9] rfl) (by unfold CD;rw [if_neg ω];rw [if_neg ω];rw [if_neg ω];rw [UA ⟨ω,Hx hc15⟩ ω];first | rfl | (rw [hc15];rfl) | simp_all)
           ·skip
            have hp19:¬ (BQ (Ay M.V (P.I 5) 8)=(P.I 8)):=(dF hc16)
            refine wcF h342 rfl hc16<|h342.sk [10,69,9,8,7,5,4,3,0,1] rfl fun h355=>wp_skip ?_
            exact hJ287 M (!(Dn (P.I 1) (P.I 5) 8)) [] (BQ (Ay M.V (P.I 5) 8)) _ _ (h355.subs rfl) (s43.pk [1,2,3,4,5,6,0,7,8] rfl) (by unfold CD;rw [if_neg ω];rw [if_neg ω];rw [if_neg ω];rw [UB ⟨ω,Hx hc15⟩ ω];first | rfl | (rw [hc15];rfl) | simp_all)
          ·skip
           refine so ((wF h302 rfl rfl rfl).trans (Bj hc14)) fun _ hK69=>Bo h302 rfl rfl rfl (xs:=[.tmp 156,.tmp 158,.const (ν 8)]) rfl Bh rfl (vs:=[ν (P.I 1),ν (P.I 5),ν 8]) (EF (opg rfl (Bj hc14)) (EF (opg rfl (Bj hc14)) (EF rfl rfl))) (args:=#[ν (P.I 1),ν (P.I 5),ν 8]) rfl (Hb (c:=P.I 1) (t:=P.I 5) (n:=8) s10 hok.c ⟨hok.n5,by have:=hok.u5;omega⟩ ⟨ω,by have:=hok.d;omega⟩) fun _ v15 w39 r15 h356=>hK69 _ _ ?_
           obtain ⟨rfl,s47⟩:=r15
           refine sv h356 ((wF h356 rfl rfl rfl).trans (Bj hc14)) rfl rfl rfl (v:=.bool (!(Dn (P.I 1) (P.I 5) 8))) (Pa h356 rfl (b:=Dn (P.I 1) (P.I 5) 8) rfl) fun _ h357=>sv1 h357 rfl (v:=.bool (!(Dn (P.I 1) (P.I 5) 8))) (CL h357 rfl (E:=(decide ((P.I 5).tmod 8≠0))) (b:=false) rfl hc14 rfl) fun _ h358=>h358.sk [161,160,159,158,157,156,155,154,153,152,151,150,69,9,8,7,5,4,3,0,1] rfl fun h359=>mv h359 rfl fun _ h360=>h360.sn [10,69,9,8,7,5,4,3,0,1] rfl fun h361=>hK58 _ _<|sqr fun _ hK70=>mvs 2 h361 rfl fun _ h362=>h362.sn [163,10,69,9,8,7,5,4,3,0,1] rfl fun h363=>hK70 _ _ ?_
           refine wcF h363 rfl (BX (Bj hc15)) ?_
           refine h363.sk [10,69,9,8,7,5,4,3,0,1] rfl fun h364=>wp_skip ?_
           exact hJ287 M (!(Dn (P.I 1) (P.I 5) 8)) [] 0 _ _ (h364.subs rfl) s47 (by unfold CD;rw [if_neg ω];rw [if_neg ω];rw [if_neg ω];rw [Pw (fun z=>by rw [← Xb,hc15] at z;cases z.2)];first | rfl | (rw [hc15];rfl) | simp_all)
        ·skip
         have hp20:¬ ((P.I 4)=4):=(dF hc13)
         exact absurd (dF hc13) ω
end
section
def El (P:PkM):PkM:=if 140<(P.S 7).length then Pn P 7 ((P.S 7).take 140) else P
theorem DI (g off:Nat) (w:World):(Instr.fieldAt 39 (.pointer (some ⟨g,off,none⟩)) 7).run Tryz.prog w=.ok (.pointer (some ⟨g,off+7,none⟩)) w:=rfl
theorem Wq {w:World} {R:List Ch} {rg:Nat} (hS0:Sep w R) :
  CallsR Tryz.prog 22 #[π rg] w (fun v w'=>∃ dg gs0,v=π dg∧Sep w' ([Ab dg 49 [π rg,.slice (some ⟨gs0,0,none⟩) 8 8,.bool false],Ab gs0 45 ((List.replicate 8 (Ac 0)).flatMap AM)]++R)):=by
 have hS:Sep w [Ch.many R]:=Sep.tail_many (xs:=[]) hS0;clear hS0
 refine Cd Tryz.func22 rfl (N:=7) Tryz.ntmps22 (by show 1≤7;decide) [(0,π rg)] rfl fun _ h1=>sqr fun _ hK3=>mv h1 rfl fun _ h4=>wpList_nil<|hK3 _ _<|sqr fun _ hK6=>mv h4 rfl fun _ h7=>so (wn rfl) fun _ hK1=>WC Cg (by decide) h7 rfl rfl rfl rfl υ47 (z:=(.agg (AM (⟨0,0,P0z,false⟩:SideM)).toArray)) (n:=8) κ (m:=(Ac 0)) rfl rfl rfl (by decide) hS fun _ g9 w1 h2 s1 _ _=>hK1 _ _ ?_
 refine bu h2 (v:=.agg #[π rg,.slice (some ⟨g9,0,none⟩) 8 8,.bool false]) rfl (fun w=>κ) fun _ h3=>so (wn rfl) fun _ hK2=>Jk h3 rfl rfl rfl rfl rfl (z:=[π rg,.slice (some ⟨g9,0,none⟩) 8 8,.bool false]) rfl s1 fun _ g1 w2 h5 s2 _ _=>hK2 _ _ ?_
 refine h5.sk [6,5,4,3,0] rfl fun h6=>mv h6 rfl fun _ h8=>h8.sn [2,0] rfl fun h9=>hK6 _ _<|wp_ret ?_
 try simp only [Exit.then,Exit.inBlock]
 refine CO (v:=π g1) (CN h9 rfl rfl) h9.defs ?_
 exact ⟨g1,g9,rfl,Sep.tail_un (xs:=[_,_]) s2⟩
theorem QW {w:World} {R:List Ch} {P:PkM} {pa:Option Addr} {pc:Nat} (hS0:Sep w R) (h7:(P.S 7).length≤1100000) :
  CallsR Tryz.prog 14 #[.agg (pkC P pa P.N.length pc).toArray] w (fun v w'=>v=.agg (pkC (El P) pa P.N.length pc).toArray∧Sep w' R):=by
 have hS:Sep w [Ch.many R]:=Sep.tail_many (xs:=[]) hS0;clear hS0
 refine Cd Tryz.func14 rfl (N:=12) Tryz.ntmps14 (by show 1≤12;decide) [(0,.agg (pkC P pa P.N.length pc).toArray)] rfl fun _ h1=>sqr fun _ hK3=>so (wn rfl) fun _ hK1=>Jk h1 rfl rfl rfl rfl rfl (z:=(pkC P pa P.N.length pc)) rfl hS fun _ g4 w7 h5 s8 _ _=>hK1 _ _ ?_
 refine so (wn rfl) fun _ hK2=>Cj h5 rfl rfl rfl rfl (z:=[ν 0,ν 0,ν 0,ν 0,ν 0,ν 0,ν 0,σ [],ν 0,ν 0,ν 0,σ [],σ [],ν 0,ν 0,ν 0,ν 0,σ [],ν 0,ν 0,ν 0,ν 0,σ [],.slice none 0 0,ν 0,ν 0,ν 0,ν 0,ν 0,ν 0,ν 0,ν 0,ν 0,ν 0,ν 0,ν 0,ν 0,ν 0,ν 0,ν 0,ν 0,ν 0,ν 0]) (fun _=>rfl) s8 fun _ g1 w1 h2 s1 _ _=>hK2 _ _ ?_
 refine wpList_nil<|hK3 _ _<|sq fun _ hK4=>sqr fun _ hK5=>fav h2 rfl (DI _ _) fun _ h3=>ldv h3 s1 1 υ9 rfl rfl rfl rfl fun _ h4=>sv1 h4 rfl (v:=ν (((P.S 7).length:Nat):Int)) (Uk h4 rfl rfl υ9) fun _ h6=>bv h6 (z:=.bool (decide ((((P.S 7).length:Nat):Int)>140))) rfl (cGt _ _ _ _ rfl) fun _ h8=>h8.sn [6,2,1,0] rfl fun h9=>hK5 _ _ ?_
 rcases bC (decide ((((P.S 7).length:Nat):Int)>140)) with hc1 | hc1
 ·skip
  have hp1:(((P.S 7).length:Nat):Int)>140:=(dT hc1)
  refine wcT h9 rfl hc1<|h9.sk [2,1,0] rfl fun h10=>wp_region_lit<|fav h10 rfl (DI _ _) fun _ h11=>ldv h11 s1 1 υ9 rfl rfl rfl rfl fun _ h12=>sv1 h12 rfl (v:=σ ((P.S 7).take 140)) (Wz h12 rfl rfl (vl:=none) (vh:=(some (ν 140))) rfl rfl (fun w=>(fun w=>((slT 9 υ9 (P.S 7) (a:=0) (b:=140) (.inl ⟨rfl,rfl⟩) (.inr ⟨_,rfl,rfl⟩) ω ω) w).trans (by rw [List.drop_zero])) w)) fun _ h13=>fav h13 rfl (DI _ _) fun _ h14=>st1 h14 s1 1 rfl rfl κ rfl rfl rfl rfl fun _ w2 h15 s2 _=>h15.sn [2,1,0] rfl fun h16=>hK4 _ _ ?_
  refine sqr fun _ hK6=>sw1 h16 rfl (v:=.agg (pkC (Pn P 7 ((P.S 7).take 140)) pa P.N.length pc).toArray) (rld h16 rfl rfl (ldA υ39 rfl (n:=43) κ (s2.get 1 rfl:Blk _ _ _ _) rfl rfl)) fun _ h17=>stA h17 s2 0 rfl rfl rfl κ rfl rfl rfl rfl fun _ w3 h18 s3 _=>h18.sn [2,1,0] rfl fun h19=>hK6 _ _<|wp_ret ?_
  try simp only [Exit.then,Exit.inBlock]
  refine rC h19 s3 0 υ39 rfl rfl rfl rfl ?_
  exact ⟨by unfold El;rw [if_pos ω];try rfl,Sep.tail_un (xs:=[]) (s3.pk [2] rfl)⟩
 ·skip
  have hp2:¬ ((((P.S 7).length:Nat):Int)>140):=(dF hc1)
  refine wcF h9 rfl hc1<|h9.sk [2,1,0] rfl fun h20=>wp_skip<|hK4 _ _<|sqr fun _ hK7=>sw1 h20 rfl (v:=.agg (pkC P pa P.N.length pc).toArray) (rld h20 rfl rfl (ldA υ39 rfl (n:=43) κ (s1.get 1 rfl:Blk _ _ _ _) rfl rfl)) fun _ h21=>stA h21 s1 0 rfl rfl rfl κ rfl rfl rfl rfl fun _ w4 h22 s4 _=>h22.sn [2,1,0] rfl fun h23=>hK7 _ _<|wp_ret ?_
  try simp only [Exit.then,Exit.inBlock]
  refine rC h23 s4 0 υ39 rfl rfl rfl rfl ?_
  exact ⟨by unfold El;rw [if_neg ω];try rfl,Sep.tail_un (xs:=[]) (s4.pk [2] rfl)⟩
end
section
theorem Rt:Ee 23168:=by unfold Ee;omega
theorem Gt:(Dd 23168).V.length=23168:=List.length_replicate
theorem Le (args:Array Value) (w:World):(callFunc 12 args).run Tryz.prog w=.ok (.enter 12 args) w:=by
 have h:=Tryz.func12
 go_simp
theorem JT (args:Array Value) (w:World):(callFunc 11 args).run Tryz.prog w=.ok (.enter 11 args) w:=by
 have h:=Tryz.func11
 go_simp
theorem GG (args:Array Value) (w:World):(callFunc 21 args).run Tryz.prog w=.ok (.enter 21 args) w:=by
 have h:=Tryz.func21
 go_simp
theorem GI (args:Array Value) (w:World):(callFunc 22 args).run Tryz.prog w=.ok (.enter 22 args) w:=by
 have h:=Tryz.func22
 go_simp
theorem Mk {w:World} {R:List Ch} (hS0:Sep w R) :
  CallsR Tryz.prog 7 #[] w (fun v w'=>∃ pg cg mg mb md mp dg gs0 rg rv rd ra,v=π pg∧Sep w' ([Ab pg 54 [π mg,π cg,π rg,π dg],Ab cg 83 (An mg (List.replicate 8 (Ac 0)) false),AJ mg mb md mp (Dd 23168),Ab dg 49 [π rg,.slice (some ⟨gs0,0,none⟩) 8 8,.bool false],Ab gs0 45 ((List.replicate 8 (Ac 0)).flatMap AM),AV rg rv rd ra (Dd 23168)]++R)):=by
 have hS:Sep w [Ch.many R]:=Sep.tail_many (xs:=[]) hS0;clear hS0
 refine Cd Tryz.func7 rfl (N:=21) Tryz.ntmps7 (by show 0≤21;decide) [] rfl fun _ h1=>sqr fun _ hK3=>mv h1 rfl fun _ h4=>wpList_nil<|hK3 _ _<|sqr fun _ hK6=>cl h4 rfl Le (Wr (n:=23168) hS Rt) fun _ v1 w1 r1 h2=>?_
 obtain ⟨mgx7,mbx8,mdx9,mpx10,rfl,s1⟩:=r1
 refine mv h2 rfl fun _ h3=>h3.sn [1,0] rfl fun h5=>hK6 _ _<|sqr fun _ hK1=>mv h5 rfl fun _ h6=>cl h6 rfl JT (TR s1 Gt) fun _ v2 w2 r2 h7=>?_
 obtain ⟨cgx24,rfl,s2⟩:=r2
 refine mv h7 rfl fun _ h8=>h8.sn [2,1,0] rfl fun h9=>hK1 _ _<|sq fun _ hK2=>sqr fun _ hK4=>mv h9 rfl fun _ h10=>bv h10 (z:=.bool false) rfl (SU _ υ50 _ _ _) fun _ h11=>mv h11 rfl fun _ h12=>sv h12 (wF h12 (E:=false) rfl rfl rfl) rfl rfl rfl (v:=π cgx24) (Aj h12 rfl rfl) fun _ h13=>sv h13 (wF h13 (E:=false) rfl rfl rfl) rfl rfl rfl (v:=.bool false) (Cy h13 rfl rfl rfl (SU _ υ51 _ _ _)) fun _ h14=>sv1 h14 rfl (v:=.bool false) (CX h14 rfl rfl rfl) fun _ h15=>?_
 refine h15.sn [12,2,1,0] rfl fun h16=>hK4 _ _<|wcF h16 rfl rfl<|h16.sk [2,1,0] rfl fun h17=>wp_skip<|hK2 _ _<|sqr fun _ hK5=>cl h17 rfl GG (Ws (n:=23168) s2 Rt) fun _ v3 w3 r3 h18=>?_
 obtain ⟨rgx52,rvx53,rdx54,rax55,rfl,s3⟩:=r3
 refine mv h18 rfl fun _ h19=>h19.sn [3,2,1,0] rfl fun h20=>hK5 _ _<|sqr fun _ hK7=>mvs 4 h20 rfl fun _ h21=>cl h21 rfl GI (Wq s3) fun _ v4 w4 r4 h22=>?_
 obtain ⟨dgx75,gsx76,rfl,s4⟩:=r4
 refine bu h22 (v:=.agg #[π mgx7,π cgx24,π rgx52,π dgx75]) rfl (fun w=>κ) fun _ h23=>so (wn rfl) fun _ hK8=>Jk h23 rfl rfl rfl rfl rfl (z:=[π mgx7,π cgx24,π rgx52,π dgx75]) rfl s4 fun _ g1 w5 h24 s5 _ _=>hK8 _ _ ?_
 refine h24.sk [20,19,18,17,16,15,14,3,2,1] rfl fun h25=>mv h25 rfl fun _ h26=>h26.sn [0,3,2,1] rfl fun h27=>hK7 _ _<|wp_ret ?_
 try simp only [Exit.then,Exit.inBlock]
 refine CO (v:=π g1) (CN h27 rfl rfl) h27.defs ?_
 exact ⟨g1,cgx24,mgx7,mbx8,mdx9,mpx10,dgx75,gsx76,rgx52,rvx53,rdx54,rax55,rfl,Sep.tail_un (xs:=[_,_,_,_,_,_]) (s5.pk [0,4,5,1,2,3,6] rfl)⟩
end
section
structure SOk (S:List SideM) (k:Nat):Prop where
  len:S.length=8
  all:∀ s∈S,(0≤s.last∧s.last≤k)∧s.told.N=[]
theorem SOk.get {S:List SideM} {k:Nat} (h:SOk S k) (j:Nat):(0≤(S.getD j (Ac 0)).last∧(S.getD j (Ac 0)).last≤k)∧(S.getD j (Ac 0)).told.N=[]:=by
  by_cases hj:j<S.length
  · rw [List.getD_eq_getElem?_getD,List.getElem?_eq_getElem hj];exact h.all _ (List.getElem_mem hj)
  · rw [List.getD_eq_getElem?_getD,List.getElem?_eq_none ω];exact ⟨⟨Int.le_refl 0,Int.natCast_nonneg k⟩,rfl⟩
theorem SOk.set {S:List SideM} {k:Nat} (h:SOk S k) (j:Nat) {s:SideM} (hs:(0≤s.last∧s.last≤k)∧s.told.N=[]):SOk (S.set j s) k:=
  ⟨by rw [List.length_set];exact h.len,fun x hx=>by
    rcases List.mem_or_eq_of_mem_set hx with q | q
    · exact h.all x q
    · rw [q];exact hs⟩
theorem SOk.le {S:List SideM} {k m:Nat} (h:SOk S k) (hk:k≤m):SOk S m:=⟨h.len,fun s hs=>⟨⟨(h.all s hs).1.1,by have:=(h.all s hs).1.2;omega⟩,(h.all s hs).2⟩⟩
theorem Vn:SOk (List.replicate 8 (Ac 0)) 0:=⟨rfl,fun s hs=>by rw [List.eq_of_mem_replicate hs];exact ⟨⟨Int.le_refl 0,Int.le_refl 0⟩,rfl⟩⟩
theorem UD {P:PkM} {M:MemM} (hM:M.V.length=23168) (hc:1≤P.I 1∧P.I 1≤8):(CD P M).1.V.length=23168:=by
  have hst:∀ b:List UInt8,CJ (P.I 1) (P.I 5) (b.length:Int)=true→(CM M (P.I 5).toNat b).V.length=23168:=fun b hb=>by
    have z:=Dm (M:=M) hM hc hb ω
    obtain ⟨a,m,e1,e2,h⟩:=ED z
    show (splice M.V (P.I 5).toNat b).length=23168
    rw [length_splice _ _ _ ω];exact hM
  unfold CD Ki LW Fr FR
  repeat' split
  all_goals first | exact hM | skip
  · rename_i q;exact hst _ q.2
  · rename_i q1 q2;exact hst _ (by rw [AH];exact q1.2)
theorem PL {M:MemM} {S:List SideM} {fr:Bool} {P:PkM} {k:Nat} (h:SOk S k) (hM:M.V.length=23168) :
    SOk (doC ⟨M,S,fr⟩ P).1.S (k+1)∧(doC ⟨M,S,fr⟩ P).2.1.N=[]∧(doC ⟨M,S,fr⟩ P).1.M.V.length=23168:=by
  have h':=h.le (Nat.le_succ k)
  have hg:=h.get (P.I 1-1).toNat
  unfold doC
  split
  · exact ⟨h',rfl,hM⟩
  · rename_i q0
    have hz:CV P=0∧P.I 0=1:=ω
    have hok:=LX hz.1 hz.2
    split
    · exact ⟨h',rfl,hM⟩
    · split
      · exact ⟨h',hg.2,hM⟩
      · split
        · exact ⟨h',rfl,hM⟩
        · rename_i q3
          have q3:P.I 3-1=(S.getD (P.I 1-1).toNat (Ac 0)).last:=Classical.not_not.1 q3
          have hv:=UD (M:=M) hM hok.c
          cases hx:CD P M with
          | mk M' r=>
            obtain ⟨er,d,ol⟩:=r
            rw [hx] at hv
            exact ⟨h'.set _ ⟨⟨hok.n3,by show P.I 3≤_;omega⟩,rfl⟩,rfl,hv⟩
theorem Mr (Q:PkM):BS Q Q=true:=(Tu Q Q).2 ⟨fun _ _=>rfl,fun _ _=>rfl,rfl⟩
end
section
theorem Jp (P:PkM):(El P).N=P.N:=by unfold El;split<;>rfl
theorem QV (P:PkM):(El P).I=P.I:=by unfold El;split<;>rfl
theorem Km {P:PkM} (h:shortP P):shortP (El P):=fun o ho=>by
  unfold El
  split
  · show (if o=7 then (P.S 7).take 140 else P.S o).length≤1100000
    split
    · rw [List.length_take];omega
    · exact h o ho
  · exact h o ho
theorem Oc {P:PkM} (h:wfP P):wfP (El P):=fun o=>by rw [QV];exact h o
theorem LY {P:PkM} (h:wfP P):Be P:=fun o=>by have:=h o;unfold wfI at this;exact this.2
theorem Pe {w:World} {a:Option Addr} {c m:Nat} {qs:List Int} (h:GB w a c qs) (hm:m≤qs.length):GB w a c (qs.take m):=by
  obtain ⟨h1,h2,h3,h4,h5⟩:=h
  have hl:(qs.take m).length=m:=by rw [List.length_take];omega
  refine ⟨by simp,by rw [hl];omega,h3,h4,fun hp=>?_⟩
  obtain ⟨b,off,e,hb,hc⟩:=h5 ω
  refine ⟨b,off,e,hb,fun j u hu=>hc j u ?_⟩
  rw [List.map_take,List.getElem?_take] at hu
  split at hu
  · exact hu
  · cases hu
theorem MB {w:World} {cs:List Ch} {i j g v d p B:Nat} {W:World} {M:MemM} (h:Sep w cs) (hij:i≠j) (hi:cs[i]? = some (AO W B)) (hj:cs[j]? = some (AJ g v d p M)) {b:Nat} (hb:b<B):b≠d:=
  fun q=>h.ap i j _ _ hij hi hj b hb (.inr (.inr (.inl q)))
theorem Lz {w:World} {cs:List Ch} {i j g v d p B:Nat} {W:World} {M:MemM} (h:Sep w cs) (hij:i≠j) (hi:cs[i]? = some (AO W B)) (hj:cs[j]? = some (AV g v d p M)) {b:Nat} (hb:b<B):b≠d∧b≠p:=
  ⟨fun q=>h.ap i j _ _ hij hi hj b hb (.inr (.inr (.inl q))),fun q=>h.ap i j _ _ hij hi hj b hb (.inr (.inr (.inr q)))⟩
theorem Pd {W:World} {a:Option Addr} {c:Nat} {qs:List Int} (h:GB W a c qs):0<qs.length→∀ b,(∃ off,a=some ⟨b,off,none⟩)→b<W.heap.size:=fun hp b hb=>by
  obtain ⟨b',off,e,hlt,_⟩:=h.2.2.2.2 hp
  obtain ⟨off',e'⟩:=hb
  rw [e] at e';cases e';exact hlt
end
section
def Dg (P:PkM) (pa:Option Addr) (n c:Nat) (s r:Bool) (qa:Option Addr) (m qc:Nat):List Value:=pkC P pa n c++[.bool s,.bool r,.slice qa m qc]
theorem Pp {S:List SideM} {i j:Nat} {s:SideM} (h:i≠j):(S.set i s).getD j (Ac 0)=S.getD j (Ac 0):=by rw [List.getD_eq_getElem?_getD,List.getD_eq_getElem?_getD,List.getElem?_set_ne h]
theorem Tk {M M':MemM} {S S':List SideM} {fr fr' b:Bool} {P Q:PkM} (h:doC ⟨M,S,fr⟩ P=(⟨M',S',fr'⟩,Q,b)) (j:Nat) (hj:(j:Int)+1≠P.I 1):S'.getD j (Ac 0)=S.getD j (Ac 0):=by
 have e:(doC ⟨M,S,fr⟩ P).1.S.getD j (Ac 0)=S.getD j (Ac 0):=by
  unfold doC
  split
  ·rfl
  ·rename_i q0
   have hok:=LX (P:=P) ω ω
   have hc:=hok.c
   repeat' split
   all_goals first | rfl | exact Pp ω
 rw [h] at e;exact e
theorem QT {w W:World} {R:List Ch} {g v d p B n:Nat} {M:MemM} {qa:Option Addr} {qc:Nat} {qs:List Int} (hS:Sep w (AJ g v d p M::R)) (hb:Below B W w∧B≤W.heap.size) (hB:B=W.heap.size) (hqs:GB W qa qc qs) (hqo:Ga qs) (ho:∀ b,b<W.heap.size→b≠d) (hn:n=min 200 qs.length) :
  CallsR Tryz.prog 23 #[pG g,.slice qa n qc] w (fun x w'=>∃ y,x=y∧Sep w' (AJ g v d p (DY M (qs.take 200))::R)):=by
 have e:(qs.take 200).length=n:=by rw [List.length_take,hn]
 have e2:qs.take 200=qs.take (min 200 qs.length):=by rw [List.take_eq_take_iff];simp
 have hr:GB w qa qc (qs.take 200):=by rw [e2];exact Pe (Row.mono_of hqs hb hB) (Nat.min_le_right _ _)
 have z:=UO hS hr (fun x hx=>hqo x (List.mem_of_mem_take hx)) (fun h b q=>ho b (Pd hqs (by rw [List.length_take] at h;omega) b q))
 rw [e] at z;exact z
theorem Oa {w W:World} {R:List Ch} {g v d p B n:Nat} {M:MemM} {qa:Option Addr} {qc:Nat} {qs:List Int} (hS:Sep w (AV g v d p M::R)) (hb:Below B W w∧B≤W.heap.size) (hB:B=W.heap.size) (hqs:GB W qa qc qs) (hqo:Ga qs) (ho:∀ b,b<W.heap.size→b≠d∧b≠p) (hn:n=min 200 qs.length) :
  CallsR Tryz.prog 24 #[pG g,.slice qa n qc] w (fun x w'=>∃ y,x=y∧Sep w' (AV g v d p (DY M (qs.take 200))::R)):=by
 have e:(qs.take 200).length=n:=by rw [List.length_take,hn]
 have e2:qs.take 200=qs.take (min 200 qs.length):=by rw [List.take_eq_take_iff];simp
 have hr:GB w qa qc (qs.take 200):=by rw [e2];exact Pe (Row.mono_of hqs hb hB) (Nat.min_le_right _ _)
 have z:=Td hS hr (fun x hx=>hqo x (List.mem_of_mem_take hx)) (fun h b q=>ho b (Pd hqs (by rw [List.length_take] at h;omega) b q))
 rw [e] at z;exact z
end
section
theorem MemR.lasts {w:World} {g v d a:Nat} {M:MemM} (h:MemR w g v d a M) {A N:Nat} (hi:A+N≤M.V.length):BB w (some ⟨d,A,none⟩) (M.V.length-A) ((M.D.drop A).take N):=by
 have hb:=h.2.2.2.2.1
 have hD:=h.1.1
 have hl:((M.D.drop A).take N).length=N:=by rw [List.length_take,List.length_drop];omega
 have z:=Nz hb A N (M.V.length-A) ω (by have:=h.1.2.2.2.2;omega) (by rw [List.length_map];omega)
 show Row w 1 _ ((M.D.drop A).take N).length _ _
 rw [hl,List.map_take,List.map_drop];exact z
end
end Go.Proofs.YtjgajoljgepioaaGreat
