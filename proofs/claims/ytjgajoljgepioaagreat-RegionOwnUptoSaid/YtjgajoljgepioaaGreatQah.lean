/- Parts of the proof. -/
import Derived.Test.YtjgajoljgepioaaGreatQag
namespace Go.Proofs.YtjgajoljgepioaaGreat
open Go.RowKit
set_option linter.unusedSimpArgs false
set_option linter.unusedVariables false
set_option linter.unusedSectionVars false
set_option maxRecDepth 100000
set_option maxHeartbeats 8000000
section
theorem Fv (args:Array Value) (w:World):(callFunc 27 args).run Tryz.prog w=.ok (.enter 27 args) w:=by
 have h:=Tryz.func27
 go_simp
theorem Fw (args:Array Value) (w:World):(callFunc 27 args).run Tryz.prog w=.ok (.enter 27 args) w:=by
 have h:=Tryz.func27
 go_simp
theorem Fx (args:Array Value) (w:World):(callFunc 27 args).run Tryz.prog w=.ok (.enter 27 args) w:=by
 have h:=Tryz.func27
 go_simp
theorem GX (g off:Nat) (w:World):(Instr.fieldAt 79 (.pointer (some ⟨g,off,none⟩)) 0).run Tryz.prog w=.ok (.pointer (some ⟨g,off+0,none⟩)) w:=rfl
theorem IA (g off:Nat) (w:World):(Instr.fieldAt 83 (.pointer (some ⟨g,off,none⟩)) 2).run Tryz.prog w=.ok (.pointer (some ⟨g,off+369,none⟩)) w:=rfl
theorem Fs (args:Array Value) (w:World):(callFunc 28 args).run Tryz.prog w=.ok (.enter 28 args) w:=by
 have h:=Tryz.func28
 go_simp
theorem Ho (args:Array Value) (w:World):(callFunc 29 args).run Tryz.prog w=.ok (.enter 29 args) w:=by
 have h:=Tryz.func29
 go_simp
theorem LM {w:World} {R:List Ch} {cg mg:Nat} {S:List SideM} {fr:Bool} {j:Nat} {c ep:Int} (hS0:Sep w ([Ab cg 83 (An mg S fr)]++R)) (h8:S.length=8) (hj:j<8) (hc:c=(j:Int)+1) :
  CallsR Tryz.prog 25 #[π cg,ν c,ν ep] w (fun v w'=>v=.tuple #[]∧Sep w' ([Ab cg 83 (An mg (S.set j (Ac ep)) fr)]++R)):=by
 have hS:Sep w [Ab cg 83 (An mg S fr),Ch.many R]:=Sep.tail_many (xs:=[_]) hS0;clear hS0
 obtain ⟨s,hs⟩:∃ s,S.getD j (Ac 0)=s:=⟨_,rfl⟩
 refine Cd Tryz.func25 rfl (N:=16) Tryz.ntmps25 (by show 3≤16;decide) [(0,π cg),(1,ν c),(2,ν ep)] rfl fun _ h1=>sqr fun _ hK3=>mvs 2 h1 rfl fun _ h6=>cl h6 rfl Fv (Kf hS hj hc) fun _ v1 w1 r1 h8=>?_
 obtain ⟨rfl,s1⟩:=r1
 refine mv h8 rfl fun _ h2=>h2.sk [6,0,1,2] rfl fun h3=>?_
 clear h8
 refine wpList_nil<|hK3 _ _<|sqr fun _ hK1=>mv h3 rfl fun _ h4=>bv h4 (z:=.bool true) rfl (ST _ υ76 _ _ _) fun _ h5=>h5.sn [11,6,0,1,2] rfl fun h7=>hK1 _ _<|wcT h7 rfl rfl<|h7.sk [6,0,1,2] rfl fun h9=>wp_region_lit<|mvs 2 h9 rfl fun _ h10=>?_
 refine bu h10 (v:=.agg #[ν ep,ν 0,ν 0,ν 0,ν 0,ν 0,ν 0,ν 0,ν 0,σ [],ν 0,ν 0,ν 0,σ [],σ [],ν 0,ν 0,ν 0,ν 0,σ [],ν 0,ν 0,ν 0,ν 0,σ [],.slice none 0 0,ν 0,ν 0,ν 0,ν 0,ν 0,ν 0,ν 0,ν 0,ν 0,ν 0,ν 0,ν 0,ν 0,ν 0,ν 0,ν 0,ν 0,ν 0,ν 0,.bool false]) rfl (fun w=>κ) fun _ h11=>mv h11 rfl fun _ h12=>so (wn rfl) fun _ hK2=>BE h12 rfl rfl s1 0 rfl rfl rfl [ν ep,ν 0,ν 0,ν 0,ν 0,ν 0,ν 0,ν 0,ν 0,σ [],ν 0,ν 0,ν 0,σ [],σ [],ν 0,ν 0,ν 0,ν 0,σ [],ν 0,ν 0,ν 0,ν 0,σ [],.slice none 0 0,ν 0,ν 0,ν 0,ν 0,ν 0,ν 0,ν 0,ν 0,ν 0,ν 0,ν 0,ν 0,ν 0,ν 0,ν 0,ν 0,ν 0,ν 0,ν 0,.bool false] rfl κ (by first | rfl | exact Gv _) (by rw [CY h8];show 1+j*46+0+46≤370;omega) (L':=An mg (S.set j (⟨ep,0,P0z,false⟩:SideM)) fr) (KZ h8 ω (k:=0) (show 0+46≤46 by decide) rfl (s':=(⟨ep,0,P0z,false⟩:SideM)) (by rw [hs];rfl)) (cs':=[Ab cg 83 (An mg (S.set j (⟨ep,0,P0z,false⟩:SideM)) fr),Ch.many R]) rfl fun _ w2 h13 s2 _=>hK2 _ _ ?_
 refine h13.sk [6,0,1,2] rfl fun h14=>wpList_nil ?_
 refine RR (v:=.tuple #[]) (fun _=>Sz rfl _) h14.defs ?_
 exact ⟨rfl,Sep.tail_un (xs:=[_]) s2⟩
theorem Kv {w:World} {R:List Ch} {cg mg:Nat} {S:List SideM} {fr:Bool} {c ep:Int} (hS0:Sep w ([Ab cg 83 (An mg S fr)]++R)) (h8:S.length=8) (hcw:wfI c) (hc:c<1∨8<c) :
  CallsR Tryz.prog 25 #[π cg,ν c,ν ep] w (fun v w'=>v=.tuple #[]∧Sep w' ([Ab cg 83 (An mg S fr)]++R)):=by
 have hS:Sep w [Ab cg 83 (An mg S fr),Ch.many R]:=Sep.tail_many (xs:=[_]) hS0;clear hS0
 refine Cd Tryz.func25 rfl (N:=16) Tryz.ntmps25 (by show 3≤16;decide) [(0,π cg),(1,ν c),(2,ν ep)] rfl fun _ h1=>sqr fun _ hK3=>mvs 2 h1 rfl fun _ h6=>cl h6 rfl Fw (QG hS hcw hc) fun _ v1 w1 r1 h8=>?_
 obtain ⟨rfl,s1⟩:=r1
 refine mv h8 rfl fun _ h2=>h2.sk [6,0,1,2] rfl fun h3=>?_
 clear h8
 refine wpList_nil<|hK3 _ _<|sqr fun _ hK1=>mv h3 rfl fun _ h4=>bv h4 (z:=.bool false) rfl (ST _ υ76 _ _ _) fun _ h5=>h5.sn [11,6,0,1,2] rfl fun h7=>hK1 _ _<|wcF h7 rfl rfl<|h7.sk [6,0,1,2] rfl fun h9=>wp_skip ?_
 refine RR (v:=.tuple #[]) (fun _=>Sz rfl _) h9.defs ?_
 exact ⟨rfl,Sep.tail_un (xs:=[_]) s1⟩
theorem US {w:World} {R:List Ch} {cg mg:Nat} {S:List SideM} {fr:Bool} {j:Nat} {c:Int} (hS0:Sep w ([Ab cg 83 (An mg S fr)]++R)) (h8:S.length=8) (hj:j<8) (hc:c=(j:Int)+1) :
  CallsR Tryz.prog 10 #[π cg,ν c] w (fun v w'=>v=ν (S.getD j (Ac 0)).ep∧Sep w' ([Ab cg 83 (An mg S fr)]++R)):=by
 have hS:Sep w [Ab cg 83 (An mg S fr),Ch.many R]:=Sep.tail_many (xs:=[_]) hS0;clear hS0
 obtain ⟨s,hs⟩:∃ s,S.getD j (Ac 0)=s:=⟨_,rfl⟩
 refine Cd Tryz.func10 rfl (N:=15) Tryz.ntmps10 (by show 2≤15;decide) [(0,π cg),(1,ν c)] rfl fun _ h1=>sqr fun _ hK3=>mv h1 rfl fun _ h4=>wpList_nil<|hK3 _ _<|sq fun _ hK6=>sqr fun _ hK7=>mv h4 rfl fun _ h8=>mv h8 rfl fun _ h2=>cl h2 rfl Fx (Kf hS hj hc) fun _ v1 w1 r1 h3=>?_
 obtain ⟨rfl,s1⟩:=r1
 refine mv h3 rfl fun _ h5=>h5.sk [5,4,0,1] rfl fun h6=>?_
 clear h8
 refine wpList_nil<|hK7 _ _<|sqr fun _ hK1=>mv h6 rfl fun _ h7=>bv h7 (z:=.bool true) rfl (ST _ υ76 _ _ _) fun _ h9=>h9.sn [10,5,4,0,1] rfl fun h10=>hK1 _ _<|wcT h10 rfl rfl<|h10.sk [5,4,0,1] rfl fun h11=>sqr fun _ hK2=>mvs 2 h11 rfl fun _ h12=>?_
 refine sv1 h12 rfl (v:=.pointer (some ⟨cg,1+j*46+0,none⟩)) (rfa h12 rfl rfl (fun w=>GX cg (1+j*46) w)) fun _ h13=>sw1 h13 rfl (v:=ν s.ep) (rld h13 rfl rfl (ldB υ3 rfl (s1.get 0 rfl:Blk _ _ _ _) ((FJ h8 ω (k:=0) (by decide) rfl).trans (by rw [hs];rfl)))) fun _ h14=>h14.sk [14,13,12,11,5,0,1] rfl fun h15=>mv h15 rfl fun _ h16=>h16.sn [4,5,0,1] rfl fun h17=>hK2 _ _<|wp_ret ?_
 try simp only [Exit.then,Exit.inBlock]
 refine CO (v:=.int .i64 s.ep) (CN h17 rfl rfl) h17.defs ?_
 exact ⟨by rw [hs],Sep.tail_un (xs:=[_]) s1⟩
theorem Nd {w:World} {R:List Ch} {cg mg:Nat} {S:List SideM} {fr:Bool} (hS0:Sep w ([Ab cg 83 (An mg S fr)]++R)) (h8:S.length=8) :
  CallsR Tryz.prog 19 #[π cg] w (fun v w'=>v=.bool fr∧Sep w' ([Ab cg 83 (An mg S fr)]++R)):=by
 have hS:Sep w [Ab cg 83 (An mg S fr),Ch.many R]:=Sep.tail_many (xs:=[_]) hS0;clear hS0
 refine Cd Tryz.func19 rfl (N:=7) Tryz.ntmps19 (by show 1≤7;decide) [(0,π cg)] rfl fun _ h1=>sqr fun _ hK3=>mv h1 rfl fun _ h4=>wpList_nil<|hK3 _ _<|sqr fun _ hK6=>mvs 2 h4 rfl fun _ h9=>fav h9 rfl (IA _ _) fun _ h2=>sw1 h2 rfl (v:=.bool fr) (rld h2 rfl rfl (ldB υ4 rfl (hS.get 0 rfl:Blk _ _ _ _) (MZ h8))) fun _ h3=>h3.sk [6,5,4,3,0] rfl fun h5=>mv h5 rfl fun _ h6=>?_
 refine h6.sn [2,0] rfl fun h7=>hK6 _ _<|wp_ret ?_
 try simp only [Exit.then,Exit.inBlock]
 refine CO (v:=.bool fr) (CN h7 rfl rfl) h7.defs ?_
 exact ⟨rfl,Sep.tail_un (xs:=[_]) hS⟩
theorem TR {w:World} {R:List Ch} {mg mb md mp:Nat} {M:MemM} (hS0:Sep w ([AJ mg mb md mp M]++R)) (hM:M.V.length=23168) :
  CallsR Tryz.prog 11 #[π mg] w (fun v w'=>∃ cg,v=π cg∧Sep w' ([Ab cg 83 (An mg (List.replicate 8 (Ac 0)) false),AJ mg mb md mp M]++R)):=by
 have hS:Sep w [AJ mg mb md mp M,Ch.many R]:=Sep.tail_many (xs:=[_]) hS0;clear hS0
 have hMo:=(hS.get 0 rfl:MemP _ _ _ _ _ _).1.2.2.2.2
 refine Cd Tryz.func11 rfl (N:=14) Tryz.ntmps11 (by show 1≤14;decide) [(0,π mg)] rfl fun _ h1=>sqr fun _ hK3=>mv h1 rfl fun _ h4=>wpList_nil<|hK3 _ _<|sq fun _ hK6=>sqr fun _ hK7=>mv h4 rfl fun _ h8=>bv h8 (z:=.bool false) rfl (SU _ υ50 _ _ _) fun _ h2=>mv h2 rfl fun _ h3=>sv h3 (wF h3 (E:=false) rfl rfl rfl) rfl rfl rfl (v:=π mg) (Aj h3 rfl rfl) fun _ h5=>so (wF h5 (E:=false) rfl rfl rfl) fun _ hK1=>Bo h5 rfl rfl rfl (xs:=[.tmp 6]) rfl Fs rfl (vs:=[π mg]) rfl (args:=#[π mg]) rfl (WA hS) fun _ v1 w1 r1 h6=>hK1 _ _ ?_
 obtain ⟨rfl,s1⟩:=r1
 refine so (wF h6 (E:=false) rfl rfl rfl) fun _ hK2=>Bo h6 rfl rfl rfl (xs:=[]) rfl Ho rfl (vs:=[]) rfl (args:=#[]) rfl (Er s1 (SE _)) fun _ v2 w2 r2 h7=>hK2 _ _ ?_
 obtain ⟨rfl,s2⟩:=r2
 refine sv h7 (wF h7 (E:=false) rfl rfl rfl) rfl rfl rfl (v:=.bool false) (Cy h7 rfl rfl rfl (cNe _ _ _ _ (decide_eq_false ω))) fun _ h9=>sv1 h9 rfl (v:=.bool false) (CX h9 rfl rfl rfl) fun _ h10=>h10.sn [10,2,0] rfl fun h11=>hK7 _ _<|wcF h11 rfl rfl<|h11.sk [2,0] rfl fun h12=>wp_skip<|hK6 _ _<|sqr fun _ hK4=>mv h12 rfl fun _ h13=>bu h13 (v:=.agg #[π mg,ν 0,ν 0,ν 0,ν 0,ν 0,ν 0,ν 0,ν 0,ν 0,σ [],ν 0,ν 0,ν 0,σ [],σ [],ν 0,ν 0,ν 0,ν 0,σ [],ν 0,ν 0,ν 0,ν 0,σ [],.slice none 0 0,ν 0,ν 0,ν 0,ν 0,ν 0,ν 0,ν 0,ν 0,ν 0,ν 0,ν 0,ν 0,ν 0,ν 0,ν 0,ν 0,ν 0,ν 0,ν 0,.bool false,ν 0,ν 0,ν 0,ν 0,ν 0,ν 0,ν 0,ν 0,ν 0,σ [],ν 0,ν 0,ν 0,σ [],σ [],ν 0,ν 0,ν 0,ν 0,σ [],ν 0,ν 0,ν 0,ν 0,σ [],.slice none 0 0,ν 0,ν 0,ν 0,ν 0,ν 0,ν 0,ν 0,ν 0,ν 0,ν 0,ν 0,ν 0,ν 0,ν 0,ν 0,ν 0,ν 0,ν 0,ν 0,.bool false,ν 0,ν 0,ν 0,ν 0,ν 0,ν 0,ν 0,ν 0,ν 0,σ [],ν 0,ν 0,ν 0,σ [],σ [],ν 0,ν 0,ν 0,ν 0,σ [],ν 0,ν 0,ν 0,ν 0,σ [],.slice none 0 0,ν 0,ν 0,ν 0,ν 0,ν 0,ν 0,ν 0,ν 0,ν 0,ν 0,ν 0,ν 0,ν 0,ν 0,ν 0,ν 0,ν 0,ν 0,ν 0,.bool false,ν 0,ν 0,ν 0,ν 0,ν 0,ν 0,ν 0,ν 0,ν 0,σ [],ν 0,ν 0,ν 0,σ [],σ [],ν 0,ν 0,ν 0,ν 0,σ [],ν 0,ν 0,ν 0,ν 0,σ [],.slice none 0 0,ν 0,ν 0,ν 0,ν 0,ν 0,ν 0,ν 0,ν 0,ν 0,ν 0,ν 0,ν 0,ν 0,ν 0,ν 0,ν 0,ν 0,ν 0,ν 0,.bool false,ν 0,ν 0,ν 0,ν 0,ν 0,ν 0,ν 0,ν 0,ν 0,σ [],ν 0,ν 0,ν 0,σ [],σ [],ν 0,ν 0,ν 0,ν 0,σ [],ν 0,ν 0,ν 0,ν 0,σ [],.slice none 0 0,ν 0,ν 0,ν 0,ν 0,ν 0,ν 0,ν 0,ν 0,ν 0,ν 0,ν 0,ν 0,ν 0,ν 0,ν 0,ν 0,ν 0,ν 0,ν 0,.bool false,ν 0,ν 0,ν 0,ν 0,ν 0,ν 0,ν 0,ν 0,ν 0,σ [],ν 0,ν 0,ν 0,σ [],σ [],ν 0,ν 0,ν 0,ν 0,σ [],ν 0,ν 0,ν 0,ν 0,σ [],.slice none 0 0,ν 0,ν 0,ν 0,ν 0,ν 0,ν 0,ν 0,ν 0,ν 0,ν 0,ν 0,ν 0,ν 0,ν 0,ν 0,ν 0,ν 0,ν 0,ν 0,.bool false,ν 0,ν 0,ν 0,ν 0,ν 0,ν 0,ν 0,ν 0,ν 0,σ [],ν 0,ν 0,ν 0,σ [],σ [],ν 0,ν 0,ν 0,ν 0,σ [],ν 0,ν 0,ν 0,ν 0,σ [],.slice none 0 0,ν 0,ν 0,ν 0,ν 0,ν 0,ν 0,ν 0,ν 0,ν 0,ν 0,ν 0,ν 0,ν 0,ν 0,ν 0,ν 0,ν 0,ν 0,ν 0,.bool false,ν 0,ν 0,ν 0,ν 0,ν 0,ν 0,ν 0,ν 0,ν 0,σ [],ν 0,ν 0,ν 0,σ [],σ [],ν 0,ν 0,ν 0,ν 0,σ [],ν 0,ν 0,ν 0,ν 0,σ [],.slice none 0 0,ν 0,ν 0,ν 0,ν 0,ν 0,ν 0,ν 0,ν 0,ν 0,ν 0,ν 0,ν 0,ν 0,ν 0,ν 0,ν 0,ν 0,ν 0,ν 0,.bool false,.bool false]) rfl (fun w=>κ) fun _ h14=>?_
 refine so (wn rfl) fun _ hK5=>Jk h14 rfl rfl rfl rfl rfl (z:=[π mg,ν 0,ν 0,ν 0,ν 0,ν 0,ν 0,ν 0,ν 0,ν 0,σ [],ν 0,ν 0,ν 0,σ [],σ [],ν 0,ν 0,ν 0,ν 0,σ [],ν 0,ν 0,ν 0,ν 0,σ [],.slice none 0 0,ν 0,ν 0,ν 0,ν 0,ν 0,ν 0,ν 0,ν 0,ν 0,ν 0,ν 0,ν 0,ν 0,ν 0,ν 0,ν 0,ν 0,ν 0,ν 0,.bool false,ν 0,ν 0,ν 0,ν 0,ν 0,ν 0,ν 0,ν 0,ν 0,σ [],ν 0,ν 0,ν 0,σ [],σ [],ν 0,ν 0,ν 0,ν 0,σ [],ν 0,ν 0,ν 0,ν 0,σ [],.slice none 0 0,ν 0,ν 0,ν 0,ν 0,ν 0,ν 0,ν 0,ν 0,ν 0,ν 0,ν 0,ν 0,ν 0,ν 0,ν 0,ν 0,ν 0,ν 0,ν 0,.bool false,ν 0,ν 0,ν 0,ν 0,ν 0,ν 0,ν 0,ν 0,ν 0,σ [],ν 0,ν 0,ν 0,σ [],σ [],ν 0,ν 0,ν 0,ν 0,σ [],ν 0,ν 0,ν 0,ν 0,σ [],.slice none 0 0,ν 0,ν 0,ν 0,ν 0,ν 0,ν 0,ν 0,ν 0,ν 0,ν 0,ν 0,ν 0,ν 0,ν 0,ν 0,ν 0,ν 0,ν 0,ν 0,.bool false,ν 0,ν 0,ν 0,ν 0,ν 0,ν 0,ν 0,ν 0,ν 0,σ [],ν 0,ν 0,ν 0,σ [],σ [],ν 0,ν 0,ν 0,ν 0,σ [],ν 0,ν 0,ν 0,ν 0,σ [],.slice none 0 0,ν 0,ν 0,ν 0,ν 0,ν 0,ν 0,ν 0,ν 0,ν 0,ν 0,ν 0,ν 0,ν 0,ν 0,ν 0,ν 0,ν 0,ν 0,ν 0,.bool false,ν 0,ν 0,ν 0,ν 0,ν 0,ν 0,ν 0,ν 0,ν 0,σ [],ν 0,ν 0,ν 0,σ [],σ [],ν 0,ν 0,ν 0,ν 0,σ [],ν 0,ν 0,ν 0,ν 0,σ [],.slice none 0 0,ν 0,ν 0,ν 0,ν 0,ν 0,ν 0,ν 0,ν 0,ν 0,ν 0,ν 0,ν 0,ν 0,ν 0,ν 0,ν 0,ν 0,ν 0,ν 0,.bool false,ν 0,ν 0,ν 0,ν 0,ν 0,ν 0,ν 0,ν 0,ν 0,σ [],ν 0,ν 0,ν 0,σ [],σ [],ν 0,ν 0,ν 0,ν 0,σ [],ν 0,ν 0,ν 0,ν 0,σ [],.slice none 0 0,ν 0,ν 0,ν 0,ν 0,ν 0,ν 0,ν 0,ν 0,ν 0,ν 0,ν 0,ν 0,ν 0,ν 0,ν 0,ν 0,ν 0,ν 0,ν 0,.bool false,ν 0,ν 0,ν 0,ν 0,ν 0,ν 0,ν 0,ν 0,ν 0,σ [],ν 0,ν 0,ν 0,σ [],σ [],ν 0,ν 0,ν 0,ν 0,σ [],ν 0,ν 0,ν 0,ν 0,σ [],.slice none 0 0,ν 0,ν 0,ν 0,ν 0,ν 0,ν 0,ν 0,ν 0,ν 0,ν 0,ν 0,ν 0,ν 0,ν 0,ν 0,ν 0,ν 0,ν 0,ν 0,.bool false,ν 0,ν 0,ν 0,ν 0,ν 0,ν 0,ν 0,ν 0,ν 0,σ [],ν 0,ν 0,ν 0,σ [],σ [],ν 0,ν 0,ν 0,ν 0,σ [],ν 0,ν 0,ν 0,ν 0,σ [],.slice none 0 0,ν 0,ν 0,ν 0,ν 0,ν 0,ν 0,ν 0,ν 0,ν 0,ν 0,ν 0,ν 0,ν 0,ν 0,ν 0,ν 0,ν 0,ν 0,ν 0,.bool false,.bool false]) rfl s2 fun _ g1 w3 h15 s3 _ _=>hK5 _ _ ?_
 refine h15.sk [13,12,11,0] rfl fun h16=>mv h16 rfl fun _ h17=>h17.sn [2,0] rfl fun h18=>hK4 _ _<|wp_ret ?_
 try simp only [Exit.then,Exit.inBlock]
 refine CO (v:=π g1) (CN h18 rfl rfl) h18.defs ?_
 exact ⟨g1,rfl,Sep.tail_un (xs:=[_,_]) s3⟩
end
section
def Dn (c at_ n:Int):Bool:=decide (0<n)&&CJ c at_ n
def TP (c at_ n:Int):Bool:=CJ c at_ n||(match ofP at_ with
 | some q=>decide (q.k=7)&&inF q at_ n
 | none=>false)
def Ka (c at_ n:Int):Bool:=decide (1≤n∧n≤64)&&TP c at_ n
theorem Nl (P:PkM):Ju P=TP (P.I 1) (P.I 5) (P.I 6):=rfl
def KOf (t:Int) (q:PartT):Prop:=ofP t=some q∨(ofP t=none∧q.k=0)
theorem VS {w:World} {R:List Ch} {t:Int} (hS:Sep w R) (ht:wfI t):CallsR Tryz.prog 63 #[ν t] w (fun v w'=>∃ q:PartT,v=.tuple #[ν q.k,ν q.n]∧Sep w' R∧KOf t q):=by
 have z:=Sy t w ht
 refine Calls.mono z fun e w' ⟨e1,e2⟩=>?_
 subst e2
 cases h:ofP t with
 | none=>rw [h] at e1;exact ⟨_,e1,⟨0,0,0,0⟩,rfl,hS,.inr ⟨h,rfl⟩⟩
 | some q=>rw [h] at e1;exact ⟨_,e1,q,rfl,hS,.inl h⟩
theorem Wn {c t n:Int} {q1 q2:PartT} (hc:1≤c∧c≤8) (h1:1≤n) (h2:n≤64) (k1:KOf t q1) (k2:KOf (t+n-1) q2) :
  (Dn c t n||((decide (q1.k=7)&&decide (q2.k=7))&&decide (q1.n=q2.n)))=Ka c t n:=by
 unfold Ka TP Dn
 rw [decide_eq_true (show 1≤n∧n≤64 from ⟨h1,h2⟩),decide_eq_true (ω:0<n),Bool.true_and,Bool.true_and]
 congr 1
 rcases k1 with k1 | ⟨k1,e1⟩
 ·rw [k1]
  show _=(decide (q1.k=7)&&inF q1 t n)
  by_cases hk:q1.k=7
  ·rw [decide_eq_true hk,Bool.true_and,Bool.true_and]
   obtain ⟨m1,i1⟩:=Ha k1
   have i1':=i1;unfold inF at i1';have i1':=dT i1'
   apply Bool.eq_iff_iff.2
   constructor
   ·intro h
    have hk2:=dT (Bool.and_eq_true _ _ ▸ h).1
    have hn2:=dT (Bool.and_eq_true _ _ ▸ h).2
    rcases k2 with k2 | ⟨_,e2⟩
    ·obtain ⟨m2,i2⟩:=Ha k2
     have e:=LC m1 m2 ω hn2
     subst e
     unfold inF at i2 ⊢;have i2:=dT i2
     exact decide_eq_true ω
    ·omega
   ·intro h
    unfold inF at h;have h:=dT h
    have z:=EG m1 (at_:=t+n-1) (by unfold inF;exact decide_eq_true ω)
    rcases k2 with k2 | ⟨k2,_⟩
    ·rw [z] at k2;cases k2;simp [hk]
    ·rw [z] at k2;cases k2
  ·rw [decide_eq_false hk];simp
 ·rw [k1,decide_eq_false (ω:¬ q1.k=7)];simp
theorem Ei (args:Array Value) (w:World):(callFunc 63 args).run Tryz.prog w=.ok (.enter 63 args) w:=by
 have h:=Tryz.func63
 go_simp
theorem GJ (args:Array Value) (w:World):(callFunc 41 args).run Tryz.prog w=.ok (.enter 41 args) w:=by
 have h:=Tryz.func41
 go_simp
theorem Hb {w:World} {R:List Ch} {c t n:Int} (hS0:Sep w R) (hc:1≤c∧c≤8) (ha:0≤t∧t≤4294967296) (hn:0≤n∧n≤4294967296) :
  CallsR Tryz.prog 41 #[ν c,ν t,ν n] w (fun v w'=>v=.bool (Dn c t n)∧Sep w' R):=by
 have hS:Sep w [Ch.many R]:=Sep.tail_many (xs:=[]) hS0;clear hS0
 refine Cd Tryz.func41 rfl (N:=31) Tryz.ntmps41 (by show 3≤31;decide) [(0,ν c),(1,ν t),(2,ν n)] rfl fun _ h1=>sqr fun _ hK3=>mv h1 rfl fun _ h4=>wpList_nil<|hK3 _ _<|sqr fun _ hK6=>mv h4 rfl fun _ h7=>bv h7 (z:=ν (c-1)) rfl (MX _ _ _ ω ω ω) fun _ h9=>bv h9 (z:=ν (1024*(c-1))) rfl (WF _ _ _ ω ω ω) fun _ h2=>bv h2 (z:=ν (6784+1024*(c-1))) rfl (Kx _ _ _ ω ω ω) fun _ h3=>mv h3 rfl fun _ h5=>?_
 refine h5.sn [7,6,0,1,2] rfl fun h6=>hK6 _ _<|sqr fun _ hK1=>mv h6 rfl fun _ h8=>bv h8 (z:=.bool (decide (n>0))) rfl (cGt _ _ _ _ rfl) fun _ h10=>mv h10 rfl fun _ h11=>sg h11 (wT h11 rfl rfl rfl) rfl rfl rfl (v:=ν n) (fun hC1=>by have hq:=(dT hC1);exact Aj h11 rfl rfl _) fun _ h12=>sg h12 (wT h12 rfl rfl rfl) rfl rfl rfl (v:=.bool (decide (n≤1024))) (fun hC2=>by have hq:=(dT hC2);exact Cy h12 rfl (opg rfl hC2) rfl (cLe _ _ _ _ rfl) _) fun _ h13=>sv1 h13 rfl (v:=.bool ((decide (n>0))&&(decide (n≤1024)))) (Ib h13 rfl (E:=(decide (n>0))) (F:=(decide (n≤1024))) rfl rfl rfl (fun e=>if_pos (by rw [e];try rfl))) fun _ h14=>mv h14 rfl fun _ h15=>?_
 refine sg h15 (wT h15 rfl rfl rfl) rfl rfl rfl (v:=ν t) (fun hC3=>by have hq:=(And.intro (dT (AQ hC3).1) (dT (AQ hC3).2));exact Aj h15 rfl rfl _) fun _ h16=>sg h16 (wT h16 rfl rfl rfl) rfl rfl rfl (v:=ν (6784+1024*(c-1))) (fun hC4=>by have hq:=(And.intro (dT (AQ hC4).1) (dT (AQ hC4).2));exact Aj h16 rfl rfl _) fun _ h17=>sg h17 (wT h17 rfl rfl rfl) rfl rfl rfl (v:=.bool (decide (t≥6784+1024*(c-1)))) (fun hC5=>by have hq:=(And.intro (dT (AQ hC5).1) (dT (AQ hC5).2));exact Cy h17 rfl (opg rfl hC5) (opg rfl hC5) (cGe _ _ _ _ rfl) _) fun _ h18=>sv1 h18 rfl (v:=.bool (((decide (n>0))&&(decide (n≤1024)))&&(decide (t≥6784+1024*(c-1))))) (Ib h18 rfl (E:=((decide (n>0))&&(decide (n≤1024)))) (F:=(decide (t≥6784+1024*(c-1)))) rfl rfl rfl (fun e=>if_pos (by rw [e];try rfl))) fun _ h19=>mv h19 rfl fun _ h20=>sg h20 (wT h20 rfl rfl rfl) rfl rfl rfl (v:=ν t) (fun hC6=>by have hq:=(And.intro (And.intro (dT (AQ (AQ hC6).1).1) (dT (AQ (AQ hC6).1).2)) (dT (AQ hC6).2));exact Aj h20 rfl rfl _) fun _ h21=>sg h21 (wT h21 rfl rfl rfl) rfl rfl rfl (v:=ν n) (fun hC7=>by have hq:=(And.intro (And.intro (dT (AQ (AQ hC7).1).1) (dT (AQ (AQ hC7).1).2)) (dT (AQ hC7).2));exact Aj h21 rfl rfl _) fun _ h22=>sg h22 (wT h22 rfl rfl rfl) rfl rfl rfl (v:=ν (t+n)) (fun hC8=>by have hq:=(And.intro (And.intro (dT (AQ (AQ hC8).1).1) (dT (AQ (AQ hC8).1).2)) (dT (AQ hC8).2));exact Cy h22 rfl (opg rfl hC8) (opg rfl hC8) (Kx _ _ _ ω ω ω) _) fun _ h23=>sg h23 (wT h23 rfl rfl rfl) rfl rfl rfl (v:=ν (6784+1024*(c-1))) (fun hC9=>by have hq:=(And.intro (And.intro (dT (AQ (AQ hC9).1).1) (dT (AQ (AQ hC9).1).2)) (dT (AQ hC9).2));exact Aj h23 rfl rfl _) fun _ h24=>sg h24 (wT h24 rfl rfl rfl) rfl rfl rfl (v:=ν (6784+1024*(c-1)+1024)) (fun hC10=>by have hq:=(And.intro (And.intro (dT (AQ (AQ hC10).1).1) (dT (AQ (AQ hC10).1).2)) (dT (AQ hC10).2));exact Cy h24 rfl (opg rfl hC10) rfl (Kx _ _ _ ω ω ω) _) fun _ h25=>?_
 refine sg h25 (wT h25 rfl rfl rfl) rfl rfl rfl (v:=.bool (decide (t+n≤6784+1024*(c-1)+1024))) (fun hC11=>by have hq:=(And.intro (And.intro (dT (AQ (AQ hC11).1).1) (dT (AQ (AQ hC11).1).2)) (dT (AQ hC11).2));exact Cy h25 rfl (opg rfl hC11) (opg rfl hC11) (cLe _ _ _ _ rfl) _) fun _ h26=>sv1 h26 rfl (v:=.bool ((((decide (n>0))&&(decide (n≤1024)))&&(decide (t≥6784+1024*(c-1))))&&(decide (t+n≤6784+1024*(c-1)+1024)))) (Ib h26 rfl (E:=(((decide (n>0))&&(decide (n≤1024)))&&(decide (t≥6784+1024*(c-1))))) (F:=(decide (t+n≤6784+1024*(c-1)+1024))) rfl rfl rfl (fun e=>if_pos (by rw [e];try rfl))) fun _ h27=>h27.sk [30,29,28,27,26,25,24,23,22,21,20,19,18,17,16,15,14,13,12,7,0,1,2] rfl fun h28=>mv h28 rfl fun _ h29=>h29.sn [6,7,0,1,2] rfl fun h30=>hK1 _ _<|wp_ret ?_
 try simp only [Exit.then,Exit.inBlock]
 refine CO (v:=.bool ((((decide (n>0))&&(decide (n≤1024)))&&(decide (t≥6784+1024*(c-1))))&&(decide (t+n≤6784+1024*(c-1)+1024)))) (CN h30 rfl rfl) h30.defs ?_
 exact ⟨congrArg Value.bool (by unfold Dn CJ inF;exact Bool.eq_iff_iff.2 (by simp;omega)),Sep.tail_un (xs:=[]) hS⟩
theorem Rf {w:World} {R:List Ch} {c t n:Int} (hS0:Sep w R) (hc:1≤c∧c≤8) (ha:0≤t∧t≤4294967296) (hn:0≤n∧n≤4294967296) :
  CallsR Tryz.prog 43 #[ν c,ν t,ν n] w (fun v w'=>v=.bool (Ka c t n)∧Sep w' R):=by
 have hS:Sep w [Ch.many R]:=Sep.tail_many (xs:=[]) hS0;clear hS0
 refine Cd Tryz.func43 rfl (N:=49) Tryz.ntmps43 (by show 3≤49;decide) [(0,ν c),(1,ν t),(2,ν n)] rfl fun _ h1=>sqr fun _ hK3=>mv h1 rfl fun _ h4=>wpList_nil<|hK3 _ _<|sq fun _ hK6=>sqr fun _ hK7=>mv h4 rfl fun _ h8=>bv h8 (z:=.bool (decide (n<1))) rfl (cLt _ _ _ _ rfl) fun _ h2=>mv h2 rfl fun _ h3=>sg h3 (wF h3 rfl rfl rfl) rfl rfl rfl (v:=ν n) (fun hC1=>by have hq:=(dF (CE hC1));exact Aj h3 rfl rfl _) fun _ h5=>sg h5 (wF h5 rfl rfl rfl) rfl rfl rfl (v:=.bool (decide (n>64))) (fun hC2=>by have hq:=(dF (CE hC2));exact Cy h5 rfl (opg rfl hC2) rfl (cGt _ _ _ _ rfl) _) fun _ h6=>?_
 refine sv1 h6 rfl (v:=.bool ((decide (n<1))||(decide (n>64)))) (Jf h6 rfl (E:=(decide (n<1))) (F:=(decide (n>64))) rfl rfl rfl (fun e=>if_pos (by rw [e];try rfl))) fun _ h7=>h7.sn [17,6,0,1,2] rfl fun h9=>hK7 _ _ ?_
 rcases bC ((decide (n<1))||(decide (n>64))) with hc1 | hc1
 ·skip
  have hp1:(n<1)∨(n>64):=((orT hc1).imp (fun q=>(dT q)) (fun q=>(dT q)))
  refine wcT h9 rfl hc1<|h9.sk [6,0,1,2] rfl fun h10=>sqr fun _ hK1=>h10.sk [0,1,2] rfl fun h11=>mv h11 rfl fun _ h12=>wpList_nil<|hK1 _ _<|wp_ret ?_
  try simp only [Exit.then,Exit.inBlock]
  refine CO (v:=.bool false) (CN h12 rfl rfl) h12.defs ?_
  exact ⟨congrArg Value.bool (by unfold Ka;rw [decide_eq_false ω];rfl),Sep.tail_un (xs:=[]) hS⟩
 ·skip
  have hp2:(¬ (n<1))∧(¬ (n>64)):=(And.intro (dF (orF hc1).1) (dF (orF hc1).2))
  refine wcF h9 rfl hc1<|h9.sk [6,0,1,2] rfl fun h13=>wp_skip<|hK6 _ _<|sqr fun _ hK2=>mv h13 rfl fun _ h14=>cl h14 rfl Ei (VS hS (by unfold wfI;omega)) fun _ v1 w1 r1 h15=>?_
  obtain ⟨qx35,rfl,s1,hq1⟩:=r1
  refine mvs 5 h15 rfl fun _ h16=>h16.sn [8,7,6,0,1,2] rfl fun h17=>hK2 _ _<|sqr fun _ hK4=>mvs 2 h17 rfl fun _ h18=>bv h18 (z:=ν (t+n)) rfl (Kx _ _ _ ω ω ω) fun _ h19=>bv h19 (z:=ν (t+n-1)) rfl (MX _ _ _ ω ω ω) fun _ h20=>cl h20 rfl Ei (VS s1 (by unfold wfI;omega)) fun _ v2 w2 r2 h21=>?_
  obtain ⟨qx63,rfl,s2,hq2⟩:=r2
  refine mvs 5 h21 rfl fun _ h22=>h22.sn [10,9,8,7,6,0,1,2] rfl fun h23=>hK4 _ _<|sqr fun _ hK5=>mvs 3 h23 rfl fun _ h24=>cl h24 rfl GJ (Hb s2 hc ha hn) fun _ v3 w3 r3 h25=>?_
  obtain ⟨rfl,s3⟩:=r3
  refine mv h25 rfl fun _ h26=>h26.sn [11,10,9,8,7,6,0,1,2] rfl fun h27=>hK5 _ _<|sqr fun _ hK8=>mvs 2 h27 rfl fun _ h28=>sg h28 (wF h28 rfl rfl rfl) rfl rfl rfl (v:=ν qx35.k) (fun hC3=>by have hq:=(CE hC3);exact Aj h28 rfl rfl _) fun _ h29=>sg h29 (wF h29 rfl rfl rfl) rfl rfl rfl (v:=.bool (decide (qx35.k=7))) (fun hC4=>by have hq:=(CE hC4);exact Cy h29 rfl (opg rfl hC4) rfl (cEq _ _ _ _ rfl) _) fun _ h30=>sg h30 (wF h30 rfl rfl rfl) rfl rfl rfl (v:=.bool (decide (qx35.k=7))) (fun hC5=>by have hq:=(CE hC5);exact Aj h30 rfl (opg rfl hC5) _) fun _ h31=>sg h31 (wnT h31 rfl rfl rfl) rfl rfl rfl (v:=ν qx63.k) (fun hC6=>by have hq:=(And.intro (CE (AQ hC6).1) (dT (AQ hC6).2));exact Aj h31 rfl rfl _) fun _ h32=>sg h32 (wnT h32 rfl rfl rfl) rfl rfl rfl (v:=.bool (decide (qx63.k=7))) (fun hC7=>by have hq:=(And.intro (CE (AQ hC7).1) (dT (AQ hC7).2));exact Cy h32 rfl (opg rfl hC7) rfl (cEq _ _ _ _ rfl) _) fun _ h33=>?_
  refine sg h33 (wF h33 rfl rfl rfl) rfl rfl rfl (v:=.bool ((decide (qx35.k=7))&&(decide (qx63.k=7)))) (fun hC8=>by have hq:=(CE hC8);exact Ib h33 rfl (E:=(decide (qx35.k=7))) (F:=(decide (qx63.k=7))) (opg rfl hC8) rfl rfl (fun e=>if_pos (by rw [hC8,e];try rfl)) _) fun _ h34=>sg h34 (wF h34 rfl rfl rfl) rfl rfl rfl (v:=.bool ((decide (qx35.k=7))&&(decide (qx63.k=7)))) (fun hC9=>by have hq:=(CE hC9);exact Aj h34 rfl (opg rfl hC9) _) fun _ h35=>sg h35 (wnT h35 rfl rfl rfl) rfl rfl rfl (v:=ν qx35.n) (fun hC10=>by have hq:=(And.intro (CE (AQ hC10).1) (And.intro (dT (AQ (AQ hC10).2).1) (dT (AQ (AQ hC10).2).2)));exact Aj h35 rfl rfl _) fun _ h36=>sg h36 (wnT h36 rfl rfl rfl) rfl rfl rfl (v:=ν qx63.n) (fun hC11=>by have hq:=(And.intro (CE (AQ hC11).1) (And.intro (dT (AQ (AQ hC11).2).1) (dT (AQ (AQ hC11).2).2)));exact Aj h36 rfl rfl _) fun _ h37=>sg h37 (wnT h37 rfl rfl rfl) rfl rfl rfl (v:=.bool (decide (qx35.n=qx63.n))) (fun hC12=>by have hq:=(And.intro (CE (AQ hC12).1) (And.intro (dT (AQ (AQ hC12).2).1) (dT (AQ (AQ hC12).2).2)));exact Cy h37 rfl (opg rfl hC12) (opg rfl hC12) (cEq _ _ _ _ rfl) _) fun _ h38=>sg h38 (wF h38 rfl rfl rfl) rfl rfl rfl (v:=.bool (((decide (qx35.k=7))&&(decide (qx63.k=7)))&&(decide (qx35.n=qx63.n)))) (fun hC13=>by have hq:=(CE hC13);exact Ib h38 rfl (E:=((decide (qx35.k=7))&&(decide (qx63.k=7)))) (F:=(decide (qx35.n=qx63.n))) (opg rfl hC13) rfl rfl (fun e=>if_pos (by rw [hC13,e];try rfl)) _) fun _ h39=>sv1 h39 rfl (v:=.bool ((Dn c t n)||(((decide (qx35.k=7))&&(decide (qx63.k=7)))&&(decide (qx35.n=qx63.n))))) (Jf h39 rfl (E:=(Dn c t n)) (F:=(((decide (qx35.k=7))&&(decide (qx63.k=7)))&&(decide (qx35.n=qx63.n)))) rfl rfl rfl (fun e=>if_pos (by rw [e];try rfl))) fun _ h40=>h40.sk [48,47,46,45,44,43,42,41,40,39,38,37,36,35,11,10,9,8,7,0,1,2] rfl fun h41=>mv h41 rfl fun _ h42=>h42.sk [6,11,10,9,8,7,0,1,2] rfl fun h43=>?_
  refine wpList_nil<|hK8 _ _<|wp_ret ?_
  try simp only [Exit.then,Exit.inBlock]
  refine CO (v:=.bool ((Dn c t n)||(((decide (qx35.k=7))&&(decide (qx63.k=7)))&&(decide (qx35.n=qx63.n))))) (CN h43 rfl rfl) h43.defs ?_
  exact ⟨congrArg Value.bool (Wn hc ω ω hq1 hq2),Sep.tail_un (xs:=[]) s3⟩
end
section
def Rr (P Q:PkM):Bool:=(eqN P Q&&((P.I 0 == Q.I 0)&&((P.I 1 == Q.I 1)&&((P.I 2 == Q.I 2)&&((P.I 3 == Q.I 3)&&((P.I 4 == Q.I 4)&&((P.I 5 == Q.I 5)&&((P.I 6 == Q.I 6)&&(eqS (P.S 7) (Q.S 7)&&((P.I 8 == Q.I 8)&&((P.I 9 == Q.I 9)&&(Ht P Q&&((P.I 18 == Q.I 18)&&((P.I 19 == Q.I 19)&&((P.I 27 == Q.I 27)&&(Hv P Q&&((P.I 20 == Q.I 20)&&((P.I 21 == Q.I 21)&&(eqS (P.S 22) (Q.S 22)&&Hu P Q)))))))))))))))))))
theorem Pj (P Q:PkM):Rr P Q=BS P Q:=by
  unfold Rr BS Ms eqS
  rw [Bool.eq_iff_iff]
  simp only [Bool.and_eq_true]
  constructor
  · intro h;simp only [h,and_self]
  · intro h;simp only [h,and_self]
theorem Ku (P Q:PkM):Rr P Q=(!(((((((((((!decide (P.N=Q.N))||(P.I 0 != Q.I 0))||(P.I 1 != Q.I 1))||(P.I 2 != Q.I 2))||(P.I 3 != Q.I 3))||(P.I 4 != Q.I 4))||(P.I 5 != Q.I 5))||(P.I 6 != Q.I 6))||((bsW (P.S 7)).toList != (bsW (Q.S 7)).toList))||(P.I 8 != Q.I 8))||(P.I 9 != Q.I 9))&&((((((((Ht P Q&&(P.I 18 == Q.I 18))&&(P.I 19 == Q.I 19))&&(P.I 27 == Q.I 27))&&Hv P Q)&&(P.I 20 == Q.I 20))&&(P.I 21 == Q.I 21))&&((bsW (P.S 22)).toList == (bsW (Q.S 22)).toList))&&Hu P Q)):=by
  unfold Rr eqS eqN
  simp only [bne,Bool.not_or,Bool.not_not,Bool.and_assoc]
theorem RG (args:Array Value) (w:World):(callFunc 34 args).run Tryz.prog w=.ok (.enter 34 args) w:=by
  have h:=Tryz.func34
  go_simp
theorem FK (f off:Nat) (h:(f,off)∈[(0,20),(1,21),(2,22),(3,23),(4,24)]) (g:Nat) (w:World):(Instr.fieldAt 33 (.pointer (some ⟨g,20,none⟩)) f).run Tryz.prog w=.ok (.pointer (some ⟨g,off,none⟩)) w:=by
  simp only [List.mem_cons,Prod.mk.injEq,List.not_mem_nil,or_false] at h
  rcases h with ⟨rfl,rfl⟩ | ⟨rfl,rfl⟩ | ⟨rfl,rfl⟩ | ⟨rfl,rfl⟩ | ⟨rfl,rfl⟩<;>rfl
theorem Lv {w:World} {g off:Nat} {a:Option Addr} {n c:Nat} (h:w.cell? ⟨g,off,none⟩=some (.slice a n c)):(Instr.loadAt 29 (.pointer (some ⟨g,off,none⟩))).run Tryz.prog w=.ok (.slice a n c) w:=by
  have u3:=υ29
  have a3:=Tryz.isAgg29
  have z3:=Tryz.sizeOf29
  go_simp
theorem Do {o:Oper} {x:Operand} {t:TypeId} {w:World} (ho:o.op=.unOp .not t x) {ρ:Operand→Value} {b:Bool} (hb:ρ x=.bool b):(execOp ρ o).run Tryz.prog w=.ok (.value (.bool (!b))) w:=by
  unfold execOp
  rw [ho]
  simp only [hb]
  cases b<;>rfl
theorem DM (P Q:PkM) (a b:Option Addr) (c d:Nat) (w:World) (ha:Row w 1 a P.N.length c (P.N.map AS)) (hb:Row w 1 b Q.N.length d (Q.N.map AS)) :
    Calls Tryz.prog 20 #[.agg (pkC P a P.N.length c).toArray,.agg (pkC Q b Q.N.length d).toArray] w fun e w'=>e=.returned (.bool (BS P Q))∧Below w.heap.size w w':=by
  have HN:=hid (fun (W:World) (hW:Below w.heap.size w W)=>SB P.N Q.N a b c d W (ha.mono hW) (hb.mono hW))
  clear ha hb
  go_enter Tryz.func20,Tryz.ntmps20
  go_step
  go_step
  go_step
  refine Bg rfl 39 _ rfl (pkC P a P.N.length c) rfl ?_
  intro w1 k1 b1 s1
  refine Bg rfl 39 _ rfl (pkC Q b Q.N.length d) rfl ?_
  intro w2 k2 b2 s2
  have B1:=hid b1;have S1:=hid s1
  have B2:=hid (Am B1.out b2);have KP0:=hid (k1.mono b2);have KQ0:=hid k2
  clear k1 b1 s1 k2 b2 s2
  go_step
  go_step
  go_step
  go_step
  go_step
  go_step
  go_step
  go_step
  refine Cb (N:=154) (l:=L2 2 3 w.heap.size w1.heap.size) ⟨rfl,(by intro x hx;simp only [List.mem_cons,List.not_mem_nil,or_false] at hx;rcases hx with rfl | rfl<;>rfl),rfl⟩ fun a0 h0=>?_
  refine Ar h0 (wn rfl) rfl (by decide) (by intro x hx;simp only [List.mem_cons,List.not_mem_nil,or_false] at hx;rcases hx with rfl | rfl<;>simp) (.pointer (some ⟨w.heap.size,20,none⟩)) (by unfold execOp;simp only [h0.eval (k:=2) (List.mem_cons_self ..)];exact Af (Ag 13 20 (by decide) w.heap.size _)) fun a1 h1=>?_
  refine Ar h1 (wn rfl) rfl (by decide) (by intro x hx;simp only [List.mem_cons,List.not_mem_nil,or_false] at hx;rcases hx with rfl | rfl | rfl<;>simp) (.pointer (some ⟨w.heap.size,23,none⟩)) (by unfold execOp;simp only [h1.eval (k:=6) (List.mem_cons_self ..)];exact Af (FK 3 23 (by decide) w.heap.size _)) fun a2 h2=>?_
  refine Ar h2 (wn rfl) rfl (by decide) (by intro x hx;simp only [List.mem_cons,List.not_mem_nil,or_false] at hx;rcases hx with rfl | rfl | rfl | rfl<;>simp) (.slice a P.N.length c) (by unfold execOp;simp only [h2.eval (k:=7) (List.mem_cons_self ..)];exact Af (Lv (KP0.out.cell (i:=23) (by show 23<43;omega)))) fun a3 h3=>?_
  refine Ar h3 (wn rfl) rfl (by decide) (by intro x hx;simp only [List.mem_cons,List.not_mem_nil,or_false] at hx;rcases hx with rfl | rfl | rfl | rfl | rfl<;>simp) (.pointer (some ⟨w1.heap.size,20,none⟩)) (by unfold execOp;simp only [h3.eval (k:=3) (v:=π w1.heap.size) (by simp)];exact Af (Ag 13 20 (by decide) w1.heap.size _)) fun a4 h4=>?_
  refine Ar h4 (wn rfl) rfl (by decide) (by intro x hx;simp only [List.mem_cons,List.not_mem_nil,or_false] at hx;rcases hx with rfl | rfl | rfl | rfl | rfl | rfl<;>simp) (.pointer (some ⟨w1.heap.size,23,none⟩)) (by unfold execOp;simp only [h4.eval (k:=9) (List.mem_cons_self ..)];exact Af (FK 3 23 (by decide) w1.heap.size _)) fun a5 h5=>?_
  refine Ar h5 (wn rfl) rfl (by decide) (by intro x hx;simp only [List.mem_cons,List.not_mem_nil,or_false] at hx;rcases hx with rfl | rfl | rfl | rfl | rfl | rfl | rfl<;>simp) (.slice b Q.N.length d) (by unfold execOp;simp only [h5.eval (k:=10) (List.mem_cons_self ..)];exact Af (Lv (KQ0.out.cell (i:=23) (by show 23<43;omega)))) fun a6 h6=>?_
  refine Ak h6 (wn rfl) rfl (by decide) (by intro x hx;simp only [List.mem_cons,List.not_mem_nil,or_false] at hx;rcases hx with rfl | rfl | rfl | rfl | rfl | rfl | rfl | rfl<;>simp) (fun args=>RG args _) rfl #[.slice a P.N.length c,.slice b Q.N.length d] (by simp only [List.map_toArray,List.map_cons,List.map_nil,h6.eval (k:=8) (v:=.slice a P.N.length c) (by simp),h6.eval (k:=11) (v:=.slice b Q.N.length d) (by simp)]) (R:=fun v w'=>v=.bool (decide (P.N=Q.N))∧Below w2.heap.size w2 w') ((HN.out _ B2.out).mono fun e w' q=>⟨_,q.1,rfl,q.2⟩) fun a7 v w3 hv h7=>?_
  obtain ⟨rfl,b3⟩:=hv
  have B3:=hid (Am B2.out b3);have KP:=hid (KP0.out.mono b3);have KQ:=hid (KQ0.out.mono b3)
  clear b3 KP0 KQ0
  refine Ar h7 (wn rfl) rfl (by decide) (by intro x hx;simp only [List.mem_cons,List.not_mem_nil,or_false] at hx;rcases hx with rfl | rfl | rfl | rfl | rfl | rfl | rfl | rfl | rfl<;>simp) (.bool (decide (P.N=Q.N))) (by unfold execOp;simp only [h7.eval (k:=12) (List.mem_cons_self ..)];rfl) fun a8 h8=>?_
  have h9:=h8.sub (l':=(5,.bool (decide (P.N=Q.N)))::L2 2 3 w.heap.size w1.heap.size) (by intro x hx;simp only [List.mem_cons,List.not_mem_nil,or_false] at hx;rcases hx with rfl | rfl | rfl<;>simp)
  clear h0 h1 h2 h3 h4 h5 h6 h7 h8
  go_step
  go_step
  go_step
  go_step
  go_step
  go_step
  refine Ar h9 (wn rfl) rfl (by decide) (by intro x hx;simp only [List.mem_cons,List.not_mem_nil,or_false] at hx;rcases hx with rfl | rfl | rfl<;>simp) (.bool (decide (P.N=Q.N))) (by unfold execOp;simp only [h9.eval (k:=5) (List.mem_cons_self ..)];rfl) fun a10 h10=>?_
  refine Ar h10 (wn rfl) rfl (by decide) (by intro x hx;simp only [List.mem_cons,List.not_mem_nil,or_false] at hx;rcases hx with rfl | rfl | rfl | rfl<;>simp) (.bool (!decide (P.N=Q.N))) (Do rfl (h10.eval (List.mem_cons_self ..))) fun a11 h11=>?_
  refine Ar h11 (wn rfl) rfl (by decide) (by intro x hx;simp only [List.mem_cons,List.not_mem_nil,or_false] at hx;rcases hx with rfl | rfl | rfl | rfl | rfl<;>simp) (.bool (!decide (P.N=Q.N))) (by unfold execOp;simp only [h11.eval (k:=14) (List.mem_cons_self ..)];rfl) fun a12 h12=>?_
  have g0:=h12.sub (l':=L3 15 (!decide (P.N=Q.N)) 2 3 w.heap.size w1.heap.size) (by intro x hx;simp only [List.mem_cons,List.not_mem_nil,or_false] at hx;rcases hx with rfl | rfl | rfl<;>simp)
  clear h9 h10 h11 h12
  refine AU (⟨fun g=>Ag 0 0 (by decide) g _,Ae (KP.out.cell (i:=0) (by show 0<43;omega)),Ae (KQ.out.cell (i:=0) (by show 0<43;omega)),fun x y=>neI x y _ _ _⟩:Cmp Tryz.prog _ 39 0 3 .neq w.heap.size w1.heap.size (P.I 0 != Q.I 0) 0 (ν (P.I 0)) (ν (Q.I 0))) false g0 rfl (by decide) (by decide) (by decide) (by decide) 3 rfl rfl rfl rfl rfl rfl rfl rfl rfl rfl rfl rfl rfl rfl rfl rfl rfl rfl rfl rfl rfl fun b1 g1=>?_
  refine AU (⟨fun g=>Ag 1 1 (by decide) g _,Ae (KP.out.cell (i:=1) (by show 1<43;omega)),Ae (KQ.out.cell (i:=1) (by show 1<43;omega)),fun x y=>neI x y _ _ _⟩:Cmp Tryz.prog _ 39 1 3 .neq w.heap.size w1.heap.size (P.I 1 != Q.I 1) 1 (ν (P.I 1)) (ν (Q.I 1))) false g1 rfl (by decide) (by decide) (by decide) (by decide) 3 rfl rfl rfl rfl rfl rfl rfl rfl rfl rfl rfl rfl rfl rfl rfl rfl rfl rfl rfl rfl rfl fun b2 g2=>?_
  refine AU (⟨fun g=>Ag 2 2 (by decide) g _,Ae (KP.out.cell (i:=2) (by show 2<43;omega)),Ae (KQ.out.cell (i:=2) (by show 2<43;omega)),fun x y=>neI x y _ _ _⟩:Cmp Tryz.prog _ 39 2 3 .neq w.heap.size w1.heap.size (P.I 2 != Q.I 2) 2 (ν (P.I 2)) (ν (Q.I 2))) false g2 rfl (by decide) (by decide) (by decide) (by decide) 3 rfl rfl rfl rfl rfl rfl rfl rfl rfl rfl rfl rfl rfl rfl rfl rfl rfl rfl rfl rfl rfl fun b3 g3=>?_
  refine AU (⟨fun g=>Ag 3 3 (by decide) g _,Ae (KP.out.cell (i:=3) (by show 3<43;omega)),Ae (KQ.out.cell (i:=3) (by show 3<43;omega)),fun x y=>neI x y _ _ _⟩:Cmp Tryz.prog _ 39 3 3 .neq w.heap.size w1.heap.size (P.I 3 != Q.I 3) 3 (ν (P.I 3)) (ν (Q.I 3))) false g3 rfl (by decide) (by decide) (by decide) (by decide) 3 rfl rfl rfl rfl rfl rfl rfl rfl rfl rfl rfl rfl rfl rfl rfl rfl rfl rfl rfl rfl rfl fun b4 g4=>?_
  refine AU (⟨fun g=>Ag 4 4 (by decide) g _,Ae (KP.out.cell (i:=4) (by show 4<43;omega)),Ae (KQ.out.cell (i:=4) (by show 4<43;omega)),fun x y=>neI x y _ _ _⟩:Cmp Tryz.prog _ 39 4 3 .neq w.heap.size w1.heap.size (P.I 4 != Q.I 4) 4 (ν (P.I 4)) (ν (Q.I 4))) false g4 rfl (by decide) (by decide) (by decide) (by decide) 3 rfl rfl rfl rfl rfl rfl rfl rfl rfl rfl rfl rfl rfl rfl rfl rfl rfl rfl rfl rfl rfl fun b5 g5=>?_
  refine AU (⟨fun g=>Ag 5 5 (by decide) g _,Ae (KP.out.cell (i:=5) (by show 5<43;omega)),Ae (KQ.out.cell (i:=5) (by show 5<43;omega)),fun x y=>neI x y _ _ _⟩:Cmp Tryz.prog _ 39 5 3 .neq w.heap.size w1.heap.size (P.I 5 != Q.I 5) 5 (ν (P.I 5)) (ν (Q.I 5))) false g5 rfl (by decide) (by decide) (by decide) (by decide) 3 rfl rfl rfl rfl rfl rfl rfl rfl rfl rfl rfl rfl rfl rfl rfl rfl rfl rfl rfl rfl rfl fun b6 g6=>?_
  refine AU (⟨fun g=>Ag 6 6 (by decide) g _,Ae (KP.out.cell (i:=6) (by show 6<43;omega)),Ae (KQ.out.cell (i:=6) (by show 6<43;omega)),fun x y=>neI x y _ _ _⟩:Cmp Tryz.prog _ 39 6 3 .neq w.heap.size w1.heap.size (P.I 6 != Q.I 6) 6 (ν (P.I 6)) (ν (Q.I 6))) false g6 rfl (by decide) (by decide) (by decide) (by decide) 3 rfl rfl rfl rfl rfl rfl rfl rfl rfl rfl rfl rfl rfl rfl rfl rfl rfl rfl rfl rfl rfl fun b7 g7=>?_
  refine AU (⟨fun g=>Ag 7 7 (by decide) g _,Fl (KP.out.cell (i:=7) (by show 7<43;omega)),Fl (KQ.out.cell (i:=7) (by show 7<43;omega)),fun x y=>XD x y _ _ _⟩:Cmp Tryz.prog _ 39 7 9 .neq w.heap.size w1.heap.size ((bsW (P.S 7)).toList != (bsW (Q.S 7)).toList) 7 (.string (bsW (P.S 7))) (.string (bsW (Q.S 7)))) false g7 rfl (by decide) (by decide) (by decide) (by decide) 9 rfl rfl rfl rfl rfl rfl rfl rfl rfl rfl rfl rfl rfl rfl rfl rfl rfl rfl rfl rfl rfl fun b8 g8=>?_
  refine AU (⟨fun g=>Ag 8 8 (by decide) g _,Ae (KP.out.cell (i:=8) (by show 8<43;omega)),Ae (KQ.out.cell (i:=8) (by show 8<43;omega)),fun x y=>neI x y _ _ _⟩:Cmp Tryz.prog _ 39 8 3 .neq w.heap.size w1.heap.size (P.I 8 != Q.I 8) 8 (ν (P.I 8)) (ν (Q.I 8))) false g8 rfl (by decide) (by decide) (by decide) (by decide) 3 rfl rfl rfl rfl rfl rfl rfl rfl rfl rfl rfl rfl rfl rfl rfl rfl rfl rfl rfl rfl rfl fun b9 g9=>?_
  refine SJ (⟨fun g=>Ag 9 9 (by decide) g _,Ae (KP.out.cell (i:=9) (by show 9<43;omega)),Ae (KQ.out.cell (i:=9) (by show 9<43;omega)),fun x y=>neI x y _ _ _⟩:Cmp Tryz.prog _ 39 9 3 .neq w.heap.size w1.heap.size (P.I 9 != Q.I 9) 9 (ν (P.I 9)) (ν (Q.I 9))) false g9 rfl (by decide) (by decide) (by decide) (by decide) 3 rfl rfl rfl rfl rfl rfl rfl rfl rfl rfl rfl rfl rfl rfl rfl rfl rfl rfl fun b10 g10=>?_
  simp only [Bool.false_eq_true,if_false] at g10
  obtain ⟨r,hr⟩:∃ r,r=(((((((((((!decide (P.N=Q.N))||(P.I 0 != Q.I 0))||(P.I 1 != Q.I 1))||(P.I 2 != Q.I 2))||(P.I 3 != Q.I 3))||(P.I 4 != Q.I 4))||(P.I 5 != Q.I 5))||(P.I 6 != Q.I 6))||((bsW (P.S 7)).toList != (bsW (Q.S 7)).toList))||(P.I 8 != Q.I 8))||(P.I 9 != Q.I 9)):=⟨_,rfl⟩
  rw [← hr] at g10
  have HR:=hid hr
  clear hr
  go_step
  go_step
  go_step
  refine wp_cond (t:=r) (g10.eval (List.mem_cons_self ..)) ?_
  cases r with
  | true=>
    simp only [if_true]
    go_step
    go_step
    refine Ar g10 (wn rfl) rfl (by decide) (by intro x hx;simp only [List.mem_cons,List.not_mem_nil,or_false] at hx;rcases hx with rfl | rfl | rfl<;>simp) (.bool false) rfl fun z1 q1=>?_
    go_step
    go_step
    go_step
    go_step
    go_step
    refine bodyPost_ret (BV rfl (q1.known _ (List.mem_cons_self ..))) q1.defs ?_
    refine ⟨Bd ?_,B3.out⟩
    rw [← Pj,Ku,← HR.out]
    rfl
  | false=>
    simp only [Bool.false_eq_true,if_false]
    have f0:=g10.sub (l':=L2 2 3 w.heap.size w1.heap.size) (by intro x hx;simp only [List.mem_cons,List.not_mem_nil,or_false] at hx;rcases hx with rfl | rfl<;>simp)
    go_step
    go_step
    go_step
    go_step
    go_step
    refine MU (⟨fun g=>Ag 10 10 (by decide) g _,run_loadAt_mid _ _ _ _ (FI P) _ (KP.out.part 10 8 (FI P) rfl) υ27 rfl Jr,run_loadAt_mid _ _ _ _ (FI Q) _ (KQ.out.part 10 8 (FI Q) rfl) υ27 rfl Jr,fun x y=>eqR (by simp) (LI P Q) x y _⟩:Cmp Tryz.prog _ 39 10 27 .eql w.heap.size w1.heap.size (Ht P Q) 10 (.agg (FI P).toArray) (.agg (FI Q).toArray)) f0 (by decide) (by decide) (by decide) 27 rfl rfl rfl rfl rfl rfl rfl rfl rfl rfl rfl rfl rfl rfl rfl rfl rfl rfl fun y0 u0=>?_
    refine AU (⟨fun g=>Ag 11 18 (by decide) g _,Ae (KP.out.cell (i:=18) (by show 18<43;omega)),Ae (KQ.out.cell (i:=18) (by show 18<43;omega)),fun x y=>eqI x y _ _ _⟩:Cmp Tryz.prog _ 39 11 3 .eql w.heap.size w1.heap.size (P.I 18 == Q.I 18) 18 (ν (P.I 18)) (ν (Q.I 18))) true u0 rfl (by decide) (by decide) (by decide) (by decide) 3 rfl rfl rfl rfl rfl rfl rfl rfl rfl rfl rfl rfl rfl rfl rfl rfl rfl rfl rfl rfl rfl fun y1 u1=>?_
    refine AU (⟨fun g=>Ag 12 19 (by decide) g _,IE (KP.out.cell (i:=19) (by show 19<43;omega)),IE (KQ.out.cell (i:=19) (by show 19<43;omega)),fun x y=>eqE x y _ _ _⟩:Cmp Tryz.prog _ 39 12 28 .eql w.heap.size w1.heap.size (P.I 19 == Q.I 19) 19 (ν (P.I 19)) (ν (Q.I 19))) true u1 rfl (by decide) (by decide) (by decide) (by decide) 28 rfl rfl rfl rfl rfl rfl rfl rfl rfl rfl rfl rfl rfl rfl rfl rfl rfl rfl rfl rfl rfl fun y2 u2=>?_
    refine AU (⟨fun g=>Ag 14 27 (by decide) g _,Ae (KP.out.cell (i:=27) (by show 27<43;omega)),Ae (KQ.out.cell (i:=27) (by show 27<43;omega)),fun x y=>eqI x y _ _ _⟩:Cmp Tryz.prog _ 39 14 3 .eql w.heap.size w1.heap.size (P.I 27 == Q.I 27) 27 (ν (P.I 27)) (ν (Q.I 27))) true u2 rfl (by decide) (by decide) (by decide) (by decide) 3 rfl rfl rfl rfl rfl rfl rfl rfl rfl rfl rfl rfl rfl rfl rfl rfl rfl rfl rfl rfl rfl fun y3 u3=>?_
    refine AU (⟨fun g=>Ag 15 28 (by decide) g _,run_loadAt_mid _ _ _ _ (FN P) _ (KP.out.part 28 15 (FN P) rfl) υ37 rfl Jt,run_loadAt_mid _ _ _ _ (FN Q) _ (KQ.out.part 28 15 (FN Q) rfl) υ37 rfl Jt,fun x y=>eqR (by simp) (LK P Q) x y _⟩:Cmp Tryz.prog _ 39 15 37 .eql w.heap.size w1.heap.size (Hv P Q) 28 (.agg (FN P).toArray) (.agg (FN Q).toArray)) true u3 rfl (by decide) (by decide) (by decide) (by decide) 37 rfl rfl rfl rfl rfl rfl rfl rfl rfl rfl rfl rfl rfl rfl rfl rfl rfl rfl rfl rfl rfl fun y4 u4=>?_
    refine JI (gp:=w.heap.size) (gq:=w1.heap.size) (c:=(P.I 20 == Q.I 20)) (fun g=>Ag 13 20 (by decide) g _) (fun g=>FK 0 20 (by decide) g _) (show (Instr.loadAt _ _).run _ _=.ok (ν (P.I 20)) _ from IE (KP.out.cell (i:=20) (by show 20<43;omega))) (show (Instr.loadAt _ _).run _ _=.ok (ν (Q.I 20)) _ from IE (KQ.out.cell (i:=20) (by show 20<43;omega))) (fun x y=>eqE x y _ _ _) true u4 rfl (by decide) (by decide) (by decide) (by decide) 28 rfl rfl rfl rfl rfl rfl rfl rfl rfl rfl rfl rfl rfl rfl rfl rfl rfl rfl rfl rfl rfl rfl rfl rfl fun x0 v0=>?_
    refine Mb v0 (by decide) (by decide) (by decide) (by decide) rfl rfl rfl fun z0 m0=>?_
    refine JI (gp:=w.heap.size) (gq:=w1.heap.size) (c:=(P.I 21 == Q.I 21)) (fun g=>Ag 13 20 (by decide) g _) (fun g=>FK 1 21 (by decide) g _) (show (Instr.loadAt _ _).run _ _=.ok (ν (P.I 21)) _ from Ae (KP.out.cell (i:=21) (by show 21<43;omega))) (show (Instr.loadAt _ _).run _ _=.ok (ν (Q.I 21)) _ from Ae (KQ.out.cell (i:=21) (by show 21<43;omega))) (fun x y=>eqI x y _ _ _) true m0 rfl (by decide) (by decide) (by decide) (by decide) 3 rfl rfl rfl rfl rfl rfl rfl rfl rfl rfl rfl rfl rfl rfl rfl rfl rfl rfl rfl rfl rfl rfl rfl rfl fun x1 v1=>?_
    refine Mb v1 (by decide) (by decide) (by decide) (by decide) rfl rfl rfl fun z1 m1=>?_
    refine JI (gp:=w.heap.size) (gq:=w1.heap.size) (c:=((bsW (P.S 22)).toList == (bsW (Q.S 22)).toList)) (fun g=>Ag 13 20 (by decide) g _) (fun g=>FK 2 22 (by decide) g _) (show (Instr.loadAt _ _).run _ _=.ok (.string (bsW (P.S 22))) _ from Fl (KP.out.cell (i:=22) (by show 22<43;omega))) (show (Instr.loadAt _ _).run _ _=.ok (.string (bsW (Q.S 22))) _ from Fl (KQ.out.cell (i:=22) (by show 22<43;omega))) (fun x y=>WL x y _ _ _) true m1 rfl (by decide) (by decide) (by decide) (by decide) 9 rfl rfl rfl rfl rfl rfl rfl rfl rfl rfl rfl rfl rfl rfl rfl rfl rfl rfl rfl rfl rfl rfl rfl rfl fun x2 v2=>?_
    refine Mb v2 (by decide) (by decide) (by decide) (by decide) rfl rfl rfl fun z2 m2=>?_
    refine JI (gp:=w.heap.size) (gq:=w1.heap.size) (c:=Hu P Q) (fun g=>Ag 13 20 (by decide) g _) (fun g=>FK 4 24 (by decide) g _) (run_loadAt_mid _ _ _ _ (Gr P) _ (KP.out.part 24 3 (Gr P) rfl) υ31 rfl Js) (run_loadAt_mid _ _ _ _ (Gr Q) _ (KQ.out.part 24 3 (Gr Q) rfl) υ31 rfl Js) (fun x y=>eqR (by simp) (LJ P Q) x y _) true m2 rfl (by decide) (by decide) (by decide) (by decide) 31 rfl rfl rfl rfl rfl rfl rfl rfl rfl rfl rfl rfl rfl rfl rfl rfl rfl rfl rfl rfl rfl rfl rfl rfl fun x3 v3=>?_
    refine Ar v3 (wn rfl) rfl (by decide) (by intro x hx;simp only [List.mem_cons,List.not_mem_nil,or_false] at hx;rcases hx with rfl | rfl | rfl<;>simp) _ (by unfold execOp;simp only [v3.eval (List.mem_cons_self ..)];rfl) fun z9 q9=>?_
    go_step
    go_step
    go_step
    go_step
    refine bodyPost_ret (BV rfl (q9.known _ (List.mem_cons_self ..))) q9.defs ?_
    refine ⟨Bd ?_,B3.out⟩
    rw [← Pj,Ku,← HR.out]
    simp only [if_true,Bool.not_false,Bool.true_and]
end
section
theorem Ed {w:World} {g off:Nat} {u:Value} (h:w.cell? ⟨g,off,none⟩=some u) (hz:w.frozen? ⟨g,off,none⟩=false) (v:Int):(Instr.storeAt 3 (.pointer (some ⟨g,off,none⟩)) (ν v)).run Tryz.prog w=.ok () (w.setCell ⟨g,off,none⟩ (ν v)):=by
  have u3:=υ3
  have a3:=Tryz.isAgg3
  have z3:=Tryz.sizeOf3
  go_simp
theorem Uu {w:World} {g off:Nat} {u:Value} (h:w.cell? ⟨g,off,none⟩=some u) (hz:w.frozen? ⟨g,off,none⟩=false) (v:Int):(Instr.storeAt 28 (.pointer (some ⟨g,off,none⟩)) (ν v)).run Tryz.prog w=.ok () (w.setCell ⟨g,off,none⟩ (ν v)):=by
  have u3:=υ28
  have a3:=Tryz.isAgg28
  have z3:=Tryz.sizeOf28
  go_simp
theorem Uv {w:World} {g off:Nat} {u:Value} (h:w.cell? ⟨g,off,none⟩=some u) (hz:w.frozen? ⟨g,off,none⟩=false) (v:ByteArray):(Instr.storeAt 9 (.pointer (some ⟨g,off,none⟩)) (.string v)).run Tryz.prog w=.ok () (w.setCell ⟨g,off,none⟩ (.string v)):=by
  have u3:=υ9
  have a3:=Tryz.isAgg9
  have z3:=Tryz.sizeOf9
  go_simp
theorem Xo {P:Program} {s:Sem Unit} {w w':World} (h:s.run P w=.ok () w'):(do s;pure Next.skip:Sem Next).run P w=.ok .skip w':=by
  rw [Sem.run_bind,h];rfl
theorem SK {P:Program} {ops:Array Oper} {Q:Exit→Act→World→Prop} {rest:List Oper} {o:Oper} {a:Act} {w w':World} {N:Nat} {l:List (Nat×Value)} (h:Kn N l a) (hw:Region.wanted o (yielded ops a.tmps)=true) (hd:o.dst=none)
    (hr:(execOp a.eval o).run P w=.ok .skip w') (k:∀ a',Kn N l a'→wpList P ops Q rest a' w'):wpList P ops Q (o::rest) a w:=by
  refine wpList_step fun K hK=>?_
  rw [if_pos hw]
  unfold Oper.wp
  rw [hr,Oper.upon_skip,hd]
  exact hK _ _ (k _ h)
theorem Is {ops:Array Oper} {Q:Exit→Act→World→Prop} {rest:List Oper} {o:Oper} {a:Act} {w:World} {N:Nat} {l:List (Nat×Value)} (h:Kn N l a) (hw:o.guard=none) {d:Nat} (hd:o.dst=some d) (hdN:d<N) (hf:∀ x∈l,x.1≠d) (T:TypeId) {x:Operand} (ho:o.op=.box T x) (L:List Value) (hx:a.eval x=.agg L.toArray)
    (k:∀ a' w',Kn N ((d,π w.heap.size)::l) a'→Blk w' w.heap.size T L→Below w.heap.size w w'→w'.heap.size=w.heap.size+1→wpList Tryz.prog ops Q rest a' w'):wpList Tryz.prog ops Q (o::rest) a w:=
  Ar h (Aa hw) hd hdN hf _ (Ph ho _ w _ hx) fun a' h'=>k a' _ h' (AP rfl _ _) (CQ _ _) (by simp)
theorem CW {P:Program} {ops:Array Oper} {Q:Exit→Act→World→Prop} {rest:List Oper} {o:Oper} {a:Act} {w:World} {N:Nat} {l:List (Nat×Value)} (h:Kn N l a) (hw:o.guard=none) (hd:o.dst=none) (T:TypeId) {x y:Operand} (ho:o.op=.store T x y) (g off:Nat) (hx:a.eval x=.pointer (some ⟨g,off,none⟩)) (vs:List Value) (hy:a.eval y=.agg vs.toArray) (hn:(P.info? T).map (·.size)=some vs.length) (h1:∀ v∈vs,v.oneCell'=true) {e:TypeId} {L:List Value} (hb:Blk w g e L) (hL:off+vs.length≤L.length)
    (k:∀ a' w',Kn N l a'→Blk w' g e (splice L off vs)→w.grownBy w' (some g)→wpList P ops Q rest a' w'):wpList P ops Q (o::rest) a w:=by
  refine QO hw T x y ho g off hx vs hy hn h1 hb hL fun w' hb' hg=>?_
  rw [hd]
  exact k a w' h hb' hg
theorem BI {T:TypeId} {f off:Nat} {Tc:TypeId} {gp gq:Nat} {v:Value} {w:World} (A:∀ g,(Instr.fieldAt T (π g) f).run Tryz.prog w=.ok (.pointer (some ⟨g,off,none⟩)) w) (lp:(Instr.loadAt Tc (.pointer (some ⟨gp,off,none⟩))).run Tryz.prog w=.ok v w)
    (st:(Instr.storeAt Tc (.pointer (some ⟨gq,off,none⟩)) v).run Tryz.prog w=.ok () (w.setCell ⟨gq,off,none⟩ v)) {e:TypeId} {L:List Value} (KQ:Blk w gq e L)
    {ops:Array Oper} {Q:Exit→Act→World→Prop} {rest:List Oper} {a:Act} {N:Nat} {l:List (Nat×Value)} (h:Kn N l a) {d pb qb:Nat} (mp:(pb,π gp)∈l) (mq:(qb,π gq)∈l) (hl:∀ x∈l,x.1<d) (hN:d+2<N) {o1 o2 o3 o4:Oper}
    (g1:o1.guard=none) (g2:o2.guard=none) (g3:o3.guard=none) (g4:o4.guard=none) (e1:o1.dst=some d) (e2:o2.dst=some (d+1)) (e3:o3.dst=some (d+2)) (e4:o4.dst=none)
    (p1:o1.op=.fieldAddr T (.tmp pb) f) (p2:o2.op=.load Tc (.tmp d)) (p3:o3.op=.fieldAddr T (.tmp qb) f) (p4:o4.op=.store Tc (.tmp (d+2)) (.tmp (d+1)))
    (k:∀ a' w',Kn N l a'→Blk w' gq e (L.set off v)→w.grownBy w' (some gq)→wpList Tryz.prog ops Q rest a' w'):wpList Tryz.prog ops Q (o1::o2::o3::o4::rest) a w:=by
  refine Ar h (Aa g1) e1 ω (AE hl) (.pointer (some ⟨gp,off,none⟩)) (by unfold execOp;rw [p1];simp only [h.eval mp];exact Af (A gp)) fun a1 h1=>?_
  have l1:=BG (v:=.pointer (some ⟨gp,off,none⟩)) hl
  refine Ar h1 (Aa g2) e2 ω (AE l1) v (by unfold execOp;rw [p2];simp only [h1.eval (List.mem_cons_self ..)];exact Af lp) fun a2 h2=>?_
  have l2:=BG (v:=v) l1
  refine Ar h2 (Aa g3) e3 ω (AE l2) (.pointer (some ⟨gq,off,none⟩)) (by unfold execOp;rw [p3];simp only [h2.eval (List.mem_cons_of_mem _ (List.mem_cons_of_mem _ mq))];exact Af (A gq)) fun a3 h3=>?_
  refine SK h3 (Aa g4) e4 (w':=w.setCell ⟨gq,off,none⟩ v) (by
    unfold execOp;rw [p4]
    simp only [h3.eval (k:=d+2) (List.mem_cons_self ..),h3.eval (k:=d+1) (v:=v) (List.mem_cons_of_mem _ (List.mem_cons_self ..))]
    exact Xo st) fun a4 h4=>?_
  exact k a4 _ (h4.sub (fun x hx=>List.mem_cons_of_mem _ (List.mem_cons_of_mem _ (List.mem_cons_of_mem _ hx)))) (KQ.set off v) (QH (JD w _) off v)
theorem JR (x0 x1 x2 x3:Int) (w:World):(Instr.build 39 #[(0,ν x0),(1,ν x1),(2,ν x2),(3,ν x3)]).run Tryz.prog w=.ok (.agg (pkC (Ck (Ck (Ck (Ck P0z 0 x0) 1 x1) 2 x2) 3 x3) none 0 0).toArray) w:=by
  go_simp
  rfl
theorem RE (s1 s2:ByteArray) (x3 x6:Int) (w:World):(Instr.build 27 #[(1,.string s1),(2,.string s2),(3,ν x3),(6,ν x6)]).run Tryz.prog w=.ok (.agg #[ν 0,.string s1,.string s2,ν x3,ν 0,ν 0,ν x6,.string ⟨#[]⟩]) w:=by
  go_simp
  try rfl
theorem PC (a:Option Addr) (n c:Nat) (x y z:Int) (w:World):(Instr.build 33 #[(3,.slice a n c),(4,.agg #[ν x,ν y,ν z])]).run Tryz.prog w=.ok (.agg #[ν 0,ν 0,.string ⟨#[]⟩,.slice a n c,ν x,ν y,ν z]) w:=by
  go_simp
  try rfl
theorem RF (x0 x1 x2 b0 b1 b2 b3:Int) (w:World):(Instr.build 37 #[(0,ν x0),(1,ν x1),(2,ν x2),(3,.agg #[ν b0,ν b1,ν b2,ν b3])]).run Tryz.prog w=.ok (.agg #[ν x0,ν x1,ν x2,ν b0,ν b1,ν b2,ν b3,ν 0,ν 0,ν 0,ν 0,ν 0,ν 0,ν 0,ν 0]) w:=by
  go_simp
  try rfl
theorem KH (f off:Nat) (h:(f,off)∈[(1,11),(2,12),(3,13),(6,16)]) (g:Nat) (w:World):(Instr.fieldAt 27 (.pointer (some ⟨g,10,none⟩)) f).run Tryz.prog w=.ok (.pointer (some ⟨g,off,none⟩)) w:=by
  simp only [List.mem_cons,Prod.mk.injEq,List.not_mem_nil,or_false] at h
  rcases h with ⟨rfl,rfl⟩ | ⟨rfl,rfl⟩ | ⟨rfl,rfl⟩ | ⟨rfl,rfl⟩<;>rfl
theorem KI (f off:Nat) (h:(f,off)∈[(0,28),(1,29),(2,30),(3,31)]) (g:Nat) (w:World):(Instr.fieldAt 37 (.pointer (some ⟨g,28,none⟩)) f).run Tryz.prog w=.ok (.pointer (some ⟨g,off,none⟩)) w:=by
  simp only [List.mem_cons,Prod.mk.injEq,List.not_mem_nil,or_false] at h
  rcases h with ⟨rfl,rfl⟩ | ⟨rfl,rfl⟩ | ⟨rfl,rfl⟩ | ⟨rfl,rfl⟩<;>rfl
theorem Wd:(Tryz.prog.info? 34).map (·.size)=some 4:=κ
def SV (P:PkM):List Value:=[ν (P.I 31),ν (P.I 32),ν (P.I 33),ν (P.I 34)]
theorem EU (args:Array Value) (w:World):(callFunc 20 args).run Tryz.prog w=.ok (.enter 20 args) w:=by
  have h:=Tryz.func20
  go_simp
abbrev LO (gp gq:Nat) (P:PkM):List (Nat×Value):=[(1,π gp),(3,π gq),(14,ν (P.I 0))]
theorem TZ (P:PkM) (a:Option Addr) (c:Nat) (w:World) (ha:Row w 1 a P.N.length c (P.N.map AS)) (hk:P.I 0=1) :
    Calls Tryz.prog 85 #[.agg (pkC P a P.N.length c).toArray] w fun e w'=>e=.returned (.bool (BS P (Au P P0z (Ah++Al 1))))∧Below w.heap.size w w':=by
  have e1:(P.I 0 == 1)=true:=by rw [hk];rfl
  have e2:(P.I 0 == 2)=false:=by rw [hk];rfl
  have e3:(P.I 0 == 3)=false:=by rw [hk];rfl
  have e4:(P.I 0 == 4)=false:=by rw [hk];rfl
  have e5:(P.I 0 == 5)=false:=by rw [hk];rfl
  have HA:=hid ha
  clear ha hk
  go_enter Tryz.func85,Tryz.ntmps85
  go_step
  go_step
  go_step
  refine Bg rfl 39 _ rfl (pkC P a P.N.length c) rfl ?_
  intro w1 k1 b1 s1
  have KP0:=hid k1;have B1:=hid b1;have S1:=hid s1
  have nE:¬ w.heap.size=w1.heap.size:=ω
  clear k1 b1 s1
  go_step
  go_step
  go_step
  go_step
  go_step
  go_step
  go_step
  go_step
  refine Cb (N:=118) (l:=[(1,π w.heap.size)]) ⟨rfl,(by intro x hx;simp only [List.mem_cons,List.not_mem_nil,or_false] at hx;rcases hx with rfl<;>rfl),rfl⟩ fun a0 i0=>?_
  refine fav i0 rfl (fun _=>Ag 0 0 (by decide) w.heap.size _) fun a1 i1=>?_
  refine sw1 i1 rfl (v:=(ν (P.I 0))) (rld i1 rfl rfl (Ae (KP0.out.cell (i:=0) (by show 0<43;omega)))) fun a2 i2=>?_
  refine fav i2 rfl (fun _=>Ag 1 1 (by decide) w.heap.size _) fun a3 i3=>?_
  refine sw1 i3 rfl (v:=(ν (P.I 1))) (rld i3 rfl rfl (Ae (KP0.out.cell (i:=1) (by show 1<43;omega)))) fun a4 i4=>?_
  refine fav i4 rfl (fun _=>Ag 2 2 (by decide) w.heap.size _) fun a5 i5=>?_
  refine sw1 i5 rfl (v:=(ν (P.I 2))) (rld i5 rfl rfl (Ae (KP0.out.cell (i:=2) (by show 2<43;omega)))) fun a6 i6=>?_
  refine fav i6 rfl (fun _=>Ag 3 3 (by decide) w.heap.size _) fun a7 i7=>?_
  refine sw1 i7 rfl (v:=(ν (P.I 3))) (rld i7 rfl rfl (Ae (KP0.out.cell (i:=3) (by show 3<43;omega)))) fun a8 i8=>?_
  obtain ⟨Q0,hQ0⟩:∃ Q0,Q0=Ck (Ck (Ck (Ck P0z 0 (P.I 0)) 1 (P.I 1)) 2 (P.I 2)) 3 (P.I 3):=⟨_,rfl⟩
  refine sw1 i8 rfl (v:=(.agg (pkC Q0 none 0 0).toArray)) (by unfold execOp;simp only [i8.ev 5 rfl,i8.ev 7 rfl,i8.ev 9 rfl,i8.ev 11 rfl,List.map_toArray,List.map_cons,List.map_nil];rw [hQ0];exact Af (JR _ _ _ _ _)) fun a9 i9=>?_
  refine Ar i9 (wn rfl) rfl (by decide) (by intro x hx;simp only [List.mem_cons,List.not_mem_nil,or_false] at hx;rcases hx with rfl | rfl | rfl | rfl | rfl | rfl | rfl | rfl | rfl | rfl<;>simp) (π w1.heap.size) (Dj rfl _ w1) fun a10 i10=>?_
  have j10:=i10.sub (l':=[(1,π w.heap.size),(3,π w1.heap.size),(12,.agg (pkC Q0 none 0 0).toArray)]) (by intro x hx;simp only [List.mem_cons,List.not_mem_nil,or_false] at hx;rcases hx with rfl | rfl | rfl<;>simp)
  clear i0 i1 i2 i3 i4 i5 i6 i7 i8 i9 i10
  have z2:Blk (w1.alloc (.cells CI 39)) w1.heap.size 39 (pkC P0z none 0 0):=by rw [EE];exact AP rfl _ _
  have KP2:=hid (KP0.out.mono (CQ w1 (.cells CI 39)));have B2:=hid (AT B1.out (.cells CI 39))
  generalize w1.alloc (.cells CI 39)=w2 at *
  refine CW j10 rfl rfl 39 rfl w1.heap.size 0 (j10.eval (k:=3) (v:=π w1.heap.size) (by simp)) (pkC Q0 none 0 0) (j10.eval (k:=12) (v:=.agg (pkC Q0 none 0 0).toArray) (by simp)) (by rw [Bq];rfl) (Hc _ _ _ _) z2 (by show 0+43≤43;omega) fun a11 w3 j10 k3 g3=>?_
  rw [Cz (by rfl)] at k3
  have KP3:=hid (KP2.out.grownS g3 nE);have B3:=hid (Aq B2.out g3 B1.out.size B2.out.size);have KQ3:=hid k3
  clear k3 g3 z2 KP2 B2 KP0
  go_step
  go_step
  go_step
  go_step
  go_step
  go_step
  refine fav j10 rfl (fun _=>Ag 0 0 (by decide) w.heap.size _) fun a12 j11=>?_
  refine sw1 j11 rfl (v:=(ν (P.I 0))) (rld j11 rfl rfl (Ae (KP3.out.cell (i:=0) (by show 0<43;omega)))) fun a13 j12=>?_
  have m0:=j12.sub (l':=LO w.heap.size w1.heap.size P) (by intro x hx;simp only [List.mem_cons,List.not_mem_nil,or_false] at hx;rcases hx with rfl | rfl | rfl<;>simp)
  clear j10 j11 j12
  go_step
  go_step
  go_step
  go_step
  go_step
  go_step
  refine sw1 m0 rfl (v:=(.bool (P.I 0 == 1))) (by unfold execOp;simp only [m0.ev 14 rfl];exact Af (eqI _ _ _ _ _)) fun x1 y1=>?_
  refine sw1 y1 rfl (v:=(.bool (P.I 0 == 1))) (by unfold execOp;simp only [y1.eval (List.mem_cons_self ..)];rfl) fun u1 v1=>?_
  have m1:=v1.sub (l':=LO w.heap.size w1.heap.size P) (by intro x hx;simp only [List.mem_cons,List.not_mem_nil,or_false] at hx;rcases hx with rfl | rfl | rfl<;>simp)
  go_step
  go_step
  go_step
  refine wp_cond (t:=P.I 0 == 1) (v1.eval (List.mem_cons_self ..)) ?_
  rw [e1]
  simp only [if_true]
  clear y1 v1 m0
  go_step
  go_step
  refine BI (gp:=w.heap.size) (gq:=w1.heap.size) (fun g=>Ag 4 4 (by decide) g _) (show (Instr.loadAt _ _).run _ _=.ok (ν (P.I 4)) _ from Ae (KP3.out.cell (i:=4) (by show 4<43;omega))) (Ed (KQ3.out.cell (i:=4) (by show 4<43;omega)) (KQ3.out.frozen 4) _) KQ3.out m1 (by simp) (by simp) (by intro x hx;simp only [List.mem_cons,List.not_mem_nil,or_false] at hx;rcases hx with rfl | rfl | rfl<;>simp) (by decide) rfl rfl rfl rfl rfl rfl rfl rfl rfl rfl rfl rfl fun c1 s1 n1 k1 g1=>?_
  rw [Bz _ _ _ _ rfl] at k1
  have KP4:=hid (KP3.out.grownS g1 nE);have B4:=hid (Aq B3.out g1 B1.out.size B3.out.size);have KQ4:=hid k1
  clear k1 g1 KP3 B3 KQ3 m1
  go_step
  go_step
  go_step
  go_step
  go_step
  refine BI (gp:=w.heap.size) (gq:=w1.heap.size) (fun g=>Ag 5 5 (by decide) g _) (show (Instr.loadAt _ _).run _ _=.ok (ν (P.I 5)) _ from Ae (KP4.out.cell (i:=5) (by show 5<43;omega))) (Ed (KQ4.out.cell (i:=5) (by show 5<43;omega)) (KQ4.out.frozen 5) _) KQ4.out n1 (by simp) (by simp) (by intro x hx;simp only [List.mem_cons,List.not_mem_nil,or_false] at hx;rcases hx with rfl | rfl | rfl<;>simp) (by decide) rfl rfl rfl rfl rfl rfl rfl rfl rfl rfl rfl rfl fun c2 s2 n2 k2 g2=>?_
  rw [Bz _ _ _ _ rfl] at k2
  have KP5:=hid (KP4.out.grownS g2 nE);have B5:=hid (Aq B4.out g2 B1.out.size B4.out.size);have KQ5:=hid k2
  clear k2 g2 KP4 B4 KQ4 n1
  go_step
  go_step
  go_step
  go_step
  go_step
  refine BI (gp:=w.heap.size) (gq:=w1.heap.size) (fun g=>Ag 6 6 (by decide) g _) (show (Instr.loadAt _ _).run _ _=.ok (ν (P.I 6)) _ from Ae (KP5.out.cell (i:=6) (by show 6<43;omega))) (Ed (KQ5.out.cell (i:=6) (by show 6<43;omega)) (KQ5.out.frozen 6) _) KQ5.out n2 (by simp) (by simp) (by intro x hx;simp only [List.mem_cons,List.not_mem_nil,or_false] at hx;rcases hx with rfl | rfl | rfl<;>simp) (by decide) rfl rfl rfl rfl rfl rfl rfl rfl rfl rfl rfl rfl fun c3 s3 n3 k3 g3=>?_
  rw [Bz _ _ _ _ rfl] at k3
  have KP6:=hid (KP5.out.grownS g3 nE);have B6:=hid (Aq B5.out g3 B1.out.size B5.out.size);have KQ6:=hid k3
  clear k3 g3 KP5 B5 KQ5 n2
  go_step
  go_step
  go_step
  go_step
  go_step
  refine BI (gp:=w.heap.size) (gq:=w1.heap.size) (fun g=>Ag 7 7 (by decide) g _) (show (Instr.loadAt _ _).run _ _=.ok (.string (bsW (P.S 7))) _ from Fl (KP6.out.cell (i:=7) (by show 7<43;omega))) (Uv (KQ6.out.cell (i:=7) (by show 7<43;omega)) (KQ6.out.frozen 7) _) KQ6.out n3 (by simp) (by simp) (by intro x hx;simp only [List.mem_cons,List.not_mem_nil,or_false] at hx;rcases hx with rfl | rfl | rfl<;>simp) (by decide) rfl rfl rfl rfl rfl rfl rfl rfl rfl rfl rfl rfl fun c4 s4 n4 k4 g4=>?_
  rw [show (.string (bsW (P.S 7)):Value)=AS (P.S 7) from rfl,LD _ _ _ _ rfl] at k4
  have KP7:=hid (KP6.out.grownS g4 nE);have B7:=hid (Aq B6.out g4 B1.out.size B6.out.size);have KQ7:=hid k4
  clear k4 g4 KP6 B6 KQ6 n3
  go_step
  go_step
  go_step
  go_step
  go_step
  refine BI (gp:=w.heap.size) (gq:=w1.heap.size) (fun g=>Ag 8 8 (by decide) g _) (show (Instr.loadAt _ _).run _ _=.ok (ν (P.I 8)) _ from Ae (KP7.out.cell (i:=8) (by show 8<43;omega))) (Ed (KQ7.out.cell (i:=8) (by show 8<43;omega)) (KQ7.out.frozen 8) _) KQ7.out n4 (by simp) (by simp) (by intro x hx;simp only [List.mem_cons,List.not_mem_nil,or_false] at hx;rcases hx with rfl | rfl | rfl<;>simp) (by decide) rfl rfl rfl rfl rfl rfl rfl rfl rfl rfl rfl rfl fun c5 s5 n5 k5 g5=>?_
  rw [Bz _ _ _ _ rfl] at k5
  have KP8:=hid (KP7.out.grownS g5 nE);have B8:=hid (Aq B7.out g5 B1.out.size B7.out.size);have KQ8:=hid k5
  clear k5 g5 KP7 B7 KQ7 n4
  go_step
  go_step
  go_step
  go_step
  refine BI (gp:=w.heap.size) (gq:=w1.heap.size) (fun g=>Ag 9 9 (by decide) g _) (show (Instr.loadAt _ _).run _ _=.ok (ν (P.I 9)) _ from Ae (KP8.out.cell (i:=9) (by show 9<43;omega))) (Ed (KQ8.out.cell (i:=9) (by show 9<43;omega)) (KQ8.out.frozen 9) _) KQ8.out n5 (by simp) (by simp) (by intro x hx;simp only [List.mem_cons,List.not_mem_nil,or_false] at hx;rcases hx with rfl | rfl | rfl<;>simp) (by decide) rfl rfl rfl rfl rfl rfl rfl rfl rfl rfl rfl rfl fun c6 s6 n6 k6 g6=>?_
  rw [Bz _ _ _ _ rfl] at k6
  have KP9:=hid (KP8.out.grownS g6 nE);have B9:=hid (Aq B8.out g6 B1.out.size B8.out.size);have KQ9:=hid k6
  clear k6 g6 KP8 B8 KQ8 n5
  go_step
  go_step
  go_step
  go_step
  go_step
  have KF:Hid (Blk s6 w1.heap.size 39 (pkC (Au P P0z (Ah++Al 1)) none (Au P P0z (Ah++Al 1)).N.length 0)):=hid (by have z:=KQ9.out;rw [hQ0] at z;exact z)
  have BF:=B9.out
  refine sw1 n6 rfl (v:=(.agg (pkC P a P.N.length c).toArray)) (by unfold execOp;simp only [n6.ev 1 rfl];exact Af (run_loadAt_mid _ _ _ _ (pkC P a P.N.length c) _ KP9.out.range υ39 rfl (by rw [Bq];rfl))) fun t1 r1=>?_
  refine sw1 r1 rfl (v:=(.agg (pkC (Au P P0z (Ah++Al 1)) none (Au P P0z (Ah++Al 1)).N.length 0).toArray)) (by unfold execOp;simp only [r1.ev 3 rfl];exact Af (run_loadAt_mid _ _ _ _ (pkC (Au P P0z (Ah++Al 1)) none (Au P P0z (Ah++Al 1)).N.length 0) _ KF.out.range υ39 rfl (by rw [Bq];rfl))) fun t2 r2=>?_
  have hrow:Row s6 1 none (Au P P0z (Ah++Al 1)).N.length 0 ((Au P P0z (Ah++Al 1)).N.map AS):=Row.nil _ _
  refine Ak r2 (wn rfl) rfl (by decide) (by intro x hx;simp only [List.mem_cons,List.not_mem_nil,or_false] at hx;rcases hx with rfl | rfl | rfl | rfl | rfl<;>simp) (fun args=>EU args _) rfl #[.agg (pkC P a P.N.length c).toArray,.agg (pkC (Au P P0z (Ah++Al 1)) none (Au P P0z (Ah++Al 1)).N.length 0).toArray] (by simp only [List.map_toArray,List.map_cons,List.map_nil,r2.eval (k:=115) (v:=.agg (pkC P a P.N.length c).toArray) (by simp),r2.eval (k:=116) (List.mem_cons_self ..)]) (R:=fun v w'=>v=.bool (BS P (Au P P0z (Ah++Al 1)))∧Below s6.heap.size s6 w') ((DM P (Au P P0z (Ah++Al 1)) a none c 0 _ (HA.out.mono BF) hrow).mono fun e w' q=>⟨_,q.1,rfl,q.2⟩) fun t3 v w9 hv r3=>?_
  obtain ⟨rfl,b9⟩:=hv
  refine mv r3 rfl fun t4 r4=>?_
  go_step
  go_step
  go_step
  go_step
  refine bodyPost_ret (BV rfl (r4.known _ (List.mem_cons_self ..))) r4.defs ?_
  exact ⟨rfl,Am BF b9⟩
theorem Ua (P:PkM) (a:Option Addr) (c:Nat) (w:World) (ha:Row w 1 a P.N.length c (P.N.map AS)) (hk:P.I 0=2) :
    Calls Tryz.prog 85 #[.agg (pkC P a P.N.length c).toArray] w fun e w'=>e=.returned (.bool (BS P (Au P P0z (Ah++Al 2))))∧Below w.heap.size w w':=by
  have e1:(P.I 0 == 1)=false:=by rw [hk];rfl
  have e2:(P.I 0 == 2)=true:=by rw [hk];rfl
  have e3:(P.I 0 == 3)=false:=by rw [hk];rfl
  have e4:(P.I 0 == 4)=false:=by rw [hk];rfl
  have e5:(P.I 0 == 5)=false:=by rw [hk];rfl
  have HA:=hid ha
  clear ha hk
  go_enter Tryz.func85,Tryz.ntmps85
  go_step
  go_step
  go_step
  refine Bg rfl 39 _ rfl (pkC P a P.N.length c) rfl ?_
  intro w1 k1 b1 s1
  have KP0:=hid k1;have B1:=hid b1;have S1:=hid s1
  have nE:¬ w.heap.size=w1.heap.size:=ω
  clear k1 b1 s1
  go_step
  go_step
  go_step
  go_step
  go_step
  go_step
  go_step
  go_step
  refine Cb (N:=118) (l:=[(1,π w.heap.size)]) ⟨rfl,(by intro x hx;simp only [List.mem_cons,List.not_mem_nil,or_false] at hx;rcases hx with rfl<;>rfl),rfl⟩ fun a0 i0=>?_
  refine fav i0 rfl (fun _=>Ag 0 0 (by decide) w.heap.size _) fun a1 i1=>?_
  refine sw1 i1 rfl (v:=(ν (P.I 0))) (rld i1 rfl rfl (Ae (KP0.out.cell (i:=0) (by show 0<43;omega)))) fun a2 i2=>?_
  refine fav i2 rfl (fun _=>Ag 1 1 (by decide) w.heap.size _) fun a3 i3=>?_
  refine sw1 i3 rfl (v:=(ν (P.I 1))) (rld i3 rfl rfl (Ae (KP0.out.cell (i:=1) (by show 1<43;omega)))) fun a4 i4=>?_
  refine fav i4 rfl (fun _=>Ag 2 2 (by decide) w.heap.size _) fun a5 i5=>?_
  refine sw1 i5 rfl (v:=(ν (P.I 2))) (rld i5 rfl rfl (Ae (KP0.out.cell (i:=2) (by show 2<43;omega)))) fun a6 i6=>?_
  refine fav i6 rfl (fun _=>Ag 3 3 (by decide) w.heap.size _) fun a7 i7=>?_
  refine sw1 i7 rfl (v:=(ν (P.I 3))) (rld i7 rfl rfl (Ae (KP0.out.cell (i:=3) (by show 3<43;omega)))) fun a8 i8=>?_
  obtain ⟨Q0,hQ0⟩:∃ Q0,Q0=Ck (Ck (Ck (Ck P0z 0 (P.I 0)) 1 (P.I 1)) 2 (P.I 2)) 3 (P.I 3):=⟨_,rfl⟩
  refine sw1 i8 rfl (v:=(.agg (pkC Q0 none 0 0).toArray)) (by unfold execOp;simp only [i8.ev 5 rfl,i8.ev 7 rfl,i8.ev 9 rfl,i8.ev 11 rfl,List.map_toArray,List.map_cons,List.map_nil];rw [hQ0];exact Af (JR _ _ _ _ _)) fun a9 i9=>?_
  refine Ar i9 (wn rfl) rfl (by decide) (by intro x hx;simp only [List.mem_cons,List.not_mem_nil,or_false] at hx;rcases hx with rfl | rfl | rfl | rfl | rfl | rfl | rfl | rfl | rfl | rfl<;>simp) (π w1.heap.size) (Dj rfl _ w1) fun a10 i10=>?_
  have j10:=i10.sub (l':=[(1,π w.heap.size),(3,π w1.heap.size),(12,.agg (pkC Q0 none 0 0).toArray)]) (by intro x hx;simp only [List.mem_cons,List.not_mem_nil,or_false] at hx;rcases hx with rfl | rfl | rfl<;>simp)
  clear i0 i1 i2 i3 i4 i5 i6 i7 i8 i9 i10
  have z2:Blk (w1.alloc (.cells CI 39)) w1.heap.size 39 (pkC P0z none 0 0):=by rw [EE];exact AP rfl _ _
  have KP2:=hid (KP0.out.mono (CQ w1 (.cells CI 39)));have B2:=hid (AT B1.out (.cells CI 39))
  generalize w1.alloc (.cells CI 39)=w2 at *
  refine CW j10 rfl rfl 39 rfl w1.heap.size 0 (j10.eval (k:=3) (v:=π w1.heap.size) (by simp)) (pkC Q0 none 0 0) (j10.eval (k:=12) (v:=.agg (pkC Q0 none 0 0).toArray) (by simp)) (by rw [Bq];rfl) (Hc _ _ _ _) z2 (by show 0+43≤43;omega) fun a11 w3 j10 k3 g3=>?_
  rw [Cz (by rfl)] at k3
  have KP3:=hid (KP2.out.grownS g3 nE);have B3:=hid (Aq B2.out g3 B1.out.size B2.out.size);have KQ3:=hid k3
  clear k3 g3 z2 KP2 B2 KP0
  go_step
  go_step
  go_step
  go_step
  go_step
  go_step
  refine fav j10 rfl (fun _=>Ag 0 0 (by decide) w.heap.size _) fun a12 j11=>?_
  refine sw1 j11 rfl (v:=(ν (P.I 0))) (rld j11 rfl rfl (Ae (KP3.out.cell (i:=0) (by show 0<43;omega)))) fun a13 j12=>?_
  have m0:=j12.sub (l':=LO w.heap.size w1.heap.size P) (by intro x hx;simp only [List.mem_cons,List.not_mem_nil,or_false] at hx;rcases hx with rfl | rfl | rfl<;>simp)
  clear j10 j11 j12
  go_step
  go_step
  go_step
  go_step
  go_step
  go_step
  refine sw1 m0 rfl (v:=(.bool (P.I 0 == 1))) (by unfold execOp;simp only [m0.ev 14 rfl];exact Af (eqI _ _ _ _ _)) fun x1 y1=>?_
  refine sw1 y1 rfl (v:=(.bool (P.I 0 == 1))) (by unfold execOp;simp only [y1.eval (List.mem_cons_self ..)];rfl) fun u1 v1=>?_
  have m1:=v1.sub (l':=LO w.heap.size w1.heap.size P) (by intro x hx;simp only [List.mem_cons,List.not_mem_nil,or_false] at hx;rcases hx with rfl | rfl | rfl<;>simp)
  go_step
  go_step
  go_step
  refine wp_cond (t:=P.I 0 == 1) (v1.eval (List.mem_cons_self ..)) ?_
  rw [e1]
  simp only [Bool.false_eq_true,if_false]
  clear y1 v1 m0
  go_step
  go_step
  refine sw1 m1 rfl (v:=(.bool (P.I 0 == 2))) (by unfold execOp;simp only [m1.ev 14 rfl];exact Af (eqI _ _ _ _ _)) fun x2 y2=>?_
  refine sw1 y2 rfl (v:=(.bool (P.I 0 == 2))) (by unfold execOp;simp only [y2.eval (List.mem_cons_self ..)];rfl) fun u2 v2=>?_
  have m2:=v2.sub (l':=LO w.heap.size w1.heap.size P) (by intro x hx;simp only [List.mem_cons,List.not_mem_nil,or_false] at hx;rcases hx with rfl | rfl | rfl<;>simp)
  go_step
  go_step
  go_step
  refine wp_cond (t:=P.I 0 == 2) (v2.eval (List.mem_cons_self ..)) ?_
  rw [e2]
  simp only [if_true]
  clear y2 v2 m1
  go_step
  go_step
  refine BI (gp:=w.heap.size) (gq:=w1.heap.size) (fun g=>Ag 4 4 (by decide) g _) (show (Instr.loadAt _ _).run _ _=.ok (ν (P.I 4)) _ from Ae (KP3.out.cell (i:=4) (by show 4<43;omega))) (Ed (KQ3.out.cell (i:=4) (by show 4<43;omega)) (KQ3.out.frozen 4) _) KQ3.out m2 (by simp) (by simp) (by intro x hx;simp only [List.mem_cons,List.not_mem_nil,or_false] at hx;rcases hx with rfl | rfl | rfl<;>simp) (by decide) rfl rfl rfl rfl rfl rfl rfl rfl rfl rfl rfl rfl fun c1 s1 n1 k1 g1=>?_
  rw [Bz _ _ _ _ rfl] at k1
  have KP4:=hid (KP3.out.grownS g1 nE);have B4:=hid (Aq B3.out g1 B1.out.size B3.out.size);have KQ4:=hid k1
  clear k1 g1 KP3 B3 KQ3 m2
  go_step
  go_step
  go_step
  go_step
  go_step
  refine BI (gp:=w.heap.size) (gq:=w1.heap.size) (fun g=>Ag 12 19 (by decide) g _) (show (Instr.loadAt _ _).run _ _=.ok (ν (P.I 19)) _ from IE (KP4.out.cell (i:=19) (by show 19<43;omega))) (Uu (KQ4.out.cell (i:=19) (by show 19<43;omega)) (KQ4.out.frozen 19) _) KQ4.out n1 (by simp) (by simp) (by intro x hx;simp only [List.mem_cons,List.not_mem_nil,or_false] at hx;rcases hx with rfl | rfl | rfl<;>simp) (by decide) rfl rfl rfl rfl rfl rfl rfl rfl rfl rfl rfl rfl fun c2 s2 n2 k2 g2=>?_
  rw [Bz _ _ _ _ rfl] at k2
  have KP5:=hid (KP4.out.grownS g2 nE);have B5:=hid (Aq B4.out g2 B1.out.size B4.out.size);have KQ5:=hid k2
  clear k2 g2 KP4 B4 KQ4 n1
  go_step
  go_step
  go_step
  go_step
  go_step
  refine BI (gp:=w.heap.size) (gq:=w1.heap.size) (fun g=>Ag 7 7 (by decide) g _) (show (Instr.loadAt _ _).run _ _=.ok (.string (bsW (P.S 7))) _ from Fl (KP5.out.cell (i:=7) (by show 7<43;omega))) (Uv (KQ5.out.cell (i:=7) (by show 7<43;omega)) (KQ5.out.frozen 7) _) KQ5.out n2 (by simp) (by simp) (by intro x hx;simp only [List.mem_cons,List.not_mem_nil,or_false] at hx;rcases hx with rfl | rfl | rfl<;>simp) (by decide) rfl rfl rfl rfl rfl rfl rfl rfl rfl rfl rfl rfl fun c3 s3 n3 k3 g3=>?_
  rw [show (.string (bsW (P.S 7)):Value)=AS (P.S 7) from rfl,LD _ _ _ _ rfl] at k3
  have KP6:=hid (KP5.out.grownS g3 nE);have B6:=hid (Aq B5.out g3 B1.out.size B5.out.size);have KQ6:=hid k3
  clear k3 g3 KP5 B5 KQ5 n2
  go_step
  go_step
  go_step
  go_step
  refine BI (gp:=w.heap.size) (gq:=w1.heap.size) (fun g=>Ag 8 8 (by decide) g _) (show (Instr.loadAt _ _).run _ _=.ok (ν (P.I 8)) _ from Ae (KP6.out.cell (i:=8) (by show 8<43;omega))) (Ed (KQ6.out.cell (i:=8) (by show 8<43;omega)) (KQ6.out.frozen 8) _) KQ6.out n3 (by simp) (by simp) (by intro x hx;simp only [List.mem_cons,List.not_mem_nil,or_false] at hx;rcases hx with rfl | rfl | rfl<;>simp) (by decide) rfl rfl rfl rfl rfl rfl rfl rfl rfl rfl rfl rfl fun c4 s4 n4 k4 g4=>?_
  rw [Bz _ _ _ _ rfl] at k4
  have KP7:=hid (KP6.out.grownS g4 nE);have B7:=hid (Aq B6.out g4 B1.out.size B6.out.size);have KQ7:=hid k4
  clear k4 g4 KP6 B6 KQ6 n3
  go_step
  go_step
  go_step
  go_step
  go_step
  have KF:Hid (Blk s4 w1.heap.size 39 (pkC (Au P P0z (Ah++Al 2)) none (Au P P0z (Ah++Al 2)).N.length 0)):=hid (by have z:=KQ7.out;rw [hQ0] at z;exact z)
  have BF:=B7.out
  refine sw1 n4 rfl (v:=(.agg (pkC P a P.N.length c).toArray)) (by unfold execOp;simp only [n4.ev 1 rfl];exact Af (run_loadAt_mid _ _ _ _ (pkC P a P.N.length c) _ KP7.out.range υ39 rfl (by rw [Bq];rfl))) fun t1 r1=>?_
  refine sw1 r1 rfl (v:=(.agg (pkC (Au P P0z (Ah++Al 2)) none (Au P P0z (Ah++Al 2)).N.length 0).toArray)) (by unfold execOp;simp only [r1.ev 3 rfl];exact Af (run_loadAt_mid _ _ _ _ (pkC (Au P P0z (Ah++Al 2)) none (Au P P0z (Ah++Al 2)).N.length 0) _ KF.out.range υ39 rfl (by rw [Bq];rfl))) fun t2 r2=>?_
  have hrow:Row s4 1 none (Au P P0z (Ah++Al 2)).N.length 0 ((Au P P0z (Ah++Al 2)).N.map AS):=Row.nil _ _
  refine Ak r2 (wn rfl) rfl (by decide) (by intro x hx;simp only [List.mem_cons,List.not_mem_nil,or_false] at hx;rcases hx with rfl | rfl | rfl | rfl | rfl<;>simp) (fun args=>EU args _) rfl #[.agg (pkC P a P.N.length c).toArray,.agg (pkC (Au P P0z (Ah++Al 2)) none (Au P P0z (Ah++Al 2)).N.length 0).toArray] (by simp only [List.map_toArray,List.map_cons,List.map_nil,r2.eval (k:=115) (v:=.agg (pkC P a P.N.length c).toArray) (by simp),r2.eval (k:=116) (List.mem_cons_self ..)]) (R:=fun v w'=>v=.bool (BS P (Au P P0z (Ah++Al 2)))∧Below s4.heap.size s4 w') ((DM P (Au P P0z (Ah++Al 2)) a none c 0 _ (HA.out.mono BF) hrow).mono fun e w' q=>⟨_,q.1,rfl,q.2⟩) fun t3 v w9 hv r3=>?_
  obtain ⟨rfl,b9⟩:=hv
  refine mv r3 rfl fun t4 r4=>?_
  go_step
  go_step
  go_step
  go_step
  refine bodyPost_ret (BV rfl (r4.known _ (List.mem_cons_self ..))) r4.defs ?_
  exact ⟨rfl,Am BF b9⟩
theorem Ub (P:PkM) (a:Option Addr) (c:Nat) (w:World) (ha:Row w 1 a P.N.length c (P.N.map AS)) (hk:P.I 0=3) :
    Calls Tryz.prog 85 #[.agg (pkC P a P.N.length c).toArray] w fun e w'=>e=.returned (.bool (BS P (Au P P0z (Ah++Al 3))))∧Below w.heap.size w w':=by
  have e1:(P.I 0 == 1)=false:=by rw [hk];rfl
  have e2:(P.I 0 == 2)=false:=by rw [hk];rfl
  have e3:(P.I 0 == 3)=true:=by rw [hk];rfl
  have e4:(P.I 0 == 4)=false:=by rw [hk];rfl
  have e5:(P.I 0 == 5)=false:=by rw [hk];rfl
  have HA:=hid ha
  clear ha hk
  go_enter Tryz.func85,Tryz.ntmps85
  go_step
  go_step
  go_step
  refine Bg rfl 39 _ rfl (pkC P a P.N.length c) rfl ?_
  intro w1 k1 b1 s1
  have KP0:=hid k1;have B1:=hid b1;have S1:=hid s1
  have nE:¬ w.heap.size=w1.heap.size:=ω
  clear k1 b1 s1
  go_step
  go_step
  go_step
  go_step
  go_step
  go_step
  go_step
  go_step
  refine Cb (N:=118) (l:=[(1,π w.heap.size)]) ⟨rfl,(by intro x hx;simp only [List.mem_cons,List.not_mem_nil,or_false] at hx;rcases hx with rfl<;>rfl),rfl⟩ fun a0 i0=>?_
  refine fav i0 rfl (fun _=>Ag 0 0 (by decide) w.heap.size _) fun a1 i1=>?_
  refine sw1 i1 rfl (v:=(ν (P.I 0))) (rld i1 rfl rfl (Ae (KP0.out.cell (i:=0) (by show 0<43;omega)))) fun a2 i2=>?_
  refine fav i2 rfl (fun _=>Ag 1 1 (by decide) w.heap.size _) fun a3 i3=>?_
  refine sw1 i3 rfl (v:=(ν (P.I 1))) (rld i3 rfl rfl (Ae (KP0.out.cell (i:=1) (by show 1<43;omega)))) fun a4 i4=>?_
  refine fav i4 rfl (fun _=>Ag 2 2 (by decide) w.heap.size _) fun a5 i5=>?_
  refine sw1 i5 rfl (v:=(ν (P.I 2))) (rld i5 rfl rfl (Ae (KP0.out.cell (i:=2) (by show 2<43;omega)))) fun a6 i6=>?_
  refine fav i6 rfl (fun _=>Ag 3 3 (by decide) w.heap.size _) fun a7 i7=>?_
  refine sw1 i7 rfl (v:=(ν (P.I 3))) (rld i7 rfl rfl (Ae (KP0.out.cell (i:=3) (by show 3<43;omega)))) fun a8 i8=>?_
  obtain ⟨Q0,hQ0⟩:∃ Q0,Q0=Ck (Ck (Ck (Ck P0z 0 (P.I 0)) 1 (P.I 1)) 2 (P.I 2)) 3 (P.I 3):=⟨_,rfl⟩
  refine sw1 i8 rfl (v:=(.agg (pkC Q0 none 0 0).toArray)) (by unfold execOp;simp only [i8.ev 5 rfl,i8.ev 7 rfl,i8.ev 9 rfl,i8.ev 11 rfl,List.map_toArray,List.map_cons,List.map_nil];rw [hQ0];exact Af (JR _ _ _ _ _)) fun a9 i9=>?_
  refine Ar i9 (wn rfl) rfl (by decide) (by intro x hx;simp only [List.mem_cons,List.not_mem_nil,or_false] at hx;rcases hx with rfl | rfl | rfl | rfl | rfl | rfl | rfl | rfl | rfl | rfl<;>simp) (π w1.heap.size) (Dj rfl _ w1) fun a10 i10=>?_
  have j10:=i10.sub (l':=[(1,π w.heap.size),(3,π w1.heap.size),(12,.agg (pkC Q0 none 0 0).toArray)]) (by intro x hx;simp only [List.mem_cons,List.not_mem_nil,or_false] at hx;rcases hx with rfl | rfl | rfl<;>simp)
  clear i0 i1 i2 i3 i4 i5 i6 i7 i8 i9 i10
  have z2:Blk (w1.alloc (.cells CI 39)) w1.heap.size 39 (pkC P0z none 0 0):=by rw [EE];exact AP rfl _ _
  have KP2:=hid (KP0.out.mono (CQ w1 (.cells CI 39)));have B2:=hid (AT B1.out (.cells CI 39))
  generalize w1.alloc (.cells CI 39)=w2 at *
  refine CW j10 rfl rfl 39 rfl w1.heap.size 0 (j10.eval (k:=3) (v:=π w1.heap.size) (by simp)) (pkC Q0 none 0 0) (j10.eval (k:=12) (v:=.agg (pkC Q0 none 0 0).toArray) (by simp)) (by rw [Bq];rfl) (Hc _ _ _ _) z2 (by show 0+43≤43;omega) fun a11 w3 j10 k3 g3=>?_
  rw [Cz (by rfl)] at k3
  have KP3:=hid (KP2.out.grownS g3 nE);have B3:=hid (Aq B2.out g3 B1.out.size B2.out.size);have KQ3:=hid k3
  clear k3 g3 z2 KP2 B2 KP0
  go_step
  go_step
  go_step
  go_step
  go_step
  go_step
  refine fav j10 rfl (fun _=>Ag 0 0 (by decide) w.heap.size _) fun a12 j11=>?_
  refine sw1 j11 rfl (v:=(ν (P.I 0))) (rld j11 rfl rfl (Ae (KP3.out.cell (i:=0) (by show 0<43;omega)))) fun a13 j12=>?_
  have m0:=j12.sub (l':=LO w.heap.size w1.heap.size P) (by intro x hx;simp only [List.mem_cons,List.not_mem_nil,or_false] at hx;rcases hx with rfl | rfl | rfl<;>simp)
  clear j10 j11 j12
  go_step
  go_step
  go_step
  go_step
  go_step
  go_step
  refine sw1 m0 rfl (v:=(.bool (P.I 0 == 1))) (by unfold execOp;simp only [m0.ev 14 rfl];exact Af (eqI _ _ _ _ _)) fun x1 y1=>?_
  refine sw1 y1 rfl (v:=(.bool (P.I 0 == 1))) (by unfold execOp;simp only [y1.eval (List.mem_cons_self ..)];rfl) fun u1 v1=>?_
  have m1:=v1.sub (l':=LO w.heap.size w1.heap.size P) (by intro x hx;simp only [List.mem_cons,List.not_mem_nil,or_false] at hx;rcases hx with rfl | rfl | rfl<;>simp)
  go_step
  go_step
  go_step
  refine wp_cond (t:=P.I 0 == 1) (v1.eval (List.mem_cons_self ..)) ?_
  rw [e1]
  simp only [Bool.false_eq_true,if_false]
  clear y1 v1 m0
  go_step
  go_step
  refine sw1 m1 rfl (v:=(.bool (P.I 0 == 2))) (by unfold execOp;simp only [m1.ev 14 rfl];exact Af (eqI _ _ _ _ _)) fun x2 y2=>?_
  refine sw1 y2 rfl (v:=(.bool (P.I 0 == 2))) (by unfold execOp;simp only [y2.eval (List.mem_cons_self ..)];rfl) fun u2 v2=>?_
  have m2:=v2.sub (l':=LO w.heap.size w1.heap.size P) (by intro x hx;simp only [List.mem_cons,List.not_mem_nil,or_false] at hx;rcases hx with rfl | rfl | rfl<;>simp)
  go_step
  go_step
  go_step
  refine wp_cond (t:=P.I 0 == 2) (v2.eval (List.mem_cons_self ..)) ?_
  rw [e2]
  simp only [Bool.false_eq_true,if_false]
  clear y2 v2 m1
  go_step
  go_step
  refine sw1 m2 rfl (v:=(.bool (P.I 0 == 3))) (by unfold execOp;simp only [m2.ev 14 rfl];exact Af (eqI _ _ _ _ _)) fun x3 y3=>?_
  refine sw1 y3 rfl (v:=(.bool (P.I 0 == 3))) (by unfold execOp;simp only [y3.eval (List.mem_cons_self ..)];rfl) fun u3 v3=>?_
  have m3:=v3.sub (l':=LO w.heap.size w1.heap.size P) (by intro x hx;simp only [List.mem_cons,List.not_mem_nil,or_false] at hx;rcases hx with rfl | rfl | rfl<;>simp)
  go_step
  go_step
  go_step
  refine wp_cond (t:=P.I 0 == 3) (v3.eval (List.mem_cons_self ..)) ?_
  rw [e3]
  simp only [if_true]
  clear y3 v3 m2
  go_step
  go_step
  refine BI (gp:=w.heap.size) (gq:=w1.heap.size) (fun g=>Ag 4 4 (by decide) g _) (show (Instr.loadAt _ _).run _ _=.ok (ν (P.I 4)) _ from Ae (KP3.out.cell (i:=4) (by show 4<43;omega))) (Ed (KQ3.out.cell (i:=4) (by show 4<43;omega)) (KQ3.out.frozen 4) _) KQ3.out m3 (by simp) (by simp) (by intro x hx;simp only [List.mem_cons,List.not_mem_nil,or_false] at hx;rcases hx with rfl | rfl | rfl<;>simp) (by decide) rfl rfl rfl rfl rfl rfl rfl rfl rfl rfl rfl rfl fun c1 s1 n1 k1 g1=>?_
  rw [Bz _ _ _ _ rfl] at k1
  have KP4:=hid (KP3.out.grownS g1 nE);have B4:=hid (Aq B3.out g1 B1.out.size B3.out.size);have KQ4:=hid k1
  clear k1 g1 KP3 B3 KQ3 m3
  go_step
  go_step
  go_step
  go_step
  go_step
  refine BI (gp:=w.heap.size) (gq:=w1.heap.size) (fun g=>Ag 11 18 (by decide) g _) (show (Instr.loadAt _ _).run _ _=.ok (ν (P.I 18)) _ from Ae (KP4.out.cell (i:=18) (by show 18<43;omega))) (Ed (KQ4.out.cell (i:=18) (by show 18<43;omega)) (KQ4.out.frozen 18) _) KQ4.out n1 (by simp) (by simp) (by intro x hx;simp only [List.mem_cons,List.not_mem_nil,or_false] at hx;rcases hx with rfl | rfl | rfl<;>simp) (by decide) rfl rfl rfl rfl rfl rfl rfl rfl rfl rfl rfl rfl fun c2 s2 n2 k2 g2=>?_
  rw [Bz _ _ _ _ rfl] at k2
  have KP5:=hid (KP4.out.grownS g2 nE);have B5:=hid (Aq B4.out g2 B1.out.size B4.out.size);have KQ5:=hid k2
  clear k2 g2 KP4 B4 KQ4 n1
  go_step
  go_step
  go_step
  go_step
  refine fav n2 rfl (fun _=>Ag 10 10 (by decide) w.heap.size _) fun t0 r0=>?_
  refine sw1 r0 rfl (v:=(.pointer (some ⟨w.heap.size,11,none⟩))) (by unfold execOp;simp only [r0.eval (k:=57) (List.mem_cons_self ..)];exact Af (KH 1 11 (by decide) w.heap.size _)) fun t1 r1=>?_
  refine sw1 r1 rfl (v:=(.string (bsW (P.S 11)))) (rld r1 rfl rfl (Fl (KP5.out.cell (i:=11) (by show 11<43;omega)))) fun t2 r2=>?_
  refine fav r2 rfl (fun _=>Ag 10 10 (by decide) w.heap.size _) fun t3 r3=>?_
  refine sw1 r3 rfl (v:=(.pointer (some ⟨w.heap.size,12,none⟩))) (by unfold execOp;simp only [r3.eval (k:=60) (List.mem_cons_self ..)];exact Af (KH 2 12 (by decide) w.heap.size _)) fun t4 r4=>?_
  refine sw1 r4 rfl (v:=(.string (bsW (P.S 12)))) (rld r4 rfl rfl (Fl (KP5.out.cell (i:=12) (by show 12<43;omega)))) fun t5 r5=>?_
  refine fav r5 rfl (fun _=>Ag 10 10 (by decide) w.heap.size _) fun t6 r6=>?_
  refine sw1 r6 rfl (v:=(.pointer (some ⟨w.heap.size,13,none⟩))) (by unfold execOp;simp only [r6.eval (k:=63) (List.mem_cons_self ..)];exact Af (KH 3 13 (by decide) w.heap.size _)) fun t7 r7=>?_
  refine sw1 r7 rfl (v:=(ν (P.I 13))) (rld r7 rfl rfl (Ae (KP5.out.cell (i:=13) (by show 13<43;omega)))) fun t8 r8=>?_
  refine fav r8 rfl (fun _=>Ag 10 10 (by decide) w.heap.size _) fun t9 r9=>?_
  refine sw1 r9 rfl (v:=(.pointer (some ⟨w.heap.size,16,none⟩))) (by unfold execOp;simp only [r9.eval (k:=66) (List.mem_cons_self ..)];exact Af (KH 6 16 (by decide) w.heap.size _)) fun t10 r10=>?_
  refine sw1 r10 rfl (v:=(ν (P.I 16))) (rld r10 rfl rfl (Ae (KP5.out.cell (i:=16) (by show 16<43;omega)))) fun t11 r11=>?_
  refine sw1 r11 rfl (v:=(.agg ([ν 0,.string (bsW (P.S 11)),.string (bsW (P.S 12)),ν (P.I 13),ν 0,ν 0,ν (P.I 16),.string ⟨#[]⟩]:List Value).toArray)) (by unfold execOp;simp only [r11.ev 59 rfl,r11.ev 62 rfl,r11.ev 65 rfl,r11.ev 68 rfl,List.map_toArray,List.map_cons,List.map_nil];exact Af (RE _ _ _ _ _)) fun t12 r12=>?_
  refine fav r12 rfl (fun _=>Ag 10 10 (by decide) w1.heap.size _) fun t13 r13=>?_
  refine CW r13 rfl rfl 27 rfl w1.heap.size 10 (r13.eval (k:=70) (List.mem_cons_self ..)) [ν 0,.string (bsW (P.S 11)),.string (bsW (P.S 12)),ν (P.I 13),ν 0,ν 0,ν (P.I 16),.string ⟨#[]⟩] (r13.eval (k:=69) (by simp)) (by rw [Jr];rfl) (by intro v hv;have:(([ν 0,.string (bsW (P.S 11)),.string (bsW (P.S 12)),ν (P.I 13),ν 0,ν 0,ν (P.I 16),.string ⟨#[]⟩]:List Value).all fun v=>v.oneCell')=true:=rfl;exact List.all_eq_true.1 this v hv) KQ5.out (by show 10+_≤43;simp) fun c3 s3 n3 k3 g3=>?_
  have n3:=n3.sub (l':=LO w.heap.size w1.heap.size P) (by intro x hx;simp only [List.mem_cons,List.not_mem_nil,or_false] at hx;rcases hx with rfl | rfl | rfl<;>simp)
  have KP6:=hid (KP5.out.grownS g3 nE);have B6:=hid (Aq B5.out g3 B1.out.size B5.out.size);have KQ6:=hid k3
  clear k3 g3 KP5 B5 KQ5 n2 r0 r1 r2 r3 r4 r5 r6 r7 r8 r9 r10 r11 r12 r13
  go_step
  go_step
  go_step
  go_step
  go_step
  have KF:Hid (Blk s3 w1.heap.size 39 (pkC (Au P P0z (Ah++Al 3)) none (Au P P0z (Ah++Al 3)).N.length 0)):=hid (by have z:=KQ6.out;rw [hQ0] at z;exact z)
  have BF:=B6.out
  refine sw1 n3 rfl (v:=(.agg (pkC P a P.N.length c).toArray)) (by unfold execOp;simp only [n3.ev 1 rfl];exact Af (run_loadAt_mid _ _ _ _ (pkC P a P.N.length c) _ KP6.out.range υ39 rfl (by rw [Bq];rfl))) fun t1 r1=>?_
  refine sw1 r1 rfl (v:=(.agg (pkC (Au P P0z (Ah++Al 3)) none (Au P P0z (Ah++Al 3)).N.length 0).toArray)) (by unfold execOp;simp only [r1.ev 3 rfl];exact Af (run_loadAt_mid _ _ _ _ (pkC (Au P P0z (Ah++Al 3)) none (Au P P0z (Ah++Al 3)).N.length 0) _ KF.out.range υ39 rfl (by rw [Bq];rfl))) fun t2 r2=>?_
  have hrow:Row s3 1 none (Au P P0z (Ah++Al 3)).N.length 0 ((Au P P0z (Ah++Al 3)).N.map AS):=Row.nil _ _
  refine Ak r2 (wn rfl) rfl (by decide) (by intro x hx;simp only [List.mem_cons,List.not_mem_nil,or_false] at hx;rcases hx with rfl | rfl | rfl | rfl | rfl<;>simp) (fun args=>EU args _) rfl #[.agg (pkC P a P.N.length c).toArray,.agg (pkC (Au P P0z (Ah++Al 3)) none (Au P P0z (Ah++Al 3)).N.length 0).toArray] (by simp only [List.map_toArray,List.map_cons,List.map_nil,r2.eval (k:=115) (v:=.agg (pkC P a P.N.length c).toArray) (by simp),r2.eval (k:=116) (List.mem_cons_self ..)]) (R:=fun v w'=>v=.bool (BS P (Au P P0z (Ah++Al 3)))∧Below s3.heap.size s3 w') ((DM P (Au P P0z (Ah++Al 3)) a none c 0 _ (HA.out.mono BF) hrow).mono fun e w' q=>⟨_,q.1,rfl,q.2⟩) fun t3 v w9 hv r3=>?_
  obtain ⟨rfl,b9⟩:=hv
  refine mv r3 rfl fun t4 r4=>?_
  go_step
  go_step
  go_step
  go_step
  refine bodyPost_ret (BV rfl (r4.known _ (List.mem_cons_self ..))) r4.defs ?_
  exact ⟨rfl,Am BF b9⟩
theorem Uc (P:PkM) (a:Option Addr) (c:Nat) (w:World) (ha:Row w 1 a P.N.length c (P.N.map AS)) (hk:P.I 0=4) :
    Calls Tryz.prog 85 #[.agg (pkC P a P.N.length c).toArray] w fun e w'=>e=.returned (.bool (BS P (Au P P0z (Ah++Al 4))))∧Below w.heap.size w w':=by
  have e1:(P.I 0 == 1)=false:=by rw [hk];rfl
  have e2:(P.I 0 == 2)=false:=by rw [hk];rfl
  have e3:(P.I 0 == 3)=false:=by rw [hk];rfl
  have e4:(P.I 0 == 4)=true:=by rw [hk];rfl
  have e5:(P.I 0 == 5)=false:=by rw [hk];rfl
  have HA:=hid ha
  clear ha hk
  go_enter Tryz.func85,Tryz.ntmps85
  go_step
  go_step
  go_step
  refine Bg rfl 39 _ rfl (pkC P a P.N.length c) rfl ?_
  intro w1 k1 b1 s1
  have KP0:=hid k1;have B1:=hid b1;have S1:=hid s1
  have nE:¬ w.heap.size=w1.heap.size:=ω
  clear k1 b1 s1
  go_step
  go_step
  go_step
  go_step
  go_step
  go_step
  go_step
  go_step
  refine Cb (N:=118) (l:=[(1,π w.heap.size)]) ⟨rfl,(by intro x hx;simp only [List.mem_cons,List.not_mem_nil,or_false] at hx;rcases hx with rfl<;>rfl),rfl⟩ fun a0 i0=>?_
  refine fav i0 rfl (fun _=>Ag 0 0 (by decide) w.heap.size _) fun a1 i1=>?_
  refine sw1 i1 rfl (v:=(ν (P.I 0))) (rld i1 rfl rfl (Ae (KP0.out.cell (i:=0) (by show 0<43;omega)))) fun a2 i2=>?_
  refine fav i2 rfl (fun _=>Ag 1 1 (by decide) w.heap.size _) fun a3 i3=>?_
  refine sw1 i3 rfl (v:=(ν (P.I 1))) (rld i3 rfl rfl (Ae (KP0.out.cell (i:=1) (by show 1<43;omega)))) fun a4 i4=>?_
  refine fav i4 rfl (fun _=>Ag 2 2 (by decide) w.heap.size _) fun a5 i5=>?_
  refine sw1 i5 rfl (v:=(ν (P.I 2))) (rld i5 rfl rfl (Ae (KP0.out.cell (i:=2) (by show 2<43;omega)))) fun a6 i6=>?_
  refine fav i6 rfl (fun _=>Ag 3 3 (by decide) w.heap.size _) fun a7 i7=>?_
  refine sw1 i7 rfl (v:=(ν (P.I 3))) (rld i7 rfl rfl (Ae (KP0.out.cell (i:=3) (by show 3<43;omega)))) fun a8 i8=>?_
  obtain ⟨Q0,hQ0⟩:∃ Q0,Q0=Ck (Ck (Ck (Ck P0z 0 (P.I 0)) 1 (P.I 1)) 2 (P.I 2)) 3 (P.I 3):=⟨_,rfl⟩
  refine sw1 i8 rfl (v:=(.agg (pkC Q0 none 0 0).toArray)) (by unfold execOp;simp only [i8.ev 5 rfl,i8.ev 7 rfl,i8.ev 9 rfl,i8.ev 11 rfl,List.map_toArray,List.map_cons,List.map_nil];rw [hQ0];exact Af (JR _ _ _ _ _)) fun a9 i9=>?_
  refine Ar i9 (wn rfl) rfl (by decide) (by intro x hx;simp only [List.mem_cons,List.not_mem_nil,or_false] at hx;rcases hx with rfl | rfl | rfl | rfl | rfl | rfl | rfl | rfl | rfl | rfl<;>simp) (π w1.heap.size) (Dj rfl _ w1) fun a10 i10=>?_
  have j10:=i10.sub (l':=[(1,π w.heap.size),(3,π w1.heap.size),(12,.agg (pkC Q0 none 0 0).toArray)]) (by intro x hx;simp only [List.mem_cons,List.not_mem_nil,or_false] at hx;rcases hx with rfl | rfl | rfl<;>simp)
  clear i0 i1 i2 i3 i4 i5 i6 i7 i8 i9 i10
  have z2:Blk (w1.alloc (.cells CI 39)) w1.heap.size 39 (pkC P0z none 0 0):=by rw [EE];exact AP rfl _ _
  have KP2:=hid (KP0.out.mono (CQ w1 (.cells CI 39)));have B2:=hid (AT B1.out (.cells CI 39))
  generalize w1.alloc (.cells CI 39)=w2 at *
  refine CW j10 rfl rfl 39 rfl w1.heap.size 0 (j10.eval (k:=3) (v:=π w1.heap.size) (by simp)) (pkC Q0 none 0 0) (j10.eval (k:=12) (v:=.agg (pkC Q0 none 0 0).toArray) (by simp)) (by rw [Bq];rfl) (Hc _ _ _ _) z2 (by show 0+43≤43;omega) fun a11 w3 j10 k3 g3=>?_
  rw [Cz (by rfl)] at k3
  have KP3:=hid (KP2.out.grownS g3 nE);have B3:=hid (Aq B2.out g3 B1.out.size B2.out.size);have KQ3:=hid k3
  clear k3 g3 z2 KP2 B2 KP0
  go_step
  go_step
  go_step
  go_step
  go_step
  go_step
  refine fav j10 rfl (fun _=>Ag 0 0 (by decide) w.heap.size _) fun a12 j11=>?_
  refine sw1 j11 rfl (v:=(ν (P.I 0))) (rld j11 rfl rfl (Ae (KP3.out.cell (i:=0) (by show 0<43;omega)))) fun a13 j12=>?_
  have m0:=j12.sub (l':=LO w.heap.size w1.heap.size P) (by intro x hx;simp only [List.mem_cons,List.not_mem_nil,or_false] at hx;rcases hx with rfl | rfl | rfl<;>simp)
  clear j10 j11 j12
  go_step
  go_step
  go_step
  go_step
  go_step
  go_step
  refine sw1 m0 rfl (v:=(.bool (P.I 0 == 1))) (by unfold execOp;simp only [m0.ev 14 rfl];exact Af (eqI _ _ _ _ _)) fun x1 y1=>?_
  refine sw1 y1 rfl (v:=(.bool (P.I 0 == 1))) (by unfold execOp;simp only [y1.eval (List.mem_cons_self ..)];rfl) fun u1 v1=>?_
  have m1:=v1.sub (l':=LO w.heap.size w1.heap.size P) (by intro x hx;simp only [List.mem_cons,List.not_mem_nil,or_false] at hx;rcases hx with rfl | rfl | rfl<;>simp)
  go_step
  go_step
  go_step
  refine wp_cond (t:=P.I 0 == 1) (v1.eval (List.mem_cons_self ..)) ?_
  rw [e1]
  simp only [Bool.false_eq_true,if_false]
  clear y1 v1 m0
  go_step
  go_step
  refine sw1 m1 rfl (v:=(.bool (P.I 0 == 2))) (by unfold execOp;simp only [m1.ev 14 rfl];exact Af (eqI _ _ _ _ _)) fun x2 y2=>?_
  refine sw1 y2 rfl (v:=(.bool (P.I 0 == 2))) (by unfold execOp;simp only [y2.eval (List.mem_cons_self ..)];rfl) fun u2 v2=>?_
  have m2:=v2.sub (l':=LO w.heap.size w1.heap.size P) (by intro x hx;simp only [List.mem_cons,List.not_mem_nil,or_false] at hx;rcases hx with rfl | rfl | rfl<;>simp)
  go_step
  go_step
  go_step
  refine wp_cond (t:=P.I 0 == 2) (v2.eval (List.mem_cons_self ..)) ?_
  rw [e2]
  simp only [Bool.false_eq_true,if_false]
  clear y2 v2 m1
  go_step
  go_step
  refine sw1 m2 rfl (v:=(.bool (P.I 0 == 3))) (by unfold execOp;simp only [m2.ev 14 rfl];exact Af (eqI _ _ _ _ _)) fun x3 y3=>?_
  refine sw1 y3 rfl (v:=(.bool (P.I 0 == 3))) (by unfold execOp;simp only [y3.eval (List.mem_cons_self ..)];rfl) fun u3 v3=>?_
  have m3:=v3.sub (l':=LO w.heap.size w1.heap.size P) (by intro x hx;simp only [List.mem_cons,List.not_mem_nil,or_false] at hx;rcases hx with rfl | rfl | rfl<;>simp)
  go_step
  go_step
  go_step
  refine wp_cond (t:=P.I 0 == 3) (v3.eval (List.mem_cons_self ..)) ?_
  rw [e3]
  simp only [Bool.false_eq_true,if_false]
  clear y3 v3 m2
  go_step
  go_step
  refine sw1 m3 rfl (v:=(.bool (P.I 0 == 4))) (by unfold execOp;simp only [m3.ev 14 rfl];exact Af (eqI _ _ _ _ _)) fun x4 y4=>?_
  refine sw1 y4 rfl (v:=(.bool (P.I 0 == 4))) (by unfold execOp;simp only [y4.eval (List.mem_cons_self ..)];rfl) fun u4 v4=>?_
  have m4:=v4.sub (l':=LO w.heap.size w1.heap.size P) (by intro x hx;simp only [List.mem_cons,List.not_mem_nil,or_false] at hx;rcases hx with rfl | rfl | rfl<;>simp)
  go_step
  go_step
  go_step
  refine wp_cond (t:=P.I 0 == 4) (v4.eval (List.mem_cons_self ..)) ?_
  rw [e4]
  simp only [if_true]
  clear y4 v4 m3
  go_step
  go_step
  refine BI (gp:=w.heap.size) (gq:=w1.heap.size) (fun g=>Ag 4 4 (by decide) g _) (show (Instr.loadAt _ _).run _ _=.ok (ν (P.I 4)) _ from Ae (KP3.out.cell (i:=4) (by show 4<43;omega))) (Ed (KQ3.out.cell (i:=4) (by show 4<43;omega)) (KQ3.out.frozen 4) _) KQ3.out m4 (by simp) (by simp) (by intro x hx;simp only [List.mem_cons,List.not_mem_nil,or_false] at hx;rcases hx with rfl | rfl | rfl<;>simp) (by decide) rfl rfl rfl rfl rfl rfl rfl rfl rfl rfl rfl rfl fun c1 s1 n1 k1 g1=>?_
  rw [Bz _ _ _ _ rfl] at k1
  have KP4:=hid (KP3.out.grownS g1 nE);have B4:=hid (Aq B3.out g1 B1.out.size B3.out.size);have KQ4:=hid k1
  clear k1 g1 KP3 B3 KQ3 m4
  go_step
  go_step
  go_step
  go_step
  go_step
  refine BI (gp:=w.heap.size) (gq:=w1.heap.size) (fun g=>Ag 12 19 (by decide) g _) (show (Instr.loadAt _ _).run _ _=.ok (ν (P.I 19)) _ from IE (KP4.out.cell (i:=19) (by show 19<43;omega))) (Uu (KQ4.out.cell (i:=19) (by show 19<43;omega)) (KQ4.out.frozen 19) _) KQ4.out n1 (by simp) (by simp) (by intro x hx;simp only [List.mem_cons,List.not_mem_nil,or_false] at hx;rcases hx with rfl | rfl | rfl<;>simp) (by decide) rfl rfl rfl rfl rfl rfl rfl rfl rfl rfl rfl rfl fun c2 s2 n2 k2 g2=>?_
  rw [Bz _ _ _ _ rfl] at k2
  have KP5:=hid (KP4.out.grownS g2 nE);have B5:=hid (Aq B4.out g2 B1.out.size B4.out.size);have KQ5:=hid k2
  clear k2 g2 KP4 B4 KQ4 n1
  go_step
  go_step
  go_step
  go_step
  go_step
  refine BI (gp:=w.heap.size) (gq:=w1.heap.size) (fun g=>Ag 11 18 (by decide) g _) (show (Instr.loadAt _ _).run _ _=.ok (ν (P.I 18)) _ from Ae (KP5.out.cell (i:=18) (by show 18<43;omega))) (Ed (KQ5.out.cell (i:=18) (by show 18<43;omega)) (KQ5.out.frozen 18) _) KQ5.out n2 (by simp) (by simp) (by intro x hx;simp only [List.mem_cons,List.not_mem_nil,or_false] at hx;rcases hx with rfl | rfl | rfl<;>simp) (by decide) rfl rfl rfl rfl rfl rfl rfl rfl rfl rfl rfl rfl fun c3 s3 n3 k3 g3=>?_
  rw [Bz _ _ _ _ rfl] at k3
  have KP6:=hid (KP5.out.grownS g3 nE);have B6:=hid (Aq B5.out g3 B1.out.size B5.out.size);have KQ6:=hid k3
  clear k3 g3 KP5 B5 KQ5 n2
  go_step
  go_step
  go_step
  go_step
  go_step
  refine BI (gp:=w.heap.size) (gq:=w1.heap.size) (fun g=>Ag 14 27 (by decide) g _) (show (Instr.loadAt _ _).run _ _=.ok (ν (P.I 27)) _ from Ae (KP6.out.cell (i:=27) (by show 27<43;omega))) (Ed (KQ6.out.cell (i:=27) (by show 27<43;omega)) (KQ6.out.frozen 27) _) KQ6.out n3 (by simp) (by simp) (by intro x hx;simp only [List.mem_cons,List.not_mem_nil,or_false] at hx;rcases hx with rfl | rfl | rfl<;>simp) (by decide) rfl rfl rfl rfl rfl rfl rfl rfl rfl rfl rfl rfl fun c4 s4 n4 k4 g4=>?_
  rw [Bz _ _ _ _ rfl] at k4
  have KP7:=hid (KP6.out.grownS g4 nE);have B7:=hid (Aq B6.out g4 B1.out.size B6.out.size);have KQ7:=hid k4
  clear k4 g4 KP6 B6 KQ6 n3
  go_step
  go_step
  go_step
  go_step
  go_step
  refine BI (gp:=w.heap.size) (gq:=w1.heap.size) (fun g=>Ag 5 5 (by decide) g _) (show (Instr.loadAt _ _).run _ _=.ok (ν (P.I 5)) _ from Ae (KP7.out.cell (i:=5) (by show 5<43;omega))) (Ed (KQ7.out.cell (i:=5) (by show 5<43;omega)) (KQ7.out.frozen 5) _) KQ7.out n4 (by simp) (by simp) (by intro x hx;simp only [List.mem_cons,List.not_mem_nil,or_false] at hx;rcases hx with rfl | rfl | rfl<;>simp) (by decide) rfl rfl rfl rfl rfl rfl rfl rfl rfl rfl rfl rfl fun c5 s5 n5 k5 g5=>?_
  rw [Bz _ _ _ _ rfl] at k5
  have KP8:=hid (KP7.out.grownS g5 nE);have B8:=hid (Aq B7.out g5 B1.out.size B7.out.size);have KQ8:=hid k5
  clear k5 g5 KP7 B7 KQ7 n4
  go_step
  go_step
  go_step
  go_step
  go_step
  refine fav n5 rfl (fun _=>Ag 13 20 (by decide) w.heap.size _) fun t0 r0=>?_
  refine sw1 r0 rfl (v:=(.pointer (some ⟨w.heap.size,23,none⟩))) (by unfold execOp;simp only [r0.eval (k:=88) (List.mem_cons_self ..)];exact Af (FK 3 23 (by decide) w.heap.size _)) fun t1 r1=>?_
  refine sw1 r1 rfl (v:=(.slice a P.N.length c)) (rld r1 rfl rfl (Lv (KP8.out.cell (i:=23) (by show 23<43;omega)))) fun t2 r2=>?_
  refine fav r2 rfl (fun _=>Ag 13 20 (by decide) w.heap.size _) fun t3 r3=>?_
  refine sw1 r3 rfl (v:=(.pointer (some ⟨w.heap.size,24,none⟩))) (by unfold execOp;simp only [r3.eval (k:=91) (List.mem_cons_self ..)];exact Af (FK 4 24 (by decide) w.heap.size _)) fun t4 r4=>?_
  refine sw1 r4 rfl (v:=(.agg (Gr P).toArray)) (by unfold execOp;simp only [r4.eval (k:=92) (List.mem_cons_self ..)];exact Af (run_loadAt_mid _ _ _ _ (Gr P) _ (KP8.out.part 24 3 (Gr P) rfl) υ31 rfl Js)) fun t5 r5=>?_
  refine sw1 r5 rfl (v:=(.agg ([ν 0,ν 0,.string ⟨#[]⟩,.slice a P.N.length c,ν (P.I 24),ν (P.I 25),ν (P.I 26)]:List Value).toArray)) (by unfold execOp;simp only [r5.ev 90 rfl,r5.ev 93 rfl,List.map_toArray,List.map_cons,List.map_nil];exact Af (PC _ _ _ _ _ _ _)) fun t6 r6=>?_
  refine fav r6 rfl (fun _=>Ag 13 20 (by decide) w1.heap.size _) fun t7 r7=>?_
  refine CW r7 rfl rfl 33 rfl w1.heap.size 20 (r7.eval (k:=95) (List.mem_cons_self ..)) [ν 0,ν 0,.string ⟨#[]⟩,.slice a P.N.length c,ν (P.I 24),ν (P.I 25),ν (P.I 26)] (r7.eval (k:=94) (by simp)) (by rw [Ng];rfl) (by intro v hv;have:(([ν 0,ν 0,.string ⟨#[]⟩,.slice a P.N.length c,ν (P.I 24),ν (P.I 25),ν (P.I 26)]:List Value).all fun v=>v.oneCell')=true:=rfl;exact List.all_eq_true.1 this v hv) KQ8.out (by show 20+_≤43;simp) fun c6 s6 n6 k6 g6=>?_
  have n6:=n6.sub (l':=LO w.heap.size w1.heap.size P) (by intro x hx;simp only [List.mem_cons,List.not_mem_nil,or_false] at hx;rcases hx with rfl | rfl | rfl<;>simp)
  have KP9:=hid (KP8.out.grownS g6 nE);have B9:=hid (Aq B8.out g6 B1.out.size B8.out.size);have KQ9:=hid k6
  clear k6 g6 KP8 B8 KQ8 n5 r0 r1 r2 r3 r4 r5 r6 r7
  go_step
  go_step
  go_step
  go_step
  refine fav n6 rfl (fun _=>Ag 15 28 (by decide) w.heap.size _) fun t0 r0=>?_
  refine sw1 r0 rfl (v:=(.pointer (some ⟨w.heap.size,28,none⟩))) (by unfold execOp;simp only [r0.eval (k:=96) (List.mem_cons_self ..)];exact Af (KI 0 28 (by decide) w.heap.size _)) fun t1 r1=>?_
  refine sw1 r1 rfl (v:=(ν (P.I 28))) (rld r1 rfl rfl (Ae (KP9.out.cell (i:=28) (by show 28<43;omega)))) fun t2 r2=>?_
  refine fav r2 rfl (fun _=>Ag 15 28 (by decide) w.heap.size _) fun t3 r3=>?_
  refine sw1 r3 rfl (v:=(.pointer (some ⟨w.heap.size,29,none⟩))) (by unfold execOp;simp only [r3.eval (k:=99) (List.mem_cons_self ..)];exact Af (KI 1 29 (by decide) w.heap.size _)) fun t4 r4=>?_
  refine sw1 r4 rfl (v:=(ν (P.I 29))) (rld r4 rfl rfl (Ae (KP9.out.cell (i:=29) (by show 29<43;omega)))) fun t5 r5=>?_
  refine fav r5 rfl (fun _=>Ag 15 28 (by decide) w.heap.size _) fun t6 r6=>?_
  refine sw1 r6 rfl (v:=(.pointer (some ⟨w.heap.size,30,none⟩))) (by unfold execOp;simp only [r6.eval (k:=102) (List.mem_cons_self ..)];exact Af (KI 2 30 (by decide) w.heap.size _)) fun t7 r7=>?_
  refine sw1 r7 rfl (v:=(ν (P.I 30))) (rld r7 rfl rfl (Ae (KP9.out.cell (i:=30) (by show 30<43;omega)))) fun t8 r8=>?_
  refine fav r8 rfl (fun _=>Ag 15 28 (by decide) w.heap.size _) fun t9 r9=>?_
  refine sw1 r9 rfl (v:=(.pointer (some ⟨w.heap.size,31,none⟩))) (by unfold execOp;simp only [r9.eval (k:=105) (List.mem_cons_self ..)];exact Af (KI 3 31 (by decide) w.heap.size _)) fun t10 r10=>?_
  refine sw1 r10 rfl (v:=(.agg (SV P).toArray)) (by unfold execOp;simp only [r10.eval (k:=106) (List.mem_cons_self ..)];exact Af (run_loadAt_mid _ _ _ _ (SV P) _ (KP9.out.part 31 4 (SV P) rfl) υ34 rfl Wd)) fun t11 r11=>?_
  refine sw1 r11 rfl (v:=(.agg ([ν (P.I 28),ν (P.I 29),ν (P.I 30),ν (P.I 31),ν (P.I 32),ν (P.I 33),ν (P.I 34),ν 0,ν 0,ν 0,ν 0,ν 0,ν 0,ν 0,ν 0]:List Value).toArray)) (by unfold execOp;simp only [r11.ev 98 rfl,r11.ev 101 rfl,r11.ev 104 rfl,r11.ev 107 rfl,List.map_toArray,List.map_cons,List.map_nil];exact Af (RF _ _ _ _ _ _ _ _)) fun t12 r12=>?_
  refine fav r12 rfl (fun _=>Ag 15 28 (by decide) w1.heap.size _) fun t13 r13=>?_
  refine CW r13 rfl rfl 37 rfl w1.heap.size 28 (r13.eval (k:=109) (List.mem_cons_self ..)) [ν (P.I 28),ν (P.I 29),ν (P.I 30),ν (P.I 31),ν (P.I 32),ν (P.I 33),ν (P.I 34),ν 0,ν 0,ν 0,ν 0,ν 0,ν 0,ν 0,ν 0] (r13.eval (k:=108) (by simp)) (by rw [Jt];rfl) (by intro v hv;have:(([ν (P.I 28),ν (P.I 29),ν (P.I 30),ν (P.I 31),ν (P.I 32),ν (P.I 33),ν (P.I 34),ν 0,ν 0,ν 0,ν 0,ν 0,ν 0,ν 0,ν 0]:List Value).all fun v=>v.oneCell')=true:=rfl;exact List.all_eq_true.1 this v hv) KQ9.out (by show 28+_≤43;simp) fun c7 s7 n7 k7 g7=>?_
  have n7:=n7.sub (l':=LO w.heap.size w1.heap.size P) (by intro x hx;simp only [List.mem_cons,List.not_mem_nil,or_false] at hx;rcases hx with rfl | rfl | rfl<;>simp)
  have KP10:=hid (KP9.out.grownS g7 nE);have B10:=hid (Aq B9.out g7 B1.out.size B9.out.size);have KQ10:=hid k7
  clear k7 g7 KP9 B9 KQ9 n6 r0 r1 r2 r3 r4 r5 r6 r7 r8 r9 r10 r11 r12 r13
  go_step
  go_step
  go_step
  go_step
  go_step
  have KF:Hid (Blk s7 w1.heap.size 39 (pkC (Au P P0z (Ah++Al 4)) a (Au P P0z (Ah++Al 4)).N.length c)):=hid (by have z:=KQ10.out;rw [hQ0] at z;exact z)
  have BF:=B10.out
  refine sw1 n7 rfl (v:=(.agg (pkC P a P.N.length c).toArray)) (by unfold execOp;simp only [n7.ev 1 rfl];exact Af (run_loadAt_mid _ _ _ _ (pkC P a P.N.length c) _ KP10.out.range υ39 rfl (by rw [Bq];rfl))) fun t1 r1=>?_
  refine sw1 r1 rfl (v:=(.agg (pkC (Au P P0z (Ah++Al 4)) a (Au P P0z (Ah++Al 4)).N.length c).toArray)) (by unfold execOp;simp only [r1.ev 3 rfl];exact Af (run_loadAt_mid _ _ _ _ (pkC (Au P P0z (Ah++Al 4)) a (Au P P0z (Ah++Al 4)).N.length c) _ KF.out.range υ39 rfl (by rw [Bq];rfl))) fun t2 r2=>?_
  have hrow:Row s7 1 a (Au P P0z (Ah++Al 4)).N.length c ((Au P P0z (Ah++Al 4)).N.map AS):=HA.out.mono BF
  refine Ak r2 (wn rfl) rfl (by decide) (by intro x hx;simp only [List.mem_cons,List.not_mem_nil,or_false] at hx;rcases hx with rfl | rfl | rfl | rfl | rfl<;>simp) (fun args=>EU args _) rfl #[.agg (pkC P a P.N.length c).toArray,.agg (pkC (Au P P0z (Ah++Al 4)) a (Au P P0z (Ah++Al 4)).N.length c).toArray] (by simp only [List.map_toArray,List.map_cons,List.map_nil,r2.eval (k:=115) (v:=.agg (pkC P a P.N.length c).toArray) (by simp),r2.eval (k:=116) (List.mem_cons_self ..)]) (R:=fun v w'=>v=.bool (BS P (Au P P0z (Ah++Al 4)))∧Below s7.heap.size s7 w') ((DM P (Au P P0z (Ah++Al 4)) a a c c _ (HA.out.mono BF) hrow).mono fun e w' q=>⟨_,q.1,rfl,q.2⟩) fun t3 v w9 hv r3=>?_
  obtain ⟨rfl,b9⟩:=hv
  refine mv r3 rfl fun t4 r4=>?_
  go_step
  go_step
  go_step
  go_step
  refine bodyPost_ret (BV rfl (r4.known _ (List.mem_cons_self ..))) r4.defs ?_
  exact ⟨rfl,Am BF b9⟩
theorem Ud (P:PkM) (a:Option Addr) (c:Nat) (w:World) (ha:Row w 1 a P.N.length c (P.N.map AS)) (hk:P.I 0=5) :
    Calls Tryz.prog 85 #[.agg (pkC P a P.N.length c).toArray] w fun e w'=>e=.returned (.bool (BS P (Au P P0z (Ah++Al 5))))∧Below w.heap.size w w':=by
  have e1:(P.I 0 == 1)=false:=by rw [hk];rfl
  have e2:(P.I 0 == 2)=false:=by rw [hk];rfl
  have e3:(P.I 0 == 3)=false:=by rw [hk];rfl
  have e4:(P.I 0 == 4)=false:=by rw [hk];rfl
  have e5:(P.I 0 == 5)=true:=by rw [hk];rfl
  have HA:=hid ha
  clear ha hk
  go_enter Tryz.func85,Tryz.ntmps85
  go_step
  go_step
  go_step
  refine Bg rfl 39 _ rfl (pkC P a P.N.length c) rfl ?_
  intro w1 k1 b1 s1
  have KP0:=hid k1;have B1:=hid b1;have S1:=hid s1
  have nE:¬ w.heap.size=w1.heap.size:=ω
  clear k1 b1 s1
  go_step
  go_step
  go_step
  go_step
  go_step
  go_step
  go_step
  go_step
  refine Cb (N:=118) (l:=[(1,π w.heap.size)]) ⟨rfl,(by intro x hx;simp only [List.mem_cons,List.not_mem_nil,or_false] at hx;rcases hx with rfl<;>rfl),rfl⟩ fun a0 i0=>?_
  refine fav i0 rfl (fun _=>Ag 0 0 (by decide) w.heap.size _) fun a1 i1=>?_
  refine sw1 i1 rfl (v:=(ν (P.I 0))) (rld i1 rfl rfl (Ae (KP0.out.cell (i:=0) (by show 0<43;omega)))) fun a2 i2=>?_
  refine fav i2 rfl (fun _=>Ag 1 1 (by decide) w.heap.size _) fun a3 i3=>?_
  refine sw1 i3 rfl (v:=(ν (P.I 1))) (rld i3 rfl rfl (Ae (KP0.out.cell (i:=1) (by show 1<43;omega)))) fun a4 i4=>?_
  refine fav i4 rfl (fun _=>Ag 2 2 (by decide) w.heap.size _) fun a5 i5=>?_
  refine sw1 i5 rfl (v:=(ν (P.I 2))) (rld i5 rfl rfl (Ae (KP0.out.cell (i:=2) (by show 2<43;omega)))) fun a6 i6=>?_
  refine fav i6 rfl (fun _=>Ag 3 3 (by decide) w.heap.size _) fun a7 i7=>?_
  refine sw1 i7 rfl (v:=(ν (P.I 3))) (rld i7 rfl rfl (Ae (KP0.out.cell (i:=3) (by show 3<43;omega)))) fun a8 i8=>?_
  obtain ⟨Q0,hQ0⟩:∃ Q0,Q0=Ck (Ck (Ck (Ck P0z 0 (P.I 0)) 1 (P.I 1)) 2 (P.I 2)) 3 (P.I 3):=⟨_,rfl⟩
  refine sw1 i8 rfl (v:=(.agg (pkC Q0 none 0 0).toArray)) (by unfold execOp;simp only [i8.ev 5 rfl,i8.ev 7 rfl,i8.ev 9 rfl,i8.ev 11 rfl,List.map_toArray,List.map_cons,List.map_nil];rw [hQ0];exact Af (JR _ _ _ _ _)) fun a9 i9=>?_
  refine Ar i9 (wn rfl) rfl (by decide) (by intro x hx;simp only [List.mem_cons,List.not_mem_nil,or_false] at hx;rcases hx with rfl | rfl | rfl | rfl | rfl | rfl | rfl | rfl | rfl | rfl<;>simp) (π w1.heap.size) (Dj rfl _ w1) fun a10 i10=>?_
  have j10:=i10.sub (l':=[(1,π w.heap.size),(3,π w1.heap.size),(12,.agg (pkC Q0 none 0 0).toArray)]) (by intro x hx;simp only [List.mem_cons,List.not_mem_nil,or_false] at hx;rcases hx with rfl | rfl | rfl<;>simp)
  clear i0 i1 i2 i3 i4 i5 i6 i7 i8 i9 i10
  have z2:Blk (w1.alloc (.cells CI 39)) w1.heap.size 39 (pkC P0z none 0 0):=by rw [EE];exact AP rfl _ _
  have KP2:=hid (KP0.out.mono (CQ w1 (.cells CI 39)));have B2:=hid (AT B1.out (.cells CI 39))
  generalize w1.alloc (.cells CI 39)=w2 at *
  refine CW j10 rfl rfl 39 rfl w1.heap.size 0 (j10.eval (k:=3) (v:=π w1.heap.size) (by simp)) (pkC Q0 none 0 0) (j10.eval (k:=12) (v:=.agg (pkC Q0 none 0 0).toArray) (by simp)) (by rw [Bq];rfl) (Hc _ _ _ _) z2 (by show 0+43≤43;omega) fun a11 w3 j10 k3 g3=>?_
  rw [Cz (by rfl)] at k3
  have KP3:=hid (KP2.out.grownS g3 nE);have B3:=hid (Aq B2.out g3 B1.out.size B2.out.size);have KQ3:=hid k3
  clear k3 g3 z2 KP2 B2 KP0
  go_step
  go_step
  go_step
  go_step
  go_step
  go_step
  refine fav j10 rfl (fun _=>Ag 0 0 (by decide) w.heap.size _) fun a12 j11=>?_
  refine sw1 j11 rfl (v:=(ν (P.I 0))) (rld j11 rfl rfl (Ae (KP3.out.cell (i:=0) (by show 0<43;omega)))) fun a13 j12=>?_
  have m0:=j12.sub (l':=LO w.heap.size w1.heap.size P) (by intro x hx;simp only [List.mem_cons,List.not_mem_nil,or_false] at hx;rcases hx with rfl | rfl | rfl<;>simp)
  clear j10 j11 j12
  go_step
  go_step
  go_step
  go_step
  go_step
  go_step
  refine sw1 m0 rfl (v:=(.bool (P.I 0 == 1))) (by unfold execOp;simp only [m0.ev 14 rfl];exact Af (eqI _ _ _ _ _)) fun x1 y1=>?_
  refine sw1 y1 rfl (v:=(.bool (P.I 0 == 1))) (by unfold execOp;simp only [y1.eval (List.mem_cons_self ..)];rfl) fun u1 v1=>?_
  have m1:=v1.sub (l':=LO w.heap.size w1.heap.size P) (by intro x hx;simp only [List.mem_cons,List.not_mem_nil,or_false] at hx;rcases hx with rfl | rfl | rfl<;>simp)
  go_step
  go_step
  go_step
  refine wp_cond (t:=P.I 0 == 1) (v1.eval (List.mem_cons_self ..)) ?_
  rw [e1]
  simp only [Bool.false_eq_true,if_false]
  clear y1 v1 m0
  go_step
  go_step
  refine sw1 m1 rfl (v:=(.bool (P.I 0 == 2))) (by unfold execOp;simp only [m1.ev 14 rfl];exact Af (eqI _ _ _ _ _)) fun x2 y2=>?_
  refine sw1 y2 rfl (v:=(.bool (P.I 0 == 2))) (by unfold execOp;simp only [y2.eval (List.mem_cons_self ..)];rfl) fun u2 v2=>?_
  have m2:=v2.sub (l':=LO w.heap.size w1.heap.size P) (by intro x hx;simp only [List.mem_cons,List.not_mem_nil,or_false] at hx;rcases hx with rfl | rfl | rfl<;>simp)
  go_step
  go_step
  go_step
  refine wp_cond (t:=P.I 0 == 2) (v2.eval (List.mem_cons_self ..)) ?_
  rw [e2]
  simp only [Bool.false_eq_true,if_false]
  clear y2 v2 m1
  go_step
  go_step
  refine sw1 m2 rfl (v:=(.bool (P.I 0 == 3))) (by unfold execOp;simp only [m2.ev 14 rfl];exact Af (eqI _ _ _ _ _)) fun x3 y3=>?_
  refine sw1 y3 rfl (v:=(.bool (P.I 0 == 3))) (by unfold execOp;simp only [y3.eval (List.mem_cons_self ..)];rfl) fun u3 v3=>?_
  have m3:=v3.sub (l':=LO w.heap.size w1.heap.size P) (by intro x hx;simp only [List.mem_cons,List.not_mem_nil,or_false] at hx;rcases hx with rfl | rfl | rfl<;>simp)
  go_step
  go_step
  go_step
  refine wp_cond (t:=P.I 0 == 3) (v3.eval (List.mem_cons_self ..)) ?_
  rw [e3]
  simp only [Bool.false_eq_true,if_false]
  clear y3 v3 m2
  go_step
  go_step
  refine sw1 m3 rfl (v:=(.bool (P.I 0 == 4))) (by unfold execOp;simp only [m3.ev 14 rfl];exact Af (eqI _ _ _ _ _)) fun x4 y4=>?_
  refine sw1 y4 rfl (v:=(.bool (P.I 0 == 4))) (by unfold execOp;simp only [y4.eval (List.mem_cons_self ..)];rfl) fun u4 v4=>?_
  have m4:=v4.sub (l':=LO w.heap.size w1.heap.size P) (by intro x hx;simp only [List.mem_cons,List.not_mem_nil,or_false] at hx;rcases hx with rfl | rfl | rfl<;>simp)
  go_step
  go_step
  go_step
  refine wp_cond (t:=P.I 0 == 4) (v4.eval (List.mem_cons_self ..)) ?_
  rw [e4]
  simp only [Bool.false_eq_true,if_false]
  clear y4 v4 m3
  go_step
  go_step
  refine sw1 m4 rfl (v:=(.bool (P.I 0 == 5))) (by unfold execOp;simp only [m4.ev 14 rfl];exact Af (eqI _ _ _ _ _)) fun x5 y5=>?_
  refine sw1 y5 rfl (v:=(.bool (P.I 0 == 5))) (by unfold execOp;simp only [y5.eval (List.mem_cons_self ..)];rfl) fun u5 v5=>?_
  have m5:=v5.sub (l':=LO w.heap.size w1.heap.size P) (by intro x hx;simp only [List.mem_cons,List.not_mem_nil,or_false] at hx;rcases hx with rfl | rfl | rfl<;>simp)
  go_step
  go_step
  go_step
  refine wp_cond (t:=P.I 0 == 5) (v5.eval (List.mem_cons_self ..)) ?_
  rw [e5]
  simp only [if_true]
  clear y5 v5 m4
  go_step
  refine BI (gp:=w.heap.size) (gq:=w1.heap.size) (fun g=>Ag 11 18 (by decide) g _) (show (Instr.loadAt _ _).run _ _=.ok (ν (P.I 18)) _ from Ae (KP3.out.cell (i:=18) (by show 18<43;omega))) (Ed (KQ3.out.cell (i:=18) (by show 18<43;omega)) (KQ3.out.frozen 18) _) KQ3.out m5 (by simp) (by simp) (by intro x hx;simp only [List.mem_cons,List.not_mem_nil,or_false] at hx;rcases hx with rfl | rfl | rfl<;>simp) (by decide) rfl rfl rfl rfl rfl rfl rfl rfl rfl rfl rfl rfl fun c1 s1 n1 k1 g1=>?_
  rw [Bz _ _ _ _ rfl] at k1
  have KP4:=hid (KP3.out.grownS g1 nE);have B4:=hid (Aq B3.out g1 B1.out.size B3.out.size);have KQ4:=hid k1
  clear k1 g1 KP3 B3 KQ3 m5
  go_step
  go_step
  go_step
  go_step
  go_step
  have KF:Hid (Blk s1 w1.heap.size 39 (pkC (Au P P0z (Ah++Al 5)) none (Au P P0z (Ah++Al 5)).N.length 0)):=hid (by have z:=KQ4.out;rw [hQ0] at z;exact z)
  have BF:=B4.out
  refine sw1 n1 rfl (v:=(.agg (pkC P a P.N.length c).toArray)) (by unfold execOp;simp only [n1.ev 1 rfl];exact Af (run_loadAt_mid _ _ _ _ (pkC P a P.N.length c) _ KP4.out.range υ39 rfl (by rw [Bq];rfl))) fun t1 r1=>?_
  refine sw1 r1 rfl (v:=(.agg (pkC (Au P P0z (Ah++Al 5)) none (Au P P0z (Ah++Al 5)).N.length 0).toArray)) (by unfold execOp;simp only [r1.ev 3 rfl];exact Af (run_loadAt_mid _ _ _ _ (pkC (Au P P0z (Ah++Al 5)) none (Au P P0z (Ah++Al 5)).N.length 0) _ KF.out.range υ39 rfl (by rw [Bq];rfl))) fun t2 r2=>?_
  have hrow:Row s1 1 none (Au P P0z (Ah++Al 5)).N.length 0 ((Au P P0z (Ah++Al 5)).N.map AS):=Row.nil _ _
  refine Ak r2 (wn rfl) rfl (by decide) (by intro x hx;simp only [List.mem_cons,List.not_mem_nil,or_false] at hx;rcases hx with rfl | rfl | rfl | rfl | rfl<;>simp) (fun args=>EU args _) rfl #[.agg (pkC P a P.N.length c).toArray,.agg (pkC (Au P P0z (Ah++Al 5)) none (Au P P0z (Ah++Al 5)).N.length 0).toArray] (by simp only [List.map_toArray,List.map_cons,List.map_nil,r2.eval (k:=115) (v:=.agg (pkC P a P.N.length c).toArray) (by simp),r2.eval (k:=116) (List.mem_cons_self ..)]) (R:=fun v w'=>v=.bool (BS P (Au P P0z (Ah++Al 5)))∧Below s1.heap.size s1 w') ((DM P (Au P P0z (Ah++Al 5)) a none c 0 _ (HA.out.mono BF) hrow).mono fun e w' q=>⟨_,q.1,rfl,q.2⟩) fun t3 v w9 hv r3=>?_
  obtain ⟨rfl,b9⟩:=hv
  refine mv r3 rfl fun t4 r4=>?_
  go_step
  go_step
  go_step
  go_step
  refine bodyPost_ret (BV rfl (r4.known _ (List.mem_cons_self ..))) r4.defs ?_
  exact ⟨rfl,Am BF b9⟩
theorem OH (P:PkM) (a:Option Addr) (c:Nat) (w:World) (ha:Row w 1 a P.N.length c (P.N.map AS)) (hk:¬ (1≤P.I 0∧P.I 0≤5)) :
    Calls Tryz.prog 85 #[.agg (pkC P a P.N.length c).toArray] w fun e w'=>e=.returned (.bool (BS P (Au P P0z Ah)))∧Below w.heap.size w w':=by
  have e1:(P.I 0 == 1)=false:=by simp;omega
  have e2:(P.I 0 == 2)=false:=by simp;omega
  have e3:(P.I 0 == 3)=false:=by simp;omega
  have e4:(P.I 0 == 4)=false:=by simp;omega
  have e5:(P.I 0 == 5)=false:=by simp;omega
  have HA:=hid ha
  clear ha hk
  go_enter Tryz.func85,Tryz.ntmps85
  go_step
  go_step
  go_step
  refine Bg rfl 39 _ rfl (pkC P a P.N.length c) rfl ?_
  intro w1 k1 b1 s1
  have KP0:=hid k1;have B1:=hid b1;have S1:=hid s1
  have nE:¬ w.heap.size=w1.heap.size:=ω
  clear k1 b1 s1
  go_step
  go_step
  go_step
  go_step
  go_step
  go_step
  go_step
  go_step
  refine Cb (N:=118) (l:=[(1,π w.heap.size)]) ⟨rfl,(by intro x hx;simp only [List.mem_cons,List.not_mem_nil,or_false] at hx;rcases hx with rfl<;>rfl),rfl⟩ fun a0 i0=>?_
  refine fav i0 rfl (fun _=>Ag 0 0 (by decide) w.heap.size _) fun a1 i1=>?_
  refine sw1 i1 rfl (v:=(ν (P.I 0))) (rld i1 rfl rfl (Ae (KP0.out.cell (i:=0) (by show 0<43;omega)))) fun a2 i2=>?_
  refine fav i2 rfl (fun _=>Ag 1 1 (by decide) w.heap.size _) fun a3 i3=>?_
  refine sw1 i3 rfl (v:=(ν (P.I 1))) (rld i3 rfl rfl (Ae (KP0.out.cell (i:=1) (by show 1<43;omega)))) fun a4 i4=>?_
  refine fav i4 rfl (fun _=>Ag 2 2 (by decide) w.heap.size _) fun a5 i5=>?_
  refine sw1 i5 rfl (v:=(ν (P.I 2))) (rld i5 rfl rfl (Ae (KP0.out.cell (i:=2) (by show 2<43;omega)))) fun a6 i6=>?_
  refine fav i6 rfl (fun _=>Ag 3 3 (by decide) w.heap.size _) fun a7 i7=>?_
  refine sw1 i7 rfl (v:=(ν (P.I 3))) (rld i7 rfl rfl (Ae (KP0.out.cell (i:=3) (by show 3<43;omega)))) fun a8 i8=>?_
  obtain ⟨Q0,hQ0⟩:∃ Q0,Q0=Ck (Ck (Ck (Ck P0z 0 (P.I 0)) 1 (P.I 1)) 2 (P.I 2)) 3 (P.I 3):=⟨_,rfl⟩
  refine sw1 i8 rfl (v:=(.agg (pkC Q0 none 0 0).toArray)) (by unfold execOp;simp only [i8.ev 5 rfl,i8.ev 7 rfl,i8.ev 9 rfl,i8.ev 11 rfl,List.map_toArray,List.map_cons,List.map_nil];rw [hQ0];exact Af (JR _ _ _ _ _)) fun a9 i9=>?_
  refine Ar i9 (wn rfl) rfl (by decide) (by intro x hx;simp only [List.mem_cons,List.not_mem_nil,or_false] at hx;rcases hx with rfl | rfl | rfl | rfl | rfl | rfl | rfl | rfl | rfl | rfl<;>simp) (π w1.heap.size) (Dj rfl _ w1) fun a10 i10=>?_
  have j10:=i10.sub (l':=[(1,π w.heap.size),(3,π w1.heap.size),(12,.agg (pkC Q0 none 0 0).toArray)]) (by intro x hx;simp only [List.mem_cons,List.not_mem_nil,or_false] at hx;rcases hx with rfl | rfl | rfl<;>simp)
  clear i0 i1 i2 i3 i4 i5 i6 i7 i8 i9 i10
  have z2:Blk (w1.alloc (.cells CI 39)) w1.heap.size 39 (pkC P0z none 0 0):=by rw [EE];exact AP rfl _ _
  have KP2:=hid (KP0.out.mono (CQ w1 (.cells CI 39)));have B2:=hid (AT B1.out (.cells CI 39))
  generalize w1.alloc (.cells CI 39)=w2 at *
  refine CW j10 rfl rfl 39 rfl w1.heap.size 0 (j10.eval (k:=3) (v:=π w1.heap.size) (by simp)) (pkC Q0 none 0 0) (j10.eval (k:=12) (v:=.agg (pkC Q0 none 0 0).toArray) (by simp)) (by rw [Bq];rfl) (Hc _ _ _ _) z2 (by show 0+43≤43;omega) fun a11 w3 j10 k3 g3=>?_
  rw [Cz (by rfl)] at k3
  have KP3:=hid (KP2.out.grownS g3 nE);have B3:=hid (Aq B2.out g3 B1.out.size B2.out.size);have KQ3:=hid k3
  clear k3 g3 z2 KP2 B2 KP0
  go_step
  go_step
  go_step
  go_step
  go_step
  go_step
  refine fav j10 rfl (fun _=>Ag 0 0 (by decide) w.heap.size _) fun a12 j11=>?_
  refine sw1 j11 rfl (v:=(ν (P.I 0))) (rld j11 rfl rfl (Ae (KP3.out.cell (i:=0) (by show 0<43;omega)))) fun a13 j12=>?_
  have m0:=j12.sub (l':=LO w.heap.size w1.heap.size P) (by intro x hx;simp only [List.mem_cons,List.not_mem_nil,or_false] at hx;rcases hx with rfl | rfl | rfl<;>simp)
  clear j10 j11 j12
  go_step
  go_step
  go_step
  go_step
  go_step
  go_step
  refine sw1 m0 rfl (v:=(.bool (P.I 0 == 1))) (by unfold execOp;simp only [m0.ev 14 rfl];exact Af (eqI _ _ _ _ _)) fun x1 y1=>?_
  refine sw1 y1 rfl (v:=(.bool (P.I 0 == 1))) (by unfold execOp;simp only [y1.eval (List.mem_cons_self ..)];rfl) fun u1 v1=>?_
  have m1:=v1.sub (l':=LO w.heap.size w1.heap.size P) (by intro x hx;simp only [List.mem_cons,List.not_mem_nil,or_false] at hx;rcases hx with rfl | rfl | rfl<;>simp)
  go_step
  go_step
  go_step
  refine wp_cond (t:=P.I 0 == 1) (v1.eval (List.mem_cons_self ..)) ?_
  rw [e1]
  simp only [Bool.false_eq_true,if_false]
  clear y1 v1 m0
  go_step
  go_step
  refine sw1 m1 rfl (v:=(.bool (P.I 0 == 2))) (by unfold execOp;simp only [m1.ev 14 rfl];exact Af (eqI _ _ _ _ _)) fun x2 y2=>?_
  refine sw1 y2 rfl (v:=(.bool (P.I 0 == 2))) (by unfold execOp;simp only [y2.eval (List.mem_cons_self ..)];rfl) fun u2 v2=>?_
  have m2:=v2.sub (l':=LO w.heap.size w1.heap.size P) (by intro x hx;simp only [List.mem_cons,List.not_mem_nil,or_false] at hx;rcases hx with rfl | rfl | rfl<;>simp)
  go_step
  go_step
  go_step
  refine wp_cond (t:=P.I 0 == 2) (v2.eval (List.mem_cons_self ..)) ?_
  rw [e2]
  simp only [Bool.false_eq_true,if_false]
  clear y2 v2 m1
  go_step
  go_step
  refine sw1 m2 rfl (v:=(.bool (P.I 0 == 3))) (by unfold execOp;simp only [m2.ev 14 rfl];exact Af (eqI _ _ _ _ _)) fun x3 y3=>?_
  refine sw1 y3 rfl (v:=(.bool (P.I 0 == 3))) (by unfold execOp;simp only [y3.eval (List.mem_cons_self ..)];rfl) fun u3 v3=>?_
  have m3:=v3.sub (l':=LO w.heap.size w1.heap.size P) (by intro x hx;simp only [List.mem_cons,List.not_mem_nil,or_false] at hx;rcases hx with rfl | rfl | rfl<;>simp)
  go_step
  go_step
  go_step
  refine wp_cond (t:=P.I 0 == 3) (v3.eval (List.mem_cons_self ..)) ?_
  rw [e3]
  simp only [Bool.false_eq_true,if_false]
  clear y3 v3 m2
  go_step
  go_step
  refine sw1 m3 rfl (v:=(.bool (P.I 0 == 4))) (by unfold execOp;simp only [m3.ev 14 rfl];exact Af (eqI _ _ _ _ _)) fun x4 y4=>?_
  refine sw1 y4 rfl (v:=(.bool (P.I 0 == 4))) (by unfold execOp;simp only [y4.eval (List.mem_cons_self ..)];rfl) fun u4 v4=>?_
  have m4:=v4.sub (l':=LO w.heap.size w1.heap.size P) (by intro x hx;simp only [List.mem_cons,List.not_mem_nil,or_false] at hx;rcases hx with rfl | rfl | rfl<;>simp)
  go_step
  go_step
  go_step
  refine wp_cond (t:=P.I 0 == 4) (v4.eval (List.mem_cons_self ..)) ?_
  rw [e4]
  simp only [Bool.false_eq_true,if_false]
  clear y4 v4 m3
  go_step
  go_step
  refine sw1 m4 rfl (v:=(.bool (P.I 0 == 5))) (by unfold execOp;simp only [m4.ev 14 rfl];exact Af (eqI _ _ _ _ _)) fun x5 y5=>?_
  refine sw1 y5 rfl (v:=(.bool (P.I 0 == 5))) (by unfold execOp;simp only [y5.eval (List.mem_cons_self ..)];rfl) fun u5 v5=>?_
  have m5:=v5.sub (l':=LO w.heap.size w1.heap.size P) (by intro x hx;simp only [List.mem_cons,List.not_mem_nil,or_false] at hx;rcases hx with rfl | rfl | rfl<;>simp)
  go_step
  go_step
  go_step
  refine wp_cond (t:=P.I 0 == 5) (v5.eval (List.mem_cons_self ..)) ?_
  rw [e5]
  simp only [Bool.false_eq_true,if_false]
  clear y5 v5 m4
  go_step
  go_step
  go_step
  go_step
  go_step
  have KF:Hid (Blk w3 w1.heap.size 39 (pkC (Au P P0z Ah) none (Au P P0z Ah).N.length 0)):=hid (by have z:=KQ3.out;rw [hQ0] at z;exact z)
  have BF:=B3.out
  refine sw1 m5 rfl (v:=(.agg (pkC P a P.N.length c).toArray)) (by unfold execOp;simp only [m5.ev 1 rfl];exact Af (run_loadAt_mid _ _ _ _ (pkC P a P.N.length c) _ KP3.out.range υ39 rfl (by rw [Bq];rfl))) fun t1 r1=>?_
  refine sw1 r1 rfl (v:=(.agg (pkC (Au P P0z Ah) none (Au P P0z Ah).N.length 0).toArray)) (by unfold execOp;simp only [r1.ev 3 rfl];exact Af (run_loadAt_mid _ _ _ _ (pkC (Au P P0z Ah) none (Au P P0z Ah).N.length 0) _ KF.out.range υ39 rfl (by rw [Bq];rfl))) fun t2 r2=>?_
  have hrow:Row w3 1 none (Au P P0z Ah).N.length 0 ((Au P P0z Ah).N.map AS):=Row.nil _ _
  refine Ak r2 (wn rfl) rfl (by decide) (by intro x hx;simp only [List.mem_cons,List.not_mem_nil,or_false] at hx;rcases hx with rfl | rfl | rfl | rfl | rfl<;>simp) (fun args=>EU args _) rfl #[.agg (pkC P a P.N.length c).toArray,.agg (pkC (Au P P0z Ah) none (Au P P0z Ah).N.length 0).toArray] (by simp only [List.map_toArray,List.map_cons,List.map_nil,r2.eval (k:=115) (v:=.agg (pkC P a P.N.length c).toArray) (by simp),r2.eval (k:=116) (List.mem_cons_self ..)]) (R:=fun v w'=>v=.bool (BS P (Au P P0z Ah))∧Below w3.heap.size w3 w') ((DM P (Au P P0z Ah) a none c 0 _ (HA.out.mono BF) hrow).mono fun e w' q=>⟨_,q.1,rfl,q.2⟩) fun t3 v w9 hv r3=>?_
  obtain ⟨rfl,b9⟩:=hv
  refine mv r3 rfl fun t4 r4=>?_
  go_step
  go_step
  go_step
  go_step
  refine bodyPost_ret (BV rfl (r4.known _ (List.mem_cons_self ..))) r4.defs ?_
  exact ⟨rfl,Am BF b9⟩
end
end Go.Proofs.YtjgajoljgepioaaGreat
