/- Parts of the proof. -/
import Derived.Test.YtbfgjinpchbajaaGreatDoorQaf
namespace Go.Proofs.YtbfgjinpchbajaaGreatDoor
open Go.RowKit
open _root_.Go.Proofs.Tryz
set_option linter.unusedSimpArgs false
set_option linter.unusedVariables false
set_option linter.unusedSectionVars false
set_option maxRecDepth 100000
set_option maxHeartbeats 8000000
section
theorem Iv (g:Nat) (w:World):(Instr.fieldAt 101 (π g) 1).run prog w=.ok (.pointer (some ⟨g,1,none⟩)) w:=rfl
theorem Iw (g:Nat) (w:World):(Instr.fieldAt 101 (π g) 2).run prog w=.ok (.pointer (some ⟨g,2,none⟩)) w:=rfl
theorem XH (a:Ω) (n c:Nat) (w:World):(Instr.buildSlice 122 1 #[(0,.slice a n c)]).run prog w=.ok (.slice (some ⟨w.heap.size,0,none⟩) 1 1) (w.alloc (.cells #[.slice a n c] 68)):=by
  have u3:=υ122
  have u9:=υ68
  have z3:=Tryz.sizeOf68
  go_simp
theorem WV (w:World) (v:Value) (e:TypeId):Row (w.alloc (.cells #[v] e)) 1 (some ⟨w.heap.size,0,none⟩) 1 1 [v]:=Acu w [v] e (by simp)
theorem Ahr:ElemT prog 122 68 1 24:=Qj υ122 (z:=.slice none 0 0) κ rfl ω
structure LogOk (at_ size:Nat) (M:MemM):Prop where
  s1:128≤size
  s2:size≤65536
  a:at_+size≤M.V.length
  v:M.V.length≤1048576
theorem LogP.below {w w':World} {B lg g v d p at_ size:Nat} {M:MemM} (h:LogP w lg g v d p at_ size M) (b:Below B w w') (hb:lg<B∧g<B∧v<B∧d<B∧p<B):LogP w' lg g v d p at_ size M:=by
  have t:Turns (fun k=>B≤k) w w':=⟨b.os,b.tape,b.output,b.size,fun k _ hn=>b.block k ω⟩
  exact ⟨t.blk h.l ω,h.m.turns t ω ω ω ω⟩
theorem Rw {X:Λ} {M:MemM} {a n:Nat} (h:a+n≤M.V.length):Ii X M (a:Int) (n:Int)=(X.drop a).take n:=by
  unfold Ii
  rw [if_pos (by unfold inM;simp;omega),Int.toNat_natCast,Int.toNat_natCast]
theorem Afe {w W:World} {act:Act} {n m:Nat} (hd:act.defers=[]) (h2:act.tmps[2]? = some (ν (m:Int))) (hn:n=m) (hb:Below w.heap.size w W):bodyPost prog Tryz.f90 (fun e w'=>∃ v,e=.returned v∧v=ν (n:Int)∧Below w.heap.size w w') .ret act W:=by
  subst hn
  exact bodyPost_ret (AJ rfl h2) hd ⟨_,rfl,rfl,hb⟩
theorem Aba {w:World} {lg g v d p at_ size:Nat} {M:MemM} (hg0:LogP w lg g v d p at_ size M) (hok:LogOk at_ size M) :
    Calls prog 90 #[π lg] w fun e w'=>∃ v,e=.returned v∧v=ν (Hm M.V at_ size:Int)∧Below w.heap.size w w':=by
  have HG0:=hid hg0
  obtain ⟨s1,s2,s3,s4⟩:=hok
  obtain ⟨b8,hb8⟩:∃ b,b=(M.V.drop at_).take 8:=⟨_,rfl⟩
  have hl8:b8.length=8:=by rw [hb8,List.length_take,List.length_drop];omega
  have hseen:Ii M.V M (at_:Int) 8=b8:=by rw [hb8];exact Rw (n:=8) ω
  have HB8:=hid hb8
  clear hg0 hb8
  go_enter func90,ntmps90
  iterate 3 go_step
  refine AU (N:=36) (l:=[(0,π lg)]) ⟨rfl,(by intro x hx;simp only [List.mem_cons,List.not_mem_nil,or_false] at hx;rcases hx with rfl<;>rfl),rfl⟩ fun a2 h1=>mv h1 rfl fun _ h3=>?_
  iterate 4 go_step
  have HG1:=hid (HG0.out.mono (Below.refl _ _).drew)
  refine wp_region_held_drew (S:=fun w'=>Blk w' lg 101 (NP g at_ size)) κ HG1.out.l (fun hS1=>?_)
  refine Aj hS1 h3 0 rfl rfl (by decide) (fr rfl) κ κ κ (fun _ _ _ _ h=>h) (π lg) (Or.inl ⟨Eq.refl true,fun w1 hSw=>(by show (execOp _ (⟨_,.move (.tmp 0),_,_,_,_⟩:Oper)).run _ _=_;exact (by unfold execOp;simp only [h3.ev 0 rfl];exact rfl))⟩) fun a6 h5=>Aj hS1 h5 1 rfl rfl (by decide) (fr rfl) κ κ κ (fun _ _ _ _ h=>h) (π lg) (Or.inl ⟨Eq.refl true,fun w1 hSw=>(by show (execOp _ (⟨_,.nilCheck (.tmp 8),_,_,_,_⟩:Oper)).run _ _=_;exact (by unfold execOp;simp only [h5.ev 8 rfl];exact rfl))⟩) fun a8 h7=>Aj hS1 h7 2 rfl rfl (by decide) (fr rfl) κ κ κ (fun _ _ _ _ h=>h) (π lg) (Or.inl ⟨Eq.refl true,fun w1 hSw=>(by show (execOp _ (⟨_,.fieldAddr 101 (.tmp 9) 0,_,_,_,_⟩:Oper)).run _ _=_;exact (by unfold execOp;simp only [h7.ev 9 rfl];exact Ad (Fi (lg) _)))⟩) fun a1 h9=>Aj hS1 h9 3 rfl rfl (by decide) (fr rfl) κ κ κ (fun _ _ _ _ h=>h) (π g) (Or.inl ⟨Eq.refl true,fun w1 hSw=>(by show (execOp _ (⟨_,.load 59 (.tmp 10),_,_,_,_⟩:Oper)).run _ _=_;exact (by unfold execOp;simp only [h9.ev 10 rfl];exact Ad (GO (hSw.cell (i:=0) (by show 0<3;omega)))))⟩) fun a3 h2=>Aj hS1 h2 4 rfl rfl (by decide) (fr rfl) κ κ κ (fun _ _ _ _ h=>h) (π lg) (Or.inl ⟨Eq.refl true,fun w1 hSw=>(by show (execOp _ (⟨_,.move (.tmp 0),_,_,_,_⟩:Oper)).run _ _=_;exact (by unfold execOp;simp only [h2.ev 0 rfl];exact rfl))⟩) fun a4 h4=>Aj hS1 h4 5 rfl rfl (by decide) (fr rfl) κ κ κ (fun _ _ _ _ h=>h) (π lg) (Or.inl ⟨Eq.refl true,fun w1 hSw=>(by show (execOp _ (⟨_,.nilCheck (.tmp 12),_,_,_,_⟩:Oper)).run _ _=_;exact (by unfold execOp;simp only [h4.ev 12 rfl];exact rfl))⟩) fun a5 h6=>Aj hS1 h6 6 rfl rfl (by decide) (fr rfl) κ κ κ (fun _ _ _ _ h=>h) (.pointer (some ⟨lg,1,none⟩)) (Or.inl ⟨Eq.refl true,fun w1 hSw=>(by show (execOp _ (⟨_,.fieldAddr 101 (.tmp 13) 1,_,_,_,_⟩:Oper)).run _ _=_;exact (by unfold execOp;simp only [h6.ev 13 rfl];exact Ad (Iv (lg) _)))⟩) fun a7 h8=>Aj hS1 h8 7 rfl rfl (by decide) (fr rfl) κ κ κ (fun _ _ _ _ h=>h) (ν (at_:Int)) (Or.inl ⟨Eq.refl true,fun w1 hSw=>(by show (execOp _ (⟨_,.load 3 (.tmp 14),_,_,_,_⟩:Oper)).run _ _=_;exact (by unfold execOp;simp only [h8.ev 14 rfl];exact Ad (BP (hSw.cell (i:=1) (by show 1<3;omega)))))⟩) fun a9 h10=>AD 8 rfl rfl κ fun K hK=>DD h10 rfl (by decide) (fr rfl) (fun args=>cF func65 (args:=args) (w:=_)) rfl #[π g,ν (at_:Int),ν 8] (by simp only [List.map_toArray,List.map_cons,List.map_nil,h10.ev 11 rfl,h10.ev 15 rfl];rfl) (R:=fun v w'=>∃ a c,v=.tuple #[.slice a (Ii M.V M at_ 8).length c,ν (Gh M at_ 8)]∧Cb w' w.drew.heap.size a c (Ii M.V M at_ 8)∧Below w.drew.heap.size w.drew w') ((YT HG1.out.m at_ 8 (by unfold EG;omega) (by unfold EG;omega)).mono fun e w' q=>by obtain ⟨x,y,q1,q2,q3⟩:=q;exact ⟨_,q1,x,y,rfl,q2,q3⟩) fun a10 v2 w2 r2 h11=>hK _ _ (by obtain ⟨x,y,_,_,q⟩:=r2;exact HG1.out.l.mono q) fun hS2=>?_
  clear hK K
  obtain ⟨ba,bc,rfl,o2,b2⟩:=r2
  rw [hseen] at o2 h11
  have HG2:=hid (HG1.out.mono b2);have HR2:=hid o2.row;have B2:Hid (Below w.heap.size w w2):=hid ((Below.refl _ w).drew.trans b2);clear o2 b2
  refine Aj hS2 h11 9 rfl rfl (by decide) (fr rfl) κ κ κ (fun _ _ _ _ h=>h) (.tuple #[.slice ba b8.length bc,ν (Gh M at_ 8)]) (Or.inl ⟨Eq.refl true,fun w1 hSw=>(by show (execOp _ (⟨_,.move (.tmp 16),_,_,_,_⟩:Oper)).run _ _=_;exact (by unfold execOp;simp only [h11.ev 16 rfl];exact rfl))⟩) fun a11 h12=>Aj hS2 h12 10 rfl rfl (by decide) (fr rfl) κ κ κ (fun _ _ _ _ h=>h) (.slice ba b8.length bc) (Or.inl ⟨Eq.refl true,fun w1 hSw=>(by show (execOp _ (⟨_,.extract (.tmp 7) 0,_,_,_,_⟩:Oper)).run _ _=_;exact (by unfold execOp;simp only [h12.ev 7 rfl];exact rfl))⟩) fun a12 h13=>Aj hS2 h13 11 rfl rfl (by decide) (fr rfl) κ κ κ (fun _ _ _ _ h=>h) (ν (Gh M at_ 8)) (Or.inl ⟨Eq.refl true,fun w1 hSw=>(by show (execOp _ (⟨_,.extract (.tmp 7) 1,_,_,_,_⟩:Oper)).run _ _=_;exact (by unfold execOp;simp only [h13.ev 7 rfl];exact rfl))⟩) fun a13 h14=>Aj hS2 h14 12 rfl rfl (by decide) (fr rfl) κ κ κ (fun _ _ _ _ h=>h) (.slice ba b8.length bc) (Or.inl ⟨Eq.refl true,fun w1 hSw=>(by show (execOp _ (⟨_,.assign (.tmp 17),_,_,_,_⟩:Oper)).run _ _=_;exact (by unfold execOp;simp only [h14.ev 17 rfl];exact rfl))⟩) fun a14 h15=>Aj hS2 h15 13 rfl rfl (by decide) (fr rfl) κ κ κ (fun _ _ _ _ h=>h) (ν (Gh M at_ 8)) (Or.inl ⟨Eq.refl true,fun w1 hSw=>(by show (execOp _ (⟨_,.assign (.tmp 18),_,_,_,_⟩:Oper)).run _ _=_;exact (by unfold execOp;simp only [h15.ev 18 rfl];exact rfl))⟩) fun a15 h16=>?_
  refine wpAnyH_done κ ?_ _
  refine h16.sk [3,2,0] rfl fun h17=>?_
  iterate 2 go_step
  cases hg:AW b8 0 8 with
  | none=>
    have hok:(AW b8 0 8).isSome=false:=by rw [hg];rfl
    have hEnd:Hm M.V at_ size=0:=by unfold Hm;rw [← HB8.out,hg]
    iterate 2 go_step
    refine mv h17 rfl fun _ h18=>AO h18 (wn rfl) rfl (by decide) (fr rfl) (fun args=>cF func69 (args:=args) (w:=_)) rfl #[.slice ba b8.length bc,ν 0,ν 8] (by simp only [List.map_toArray,List.map_cons,List.map_nil,h18.ev 20 rfl];rfl) (R:=fun v w'=>v=Lu (AW b8 0 8)∧w2=w') ((Ef ba bc b8 0 8 w2 HR2.out ω).mono fun e w' q=>⟨_,q.1,rfl,q.2⟩) fun a16 v3 w3 r3 h19=>?_
    obtain ⟨rfl,rfl⟩:=r3
    refine mv h19 rfl fun _ h20=>wv h20 rfl rfl rfl rfl (ν (((AW b8 0 8).getD 0:Nat):Int)) (by unfold execOp;simp only [h20.ev 19 rfl];exact rfl) fun a17 h21=>wv h21 rfl rfl rfl rfl (.bool false) (by unfold execOp;simp only [h21.ev 19 rfl];exact (by show _=Result.ok (Next.value (Value.bool false)) _;rw [← hok];rfl)) fun a18 h22=>mv h22 rfl fun _ h23=>mv h23 rfl fun _ h24=>h24.sk [6,5,3,2,0] rfl fun h25=>?_
    iterate 6 go_step
    refine mv h25 rfl fun _ h26=>wv h26 rfl rfl rfl rfl (.bool true) (Ff rfl (h26.ev 24 rfl)) fun a19 h27=>mv h27 rfl fun _ h28=>AG h28 (by rw [Ac (g:=2) (want:=false) (b:=true) rfl (h28.yields (prev:=26) rfl (by simp))];rfl) rfl (by decide) (fr rfl) fun a20 h29=>AG h29 (by rw [Ac (g:=2) (want:=false) (b:=true) rfl (h29.yields (prev:=26) rfl (by simp))];rfl) rfl (by decide) (fr rfl) fun a21 h30=>AG h30 (by rw [Ac (g:=2) (want:=false) (b:=true) rfl (h30.yields (prev:=26) rfl (by simp))];rfl) rfl (by decide) (fr rfl) fun a22 h31=>AG h31 (by rw [Ac (g:=2) (want:=false) (b:=true) rfl (h31.yields (prev:=26) rfl (by simp))];rfl) rfl (by decide) (fr rfl) fun a23 h32=>AG h32 (by rw [Ac (g:=2) (want:=false) (b:=true) rfl (h32.yields (prev:=26) rfl (by simp))];rfl) rfl (by decide) (fr rfl) fun a24 h33=>AG h33 (by rw [Ac (g:=2) (want:=false) (b:=true) rfl (h33.yields (prev:=26) rfl (by simp))];rfl) rfl (by decide) (fr rfl) fun a25 h34=>AG h34 (by rw [Ac (g:=2) (want:=false) (b:=true) rfl (h34.yields (prev:=26) rfl (by simp))];rfl) rfl (by decide) (fr rfl) fun a26 h35=>?_
    refine wv h35 rfl rfl rfl rfl (.bool true) (Bf rfl (h35.ev 26 rfl) rfl) fun a27 h36=>h36.sk [34,6,5,3,2,0] rfl fun h37=>?_
    iterate 3 go_step
    refine wp_cond (t:=true) (h37.ev 34 rfl) ?_
    simp only [if_true]
    refine h37.sk [6,5,3,2,0] rfl fun h38=>?_
    iterate 2 go_step
    refine h38.sk [6,5,3,0] rfl fun h39=>mv h39 rfl fun _ h40=>?_
    iterate 4 go_step
    simp only [Exit.then,Exit.inBlock]
    exact Afe h40.defs (h40.known (2,ν 0) (by simp)) hEnd B2.out
  | some n=>
    have hok:(AW b8 0 8).isSome=true:=by rw [hg];rfl
    have hn:(AW b8 0 8).getD 0=n:=by rw [hg];rfl
    by_cases hle:n≤size-8
    · have hEnd:Hm M.V at_ size=(AW b8 0 8).getD 0:=by rw [hn];unfold Hm;rw [← HB8.out,hg];exact if_pos hle
      have hgt:decide (((size-8:Nat):Int)<(((AW b8 0 8).getD 0:Nat):Int))=false:=decide_eq_false (by rw [hn];omega)
      iterate 2 go_step
      refine mv h17 rfl fun _ h41=>AO h41 (wn rfl) rfl (by decide) (fr rfl) (fun args=>cF func69 (args:=args) (w:=_)) rfl #[.slice ba b8.length bc,ν 0,ν 8] (by simp only [List.map_toArray,List.map_cons,List.map_nil,h41.ev 20 rfl];rfl) (R:=fun v w'=>v=Lu (AW b8 0 8)∧w2=w') ((Ef ba bc b8 0 8 w2 HR2.out ω).mono fun e w' q=>⟨_,q.1,rfl,q.2⟩) fun a28 v3 w3 r3 h42=>?_
      obtain ⟨rfl,rfl⟩:=r3
      refine mv h42 rfl fun _ h43=>wv h43 rfl rfl rfl rfl (ν (((AW b8 0 8).getD 0:Nat):Int)) (by unfold execOp;simp only [h43.ev 19 rfl];exact rfl) fun a29 h44=>wv h44 rfl rfl rfl rfl (.bool true) (by unfold execOp;simp only [h44.ev 19 rfl];exact (by show _=Result.ok (Next.value (Value.bool true)) _;rw [← hok];rfl)) fun a30 h45=>mv h45 rfl fun _ h46=>mv h46 rfl fun _ h47=>h47.sk [6,5,3,2,0] rfl fun h48=>?_
      iterate 6 go_step
      refine mv h48 rfl fun _ h49=>wv h49 rfl rfl rfl rfl (.bool false) (Ff rfl (h49.ev 24 rfl)) fun a31 h50=>mv h50 rfl fun _ h51=>Ak h51 (by rw [Ac (g:=2) (want:=false) (b:=false) rfl (h51.yields (prev:=26) rfl (by simp))];rfl) rfl (by decide) (fr rfl) (ν (((AW b8 0 8).getD 0:Nat):Int)) (by unfold execOp;simp only [h51.ev 5 rfl];rfl) fun a32 h52=>Ak h52 (by rw [Ac (g:=2) (want:=false) (b:=false) rfl (h52.yields (prev:=26) rfl (by simp))];rfl) rfl (by decide) (fr rfl) (π lg) (by unfold execOp;simp only [h52.ev 0 rfl];rfl) fun a33 h53=>Ak h53 (by rw [Ac (g:=2) (want:=false) (b:=false) rfl (h53.yields (prev:=26) rfl (by simp))];rfl) rfl (by decide) (fr rfl) (π lg) (by unfold execOp;simp only [h53.ev 28 rfl];exact rfl) fun a34 h54=>Ak h54 (by rw [Ac (g:=2) (want:=false) (b:=false) rfl (h54.yields (prev:=26) rfl (by simp))];rfl) rfl (by decide) (fr rfl) (.pointer (some ⟨lg,2,none⟩)) (by unfold execOp;simp only [h54.ev 29 rfl];exact Ad (Iw (lg) _)) fun a35 h55=>Ak h55 (by rw [Ac (g:=2) (want:=false) (b:=false) rfl (h55.yields (prev:=26) rfl (by simp))];rfl) rfl (by decide) (fr rfl) (ν (size:Int)) (by unfold execOp;simp only [h55.ev 30 rfl];exact Ad (BP (HG2.out.l.cell (i:=2) (by show 2<3;omega)))) fun a36 h56=>Ak h56 (by rw [Ac (g:=2) (want:=false) (b:=false) rfl (h56.yields (prev:=26) rfl (by simp))];rfl) rfl (by decide) (fr rfl) (ν ((size-8:Nat):Int)) (by unfold execOp;simp only [h56.ev 31 rfl];exact Ad (Fb _ _ _ _ _ ω ω ω _)) fun a37 h57=>Ak h57 (by rw [Ac (g:=2) (want:=false) (b:=false) rfl (h57.yields (prev:=26) rfl (by simp))];rfl) rfl (by decide) (fr rfl) (.bool false) (by unfold execOp;simp only [h57.ev 27 rfl,h57.ev 32 rfl];exact Ad (FL _ _ _ _ _ hgt)) fun a38 h58=>?_
      refine wv h58 rfl rfl rfl rfl (.bool false) (Bf rfl (h58.ev 26 rfl) (by rw [if_neg (by simp)];exact h58.ev 33 rfl)) fun a39 h59=>h59.sk [34,6,5,3,2,0] rfl fun h60=>?_
      iterate 3 go_step
      refine wp_cond (t:=false) (h60.ev 34 rfl) ?_
      simp only [Bool.false_eq_true,if_false]
      refine h60.sk [6,5,3,2,0] rfl fun h61=>?_
      iterate 5 go_step
      refine mv h61 rfl fun _ h62=>h62.sk [35,6,5,3,0] rfl fun h63=>mv h63 rfl fun _ h64=>h64.sk [2,6,5,3,0] rfl fun h65=>?_
      iterate 4 go_step
      exact Afe h65.defs (h65.known (2,ν (((AW b8 0 8).getD 0:Nat):Int)) (by simp)) hEnd B2.out
    · have hEnd:Hm M.V at_ size=0:=by unfold Hm;rw [← HB8.out,hg];exact if_neg hle
      have hgt:decide (((size-8:Nat):Int)<(((AW b8 0 8).getD 0:Nat):Int))=true:=decide_eq_true (by rw [hn];omega)
      iterate 2 go_step
      refine mv h17 rfl fun _ h66=>AO h66 (wn rfl) rfl (by decide) (fr rfl) (fun args=>cF func69 (args:=args) (w:=_)) rfl #[.slice ba b8.length bc,ν 0,ν 8] (by simp only [List.map_toArray,List.map_cons,List.map_nil,h66.ev 20 rfl];rfl) (R:=fun v w'=>v=Lu (AW b8 0 8)∧w2=w') ((Ef ba bc b8 0 8 w2 HR2.out ω).mono fun e w' q=>⟨_,q.1,rfl,q.2⟩) fun a40 v3 w3 r3 h67=>?_
      obtain ⟨rfl,rfl⟩:=r3
      refine mv h67 rfl fun _ h68=>wv h68 rfl rfl rfl rfl (ν (((AW b8 0 8).getD 0:Nat):Int)) (by unfold execOp;simp only [h68.ev 19 rfl];exact rfl) fun a41 h69=>wv h69 rfl rfl rfl rfl (.bool true) (by unfold execOp;simp only [h69.ev 19 rfl];exact (by show _=Result.ok (Next.value (Value.bool true)) _;rw [← hok];rfl)) fun a42 h70=>mv h70 rfl fun _ h71=>mv h71 rfl fun _ h72=>h72.sk [6,5,3,2,0] rfl fun h73=>?_
      iterate 6 go_step
      refine mv h73 rfl fun _ h74=>wv h74 rfl rfl rfl rfl (.bool false) (Ff rfl (h74.ev 24 rfl)) fun a43 h75=>mv h75 rfl fun _ h76=>Ak h76 (by rw [Ac (g:=2) (want:=false) (b:=false) rfl (h76.yields (prev:=26) rfl (by simp))];rfl) rfl (by decide) (fr rfl) (ν (((AW b8 0 8).getD 0:Nat):Int)) (by unfold execOp;simp only [h76.ev 5 rfl];rfl) fun a44 h77=>Ak h77 (by rw [Ac (g:=2) (want:=false) (b:=false) rfl (h77.yields (prev:=26) rfl (by simp))];rfl) rfl (by decide) (fr rfl) (π lg) (by unfold execOp;simp only [h77.ev 0 rfl];rfl) fun a45 h78=>Ak h78 (by rw [Ac (g:=2) (want:=false) (b:=false) rfl (h78.yields (prev:=26) rfl (by simp))];rfl) rfl (by decide) (fr rfl) (π lg) (by unfold execOp;simp only [h78.ev 28 rfl];exact rfl) fun a46 h79=>Ak h79 (by rw [Ac (g:=2) (want:=false) (b:=false) rfl (h79.yields (prev:=26) rfl (by simp))];rfl) rfl (by decide) (fr rfl) (.pointer (some ⟨lg,2,none⟩)) (by unfold execOp;simp only [h79.ev 29 rfl];exact Ad (Iw (lg) _)) fun a47 h80=>Ak h80 (by rw [Ac (g:=2) (want:=false) (b:=false) rfl (h80.yields (prev:=26) rfl (by simp))];rfl) rfl (by decide) (fr rfl) (ν (size:Int)) (by unfold execOp;simp only [h80.ev 30 rfl];exact Ad (BP (HG2.out.l.cell (i:=2) (by show 2<3;omega)))) fun a48 h81=>Ak h81 (by rw [Ac (g:=2) (want:=false) (b:=false) rfl (h81.yields (prev:=26) rfl (by simp))];rfl) rfl (by decide) (fr rfl) (ν ((size-8:Nat):Int)) (by unfold execOp;simp only [h81.ev 31 rfl];exact Ad (Fb _ _ _ _ _ ω ω ω _)) fun a49 h82=>Ak h82 (by rw [Ac (g:=2) (want:=false) (b:=false) rfl (h82.yields (prev:=26) rfl (by simp))];rfl) rfl (by decide) (fr rfl) (.bool true) (by unfold execOp;simp only [h82.ev 27 rfl,h82.ev 32 rfl];exact Ad (FL _ _ _ _ _ hgt)) fun a50 h83=>?_
      refine wv h83 rfl rfl rfl rfl (.bool true) (Bf rfl (h83.ev 26 rfl) (by rw [if_neg (by simp)];exact h83.ev 33 rfl)) fun a51 h84=>h84.sk [34,6,5,3,2,0] rfl fun h85=>?_
      iterate 3 go_step
      refine wp_cond (t:=true) (h85.ev 34 rfl) ?_
      simp only [if_true]
      refine h85.sk [6,5,3,2,0] rfl fun h86=>?_
      iterate 2 go_step
      refine h86.sk [6,5,3,0] rfl fun h87=>mv h87 rfl fun _ h88=>?_
      iterate 4 go_step
      simp only [Exit.then,Exit.inBlock]
      exact Afe h88.defs (h88.known (2,ν 0) (by simp)) hEnd B2.out
theorem Ag6 {w W:World} {act:Act} {M:MemM} {at_ size u:Nat} {b:Λ} {ra:Ω} {rc:Nat} {rs:List (Ω×Nat×List PtM)} (hd:act.defers=[]) (h2:act.tmps[2]? = some (.slice ra rs.length rc)) (h3:act.tmps[3]? = some (ν (u:Int))) (hr:EN b=(rs.map (·.2.2),u)) (hb:b=Fp M.V at_ size) (hR:RecsP W w.heap.size ra rc rs) (hB:Below w.heap.size w W) :
    bodyPost prog Tryz.f60 (fun e w'=>∃ x,e=.returned x∧∃ ra rc rs,x=.tuple #[.slice ra rs.length rc,ν ((CA M.V at_ size).2:Int)]∧rs.map (·.2.2)=(CA M.V at_ size).1∧RecsP w' w.heap.size ra rc rs∧Below w.heap.size w w') .ret act W:=by
  have e:CA M.V at_ size=(rs.map (·.2.2),u):=by unfold CA;rw [← hb];exact hr
  rw [e]
  exact bodyPost_ret (results_tmp2 rfl h2 h3) hd ⟨_,rfl,ra,rc,rs,rfl,rfl,hR,hB⟩
theorem Rp {w:World} {lg g v d p at_ size:Nat} {M:MemM} (hg0:LogP w lg g v d p at_ size M) (hok:LogOk at_ size M) :
    Calls prog 60 #[π lg] w fun e w'=>∃ x,e=.returned x∧∃ ra rc rs,x=.tuple #[.slice ra rs.length rc,ν ((CA M.V at_ size).2:Int)]∧rs.map (·.2.2)=(CA M.V at_ size).1∧RecsP w' w.heap.size ra rc rs∧Below w.heap.size w w':=by
  have hbase0:=hg0.lt
  have HG0:=hid hg0
  have hok2:=hok
  obtain ⟨s1,s2,s3,s4⟩:=hok2
  obtain ⟨en,hen⟩:∃ n,n=Hm M.V at_ size:=⟨_,rfl⟩
  have hle:en≤size-8:=by rw [hen];exact Pg _ _ _
  obtain ⟨b,hb⟩:∃ b,b=Fp M.V at_ size:=⟨_,rfl⟩
  have hbl:b.length≤65536:=by rw [hb];unfold Fp;rw [List.length_take,← hen];omega
  have hseen:Ii M.V M ((at_+8:Nat):Int) en=b:=by rw [hb];unfold Fp;rw [← hen];exact Rw ω
  have HBV:=hid hb
  have HEN:=hid hen.symm
  clear hg0 hb hen
  go_enter func60,ntmps60
  iterate 3 go_step
  refine AU (N:=43) (l:=[(0,π lg)]) ⟨rfl,(by intro x hx;simp only [List.mem_cons,List.not_mem_nil,or_false] at hx;rcases hx with rfl<;>rfl),rfl⟩ fun a2 h1=>mv h1 rfl fun _ h3=>mv h3 rfl fun _ h5=>?_
  iterate 4 go_step
  have HG1:=hid (HG0.out.mono (Below.refl _ _).drew)
  refine wp_region_held_drew (S:=fun w'=>Blk w' lg 101 (NP g at_ size)) κ HG1.out.l (fun hS1=>?_)
  refine Aj hS1 h5 0 rfl rfl (by decide) (fr rfl) κ κ κ (fun _ _ _ _ h=>h) (π lg) (Or.inl ⟨Eq.refl true,fun w1 hSw=>(by show (execOp _ (⟨_,.move (.tmp 0),_,_,_,_⟩:Oper)).run _ _=_;exact (by unfold execOp;simp only [h5.ev 0 rfl];exact rfl))⟩) fun a8 h7=>Aj hS1 h7 1 rfl rfl (by decide) (fr rfl) κ κ κ (fun _ _ _ _ h=>h) (π lg) (Or.inl ⟨Eq.refl true,fun w1 hSw=>(by show (execOp _ (⟨_,.nilCheck (.tmp 10),_,_,_,_⟩:Oper)).run _ _=_;exact (by unfold execOp;simp only [h7.ev 10 rfl];exact rfl))⟩) fun a1 h9=>Aj hS1 h9 2 rfl rfl (by decide) (fr rfl) κ κ κ (fun _ _ _ _ h=>h) (π lg) (Or.inl ⟨Eq.refl true,fun w1 hSw=>(by show (execOp _ (⟨_,.fieldAddr 101 (.tmp 11) 0,_,_,_,_⟩:Oper)).run _ _=_;exact (by unfold execOp;simp only [h9.ev 11 rfl];exact Ad (Fi (lg) _)))⟩) fun a3 h2=>Aj hS1 h2 3 rfl rfl (by decide) (fr rfl) κ κ κ (fun _ _ _ _ h=>h) (π g) (Or.inl ⟨Eq.refl true,fun w1 hSw=>(by show (execOp _ (⟨_,.load 59 (.tmp 12),_,_,_,_⟩:Oper)).run _ _=_;exact (by unfold execOp;simp only [h2.ev 12 rfl];exact Ad (GO (hSw.cell (i:=0) (by show 0<3;omega)))))⟩) fun a4 h4=>Aj hS1 h4 4 rfl rfl (by decide) (fr rfl) κ κ κ (fun _ _ _ _ h=>h) (π lg) (Or.inl ⟨Eq.refl true,fun w1 hSw=>(by show (execOp _ (⟨_,.move (.tmp 0),_,_,_,_⟩:Oper)).run _ _=_;exact (by unfold execOp;simp only [h4.ev 0 rfl];exact rfl))⟩) fun a5 h6=>Aj hS1 h6 5 rfl rfl (by decide) (fr rfl) κ κ κ (fun _ _ _ _ h=>h) (π lg) (Or.inl ⟨Eq.refl true,fun w1 hSw=>(by show (execOp _ (⟨_,.nilCheck (.tmp 14),_,_,_,_⟩:Oper)).run _ _=_;exact (by unfold execOp;simp only [h6.ev 14 rfl];exact rfl))⟩) fun a6 h8=>Aj hS1 h8 6 rfl rfl (by decide) (fr rfl) κ κ κ (fun _ _ _ _ h=>h) (.pointer (some ⟨lg,1,none⟩)) (Or.inl ⟨Eq.refl true,fun w1 hSw=>(by show (execOp _ (⟨_,.fieldAddr 101 (.tmp 15) 1,_,_,_,_⟩:Oper)).run _ _=_;exact (by unfold execOp;simp only [h8.ev 15 rfl];exact Ad (Iv (lg) _)))⟩) fun a7 h10=>Aj hS1 h10 7 rfl rfl (by decide) (fr rfl) κ κ κ (fun _ _ _ _ h=>h) (ν (at_:Int)) (Or.inl ⟨Eq.refl true,fun w1 hSw=>(by show (execOp _ (⟨_,.load 3 (.tmp 16),_,_,_,_⟩:Oper)).run _ _=_;exact (by unfold execOp;simp only [h10.ev 16 rfl];exact Ad (BP (hSw.cell (i:=1) (by show 1<3;omega)))))⟩) fun a9 h11=>Aj hS1 h11 8 rfl rfl (by decide) (fr rfl) κ κ κ (fun _ _ _ _ h=>h) (ν ((at_+8:Nat):Int)) (Or.inl ⟨Eq.refl true,fun w1 hSw=>(by show (execOp _ (⟨_,.binOp .add 3 (.tmp 17) (.const (ν 8)) 3,_,_,_,_⟩:Oper)).run _ _=_;exact (by unfold execOp;simp only [h11.ev 17 rfl];exact Ad (NU _ _ _ _ _ ω ω ω _)))⟩) fun a10 h12=>Aj hS1 h12 9 rfl rfl (by decide) (fr rfl) κ κ κ (fun _ _ _ _ h=>h) (π lg) (Or.inl ⟨Eq.refl true,fun w1 hSw=>(by show (execOp _ (⟨_,.move (.tmp 0),_,_,_,_⟩:Oper)).run _ _=_;exact (by unfold execOp;simp only [h12.ev 0 rfl];exact rfl))⟩) fun a11 h13=>?_
  refine AD 10 rfl rfl κ fun K hK=>DD h13 rfl (by decide) (fr rfl) (fun args=>cF func90 (args:=args) (w:=_)) rfl #[π lg] (by simp only [List.map_toArray,List.map_cons,List.map_nil,h13.ev 19 rfl]) (R:=fun v w'=>v=ν (en:Int)∧Below w.drew.heap.size w.drew w') ((by have z:=Aba HG1.out hok;rw [HEN.out] at z;exact z)) fun a12 v2 w2 r2 h14=>hK _ _ (HG1.out.l.mono r2.2) fun hS2=>?_
  clear hK K
  obtain ⟨rfl,b2⟩:=r2
  have HG2:=hid (HG1.out.mono b2);have B2:Hid (Below w.heap.size w w2):=hid ((Below.refl _ w).drew.trans b2);clear b2
  refine AD 11 rfl rfl κ fun K hK=>DD h14 rfl (by decide) (fr rfl) (fun args=>cF func65 (args:=args) (w:=_)) rfl #[π g,ν ((at_+8:Nat):Int),ν (en:Int)] (by simp only [List.map_toArray,List.map_cons,List.map_nil,h14.ev 13 rfl,h14.ev 18 rfl,h14.ev 20 rfl]) (R:=fun v w'=>∃ a c,v=.tuple #[.slice a (Ii M.V M ((at_+8:Nat):Int) en).length c,ν (Gh M ((at_+8:Nat):Int) en)]∧Cb w' w2.heap.size a c (Ii M.V M ((at_+8:Nat):Int) en)∧Below w2.heap.size w2 w') ((YT HG2.out.m ((at_+8:Nat):Int) en (by unfold EG;omega) (by unfold EG;omega)).mono fun e w' q=>by obtain ⟨x,y,q1,q2,q3⟩:=q;exact ⟨_,q1,x,y,rfl,q2,q3⟩) fun a13 v3 w3 r3 h15=>hK _ _ (by obtain ⟨x,y,_,_,q⟩:=r3;exact HG2.out.l.mono q) fun hS3=>?_
  clear hK K
  obtain ⟨ba,bc,rfl,o3,b3⟩:=r3
  rw [hseen] at o3 h15
  have HG3:=hid (HG2.out.mono b3);have HB3:=hid (Own.low o3 B2.out.size);have B3:=hid (Ae B2.out b3);clear o3 b3
  refine Aj hS3 h15 12 rfl rfl (by decide) (fr rfl) κ κ κ (fun _ _ _ _ h=>h) (.tuple #[.slice ba b.length bc,ν (Gh M ((at_+8:Nat):Int) en)]) (Or.inl ⟨Eq.refl true,fun w1 hSw=>(by show (execOp _ (⟨_,.move (.tmp 21),_,_,_,_⟩:Oper)).run _ _=_;exact (by unfold execOp;simp only [h15.ev 21 rfl];exact rfl))⟩) fun a14 h16=>Aj hS3 h16 13 rfl rfl (by decide) (fr rfl) κ κ κ (fun _ _ _ _ h=>h) (.slice ba b.length bc) (Or.inl ⟨Eq.refl true,fun w1 hSw=>(by show (execOp _ (⟨_,.extract (.tmp 9) 0,_,_,_,_⟩:Oper)).run _ _=_;exact (by unfold execOp;simp only [h16.ev 9 rfl];exact rfl))⟩) fun a15 h17=>Aj hS3 h17 14 rfl rfl (by decide) (fr rfl) κ κ κ (fun _ _ _ _ h=>h) (ν (Gh M ((at_+8:Nat):Int) en)) (Or.inl ⟨Eq.refl true,fun w1 hSw=>(by show (execOp _ (⟨_,.extract (.tmp 9) 1,_,_,_,_⟩:Oper)).run _ _=_;exact (by unfold execOp;simp only [h17.ev 9 rfl];exact rfl))⟩) fun a16 h18=>Aj hS3 h18 15 rfl rfl (by decide) (fr rfl) κ κ κ (fun _ _ _ _ h=>h) (.slice ba b.length bc) (Or.inl ⟨Eq.refl true,fun w1 hSw=>(by show (execOp _ (⟨_,.assign (.tmp 22),_,_,_,_⟩:Oper)).run _ _=_;exact (by unfold execOp;simp only [h18.ev 22 rfl];exact rfl))⟩) fun a17 h19=>Aj hS3 h19 16 rfl rfl (by decide) (fr rfl) κ κ κ (fun _ _ _ _ h=>h) (ν (Gh M ((at_+8:Nat):Int) en)) (Or.inl ⟨Eq.refl true,fun w1 hSw=>(by show (execOp _ (⟨_,.assign (.tmp 23),_,_,_,_⟩:Oper)).run _ _=_;exact (by unfold execOp;simp only [h19.ev 23 rfl];exact rfl))⟩) fun a18 h20=>?_
  refine wpAnyH_done κ ?_ _
  refine h20.sk [4,3,2,0] rfl fun h21=>?_
  iterate 3 go_step
  refine h21.sk [2,3,4,0] rfl fun h22=>?_
  refine wp_loop (I:=fun a' w'=>∃ (u k:Nat) (ra:Ω) (rc:Nat) (rs:List (Ω×Nat×List PtM)),u≤b.length∧Kn 43 [(2,.slice ra rs.length rc),(3,ν (u:Int)),(4,.slice ba b.length bc),(0,π lg)] a'∧LogP w' lg g v d p at_ size M∧Cb w' w.heap.size ba bc b∧RecsP w' w.heap.size ra rc rs∧Below w.heap.size w w'∧EN b=Hg b k u (rs.map (·.2.2))∧b.length-u<k∧rs.length≤u) (μ:=fun a' _=>b.length-(intOf (a'.eval (.tmp 3))).toNat) ⟨0,b.length+1,none,0,[],Nat.zero_le _,h22,HG3.out,HB3.out,RecsP.nil _ _,B3.out,rfl,ω,Nat.le_refl _⟩ ?_
  clear HG3 HB3 B3 h22
  rintro aL wL ⟨u,k,ra,rc,rs,hu,hK,hG,hB,hRS,hBL,hrd,huk,hru⟩
  have HG:=hid hG;have HB:=hid hB;have HRS:=hid hRS;have HBL:=hid hBL;have HRD:=hid hrd;clear hG hB hRS hBL hrd
  iterate 4 go_step
  refine mv hK rfl fun _ h23=>mv h23 rfl fun _ h24=>?_
  obtain ⟨dp,hsl,hrow⟩:=Afr HB.out.row u hu
  have hyl:(b.drop u).length=b.length-u:=by rw [List.length_drop]
  refine wv h24 rfl rfl rfl rfl (.slice dp (b.length-u) (bc-u)) (by unfold execOp;simp only [Option.map_some,Option.map_none,h24.ev 25 rfl,h24.ev 26 rfl];exact Ad (hsl _)) fun a19 h25=>AO h25 (wn rfl) rfl (by decide) (fr rfl) (fun args=>cF func91 (args:=args) (w:=_)) rfl #[.slice dp (b.length-u) (bc-u)] (by simp only [List.map_toArray,List.map_cons,List.map_nil,h25.ev 27 rfl]) (R:=fun v w'=>∃ la lc,v=.tuple #[.slice la (Cj (b.drop u)).1.length lc,ν (Cj (b.drop u)).2.1,ν (Cj (b.drop u)).2.2]∧BG w' wL.heap.size la lc (Cj (b.drop u)).1∧Below wL.heap.size wL w') ((by have z:=Sx hrow ω;rw [hyl] at z;exact z)) fun a20 v5 w5 r5 h26=>?_
  obtain ⟨la,lc,rfl,o5,b5⟩:=r5
  obtain ⟨D,hD⟩:∃ D,D=Cj (b.drop u):=⟨_,rfl⟩
  rw [← hD] at o5 h26
  have HG5:=hid (HG.out.mono b5);have HB5:=hid (Own.mono HB.out b5);have HRS5:=hid (HRS.out.mono b5);have HO5:=hid (Own.low o5 HBL.out.size);have HBL5:=hid (Ae HBL.out b5);have HDD:=hid hD;clear o5 b5 hD
  refine mv h26 rfl fun _ h27=>wv h27 rfl rfl rfl rfl (.slice la D.1.length lc) (by unfold execOp;simp only [h27.ev 24 rfl];exact rfl) fun a21 h28=>wv h28 rfl rfl rfl rfl (ν D.2.1) (by unfold execOp;simp only [h28.ev 24 rfl];exact rfl) fun a22 h29=>wv h29 rfl rfl rfl rfl (ν D.2.2) (by unfold execOp;simp only [h29.ev 24 rfl];exact rfl) fun a23 h30=>mv h30 rfl fun _ h31=>mv h31 rfl fun _ h32=>mv h32 rfl fun _ h33=>h33.sk [8,7,6,2,3,4,0] rfl fun h34=>?_
  iterate 4 go_step
  obtain ⟨k,rfl⟩:∃ j,k=j+1:=⟨k-1,ω⟩
  have HR1:Hid (EN b=if D.2.2=0 then Hg b k (u+D.2.1.toNat) (rs.map (·.2.2)++[D.1]) else (rs.map (·.2.2),u)):=hid (by rw [HRD.out,HDD.out];rfl)
  by_cases hD0:D.2.2=0
  · have hbad:(D.2.2 != 0)=false:=by rw [hD0];rfl
    obtain ⟨n,hn,hn1,hn2⟩:=Mh (xs:=b.drop u) (by rw [← HDD.out];exact hD0)
    rw [← HDD.out] at hn
    rw [hyl] at hn2
    have hbase:lg<w.heap.size∧g<w.heap.size∧v<w.heap.size∧d<w.heap.size∧p<w.heap.size:=hbase0
    rw [hn] at h34
    iterate 2 go_step
    refine mv h34 rfl fun _ h35=>wv h35 rfl rfl rfl rfl (.bool false) (by unfold execOp;simp only [h35.ev 32 rfl];exact Ad (QJ _ _ _ _ _ hbad)) fun a24 h36=>h36.sk [33,8,7,6,2,3,4,0] rfl fun h37=>?_
    iterate 3 go_step
    refine wp_cond (t:=false) (h37.ev 33 rfl) ?_
    simp only [Bool.false_eq_true,if_false]
    refine h37.sk [8,7,6,2,3,4,0] rfl fun h38=>?_
    iterate 5 go_step
    refine mv h38 rfl fun _ h39=>mv h39 rfl fun _ h40=>wv h40 rfl rfl rfl rfl (.slice (some ⟨w5.heap.size,0,none⟩) 1 1) (by unfold execOp;simp only [List.map_toArray,List.map_cons,List.map_nil,h40.ev 37 rfl];exact Ad (XH _ _ _ _)) fun a25 h41=>?_
    obtain ⟨w6,hw6⟩:∃ x,x=w5.alloc (.cells #[.slice la D.1.length lc] 68):=⟨_,rfl⟩
    have b6:Below w5.heap.size w5 w6:=by rw [hw6];exact Cq _ _
    have R6:Row w6 1 (some ⟨w5.heap.size,0,none⟩) 1 1 [.slice la D.1.length lc]:=by rw [hw6];exact WV w5 _ _
    have HG6:=hid (HG5.out.mono b6);have HB6:=hid (Own.mono HB5.out b6);have HRS6:=hid (HRS5.out.mono b6);have HO6:=hid (Own.mono HO5.out b6);have HBL6:=hid (Ae HBL5.out b6);have HR6:=hid R6;clear b6 R6
    rw [← hw6];clear hw6
    refine CD rfl (.tmp 36) (.tmp 38) rfl Ahr w.heap.size (h41.ev 36 rfl) (h41.ev 38 rfl) HRS6.out.o HR6.out (by intro x hx;simp only [List.mem_cons,List.not_mem_nil,or_false] at hx;subst hx;rfl) ω ω HBL6.out.size ?_
    intro ra2 rc2 w7 o7 g7 b7
    refine AU (h41.put (d:=39) (by decide) (fr rfl) (.slice ra2 (rs.length+1) rc2)) fun a26 h42=>?_
    have HG7:=hid (HG6.out.below b7 hbase);have HB7:=hid (MO HB6.out HRS6.out.o (by decide) g7);have HBL7:=hid (HBL6.out.trans b7)
    have HRS7:Hid (RecsP w7 w.heap.size ra2 rc2 (rs++[(la,lc,D.1)])):=hid ⟨by rw [List.length_append,List.map_append];exact o7,fun r hr=>by rcases List.mem_append.1 hr with q | q;exact MO (HRS6.out.i r q) HRS6.out.o (by decide) g7;rw [List.mem_singleton.1 q];exact MO HO6.out HRS6.out.o (by decide) g7⟩
    clear o7 g7 b7
    refine h42.sk [39,38,37,36,8,7,6,3,4,0] rfl fun h43=>mv h43 rfl fun _ h44=>h44.sk [2,8,7,6,3,4,0] rfl fun h45=>?_
    iterate 4 go_step
    refine mv h45 rfl fun _ h46=>mv h46 rfl fun _ h47=>wv h47 rfl rfl rfl rfl (ν ((u+n:Nat):Int)) (by unfold execOp;simp only [h47.ev 40 rfl,h47.ev 41 rfl];exact Ad (NU _ _ _ _ _ ω ω ω _)) fun a27 h48=>h48.sk [42,41,40,2,8,7,6,4,0] rfl fun h49=>mv h49 rfl fun _ h50=>h50.sk [3,2,8,7,6,4,0] rfl fun h51=>?_
    iterate 2 go_step
    refine ⟨⟨u+n,k,ra2,rc2,rs++[(la,lc,D.1)],ω,?_,HG7.out,HB7.out,HRS7.out,HBL7.out,?_,ω,by rw [List.length_append];show rs.length+1≤_;omega⟩,?_⟩
    · rw [List.length_append];exact h51.subs rfl
    · rw [HR1.out,if_pos hD0,hn,Int.toNat_natCast,List.map_append];rfl
    · rw [h51.ev 3 rfl,hK.ev 3 rfl];simp [intOf];omega
  · have hbad:(D.2.2 != 0)=true:=by simp [bne,hD0]
    iterate 2 go_step
    refine mv h34 rfl fun _ h52=>wv h52 rfl rfl rfl rfl (.bool true) (by unfold execOp;simp only [h52.ev 32 rfl];exact Ad (QJ _ _ _ _ _ hbad)) fun a28 h53=>h53.sk [33,8,7,6,2,3,4,0] rfl fun h54=>?_
    iterate 3 go_step
    refine wp_cond (t:=true) (h54.ev 33 rfl) ?_
    simp only [if_true]
    refine h54.sk [8,7,6,2,3,4,0] rfl fun h55=>?_
    iterate 2 go_step
    refine mv h55 rfl fun _ h56=>mv h56 rfl fun _ h57=>h57.sk [35,34,8,7,6,3,4,0] rfl fun h58=>mv h58 rfl fun _ h59=>h59.sk [2,35,34,8,7,6,4,0] rfl fun h60=>mv h60 rfl fun _ h61=>h61.sk [3,2,8,7,6,4,0] rfl fun h62=>?_
    iterate 4 go_step
    simp only [Exit.then,Exit.inBlock]
    exact Ag6 h62.defs (h62.known (2,.slice ra rs.length rc) (by simp)) (h62.known (3,ν (u:Int)) (by simp)) (HR1.out.trans (if_neg hD0)) HBV.out HRS5.out HBL5.out
end
section
theorem Hp {P:Program} {fn:Func} {R:Ending→World→Prop} {a:Act} {w:World} {v:Value} (hv:(results fn a.tmps).run P w=.ok v w) (hd:a.defers=[]) (h:R (.returned v) w):bodyPost P fn R .normal a w:=⟨hd,v,hv,h⟩
theorem Hq (p:PtM) (w:World):(Instr.buildSlice 68 1 #[(0,ptV p)]).run prog w=.ok (.slice (some ⟨w.heap.size,0,none⟩) ([p]:List PtM).length 1) (w.alloc (.cells (ptC p).toArray 127)):=by
  have u3:=υ68
  have u9:=υ127
  have z3:=Tryz.sizeOf127
  unfold ptV ptC Ap
  go_simp
theorem PL (w:World) (p:PtM):Fo (w.alloc (.cells (ptC p).toArray 127)) (some ⟨w.heap.size,0,none⟩) 1 [p]:=by
  refine ⟨rfl,Nat.le_refl _,by unfold maxLen;omega,fun h=>by (cases h),fun _=>⟨w.heap.size,0,rfl,by simp,fun j u hu=>?_⟩⟩
  have hh:=heap_alloc_new w (.cells (ptC p).toArray 127)
  unfold World.cell?
  rw [show (⟨w.heap.size,0+j,none⟩:Addr).block=w.heap.size from rfl,hh]
  simpa using hu
def GI (M:MemM) (at_:Nat) (n:Int):MemM:=Dj M [⟨(at_:Int),AB [] n 8⟩]
theorem WM (n:Int):(AB [] n 8).length≤8:=Cg [] n 8
theorem Nk {w:World} {lg g v d p at_ size:Nat} {M:MemM} (hg0:LogP w lg g v d p at_ size M) (n:Int) (hn:n≤1000000) (ha:at_≤1048576) :
    Calls prog 62 #[π lg,ν n] w fun e w'=>∃ x,e=.returned x∧LogP w' lg g v d p at_ size (GI M at_ n)∧Turns (XM v d p) w w':=by
  have HG0:=hid hg0
  have hp64a:okI (⟨(at_:Int),AB [] n 8⟩:PtM).at_:=by unfold okI;show _≤(at_:Int)∧(at_:Int)≤_;omega
  have hpda:(⟨(at_:Int),AB [] n 8⟩:PtM).d.length≤1000000:=by have:=WM n;show (AB [] n 8).length≤_;omega
  clear hg0
  go_enter func62,ntmps62
  obtain ⟨ac,hac⟩:∃ x:Act,x={ tmps:=#[π lg,ν n,undef,undef,undef,undef,undef,undef,undef,undef,undef,undef,undef,undef,undef],defers:=[] }:=⟨_,rfl⟩
  have h0:Kn 15 [(0,π lg),(1,ν n)] ac:=⟨by rw [hac];rfl,(by intro x hx;rw [hac];simp only [List.mem_cons,List.not_mem_nil,or_false] at hx;rcases hx with rfl | rfl<;>rfl),by rw [hac]⟩
  rw [← hac]
  clear hac
  have HG1:=hid (HG0.out.mono (Below.refl _ _).drew);have HT1:Hid (Turns (XM v d p) w w.drew):=hid (Turns.refl _ _).drew
  refine wp_region_held_drew (S:=fun w'=>Blk w' lg 101 (NP g at_ size)∧True) κ ⟨HG1.out.l,trivial⟩ (fun hS1=>?_)
  refine Aj hS1 h0 0 rfl rfl (by decide) (fr rfl) κ κ κ (fun _ _ _ _ h=>h) (π lg) (Or.inl ⟨Eq.refl true,fun w1 hSw=>(by show (execOp _ (⟨_,.move (.tmp 0),_,_,_,_⟩:Oper)).run _ _=_;exact (by unfold execOp;simp only [h0.ev 0 rfl];exact rfl))⟩) fun a2 h1=>Aj hS1 h1 1 rfl rfl (by decide) (fr rfl) κ κ κ (fun _ _ _ _ h=>h) (π lg) (Or.inl ⟨Eq.refl true,fun w1 hSw=>(by show (execOp _ (⟨_,.move (.tmp 0),_,_,_,_⟩:Oper)).run _ _=_;exact (by unfold execOp;simp only [h1.ev 0 rfl];exact rfl))⟩) fun a4 h3=>Aj hS1 h3 2 rfl rfl (by decide) (fr rfl) κ κ κ (fun _ _ _ _ h=>h) (π lg) (Or.inl ⟨Eq.refl true,fun w1 hSw=>(by show (execOp _ (⟨_,.nilCheck (.tmp 5),_,_,_,_⟩:Oper)).run _ _=_;exact (by unfold execOp;simp only [h3.ev 5 rfl];exact rfl))⟩) fun a6 h5=>Aj hS1 h5 3 rfl rfl (by decide) (fr rfl) κ κ κ (fun _ _ _ _ h=>h) (.pointer (some ⟨lg,1,none⟩)) (Or.inl ⟨Eq.refl true,fun w1 hSw=>(by show (execOp _ (⟨_,.fieldAddr 101 (.tmp 6) 1,_,_,_,_⟩:Oper)).run _ _=_;exact (by unfold execOp;simp only [h5.ev 6 rfl];exact Ad (Iv (lg) _)))⟩) fun a8 h7=>Aj hS1 h7 4 rfl rfl (by decide) (fr rfl) κ κ κ (fun _ _ _ _ h=>h) (ν (at_:Int)) (Or.inl ⟨Eq.refl true,fun w1 hSw=>(by show (execOp _ (⟨_,.load 3 (.tmp 7),_,_,_,_⟩:Oper)).run _ _=_;exact (by unfold execOp;simp only [h7.ev 7 rfl];exact Ad (BP (hSw.1.cell (i:=1) (by show 1<3;omega)))))⟩) fun a1 h9=>Aj hS1 h9 5 rfl rfl (by decide) (fr rfl) κ κ κ (fun _ _ _ _ h=>h) (ν n) (Or.inl ⟨Eq.refl true,fun w1 hSw=>(by show (execOp _ (⟨_,.move (.tmp 1),_,_,_,_⟩:Oper)).run _ _=_;exact (by unfold execOp;simp only [h9.ev 1 rfl];exact rfl))⟩) fun a3 h2=>AD 6 rfl rfl κ fun K hK=>DD h2 rfl (by decide) (fr rfl) (fun args=>cF func87 (args:=args) (w:=_)) rfl #[.slice none 0 0,ν n,ν 8] (by simp only [List.map_toArray,List.map_cons,List.map_nil,h2.ev 9 rfl];rfl) (R:=fun v w'=>∃ a c,v=.slice a (AB [] n 8).length c∧Cb w' w.drew.heap.size a c (AB [] n 8)∧Below w.drew.heap.size w.drew w') ((CZ none 0 [] n 8 w.drew (Row.nil _ _) (by simp) ω).mono fun e w' q=>by obtain ⟨a2,c2,q1,q2,q3⟩:=q;exact ⟨_,q1,a2,c2,rfl,q2,q3⟩) fun a5 v2 w2 r2 h4=>hK _ _ (by obtain ⟨x,y,_,_,q⟩:=r2;exact ⟨hS1.1.mono q,trivial⟩) fun hS2=>?_
  clear hK K
  obtain ⟨ba,bc,rfl,o2,b2⟩:=r2
  have HG2:=hid (HG1.out.mono b2);have HT2:Hid (Turns (XM v d p) w w2):=hid (HT1.out.trans (Turns.of_below b2));have hst:=GX o2.row;clear b2
  refine AD 7 rfl rfl κ fun K hK=>Dt (w':=w2) h4 rfl (by decide) (fr rfl) (Ap (AB [] n 8)) (by show (execOp _ (⟨_,.convert 74 9 (.tmp 10),_,_,_,_⟩:Oper)).run _ _=_;exact (by unfold execOp;simp only [h4.ev 10 rfl];exact Ad hst)) fun a7 h6=>hK _ _ (hS2) fun hS3=>?_
  clear hK K
  refine Aj hS3 h6 8 rfl rfl (by decide) (fr rfl) κ κ κ (fun _ _ _ _ h=>h) (ptV ⟨(at_:Int),AB [] n 8⟩) (Or.inl ⟨Eq.refl true,fun w1 hSw=>(by show (execOp _ (⟨_,.build 127 #[(0,(.tmp 8)),(1,(.tmp 11))],_,_,_,_⟩:Oper)).run _ _=_;exact (by unfold execOp;simp only [List.map_toArray,List.map_cons,List.map_nil,h6.ev 8 rfl,h6.ev 11 rfl];exact Ad (Jy _ _ _)))⟩) fun a9 h8=>?_
  obtain ⟨wsa,hwsa⟩:∃ x,x=w2.alloc (.cells (ptC ⟨(at_:Int),AB [] n 8⟩).toArray 127):=⟨_,rfl⟩
  have bsa:Below w2.heap.size w2 wsa:=by rw [hwsa];exact Cq _ _
  have rsa:Fo wsa (some ⟨w2.heap.size,0,none⟩) 1 [⟨(at_:Int),AB [] n 8⟩]:=by rw [hwsa];exact PL _ _
  refine AD 9 rfl rfl κ fun K hK=>Dt (w':=wsa) h8 rfl (by decide) (fr rfl) (.slice (some ⟨w2.heap.size,0,none⟩) ([⟨(at_:Int),AB [] n 8⟩]:List PtM).length 1) (by show (execOp _ (⟨_,.buildSlice 68 1 #[(0,(.tmp 12))],_,_,_,_⟩:Oper)).run _ _=_;exact (by unfold execOp;simp only [List.map_toArray,List.map_cons,List.map_nil,h8.ev 12 rfl];rw [hwsa];exact Ad (Hq _ _))) fun a10 h10=>hK _ _ (⟨hS3.1.mono bsa,trivial⟩) fun hSsa=>?_
  clear hK K
  have HGsa:=hid (HG2.out.mono bsa);have HTsa:Hid (Turns (XM v d p) w wsa):=hid (HT2.out.trans (Turns.of_below bsa));have hnwa:=HG2.out.lt;have HRsa:=hid rsa;clear hwsa rsa bsa
  refine AD 10 rfl rfl κ fun K hK=>DD h10 rfl (by decide) (fr rfl) (fun args=>cF func61 (args:=args) (w:=_)) rfl #[π lg,.slice (some ⟨w2.heap.size,0,none⟩) ([⟨(at_:Int),AB [] n 8⟩]:List PtM).length 1] (by simp only [List.map_toArray,List.map_cons,List.map_nil,h10.ev 4 rfl,h10.ev 13 rfl]) (R:=fun xv w'=>LogP w' lg g v d p at_ size (Dj M [⟨(at_:Int),AB [] n 8⟩])∧Turns (XM v d p) wsa w') ((GQ HGsa.out (fun W t=>t.row HRsa.out (fun _ b hb=>by obtain ⟨off,e⟩:=hb;cases e;rintro (e | e | e)<;>omega)) (by intro q hq;rw [List.mem_singleton.1 hq];exact hp64a) (by intro q hq;rw [List.mem_singleton.1 hq];exact hpda) (by show (1:Nat)≤_;omega)).mono fun e w' q=>by obtain ⟨x,q1,q2,q3⟩:=q;exact ⟨x,q1,q2,q3⟩) fun a11 vwa wwa rwa h11=>hK _ _ (⟨rwa.1.l,trivial⟩) fun hSwa=>?_
  clear hK K
  have HGwa:=hid rwa.1;have HTwa:Hid (Turns (XM v d p) w wwa):=hid (HTsa.out.trans rwa.2);clear rwa
  refine wpAnyH_done κ ?_ _
  refine h11.sk [0,1] rfl fun h12=>?_
  exact Hp (results_none rfl _ _ _) h12.defs ⟨_,rfl,HGwa.out,HTwa.out⟩
end
section
theorem Ro (b:Λ) (k u:Nat) (acc:List (List PtM)) (hu:u≤b.length):(Hg b k u acc).2≤b.length∧(8*acc.length≤u→8*(Hg b k u acc).1.length≤(Hg b k u acc).2):=by
  induction k generalizing u acc with
  | zero=>exact ⟨hu,fun h=>h⟩
  | succ k ih=>
    unfold Hg
    split
    · next h=>
      obtain ⟨n,hn,h1,h2⟩:=Mh h
      rw [List.length_drop] at h2
      rw [hn,Int.toNat_natCast]
      obtain ⟨q1,q2⟩:=ih (u+n) (acc++[(Cj (b.drop u)).1]) ω
      exact ⟨q1,fun ha=>q2 (by rw [List.length_append];show 8*(acc.length+1)≤_;omega)⟩
    · exact ⟨hu,fun h=>h⟩
theorem VE (V:Λ) (at_ size:Nat):(Fp V at_ size).length≤size-8:=by
  unfold Fp
  rw [List.length_take]
  have:=Pg V at_ size
  omega
theorem YW (V:Λ) (at_ size:Nat):(CA V at_ size).2≤size-8:=Nat.le_trans (Ro _ _ 0 [] (Nat.zero_le _)).1 (VE V at_ size)
theorem Aen (V:Λ) (at_ size:Nat):8*(CA V at_ size).1.length≤size-8:=Nat.le_trans ((Ro _ _ 0 [] (Nat.zero_le _)).2 (Nat.le_refl _)) (YW V at_ size)
def WL (L:List PtM):Prop:=IS L∧(∀ p∈L,p.d.length≤1000000)∧L.length≤64
theorem Yz {xs:Λ} (n:Nat) {s:DS} {acc:List PtM} (h:IS acc∧∀ p∈acc,p.d.length≤1000000) {r:List PtM×DS} (hr:DK xs n s acc=some r):(IS r.1∧∀ p∈r.1,p.d.length≤1000000)∧r.1.length=acc.length+n:=by
  induction n generalizing s acc with
  | zero=>cases hr;exact ⟨h,rfl⟩
  | succ n ih=>
    unfold DK at hr
    split at hr
    · cases hr
    · next hq=>
      have h2:=ih ⟨?_,?_⟩ hr
      · refine ⟨h2.1,?_⟩
        rw [h2.2,List.length_append]
        show acc.length+1+n=_
        omega
      · intro p hp
        rcases List.mem_append.1 hp with q | q
        · exact h.1 p q
        · rw [List.mem_singleton.1 q]
          have:=JU xs s 4
          unfold okI
          show _≤((Bq xs s 4).1:Int)∧((Bq xs s 4).1:Int)≤_
          omega
      · intro p hp
        rcases List.mem_append.1 hp with q | q
        · exact h.2 p q
        · rw [List.mem_singleton.1 q]
          exact Nat.le_trans (IJ _ _ _) ω
theorem Aa7 (xs:Λ):WL (Cj xs).1:=by
  have h0:WL ([]:List PtM):=⟨fun p h=>(by cases h),fun p h=>(by cases h),Nat.zero_le _⟩
  unfold Cj
  split
  · exact h0
  · next q=>
    cases hg:DK xs (Bq xs ⟨0,false⟩ 2).1 (Bq xs ⟨0,false⟩ 2).2 [] with
    | none=>exact h0
    | some r=>
      obtain ⟨h1,h2⟩:=Yz _ ⟨fun p h=>(by cases h),fun p h=>(by cases h)⟩ hg
      show WL (JC xs r.1 r.2).1
      unfold JC
      split
      · exact h0
      · split
        · exact h0
        · split
          · exact ⟨h1.1,h1.2,by rw [h2];show 0+_≤64;omega⟩
          · exact h0
theorem ZC (b:Λ) (k u:Nat) (acc:List (List PtM)) (h:∀ L∈acc,WL L):∀ L∈(Hg b k u acc).1,WL L:=by
  induction k generalizing u acc with
  | zero=>exact h
  | succ k ih=>
    unfold Hg
    split
    · refine ih _ _ fun L hL=>?_
      rcases List.mem_append.1 hL with q | q
      · exact h L q
      · rw [List.mem_singleton.1 q];exact Aa7 _
    · exact h
theorem Abv {V:Λ} {at_ size:Nat} {L:List PtM} (h:L∈(CA V at_ size).1):WL L:=ZC _ _ _ [] (fun L h=>by cases h) L h
theorem Row.below {w w':World} {sz:Nat} {a:Ω} {n c:Nat} {cs:List Value} (h:Row w sz a n c cs) (b:Below w.heap.size w w'):Row w' sz a n c cs:=h.mono b
theorem Aem {w:World} {g off:Nat} {a:Ω} {n c:Nat} (h:w.cell? ⟨g,off,none⟩=some (.slice a n c)):(Instr.loadAt 68 (.pointer (some ⟨g,off,none⟩))).run prog w=.ok (.slice a n c) w:=by
  have u3:=υ68
  have a3:=Tryz.isAgg68
  have z3:=Tryz.sizeOf68
  go_simp
theorem Aic (b off n c j:Nat) (hj:j<n) (w:World):(Instr.indexAt 122 (.slice (some ⟨b,off,none⟩) n c) (ν (j:Int))).run prog w=.ok (.pointer (some ⟨b,off+j,none⟩)) w:=by
  have u3:=υ122
  have u9:=υ68
  have z3:=Tryz.sizeOf68
  have d0:(j:Int)<(n:Int):=ω
  have d1:0≤(j:Int):=ω
  go_simp
theorem OF {o:Oper} {x:Operand} (ho:o.op=.call { callee:=.builtin .len,args:=#[x],argTypes:=#[122] }) {ρ:Operand→Value} {a:Ω} {n c:Nat} (hx:ρ x=.slice a n c) (w:World):(execOp ρ o).run prog w=.ok (.value (ν (n:Int))) w:=by
  unfold execOp;rw [ho]
  have u3:=υ122
  simp [resolve,invoke,builtin,hx]
  go_simp
theorem EPt:ElemT prog 68 127 2 24:=Qj υ68 (z:=.agg (ptC zPt).toArray) κ rfl ω
def Eo (M:MemM) (at_ size:Nat) (L:List PtM):Int:=if IL L=0 then (if size-8<(CA M.V at_ size).2+(Ct L).length then 5 else 0) else IL L
def DV (M:MemM) (at_ size:Nat) (L:List PtM):MemM:=if IL L=0∧¬ size-8<(CA M.V at_ size).2+(Ct L).length then GI (Dj M [⟨((at_+8+(CA M.V at_ size).2:Nat):Int),Ct L⟩]) at_ (((CA M.V at_ size).2+(Ct L).length:Nat):Int) else M
def Fw (M:MemM) (at_ size:Nat):MemM:=GI (Dj M (CA M.V at_ size).1.flatten) at_ 0
theorem Afc {w W:World} {lg g v d p at_ size:Nat} {M:MemM} {L:List PtM} {act:Act} {E:Int} (hd:act.defers=[]) (h4:act.tmps[4]? = some (ν E)) (hE:Eo M at_ size L=E) (hG:LogP W lg g v d p at_ size (DV M at_ size L)) (hT:Turns (XM v d p) w W) :
    bodyPost prog Tryz.f31 (fun e w'=>∃ x,e=.returned x∧x=ν (Eo M at_ size L)∧LogP w' lg g v d p at_ size (DV M at_ size L)∧Turns (XM v d p) w w') .ret act W:=by
  rw [hE]
  exact bodyPost_ret (AJ rfl h4) hd ⟨_,rfl,rfl,hG,hT⟩
theorem Yf {L:List PtM}:(Ct L).length≤20000:=by
  unfold Ct
  split
  · next h=>
    unfold CX at h
    rw [Bool.and_eq_true,decide_eq_true_iff,List.all_eq_true] at h
    have h1:=Qk L (AB [] L.length 2) (fun p hp=>by have:=h.2 p hp;unfold KJ at this;rw [Bool.and_eq_true,decide_eq_true_iff] at this;exact this.2)
    have h2:(AB [] (L.length:Int) 2).length≤([]:Λ).length+2:=Cg _ _ 2
    have h3:(Lo (DF L)).length≤(DF L).length+4:=Cg _ _ 4
    unfold Rv
    rw [List.length_append,List.length_replicate]
    have h4:(DF L).length≤(AB [] (L.length:Int) 2).length+262*L.length:=h1
    have h5:([]:Λ).length=0:=rfl
    have h6:BD (Lo (DF L)).length≤7:=by unfold BD;omega
    omega
  · exact Nat.zero_le _
theorem VJ {w:World} {lg g v d p at_ size:Nat} {M:MemM} (hg0:LogP w lg g v d p at_ size M) (ha:at_≤1048576) :
    Calls prog 63 #[π lg] w fun e w'=>∃ x,e=.returned x∧LogP w' lg g v d p at_ size (GI M at_ 0)∧Turns (XM v d p) w w':=by
  go_enter func63,ntmps63
  obtain ⟨ac,hac⟩:∃ x:Act,x={ tmps:=#[π lg,undef,undef,undef],defers:=[] }:=⟨_,rfl⟩
  have h0:Kn 4 [(0,π lg)] ac:=⟨by rw [hac];rfl,(by intro x hx;rw [hac];simp only [List.mem_cons,List.not_mem_nil,or_false] at hx;rcases hx with rfl;rfl),by rw [hac]⟩
  rw [← hac]
  clear hac
  iterate 2 go_step
  refine mv h0 rfl fun _ h1=>AO h1 (wn rfl) rfl (by decide) (fr rfl) (fun args=>cF func62 (args:=args) (w:=_)) rfl #[π lg,ν 0] (by simp only [List.map_toArray,List.map_cons,List.map_nil,h1.ev 2 rfl];rfl) (R:=fun xv w'=>LogP w' lg g v d p at_ size (GI M at_ 0)∧Turns (XM v d p) w w') (Nk hg0 0 ω ha) fun a4 v1 w1 r1 h3=>h3.sk [0] rfl fun h5=>?_
  go_step
  exact Hp (results_none rfl _ _ _) h5.defs ⟨_,rfl,r1.1,r1.2⟩
theorem LW {w:World} {lg g v d p at_ size:Nat} {M:MemM} {a:Ω} {c:Nat} {L:List PtM} (hg0:LogP w lg g v d p at_ size M) (hok:LogOk at_ size M) (hrow:Fo w a c L) (okP:IS L) (hl:L.length≤1000000) :
    Calls prog 31 #[π lg,.slice a L.length c] w fun e w'=>∃ x,e=.returned x∧x=ν (Eo M at_ size L)∧LogP w' lg g v d p at_ size (DV M at_ size L)∧Turns (XM v d p) w w':=by
  have HG0:=hid hg0
  have hok2:=hok
  obtain ⟨s1,s2,s3,s4⟩:=hok2
  obtain ⟨eb,heb⟩:∃ x,Ct L=x:=⟨_,rfl⟩
  obtain ⟨ee,hee⟩:∃ x,IL L=x:=⟨_,rfl⟩
  obtain ⟨u,hu⟩:∃ x,(CA M.V at_ size).2=x:=⟨_,rfl⟩
  have hul:u≤size-8:=by rw [← hu];exact YW _ _ _
  have hebl:eb.length≤20000:=by rw [← heb];exact Yf
  have HEB:=hid heb;have HEE:=hid hee;have HU:=hid hu
  clear hg0 heb hee hu
  go_enter func31,ntmps31
  iterate 3 go_step
  refine AU (N:=51) (l:=[(0,π lg),(1,.slice a L.length c)]) ⟨rfl,(by intro x hx;simp only [List.mem_cons,List.not_mem_nil,or_false] at hx;rcases hx with rfl | rfl<;>rfl),rfl⟩ fun a2 h1=>mv h1 rfl fun _ h3=>?_
  iterate 5 go_step
  refine mv h3 rfl fun _ h5=>AO h5 (wn rfl) rfl (by decide) (fr rfl) (fun args=>cF func59 (args:=args) (w:=_)) rfl #[.slice a L.length c] (by simp only [List.map_toArray,List.map_cons,List.map_nil,h5.ev 10 rfl]) (R:=fun xv w'=>∃ ba bc,xv=.tuple #[.slice ba (Ct L).length bc,ν (IL L)]∧Cb w' w.heap.size ba bc (Ct L)∧Below w.heap.size w w') ((Sz hrow okP ω).mono fun e w' q=>by obtain ⟨x,y,q1,q2,q3⟩:=q;exact ⟨_,q1,x,y,rfl,q2,q3⟩) fun a8 v2 w2 r2 h7=>?_
  obtain ⟨ba,bc,rfl,o2,b2⟩:=r2
  rw [HEB.out] at o2 h7;rw [HEE.out] at h7
  have HG2:=hid (HG0.out.mono b2);have HO2:=hid o2;have HT2:Hid (Turns (XM v d p) w w2):=hid (Turns.of_below b2);have HB2:=hid b2;clear o2 b2
  refine mv h7 rfl fun _ h9=>wv h9 rfl rfl rfl rfl (.slice ba eb.length bc) (by unfold execOp;simp only [h9.ev 9 rfl];exact rfl) fun a1 h2=>wv h2 rfl rfl rfl rfl (ν ee) (by unfold execOp;simp only [h2.ev 9 rfl];exact rfl) fun a3 h4=>mv h4 rfl fun _ h6=>mv h6 rfl fun _ h8=>h8.sk [6,5,4,0,1] rfl fun h10=>?_
  iterate 4 go_step
  by_cases he:ee=0
  · have hbad:(ee != 0)=false:=by rw [he];rfl
    iterate 2 go_step
    refine mv h10 rfl fun _ h11=>wv h11 rfl rfl rfl rfl (.bool false) (by unfold execOp;simp only [h11.ev 14 rfl];exact Ad (QJ _ _ _ _ _ hbad)) fun a4 h12=>h12.sk [15,6,5,4,0,1] rfl fun h13=>?_
    iterate 3 go_step
    refine wp_cond (t:=false) (h13.ev 15 rfl) ?_
    simp only [Bool.false_eq_true,if_false]
    refine h13.sk [6,5,4,0,1] rfl fun h14=>?_
    iterate 5 go_step
    refine mv h14 rfl fun _ h15=>AO h15 (wn rfl) rfl (by decide) (fr rfl) (fun args=>cF func60 (args:=args) (w:=_)) rfl #[π lg] (by simp only [List.map_toArray,List.map_cons,List.map_nil,h15.ev 18 rfl]) (R:=fun xv w'=>∃ ra rc rs,xv=.tuple #[.slice ra rs.length rc,ν ((CA M.V at_ size).2:Int)]∧rs.map (·.2.2)=(CA M.V at_ size).1∧RecsP w' w2.heap.size ra rc rs∧Below w2.heap.size w2 w') (Rp HG2.out hok) fun a5 v3 w3 r3 h16=>?_
    obtain ⟨ra,rc,rs,rfl,_,_,b3⟩:=r3
    rw [HU.out] at h16
    have HG3:=hid (HG2.out.mono b3);have HO3:=hid (Own.mono HO2.out b3);have HT3:Hid (Turns (XM v d p) w w3):=hid (HT2.out.trans (Turns.of_below b3));have HB3:=hid (Ae HB2.out b3);clear b3
    refine mv h16 rfl fun _ h17=>wv h17 rfl rfl rfl rfl (.slice ra rs.length rc) (by unfold execOp;simp only [h17.ev 17 rfl];exact rfl) fun a6 h18=>wv h18 rfl rfl rfl rfl (ν (u:Int)) (by unfold execOp;simp only [h18.ev 17 rfl];exact rfl) fun a7 h19=>mv h19 rfl fun _ h20=>mv h20 rfl fun _ h21=>h21.sk [8,6,5,4,0,1] rfl fun h22=>?_
    iterate 4 go_step
    by_cases hf:size-8<u+eb.length
    · have hfull:decide (((size-8-u:Nat):Int)<(eb.length:Int))=true:=decide_eq_true ω
      iterate 2 go_step
      refine mv h22 rfl fun _ h23=>wv h23 rfl rfl rfl rfl (ν (eb.length:Int)) (DQ rfl (h23.ev 22 rfl) _) fun a9 h24=>mv h24 rfl fun _ h25=>wv h25 rfl rfl rfl rfl (π lg) (by unfold execOp;simp only [h25.ev 24 rfl];exact rfl) fun a10 h26=>wv h26 rfl rfl rfl rfl (.pointer (some ⟨lg,2,none⟩)) (by unfold execOp;simp only [h26.ev 25 rfl];exact Ad (Iw (lg) _)) fun a11 h27=>wv h27 rfl rfl rfl rfl (ν (size:Int)) (by unfold execOp;simp only [h27.ev 26 rfl];exact Ad (BP (HG3.out.l.cell (i:=2) (by show 2<3;omega)))) fun a12 h28=>wv h28 rfl rfl rfl rfl (ν ((size-8:Nat):Int)) (by unfold execOp;simp only [h28.ev 27 rfl];exact Ad (Fb _ _ _ _ _ ω ω ω _)) fun a13 h29=>mv h29 rfl fun _ h30=>wv h30 rfl rfl rfl rfl (ν ((size-8-u:Nat):Int)) (by unfold execOp;simp only [h30.ev 28 rfl,h30.ev 29 rfl];exact Ad (Fb _ _ _ _ _ ω ω ω _)) fun a14 h31=>wv h31 rfl rfl rfl rfl (.bool true) (by unfold execOp;simp only [h31.ev 23 rfl,h31.ev 30 rfl];exact Ad (FL _ _ _ _ _ hfull)) fun a15 h32=>?_
      refine h32.sk [31,8,6,5,4,0,1] rfl fun h33=>?_
      iterate 3 go_step
      refine wp_cond (t:=true) (h33.ev 31 rfl) ?_
      simp only [if_true]
      refine h33.sk [8,6,5,4,0,1] rfl fun h34=>?_
      iterate 2 go_step
      refine h34.sk [8,6,5,0,1] rfl fun h35=>mv h35 rfl fun _ h36=>?_
      iterate 4 go_step
      simp only [Exit.then,Exit.inBlock]
      exact Afc h36.defs (h36.known (4,ν 5) (by simp)) (by unfold Eo;rw [HEE.out,if_pos he,HU.out,HEB.out,if_pos hf]) (by have z:=HG3.out;unfold DV;rw [HU.out,HEB.out,if_neg (fun q=>q.2 hf)];exact z) HT3.out
    · have hfull:decide (((size-8-u:Nat):Int)<(eb.length:Int))=false:=decide_eq_false ω
      have hp64b:okI (⟨((at_+8+u:Nat):Int),eb⟩:PtM).at_:=by unfold okI;show _≤((at_+8+u:Nat):Int)∧((at_+8+u:Nat):Int)≤_;omega
      have hpdb:(⟨((at_+8+u:Nat):Int),eb⟩:PtM).d.length≤1000000:=by show eb.length≤_;omega
      iterate 2 go_step
      refine mv h22 rfl fun _ h37=>wv h37 rfl rfl rfl rfl (ν (eb.length:Int)) (DQ rfl (h37.ev 22 rfl) _) fun a16 h38=>mv h38 rfl fun _ h39=>wv h39 rfl rfl rfl rfl (π lg) (by unfold execOp;simp only [h39.ev 24 rfl];exact rfl) fun a17 h40=>wv h40 rfl rfl rfl rfl (.pointer (some ⟨lg,2,none⟩)) (by unfold execOp;simp only [h40.ev 25 rfl];exact Ad (Iw (lg) _)) fun a18 h41=>wv h41 rfl rfl rfl rfl (ν (size:Int)) (by unfold execOp;simp only [h41.ev 26 rfl];exact Ad (BP (HG3.out.l.cell (i:=2) (by show 2<3;omega)))) fun a19 h42=>wv h42 rfl rfl rfl rfl (ν ((size-8:Nat):Int)) (by unfold execOp;simp only [h42.ev 27 rfl];exact Ad (Fb _ _ _ _ _ ω ω ω _)) fun a20 h43=>mv h43 rfl fun _ h44=>wv h44 rfl rfl rfl rfl (ν ((size-8-u:Nat):Int)) (by unfold execOp;simp only [h44.ev 28 rfl,h44.ev 29 rfl];exact Ad (Fb _ _ _ _ _ ω ω ω _)) fun a21 h45=>wv h45 rfl rfl rfl rfl (.bool false) (by unfold execOp;simp only [h45.ev 23 rfl,h45.ev 30 rfl];exact Ad (FL _ _ _ _ _ hfull)) fun a22 h46=>?_
      refine h46.sk [31,8,6,5,4,0,1] rfl fun h47=>?_
      iterate 3 go_step
      refine wp_cond (t:=false) (h47.ev 31 rfl) ?_
      simp only [Bool.false_eq_true,if_false]
      refine h47.sk [8,6,5,4,0,1] rfl fun h48=>?_
      iterate 4 go_step
      have HG4:=hid (HG3.out.mono (Below.refl _ _).drew);have HT4:Hid (Turns (XM v d p) w w3.drew):=hid HT3.out.drew;have hst:=GX (Own.mono HO3.out (Below.refl _ _).drew).row
      refine wp_region_held_drew (S:=fun w'=>Blk w' lg 101 (NP g at_ size)∧True) κ ⟨HG4.out.l,trivial⟩ (fun hS4=>?_)
      refine Aj hS4 h48 0 rfl rfl (by decide) (fr rfl) κ κ κ (fun _ _ _ _ h=>h) (π lg) (Or.inl ⟨Eq.refl true,fun w1 hSw=>(by show (execOp _ (⟨_,.move (.tmp 0),_,_,_,_⟩:Oper)).run _ _=_;exact (by unfold execOp;simp only [h48.ev 0 rfl];exact rfl))⟩) fun a23 h49=>Aj hS4 h49 1 rfl rfl (by decide) (fr rfl) κ κ κ (fun _ _ _ _ h=>h) (π lg) (Or.inl ⟨Eq.refl true,fun w1 hSw=>(by show (execOp _ (⟨_,.move (.tmp 0),_,_,_,_⟩:Oper)).run _ _=_;exact (by unfold execOp;simp only [h49.ev 0 rfl];exact rfl))⟩) fun a24 h50=>Aj hS4 h50 2 rfl rfl (by decide) (fr rfl) κ κ κ (fun _ _ _ _ h=>h) (π lg) (Or.inl ⟨Eq.refl true,fun w1 hSw=>(by show (execOp _ (⟨_,.nilCheck (.tmp 33),_,_,_,_⟩:Oper)).run _ _=_;exact (by unfold execOp;simp only [h50.ev 33 rfl];exact rfl))⟩) fun a25 h51=>Aj hS4 h51 3 rfl rfl (by decide) (fr rfl) κ κ κ (fun _ _ _ _ h=>h) (.pointer (some ⟨lg,1,none⟩)) (Or.inl ⟨Eq.refl true,fun w1 hSw=>(by show (execOp _ (⟨_,.fieldAddr 101 (.tmp 34) 1,_,_,_,_⟩:Oper)).run _ _=_;exact (by unfold execOp;simp only [h51.ev 34 rfl];exact Ad (Iv (lg) _)))⟩) fun a26 h52=>Aj hS4 h52 4 rfl rfl (by decide) (fr rfl) κ κ κ (fun _ _ _ _ h=>h) (ν (at_:Int)) (Or.inl ⟨Eq.refl true,fun w1 hSw=>(by show (execOp _ (⟨_,.load 3 (.tmp 35),_,_,_,_⟩:Oper)).run _ _=_;exact (by unfold execOp;simp only [h52.ev 35 rfl];exact Ad (BP (hSw.1.cell (i:=1) (by show 1<3;omega)))))⟩) fun a27 h53=>Aj hS4 h53 5 rfl rfl (by decide) (fr rfl) κ κ κ (fun _ _ _ _ h=>h) (ν ((at_+8:Nat):Int)) (Or.inl ⟨Eq.refl true,fun w1 hSw=>(by show (execOp _ (⟨_,.binOp .add 3 (.tmp 36) (.const (ν 8)) 3,_,_,_,_⟩:Oper)).run _ _=_;exact (by unfold execOp;simp only [h53.ev 36 rfl];exact Ad (NU _ _ _ _ _ ω ω ω _)))⟩) fun a28 h54=>Aj hS4 h54 6 rfl rfl (by decide) (fr rfl) κ κ κ (fun _ _ _ _ h=>h) (ν (u:Int)) (Or.inl ⟨Eq.refl true,fun w1 hSw=>(by show (execOp _ (⟨_,.move (.tmp 8),_,_,_,_⟩:Oper)).run _ _=_;exact (by unfold execOp;simp only [h54.ev 8 rfl];exact rfl))⟩) fun a29 h55=>Aj hS4 h55 7 rfl rfl (by decide) (fr rfl) κ κ κ (fun _ _ _ _ h=>h) (ν ((at_+8+u:Nat):Int)) (Or.inl ⟨Eq.refl true,fun w1 hSw=>(by show (execOp _ (⟨_,.binOp .add 3 (.tmp 37) (.tmp 38) 3,_,_,_,_⟩:Oper)).run _ _=_;exact (by unfold execOp;simp only [h55.ev 37 rfl,h55.ev 38 rfl];exact Ad (NU _ _ _ _ _ ω ω ω _)))⟩) fun a30 h56=>Aj hS4 h56 8 rfl rfl (by decide) (fr rfl) κ κ κ (fun _ _ _ _ h=>h) (.slice ba eb.length bc) (Or.inl ⟨Eq.refl true,fun w1 hSw=>(by show (execOp _ (⟨_,.move (.tmp 5),_,_,_,_⟩:Oper)).run _ _=_;exact (by unfold execOp;simp only [h56.ev 5 rfl];exact rfl))⟩) fun a31 h57=>AD 9 rfl rfl κ fun K hK=>Dt (w':=w3.drew) h57 rfl (by decide) (fr rfl) (Ap eb) (by show (execOp _ (⟨_,.convert 74 9 (.tmp 40),_,_,_,_⟩:Oper)).run _ _=_;exact (by unfold execOp;simp only [h57.ev 40 rfl];exact Ad hst)) fun a32 h58=>hK _ _ (hS4) fun hS5=>?_
      clear hK K
      refine Aj hS5 h58 10 rfl rfl (by decide) (fr rfl) κ κ κ (fun _ _ _ _ h=>h) (ptV ⟨((at_+8+u:Nat):Int),eb⟩) (Or.inl ⟨Eq.refl true,fun w1 hSw=>(by show (execOp _ (⟨_,.build 127 #[(0,(.tmp 39)),(1,(.tmp 41))],_,_,_,_⟩:Oper)).run _ _=_;exact (by unfold execOp;simp only [List.map_toArray,List.map_cons,List.map_nil,h58.ev 39 rfl,h58.ev 41 rfl];exact Ad (Jy _ _ _)))⟩) fun a33 h59=>?_
      obtain ⟨wsb,hwsb⟩:∃ x,x=w3.drew.alloc (.cells (ptC ⟨((at_+8+u:Nat):Int),eb⟩).toArray 127):=⟨_,rfl⟩
      have bsb:Below w3.drew.heap.size w3.drew wsb:=by rw [hwsb];exact Cq _ _
      have rsb:Fo wsb (some ⟨w3.drew.heap.size,0,none⟩) 1 [⟨((at_+8+u:Nat):Int),eb⟩]:=by rw [hwsb];exact PL _ _
      refine AD 11 rfl rfl κ fun K hK=>Dt (w':=wsb) h59 rfl (by decide) (fr rfl) (.slice (some ⟨w3.drew.heap.size,0,none⟩) ([⟨((at_+8+u:Nat):Int),eb⟩]:List PtM).length 1) (by show (execOp _ (⟨_,.buildSlice 68 1 #[(0,(.tmp 42))],_,_,_,_⟩:Oper)).run _ _=_;exact (by unfold execOp;simp only [List.map_toArray,List.map_cons,List.map_nil,h59.ev 42 rfl];rw [hwsb];exact Ad (Hq _ _))) fun a34 h60=>hK _ _ (⟨hS5.1.mono bsb,trivial⟩) fun hSsb=>?_
      clear hK K
      have HGsb:=hid (HG4.out.mono bsb);have HTsb:Hid (Turns (XM v d p) w wsb):=hid (HT4.out.trans (Turns.of_below bsb));have hnwb:=HG4.out.lt;have HRsb:=hid rsb;clear hwsb rsb bsb
      refine AD 12 rfl rfl κ fun K hK=>DD h60 rfl (by decide) (fr rfl) (fun args=>cF func61 (args:=args) (w:=_)) rfl #[π lg,.slice (some ⟨w3.drew.heap.size,0,none⟩) ([⟨((at_+8+u:Nat):Int),eb⟩]:List PtM).length 1] (by simp only [List.map_toArray,List.map_cons,List.map_nil,h60.ev 32 rfl,h60.ev 43 rfl]) (R:=fun xv w'=>LogP w' lg g v d p at_ size (Dj M [⟨((at_+8+u:Nat):Int),eb⟩])∧Turns (XM v d p) wsb w') ((GQ HGsb.out (fun W t=>t.row HRsb.out (fun _ b hb=>by obtain ⟨off,e⟩:=hb;cases e;rintro (e | e | e)<;>omega)) (by intro q hq;rw [List.mem_singleton.1 hq];exact hp64b) (by intro q hq;rw [List.mem_singleton.1 hq];exact hpdb) (by show (1:Nat)≤_;omega)).mono fun e w' q=>by obtain ⟨x,q1,q2,q3⟩:=q;exact ⟨x,q1,q2,q3⟩) fun a35 vwb wwb rwb h61=>hK _ _ (⟨rwb.1.l,trivial⟩) fun hSwb=>?_
      clear hK K
      have HGwb:=hid rwb.1;have HTwb:Hid (Turns (XM v d p) w wwb):=hid (HTsb.out.trans rwb.2);clear rwb
      refine wpAnyH_done κ ?_ _
      refine h61.sk [8,6,5,4,0,1] rfl fun h62=>?_
      iterate 4 go_step
      refine mv h62 rfl fun _ h63=>mv h63 rfl fun _ h64=>mv h64 rfl fun _ h65=>wv h65 rfl rfl rfl rfl (ν (eb.length:Int)) (DQ rfl (h65.ev 47 rfl) _) fun a36 h66=>wv h66 rfl rfl rfl rfl (ν ((u+eb.length:Nat):Int)) (by unfold execOp;simp only [h66.ev 46 rfl,h66.ev 48 rfl];exact Ad (NU _ _ _ _ _ ω ω ω _)) fun a37 h67=>AO h67 (wn rfl) rfl (by decide) (fr rfl) (fun args=>cF func62 (args:=args) (w:=_)) rfl #[π lg,ν ((u+eb.length:Nat):Int)] (by simp only [List.map_toArray,List.map_cons,List.map_nil,h67.ev 45 rfl,h67.ev 49 rfl]) (R:=fun xv w'=>LogP w' lg g v d p at_ size (GI (Dj M [⟨((at_+8+u:Nat):Int),eb⟩]) at_ ((u+eb.length:Nat):Int))∧Turns (XM v d p) wwb w') ((Nk HGwb.out ((u+eb.length:Nat):Int) ω ω)) fun a38 v9 w9 r9 h68=>h68.sk [8,6,5,4,0,1] rfl fun h69=>?_
      iterate 5 go_step
      refine h69.sk [8,6,5,0,1] rfl fun h70=>mv h70 rfl fun _ h71=>?_
      iterate 4 go_step
      exact Afc h71.defs (h71.known (4,ν 0) (by simp)) (by unfold Eo;rw [HEE.out,if_pos he,HU.out,HEB.out,if_neg hf]) (by unfold DV;rw [HEE.out,HU.out,HEB.out,if_pos ⟨he,hf⟩];exact r9.1) (HTwb.out.trans r9.2)
  · have hbad:(ee != 0)=true:=by simp [bne,he]
    iterate 2 go_step
    refine mv h10 rfl fun _ h72=>wv h72 rfl rfl rfl rfl (.bool true) (by unfold execOp;simp only [h72.ev 14 rfl];exact Ad (QJ _ _ _ _ _ hbad)) fun a39 h73=>h73.sk [15,6,5,4,0,1] rfl fun h74=>?_
    iterate 3 go_step
    refine wp_cond (t:=true) (h74.ev 15 rfl) ?_
    simp only [if_true]
    refine h74.sk [6,5,4,0,1] rfl fun h75=>?_
    iterate 2 go_step
    refine mv h75 rfl fun _ h76=>h76.sk [16,6,5,0,1] rfl fun h77=>mv h77 rfl fun _ h78=>h78.sk [4,6,5,0,1] rfl fun h79=>?_
    iterate 4 go_step
    simp only [Exit.then,Exit.inBlock]
    exact Afc h79.defs (h79.known (4,ν ee) (by simp)) (by unfold Eo;rw [HEE.out,if_neg he]) (by have z:=HG2.out;unfold DV;rw [HEE.out,if_neg (fun q=>he q.1)];exact z) HT2.out
theorem ZF {w:World} {lg g v d p at_ size:Nat} {M:MemM} (hg0:LogP w lg g v d p at_ size M) (hok:LogOk at_ size M) :
    Calls prog 32 #[π lg] w fun e w'=>∃ x,e=.returned x∧x=ν ((CA M.V at_ size).1.length:Int)∧LogP w' lg g v d p at_ size (Fw M at_ size)∧Turns (XM v d p) w w':=by
  have HG0:=hid hg0
  have hok2:=hok
  obtain ⟨s1,s2,s3,s4⟩:=hok2
  clear hg0
  go_enter func32,ntmps32
  iterate 3 go_step
  refine AU (N:=30) (l:=[(0,π lg)]) ⟨rfl,(by intro x hx;simp only [List.mem_cons,List.not_mem_nil,or_false] at hx;rcases hx with rfl<;>rfl),rfl⟩ fun a2 h1=>mv h1 rfl fun _ h3=>?_
  iterate 5 go_step
  refine mv h3 rfl fun _ h5=>AO h5 (wn rfl) rfl (by decide) (fr rfl) (fun args=>cF func60 (args:=args) (w:=_)) rfl #[π lg] (by simp only [List.map_toArray,List.map_cons,List.map_nil,h5.ev 9 rfl]) (R:=fun xv w'=>∃ ra rc rs,xv=.tuple #[.slice ra rs.length rc,ν ((CA M.V at_ size).2:Int)]∧rs.map (·.2.2)=(CA M.V at_ size).1∧RecsP w' w.heap.size ra rc rs∧Below w.heap.size w w') (Rp HG0.out hok) fun a8 v3 w3 r3 h7=>?_
  obtain ⟨ra,rc,rs,rfl,hrs,hrec,b3⟩:=r3
  obtain ⟨u,hu⟩:∃ u,u=(CA M.V at_ size).2:=⟨_,rfl⟩
  rw [← hu] at h7
  have HG3:=hid (HG0.out.mono b3);have HT3:Hid (Turns (XM v d p) w w3):=hid (Turns.of_below b3);have HRC:=hid hrec;have HRS:=hid hrs;have HB3:=hid b3;clear b3 hrec hrs hu
  have hnr:8*rs.length≤65536:=by have z:=congrArg List.length HRS.out;rw [List.length_map] at z;rw [z];exact Nat.le_trans (Aen _ _ _) ω
  have hpts:=fun r (hr:r∈rs)=>Abv (V:=M.V) (at_:=at_) (size:=size) (by rw [← HRS.out];exact List.mem_map.2 ⟨r,hr,rfl⟩)
  refine mv h7 rfl fun _ h9=>wv h9 rfl rfl rfl rfl (.slice ra rs.length rc) (by unfold execOp;simp only [h9.ev 8 rfl];exact rfl) fun a1 h2=>wv h2 rfl rfl rfl rfl (ν (u:Int)) (by unfold execOp;simp only [h2.ev 8 rfl];exact rfl) fun a3 h4=>mv h4 rfl fun _ h6=>mv h6 rfl fun _ h8=>h8.sk [3,2,0] rfl fun h10=>?_
  iterate 5 go_step
  refine mv h10 rfl fun _ h11=>?_
  iterate 6 go_step
  refine mv h11 rfl fun _ h12=>wv h12 rfl rfl rfl rfl (ν (rs.length:Int)) (OF rfl (h12.ev 13 rfl) _) fun a4 h13=>mv h13 rfl fun _ h14=>?_
  iterate 4 go_step
  refine h14.sk [5,15,14,13,3,2,0] rfl fun h15=>?_
  refine wp_loop (I:=fun a' w'=>∃ (j:Nat) (al:List PtM) (aa:Ω) (ac:Nat),j≤rs.length∧Kn 30 [(5,.slice aa al.length ac),(15,ν (j:Int)),(14,ν (rs.length:Int)),(13,.slice ra rs.length rc),(3,.slice ra rs.length rc),(2,ν 0),(0,π lg)] a'∧al=(rs.take j).flatMap (·.2.2)∧BG w' w3.heap.size aa ac al∧Below w3.heap.size w3 w'∧al.length≤64*j) (μ:=fun a' _=>rs.length-(intOf (a'.eval (.tmp 15))).toNat) ⟨0,[],none,0,Nat.zero_le _,h15,rfl,Own.nil _ _ _ _,Below.refl _ _,Nat.le_refl _⟩ ?_
  clear h15
  rintro aL wL ⟨j,al,aa,ac,hj,hK,hal,hA,hBL,hln⟩
  have HA:=hid hA;have HBL:=hid hBL;have HAL:=hid hal;clear hA hBL hal
  by_cases hlt:j<rs.length
  · have hd0:decide ((j:Int)<(rs.length:Int))=true:=decide_eq_true ω
    obtain ⟨q,hq⟩:∃ q,q=rs[j]:=⟨_,rfl⟩
    have hqm:q∈rs:=by rw [hq];exact List.getElem_mem hlt
    obtain ⟨pb,poff,ha0,_,hcc⟩:=(HRC.out.o.row.below HBL.out).at ω
    have hcell:=hcc j (ZE q) (by rw [List.getElem?_map,List.getElem?_eq_getElem hlt,← hq];rfl)
    unfold ZE at hcell
    have hrq:=(HRC.out.i q hqm).row.below HBL.out
    have hqn:=(hpts q hqm).2.2
    have HQ:=hid hq;clear hq hcc
    iterate 3 go_step
    refine wv hK rfl rfl rfl rfl (.bool true) (by unfold execOp;simp only [hK.ev 15 rfl,hK.ev 14 rfl];exact Ad (IN _ _ _ _ _ hd0)) fun a5 h16=>?_
    iterate 4 go_step
    refine wp_cond (t:=true) (h16.ev 16 rfl) ?_
    simp only [if_true]
    refine h16.sk [5,15,14,13,3,2,0] rfl fun h17=>?_
    iterate 7 go_step
    refine wv h17 rfl rfl rfl rfl (.pointer (some ⟨pb,poff+j,none⟩)) (by unfold execOp;simp only [h17.ev 13 rfl,h17.ev 15 rfl];exact Ad (by rw [ha0];exact Aic pb poff _ rc j hlt _)) fun a6 h18=>wv h18 rfl rfl rfl rfl (.slice q.1 q.2.2.length q.2.1) (by unfold execOp;simp only [h18.ev 17 rfl];exact Ad (Aem hcell)) fun a7 h19=>mv h19 rfl fun _ h20=>h20.sk [7,5,15,14,13,3,2,0] rfl fun h21=>?_
    iterate 4 go_step
    refine mv h21 rfl fun _ h22=>mv h22 rfl fun _ h23=>CD rfl (.tmp 19) (.tmp 20) rfl EPt w3.heap.size (h23.ev 19 rfl) (h23.ev 20 rfl) HA.out hrq (Ka _) ω ω HBL.out.size ?_
    intro aa2 ac2 w7 o7 g7 b7
    refine AU (h23.put (d:=21) (by decide) (fr rfl) (.slice aa2 (al.length+q.2.2.length) ac2)) fun a9 h24=>?_
    have HA7:Hid (BG w7 w3.heap.size aa2 ac2 (al++q.2.2)):=hid (by unfold BG;rw [List.length_append,List.flatMap_append];exact o7);have HBL7:=hid (HBL.out.trans b7);clear o7 g7 b7
    refine h24.sk [21,20,19,7,15,14,13,3,2,0] rfl fun h25=>mv h25 rfl fun _ h26=>h26.sk [5,7,15,14,13,3,2,0] rfl fun h27=>?_
    iterate 4 go_step
    refine wv h27 rfl rfl rfl rfl (ν ((j+1:Nat):Int)) (by unfold execOp;simp only [h27.ev 15 rfl];exact Ad (LU _ _ j ω _)) fun a10 h28=>h28.sk [22,5,7,14,13,3,2,0] rfl fun h29=>mv h29 rfl fun _ h30=>h30.sk [15,5,7,14,13,3,2,0] rfl fun h31=>?_
    iterate 2 go_step
    refine ⟨⟨j+1,al++q.2.2,aa2,ac2,ω,?_,?_,HA7.out,HBL7.out,by rw [List.length_append];omega⟩,?_⟩
    · rw [List.length_append];exact h31.subs rfl
    · rw [List.take_add_one,List.getElem?_eq_getElem hlt,Option.toList_some,List.flatMap_append,← HAL.out,← HQ.out];simp
    · rw [h31.ev 15 rfl,hK.ev 15 rfl];simp [intOf];omega
  · have hd0:decide ((j:Int)<(rs.length:Int))=false:=decide_eq_false ω
    obtain rfl:j=rs.length:=ω
    rw [List.take_length] at HAL
    have HGL:=hid (HG3.out.mono HBL.out);have hXlt:∀ k,XM v d p k→k<w3.heap.size:=by have z:=HG3.out.lt;rintro k (e | e | e)<;>omega
    have hP64:IS al:=by intro x hx;rw [HAL.out] at hx;obtain ⟨r,hr,hx⟩:=List.mem_flatMap.1 hx;exact (hpts r hr).1 x hx
    have hPd:∀ x∈al,x.d.length≤1000000:=by intro x hx;rw [HAL.out] at hx;obtain ⟨r,hr,hx⟩:=List.mem_flatMap.1 hx;exact (hpts r hr).2.1 x hx
    iterate 3 go_step
    refine wv hK rfl rfl rfl rfl (.bool false) (by unfold execOp;simp only [hK.ev 15 rfl,hK.ev 14 rfl];exact Ad (IN _ _ _ _ _ hd0)) fun a11 h32=>?_
    iterate 4 go_step
    refine wp_cond (t:=false) (h32.ev 16 rfl) ?_
    simp only [Bool.false_eq_true,if_false]
    refine h32.sk [5,15,14,13,3,2,0] rfl fun h33=>?_
    iterate 7 go_step
    refine mv h33 rfl fun _ h34=>mv h34 rfl fun _ h35=>AO h35 (wn rfl) rfl (by decide) (fr rfl) (fun args=>cF func61 (args:=args) (w:=_)) rfl #[π lg,.slice aa al.length ac] (by simp only [List.map_toArray,List.map_cons,List.map_nil,h35.ev 23 rfl,h35.ev 24 rfl]) (R:=fun xv w'=>LogP w' lg g v d p at_ size (Dj M al)∧Turns (XM v d p) wL w') ((GQ HGL.out (fun W t=>(t.own HA.out (fun k hk=>hXlt k hk)).row) hP64 hPd ω).mono fun e w' q=>by obtain ⟨x,q1,q2,q3⟩:=q;exact ⟨x,q1,q2,q3⟩) fun a12 v8 w8 r8 h36=>h36.sk [5,15,14,13,3,2,0] rfl fun h37=>?_
    iterate 5 go_step
    refine mv h37 rfl fun _ h38=>AO h38 (wn rfl) rfl (by decide) (fr rfl) (fun args=>cF func63 (args:=args) (w:=_)) rfl #[π lg] (by simp only [List.map_toArray,List.map_cons,List.map_nil,h38.ev 26 rfl]) (R:=fun xv w'=>LogP w' lg g v d p at_ size (GI (Dj M al) at_ 0)∧Turns (XM v d p) w8 w') (VJ r8.1 ω) fun a13 v9 w9 r9 h39=>h39.sk [5,15,14,13,3,2,0] rfl fun h40=>?_
    iterate 5 go_step
    refine mv h40 rfl fun _ h41=>wv h41 rfl rfl rfl rfl (ν (rs.length:Int)) (OF rfl (h41.ev 28 rfl) _) fun a14 h42=>h42.sk [29,28,5,15,14,13,3,0] rfl fun h43=>mv h43 rfl fun _ h44=>h44.sk [2,5,15,14,13,3,0] rfl fun h45=>?_
    iterate 4 go_step
    have hfl:al=(CA M.V at_ size).1.flatten:=by rw [HAL.out,← HRS.out,List.flatMap_def]
    have hln2:rs.length=(CA M.V at_ size).1.length:=by rw [← HRS.out,List.length_map]
    refine bodyPost_ret (AJ rfl (h45.known (2,ν (rs.length:Int)) (by simp))) h45.defs ?_
    exact ⟨_,rfl,by rw [hln2],by show LogP _ _ _ _ _ _ _ _ (GI (Dj M (CA M.V at_ size).1.flatten) at_ 0);rw [← hfl];exact r9.1,((HT3.out.trans (Turns.of_below HBL.out)).trans r8.2).trans r9.2⟩
end
section
def Chain (b:Λ):Nat→List (List PtM)→Nat→Prop
  | u,[],u'=>u'=u
  | u,L::rs,u'=>∃ n:Nat,Cj (b.drop u)=(L,(n:Int),0)∧Chain b (u+n) rs u'
theorem Chain.le {b:Λ} {u:Nat} {rs:List (List PtM)} {u':Nat} (h:Chain b u rs u') (hu:u≤b.length):u≤u'∧u'≤b.length:=by
  induction rs generalizing u with
  | nil=>cases h;exact ⟨Nat.le_refl _,hu⟩
  | cons L rs ih=>
    obtain ⟨n,h1,h2⟩:=h
    obtain ⟨m,e,h3,h4⟩:=Mh (xs:=b.drop u) (by rw [h1])
    rw [h1] at e
    change (n:Int)=m at e
    rw [List.length_drop] at h4
    have:=ih h2 ω
    omega
theorem Chain.snoc {b:Λ} {u u' n:Nat} {rs:List (List PtM)} {L:List PtM} (h:Chain b u rs u') (hd:Cj (b.drop u')=(L,(n:Int),0)):Chain b u (rs++[L]) (u'+n):=by
  induction rs generalizing u with
  | nil=>cases h;exact ⟨n,hd,rfl⟩
  | cons K rs ih=>
    obtain ⟨m,h1,h2⟩:=h
    exact ⟨m,h1,ih h2⟩
theorem Ya {xs:Λ} {L:List PtM} {n:Nat} (h:Cj xs=(L,(n:Int),0)):n % 8=0:=by
  rw [Is] at h
  unfold JB at h
  split at h
  · cases h
  · split at h
    · cases h
    · next k _ _=>
      cases hg:Fs xs k 2 [] with
      | inl e=>
        rw [hg] at h
        change (([]:List PtM),(0:Int),e)=_ at h
        have:(0:Int)=n:=congrArg (fun x=>x.2.1) h
        omega
      | inr r=>
        rw [hg] at h
        change Ht xs r.1 r.2=_ at h
        unfold Ht at h
        split at h
        · cases h
        · split at h
          · cases h
          · split at h
            · cases h
            · split at h
              · have:((r.2+4+BD (r.2+4):Nat):Int)=(n:Int):=congrArg (fun x=>x.2.1) h
                have h2:r.2+4+BD (r.2+4)=n:=ω
                rw [← h2];unfold BD;omega
              · cases h
theorem Chain.mod {b:Λ} {u:Nat} {rs:List (List PtM)} {u':Nat} (h:Chain b u rs u') (hu:u % 8=0):u' % 8=0:=by
  induction rs generalizing u with
  | nil=>cases h;exact hu
  | cons L rs ih=>
    obtain ⟨n,h1,h2⟩:=h
    have:=Ya h1
    exact ih h2 ω
theorem Chain.local {b c:Λ} {u:Nat} {rs:List (List PtM)} {u':Nat} (h:Chain b u rs u') (hu:u≤b.length) (e:b.take u'=c.take u') (hc:u'≤c.length):Chain c u rs u':=by
  induction rs generalizing u with
  | nil=>exact h
  | cons L rs ih=>
    obtain ⟨n,h1,h2⟩:=h
    obtain ⟨m,em,h3,h4⟩:=Mh (xs:=b.drop u) (by rw [h1])
    rw [h1] at em
    change (n:Int)=m at em
    rw [List.length_drop] at h4
    have hl:=h2.le ω
    have e2:(b.drop u).take n=(c.drop u).take n:=by
      have:∀ zs:Λ,(zs.drop u).take n=((zs.take u').drop u).take n:=fun zs=>by rw [List.drop_take,List.take_take,Nat.min_eq_left ω]
      rw [this b,this c,e]
    refine ⟨n,?_,ih h2 ω⟩
    rw [Is] at h1 ⊢
    exact Sw h1 e2 (by rw [List.length_drop];omega) (by rw [List.length_drop];omega)
theorem Rn (b:Λ) (k u:Nat) (acc:List (List PtM)) (hu:u≤b.length) (hk:b.length<u+8*k):∃ rs u',Hg b k u acc=(acc++rs,u')∧Chain b u rs u'∧(Cj (b.drop u')).2.2≠0:=by
  induction k generalizing u acc with
  | zero=>omega
  | succ k ih=>
    unfold Hg
    by_cases h:(Cj (b.drop u)).2.2=0
    · rw [if_pos h]
      obtain ⟨n,hn,h1,h2⟩:=Mh h
      rw [List.length_drop] at h2
      rw [hn,Int.toNat_natCast]
      obtain ⟨rs,u',e,hc,hs⟩:=ih (u+n) (acc++[(Cj (b.drop u)).1]) ω ω
      refine ⟨(Cj (b.drop u)).1::rs,u',by rw [e,List.append_assoc];rfl,⟨n,?_,hc⟩,hs⟩
      rw [← hn,← h]
    · rw [if_neg h]
      exact ⟨[],u,by rw [List.append_nil],rfl,h⟩
theorem Ig (b:Λ):Chain b 0 (EN b).1 (EN b).2∧(Cj (b.drop (EN b).2)).2.2≠0:=by
  obtain ⟨rs,u',e,h⟩:=Rn b (b.length+1) 0 [] (Nat.zero_le _) ω
  rw [List.nil_append] at e
  unfold EN
  rw [e]
  exact h
theorem Chain.det {b:Λ} {u:Nat} {rs rs':List (List PtM)} {v v':Nat} (h:Chain b u rs v) (h':Chain b u rs' v') (s:(Cj (b.drop v)).2.2≠0) (s':(Cj (b.drop v')).2.2≠0):rs=rs'∧v=v':=by
  induction rs generalizing u rs' with
  | nil=>
    cases h
    cases rs' with
    | nil=>cases h';exact ⟨rfl,rfl⟩
    | cons L rs'=>obtain ⟨n,h1,_⟩:=h';exact absurd (by rw [h1]) s
  | cons L rs ih=>
    obtain ⟨n,h1,h2⟩:=h
    cases rs' with
    | nil=>cases h';exact absurd (by rw [h1]) s'
    | cons L' rs'=>
      obtain ⟨n',h1',h2'⟩:=h'
      rw [h1] at h1'
      have e1:L=L':=congrArg (fun x=>x.1) h1'
      have e2:(n:Int)=n':=congrArg (fun x=>x.2.1) h1'
      have e3:n=n':=ω
      subst e1 e3
      obtain ⟨q1,q2⟩:=ih h2 h2'
      exact ⟨by rw [q1],q2⟩
theorem Rm {b:Λ} {rs:List (List PtM)} {u:Nat} (h:Chain b 0 rs u) (s:(Cj (b.drop u)).2.2≠0):EN b=(rs,u):=by
  obtain ⟨h1,s1⟩:=Ig b
  obtain ⟨q1,q2⟩:=h1.det h s1 s
  exact Prod.ext q1 q2
theorem Qh:Cj []=([],0,3):=by
  rw [Is]
  have g:AW ([]:Λ) 0 2=none:=Fj (a:=0) (k:=2) (by show 0<0+2;omega)
  unfold JB
  rw [g]
theorem WS (b:Λ) {L:List PtM} (h:CX L=true):EN (b.take (EN b).2++Ct L)=((EN b).1++[L],(EN b).2+(Ct L).length):=by
  obtain ⟨hc,_⟩:=Ig b
  have hl:=(hc.le (Nat.zero_le _)).2
  have hlt:(b.take (EN b).2).length=(EN b).2:=by rw [List.length_take];omega
  refine Rm (Chain.snoc (hc.local (Nat.zero_le _) ?_ ?_) ?_) ?_
  · rw [List.take_left' hlt]
  · rw [List.length_append];omega
  · rw [List.drop_left' hlt]
    have:=XZ h []
    rwa [List.append_nil] at this
  · rw [List.drop_eq_nil_of_le (by rw [List.length_append];omega),Qh]
    show (3:Int)≠0
    omega
theorem OB:EN []=([],0):=Rm rfl (by rw [List.drop_nil,Qh];show (3:Int)≠0;omega)
def stV (V:Λ) (p:PtM):Λ:=if 0≤p.at_∧p.at_+p.d.length≤V.length then splice V p.at_.toNat p.d else V
theorem UP (M:MemM) (a:Int) (n:Nat):inM M a (n:Int)=true↔0≤a∧a+n≤M.V.length:=by
  unfold inM
  rw [decide_eq_true_iff]
  omega
theorem Ac5 (M:MemM) (p:PtM):(IT M p).V=stV M.V p:=by
  unfold IT stV
  by_cases h:inM M p.at_ p.d.length=true
  · have h2:=(UP _ _ _).1 h
    rw [if_pos h,if_pos h2]
    unfold Mu GY
    rw [if_pos h]
    split<;>rfl
  · have h2:=fun q=>h ((UP _ _ _).2 q)
    rw [if_neg h,if_neg h2]
theorem Db (V:Λ) (p:PtM):(stV V p).length=V.length:=by
  unfold stV;split
  · exact length_splice _ _ _ ω
  · rfl
theorem Abm (L:List PtM) (M:MemM):(L.foldl IT M).V=L.foldl stV M.V:=by
  induction L generalizing M with
  | nil=>rfl
  | cons p L ih=>rw [List.foldl_cons,List.foldl_cons,ih,Ac5]
theorem FG (M:MemM) (L:List PtM):(Dj M L).V=L.foldl stV M.V:=Abm L M
theorem KC (L:List PtM) (V:Λ):(L.foldl stV V).length=V.length:=by
  induction L generalizing V with
  | nil=>rfl
  | cons p L ih=>rw [List.foldl_cons,ih,Db]
theorem FH (M:MemM) (L:List PtM):(Dj M L).V.length=M.V.length:=by rw [FG,KC]
def Ai3 (M:MemM):Prop:=∀ k,k<M.A.length→Ec M.V M.D k=true→M.A.getD k false=true
theorem Ag4 (n:Nat):AB [] (n:Int) 8=le 8 n:=by
  have f:BC (n:Int) 8=true:=by unfold BC;simp
  exact (if_pos f).trans (List.nil_append _)
theorem UI {V:Λ} {at_ size n:Nat} (h:(V.drop at_).take 8=le 8 n) (hn:n≤size-8) (hs:size≤65536):Hm V at_ size=n:=by
  have g:AW (le 8 n) 0 8=some n:=by
    unfold AW
    rw [if_pos ⟨rfl,ω,by rw [Az];omega⟩]
    show (if BV (((le 8 n).drop 0).take 8)≤_ then some (BV (((le 8 n).drop 0).take 8)) else none)=_
    rw [List.drop_zero,List.take_of_length_le (by rw [Az];omega),QN 8 n ω,if_pos ω]
  unfold Hm
  rw [h,g]
  exact if_pos hn
theorem ZP {M:MemM} {at_ n:Nat} (h:at_+8≤M.V.length):(GI M at_ (n:Int)).V=splice M.V at_ (le 8 n):=by
  unfold GI
  rw [FG]
  show stV M.V ⟨(at_:Int),AB [] (n:Int) 8⟩=_
  rw [Ag4]
  unfold stV
  dsimp only
  rw [if_pos (by rw [Az];omega),Int.toNat_natCast]
theorem Ik {V b:Λ} {q n:Nat} (h:q+b.length≤V.length) (hn:b.length=n):((splice V q b).drop q).take n=b:=by
  subst hn
  unfold splice
  have hq:(V.take q).length=q:=by rw [List.length_take];omega
  rw [List.drop_left' hq,List.take_left]
theorem OI {V b:Λ} {q a n:Nat} (h:q+b.length≤V.length) (ho:a+n≤q∨q+b.length≤a) (ha:a+n≤V.length):((splice V q b).drop a).take n=(V.drop a).take n:=by
  refine CT ?_ fun i hi=>?_
  · rw [List.length_take,List.length_take,List.length_drop,List.length_drop,length_splice _ _ _ h]
  · rw [List.length_take,List.length_drop] at hi
    have e:∀ Z:Λ,((Z.drop a).take n).getD i 0=Z.getD (a+i) 0:=fun Z=>by
      simp only [List.getD_eq_getElem?_getD,List.getElem?_take,List.getElem?_drop,if_pos (ω:i<n)]
    rw [e,e,FP _ _ _ h,if_neg ω]
theorem VQ {M:MemM} {at_ size n:Nat} (hok:LogOk at_ size M) (hn:n≤size-8):Hm (GI M at_ (n:Int)).V at_ size=n:=by
  obtain ⟨s1,s2,s3,s4⟩:=hok
  rw [ZP ω]
  exact UI (Ik (by rw [Az];omega) (Az 8 n)) hn s2
theorem NY {M:MemM} {at_ size n:Nat} (hok:LogOk at_ size M) (hn:n≤size-8):Fp (GI M at_ (n:Int)).V at_ size=(M.V.drop (at_+8)).take n:=by
  have he:=VQ hok hn
  obtain ⟨s1,s2,s3,s4⟩:=hok
  unfold Fp
  rw [he,ZP ω]
  exact OI (by rw [Az];omega) (.inr (by rw [Az];omega)) ω
theorem Ia {at_ size:Nat} {M M':MemM} (h:LogOk at_ size M) (e:M'.V.length=M.V.length):LogOk at_ size M':=⟨h.s1,h.s2,by rw [e];exact h.a,by rw [e];exact h.v⟩
theorem Ti {M:MemM} {at_ size:Nat} (hok:LogOk at_ size M):CA (GI M at_ 0).V at_ size=([],0):=by
  unfold CA
  rw [show GI M at_ 0=GI M at_ ((0:Nat):Int) from rfl,NY hok (Nat.zero_le _),List.take_zero,OB]
theorem Th (V:Λ) (at_ size:Nat) (h:at_+size≤V.length) (h8:8≤size):(CA V at_ size).2≤Hm V at_ size∧(CA V at_ size).2 % 8=0:=by
  obtain ⟨hc,_⟩:=Ig (Fp V at_ size)
  have h1:=hc.le (Nat.zero_le _)
  have h2:=hc.mod rfl
  have h3:(Fp V at_ size).length=Hm V at_ size:=by
    have:=Pg V at_ size
    unfold Fp
    rw [List.length_take,List.length_drop];omega
  exact ⟨by rw [← h3];exact h1.2,h2⟩
theorem Af2 {V b:Λ} {q:Nat} (h:q+b.length≤V.length):[(⟨(q:Int),b⟩:PtM)].foldl stV V=splice V q b:=by
  show stV V _=_
  unfold stV
  dsimp only
  rw [if_pos ω,Int.toNat_natCast]
theorem Adz {V b:Λ} {at_ u e:Nat} (hV:at_+8+u+b.length≤V.length) (hu:u≤e):((splice V (at_+8+u) b).drop (at_+8)).take (u+b.length)=((V.drop (at_+8)).take e).take u++b:=by
  rw [List.take_add,List.take_take,Nat.min_eq_left hu,List.drop_drop,Ik hV rfl,OI hV (.inl (Nat.le_refl _)) ω]
theorem QD {M:MemM} {at_ size:Nat} {L:List PtM} (hok:LogOk at_ size M) (h:CX L=true) {u:Nat} (hu0:(CA M.V at_ size).2=u) {eb:Λ} (heb:Ct L=eb) (hf:u+eb.length≤size-8) :
    CA (GI (Dj M [⟨((at_+8+u:Nat):Int),eb⟩]) at_ ((u+eb.length:Nat):Int)).V at_ size=((CA M.V at_ size).1++[L],u+eb.length):=by
  have hok2:=hok
  obtain ⟨s1,s2,s3,s4⟩:=hok2
  have hu:=(Th M.V at_ size s3 ω).1
  rw [hu0] at hu
  have hV:(Dj M [⟨((at_+8+u:Nat):Int),eb⟩]).V=splice M.V (at_+8+u) eb:=by
    rw [FG]
    exact Af2 ω
  have hb:=WS (Fp M.V at_ size) h
  have e1:(EN (Fp M.V at_ size)).2=u:=hu0
  rw [e1,heb] at hb
  have e2:=Adz (V:=M.V) (b:=eb) (at_:=at_) (u:=u) (e:=Hm M.V at_ size) ω hu
  have e3:=NY (M:=Dj M [⟨((at_+8+u:Nat):Int),eb⟩]) (Ia hok (FH _ _)) hf
  rw [hV,e2] at e3
  unfold CA
  rw [e3]
  exact hb
end
section
def JS (n at_ size:Int):Prop:=128≤size∧size≤65536∧size % 64=0∧0≤at_∧at_ % 64=0∧at_≤n-size
instance (n at_ size:Int):Decidable (JS n at_ size):=by unfold JS;infer_instance
def NS (w:World) (g:Nat) (n at_ size:Int) (e:Ending) (w':World):Prop:=
  if JS n at_ size then ∃ lg,e=.returned (π lg)∧Blk w' lg 101 (NP g at_.toNat size.toNat)∧w.heap.size≤lg∧Below w.heap.size w w' else e=.returned (.pointer none)∧w=w'
theorem Wx {w W:World} {g:Nat} {n at_ size:Int} (h:JS n at_ size) {lg:Nat} (hb:Blk W lg 101 [π g,ν at_,ν size]) (hl:w.heap.size≤lg) (b:Below w.heap.size w W):NS w g n at_ size (.returned (π lg)) W:=by
  unfold NS
  rw [if_pos h]
  refine ⟨lg,rfl,?_,hl,b⟩
  obtain ⟨h1,h2,h3,h4,h5,h6⟩:=h
  unfold NP
  rw [Int.toNat_of_nonneg h4,Int.toNat_of_nonneg ω]
  exact hb
theorem Gx {w:World} {g:Nat} {n at_ size:Int} (h:¬ JS n at_ size):NS w g n at_ size (.returned (.pointer none)) w:=by
  unfold NS;rw [if_neg h];exact ⟨rfl,rfl⟩
theorem Zf {w:World} {g v d p:Nat} {M:MemM} (h:MemP w g v d p M) (at_ size:Int) (ha:EG at_) (hs:EG size) (hM:M.V.length≤1048576) :
    Calls prog 22 #[π g,ν at_,ν size] w (NS w g M.V.length at_ size):=by
  have HS:=hid (Kg h)
  obtain ⟨m,hm⟩:∃ m:Nat,m=M.V.length:=⟨_,rfl⟩
  rw [← hm] at HS hM ⊢
  clear hm h
  unfold EG at ha hs
  by_cases c1:size<128
  · have HE:=hid (Gx (w:=w) (g:=g) (n:=m) (at_:=at_) (size:=size) (by unfold JS;omega))
    have d1:decide (size<128)=true:=decide_eq_true c1
    clear ha hs
    go_enter func22,ntmps22
    go_wp2
    go_ret
    exact HE.out
  have d1:decide (size<128)=false:=decide_eq_false c1
  by_cases c2:65536<size
  · have HE:=hid (Gx (w:=w) (g:=g) (n:=m) (at_:=at_) (size:=size) (by unfold JS;omega))
    have d2:decide (65536<size)=true:=decide_eq_true c2
    clear ha hs
    go_enter func22,ntmps22
    go_wp2
    go_ret
    exact HE.out
  have d2:decide (65536<size)=false:=decide_eq_false c2
  have e1:size.tmod 64=size % 64:=Int.tmod_eq_emod_of_nonneg ω
  have e2:IntKind.i64.wrap (size % 64)=size % 64:=IntWalk.i64_in _ ω
  by_cases c3:size % 64=0
  case neg=>
    have HE:=hid (Gx (w:=w) (g:=g) (n:=m) (at_:=at_) (size:=size) (by unfold JS;omega))
    clear ha hs
    generalize size % 64=r at *
    have d3:(r != 0)=true:=by simpa using c3
    go_enter func22,ntmps22
    go_wp2
    go_ret
    exact HE.out
  by_cases c4:at_<0
  · have HE:=hid (Gx (w:=w) (g:=g) (n:=m) (at_:=at_) (size:=size) (by unfold JS;omega))
    have d4:decide (at_<0)=true:=decide_eq_true c4
    clear ha hs
    rw [c3] at e1 e2
    clear c3
    go_enter func22,ntmps22
    go_wp2
    go_ret
    exact HE.out
  have d4:decide (at_<0)=false:=decide_eq_false c4
  have e3:at_.tmod 64=at_ % 64:=Int.tmod_eq_emod_of_nonneg ω
  have e4:IntKind.i64.wrap (at_ % 64)=at_ % 64:=IntWalk.i64_in _ ω
  by_cases c5:at_ % 64=0
  case neg=>
    have HE:=hid (Gx (w:=w) (g:=g) (n:=m) (at_:=at_) (size:=size) (by unfold JS;omega))
    clear ha hs
    rw [c3] at e1 e2
    clear c3
    generalize at_ % 64=r at *
    have d5:(r != 0)=true:=by simpa using c5
    go_enter func22,ntmps22
    go_wp2
    go_ret
    exact HE.out
  have e5:IntKind.i64.wrap ((m:Int)-size)=(m:Int)-size:=IntWalk.i64_in _ ω
  by_cases c6:(m:Int)-size<at_
  · have HE:=hid (Gx (w:=w) (g:=g) (n:=m) (at_:=at_) (size:=size) (by unfold JS;omega))
    have d6:decide ((m:Int)-size<at_)=true:=decide_eq_true c6
    clear ha hs
    rw [c3] at e1 e2
    rw [c5] at e3 e4
    clear c3 c5
    go_enter func22,ntmps22
    go_wp2_with (go_at_call 45;refine HS.out.mono ?_;rintro e w1 ⟨rfl,rfl⟩)
    go_ret
    exact HE.out
  have d6:decide ((m:Int)-size<at_)=false:=decide_eq_false c6
  have HM:Hid (JS m at_ size):=hid (by unfold JS;omega)
  clear ha hs
  rw [c3] at e1 e2
  rw [c5] at e3 e4
  clear c3 c5
  go_enter func22,ntmps22
  go_wp2_with (go_at_call 45;refine HS.out.mono ?_;rintro e w1 ⟨rfl,rfl⟩)
  go_ret
  exact Wx HM.out (AK rfl _ _) (Nat.le_refl _) (Cq w _)
theorem Ry (M:MemM) (at_:Nat) (n:Int):(GI M at_ n).V.length=M.V.length:=FH _ _
theorem Jv (M:MemM) (at_ size:Nat) (L:List PtM):(DV M at_ size L).V.length=M.V.length:=by
  unfold DV;split
  · rw [Ry,FH]
  · rfl
theorem KO (M:MemM) (at_ size:Nat):(Fw M at_ size).V.length=M.V.length:=by unfold Fw;rw [Ry,FH]
theorem Om {at_ size:Nat} {M:MemM} (h:LogOk at_ size M) (L:List PtM):LogOk at_ size (DV M at_ size L):=Ia h (Jv _ _ _ _)
theorem YV {M:MemM} {at_ size:Nat} (hok:LogOk at_ size M) (L:List PtM):CA (DV M at_ size L).V at_ size=if Eo M at_ size L=0 then ((CA M.V at_ size).1++[L],(CA M.V at_ size).2+(Ct L).length) else CA M.V at_ size:=by
  unfold Eo DV
  by_cases he:IL L=0
  · have hk:CX L=true:=by
      unfold IL at he
      by_cases q:CX L=true
      · exact q
      · rw [if_neg q] at he;cases he
    by_cases hf:size-8<(CA M.V at_ size).2+(Ct L).length
    · rw [if_pos he,if_pos hf,if_neg (fun q=>q.2 hf),if_neg ω]
    · rw [if_pos he,if_neg hf,if_pos ⟨he,hf⟩,if_pos rfl]
      exact QD hok hk rfl rfl ω
  · rw [if_neg he,if_neg (fun q=>he q.1),if_neg he]
theorem Wk {M:MemM} {at_ size:Nat} (hok:LogOk at_ size M):CA (Fw M at_ size).V at_ size=([],0):=Ti (Ia hok (FH _ _))
def exP:PtM:=⟨258,[5]⟩
def exQ:PtM:=⟨3,[120]⟩
def Agu:MemM:=GS 1024
def Agv:MemM:=DV Agu 512 512 [exQ]
def Aif:MemM:=Fw Agv 512 512
attribute [irreducible] Agu Agv Aif
end
section
end
section
def JW (at_:Int) (b:Λ) (p:PtM):Λ:=(List.range b.length).map fun (i:Nat)=>if p.at_≤at_+(i:Int)∧at_+(i:Int)<p.at_+p.d.length then p.d.getD (at_+(i:Int)-p.at_).toNat 0 else b.getD i 0
def ovl (at_:Int) (b:Λ) (P:List PtM):Λ:=P.foldl (JW at_) b
theorem Df (at_:Int) (b:Λ) (p:PtM):(JW at_ b p).length=b.length:=by unfold JW;rw [List.length_map,List.length_range]
theorem GU (at_:Int) (b:Λ) (P:List PtM):(ovl at_ b P).length=b.length:=by
  unfold ovl
  induction P generalizing b with
  | nil=>rfl
  | cons p P ih=>rw [List.foldl_cons,ih,Df]
theorem Id {at_:Int} {b:Λ} {p:PtM} {i:Nat} (h:i<b.length):(JW at_ b p).getD i 0=if p.at_≤at_+(i:Int)∧at_+(i:Int)<p.at_+p.d.length then p.d.getD (at_+(i:Int)-p.at_).toNat 0 else b.getD i 0:=by
  unfold JW
  rw [List.getD_eq_getElem?_getD,List.getElem?_map,List.getElem?_range h]
  rfl
theorem Zq {at_:Int} {b:Λ} {p:PtM} {fr to:Int} (hf:fr=max at_ p.at_) (ht:to=min (at_+b.length) (p.at_+p.d.length)) (h:fr<to) :
    splice b (fr-at_).toNat ((p.d.drop (fr-p.at_).toNat).take (to-fr).toNat)=JW at_ b p:=by
  have hl:((p.d.drop (fr-p.at_).toNat).take (to-fr).toNat).length=(to-fr).toNat:=by rw [List.length_take,List.length_drop];omega
  have hb:(fr-at_).toNat+((p.d.drop (fr-p.at_).toNat).take (to-fr).toNat).length≤b.length:=by rw [hl];omega
  refine CT (by rw [length_splice _ _ _ hb,Df]) fun i hi=>?_
  rw [Df] at hi
  rw [FP _ _ _ hb,Id hi,hl]
  by_cases hc:(fr-at_).toNat≤i∧i<(fr-at_).toNat+(to-fr).toNat
  · rw [if_pos hc,if_pos ω]
    simp only [List.getD_eq_getElem?_getD,List.getElem?_take,List.getElem?_drop,if_pos (ω:i-(fr-at_).toNat<(to-fr).toNat)]
    congr 2
    omega
  · rw [if_neg hc,if_neg ω]
theorem Zr {at_:Int} {b:Λ} {p:PtM} {fr to:Int} (hf:fr=max at_ p.at_) (ht:to=min (at_+b.length) (p.at_+p.d.length)) (h:¬ fr<to):JW at_ b p=b:=by
  refine CT (Df _ _ _) fun i hi=>?_
  rw [Id hi,if_neg ω]
def Aiw (V:Λ) (M:MemM) (P:List PtM) (at_ n:Int):Λ:=if inM M at_ n=true then ovl at_ ((V.drop at_.toNat).take n.toNat) P else []
def okT (M:MemM) (P:List PtM) (at_:Int) (n:Nat):Bool:=decide (n≤256∧P.length<64∧0≤at_∧at_+n≤M.V.length)
def Ly (M:MemM) (P:List PtM) (at_:Int) (d:Λ):List PtM:=if okT M P at_ d.length=true then P++[⟨at_,d⟩] else P
def NM (M:MemM) (P:List PtM) (at_:Int) (n:Nat):Int:=if okT M P at_ n=true then 0 else 1
def Ai6 (M:MemM) (P:List PtM):Int:=if P=[] then 0 else Eo M 512 512 P
def Ad4 (M:MemM) (P:List PtM):MemM:=if P=[] then M else if Eo M 512 512 P=0 then Fw (DV M 512 512 P) 512 512 else M
def Aga (M:MemM) (P:List PtM):List PtM:=if P=[] then [] else if Eo M 512 512 P=0 then [] else P
structure TxOk (M:MemM) (P:List PtM):Prop where
  n:P.length≤64
  i:∀ p∈P,0≤p.at_∧p.at_+p.d.length≤M.V.length∧p.d.length≤256
theorem TxOk.nil (M:MemM):TxOk M []:=⟨Nat.zero_le _,fun p hp=>by cases hp⟩
theorem TxOk.put {M:MemM} {P:List PtM} (h:TxOk M P) (at_:Int) (d:Λ):TxOk M (Ly M P at_ d):=by
  unfold Ly
  split
  · next q=>
    unfold okT at q
    rw [decide_eq_true_iff] at q
    refine ⟨by rw [List.length_append];show P.length+1≤_;omega,fun p hp=>?_⟩
    rcases List.mem_append.1 hp with z | z
    · exact h.i p z
    · rw [List.mem_singleton.1 z];dsimp only;omega
  · exact h
theorem TxOk.pts {M:MemM} {P:List PtM} (h:TxOk M P) (hl:M.V.length≤1048576):IS P∧(∀ p∈P,p.d.length≤1000000):=by
  refine ⟨fun p hp=>?_,fun p hp=>?_⟩
  · have:=h.i p hp;unfold okI;omega
  · have:=h.i p hp;omega
theorem XU (M:MemM) (P:List PtM):(Ad4 M P).V.length=M.V.length:=by
  unfold Ad4;split
  · rfl
  · split
    · rw [KO,Jv]
    · rfl
theorem TxOk.congr {M M':MemM} {P:List PtM} (h:TxOk M P) (e:M'.V.length=M.V.length):TxOk M' P:=⟨h.n,fun p hp=>by rw [e];exact h.i p hp⟩
theorem TxOk.com {M:MemM} {P:List PtM} (h:TxOk M P):TxOk (Ad4 M P) (Aga M P):=by
  refine TxOk.congr (M:=M) ?_ (XU M P)
  unfold Aga;split
  · exact TxOk.nil M
  · split
    · exact TxOk.nil M
    · exact h
end
section
def txC (g lg:Nat) (ta:Ω) (n tc:Nat):List Value:=[π g,π lg,.slice ta n tc]
theorem Zh (w:World) (g lg:Nat):Calls prog 23 #[π g,π lg] w fun e w'=>∃ tg,e=.returned (π tg)∧Blk w' tg 70 (txC g lg none 0 0)∧w.heap.size≤tg∧Below w.heap.size w w':=by
  go_enter func23,ntmps23
  go_wp2
  go_ret
  exact ⟨_,rfl,AK rfl _ _,Nat.le_refl _,Cq w _⟩
theorem Dv {w:World} {g off:Nat} {q:Ω} {n c:Nat} (h:w.cell? ⟨g,off,none⟩=some (.slice q n c)):(Instr.loadAt 68 (.pointer (some ⟨g,off,none⟩))).run prog w=.ok (.slice q n c) w:=by
  have u3:=υ68
  have a3:=Tryz.isAgg68
  have z3:=Tryz.sizeOf68
  go_simp
theorem Qi {w:World} {tg g lg n tc:Nat} {ta:Ω} (h:Blk w tg 70 (txC g lg ta n tc)):Calls prog 10 #[π tg] w fun e w'=>(∃ x,e=.returned x)∧Blk w' tg 70 (txC g lg none 0 0)∧Turns (fun k=>k=tg) w w':=by
  have c2:w.cell? ⟨tg,2,none⟩=some (.slice ta n tc):=h.cell (i:=2) (by show 2<3;omega)
  have f2:=h.frozen 2
  have HB:=hid h
  go_enter func10,ntmps10
  go_wp2
  go_end0
  exact ⟨⟨_,rfl⟩,HB.out.set 2 _,(Turns.refl (fun k=>k=tg) w).setCell (p:=⟨tg,2,none⟩) rfl _⟩
theorem QX (w:World):BG (w.alloc (.cells #[] 127)) w.heap.size (some ⟨w.heap.size,0,none⟩) 0 []:=by
  refine ⟨rfl,.inr ⟨w.heap.size,0,#[],rfl,Nat.le_refl _,?_,Nat.le_refl _,Nat.zero_le _,rfl,rfl⟩⟩
  exact heap_alloc_new w _
theorem Pd {w:World} {a:Ω} {c:Nat} {P:List PtM} (h:Fo w a c P) (hl:P.length≤1000) :
    Calls prog 72 #[.slice a P.length c] w fun e w'=>∃ la lc,e=.returned (.slice la P.length lc)∧BG w' w.heap.size la lc P∧Below w.heap.size w w':=by
  have qT:∀ (w:World) (a:Ω) (n c n' c':Nat),(binOp .eql 68 (.slice a n c) (.slice none n' c')).run prog w=.ok (.bool a.isNone) w:=fun w a n c n' c'=>Lib.run_eql_slice_nil w _ _ a n c n' c' υ68
  cases a with
  | none=>
    have hc:c=0:=h.2.2.2.1 rfl
    have hl:P=[]:=List.eq_nil_of_length_eq_zero (by have:=h.2.1;omega)
    subst hl
    clear h hc
    go_enter func72,ntmps72
    go_wp2
    go_ret
    exact ⟨none,0,rfl,Own.nil _ _ _ _,Below.refl _ _⟩
  | some ad=>
    have HO:=hid (QX w)
    have HR:=hid (h.mono (Cq w (.cells #[] 127)))
    have B0:=hid (Cq w (.cells #[] 127))
    clear h
    go_enter func72,ntmps72
    go_wp2_with (at_builtin;(refine CD rfl (.tmp 5) (.tmp 6) rfl EPt w.heap.size rfl rfl HO.out HR.out (Ka P) (by show (0+_)*24≤_;omega) (by show 0+_≤_;omega) (by simp) ?_);intro a2 c2 w2 o2 g2 b2;have O2:=hid o2;have B2:=hid (B0.out.trans b2);clear o2 g2 b2)
    go_ret
    exact ⟨a2,c2,by simp,by have:=O2.out;simpa using this,B2.out⟩
theorem Rc {w:World} {tg g lg tc:Nat} {ta:Ω} {P:List PtM} (h:Blk w tg 70 (txC g lg ta P.length tc)) (hr:Fo w ta tc P) (hl:P.length≤1000) :
    Calls prog 40 #[π tg] w fun e w'=>∃ la lc,e=.returned (.slice la P.length lc)∧BG w' w.heap.size la lc P∧Below w.heap.size w w':=by
  have c2:w.cell? ⟨tg,2,none⟩=some (.slice ta P.length tc):=h.cell (i:=2) (by show 2<3;omega)
  have HC:=hid (Pd hr hl)
  clear h hr
  go_enter func40,ntmps40
  go_wp2_with (go_at_call 72;refine HC.out.mono ?_;rintro e w1 ⟨la,lc,rfl,o1,b1⟩;have O1:=hid o1;have B1:=hid b1;clear o1 b1)
  go_ret
  exact ⟨la,lc,rfl,O1.out,B1.out⟩
section
variable {P:Program} {ops:Array Oper} {Q:Exit→Act→World→Prop} {md:Region.Mode} {S:World→Prop} {oi:Oper} {fuel:Nat} {listed:Array Bool} {a:Act} {w:World} {N:Nat} {l:List (Nat×Value)} {d:Nat} {v0 v:Value}
theorem tk0 (hS:S w) (h:Kn N l a) (i k:Nat) (hi:ops[i]? = some oi) (hd:oi.dst=some d) (hdN:decide (d<N)=true) (hf:l.all (fun x=>!(x.1 == d))=true) (hr:(Region.noSelect ops&&Region.free md ops listed i&&(Region.ready md ops listed).contains i)=true) (hQ:∀ c a w v,Q (.panic c) (a.put oi.dst v) w→Q (.panic c) a w) (hg:oi.guard=none) (hm:l.find? (fun y=>y.1 == k)=some (k,v0))
    (hrun:∀ w1,S w1→a.eval (.tmp k)=v0→(execOp a.eval oi).run P w1=.ok (.value v) w1) (K:∀ a',Kn N ((d,v)::l) a'→wpAnyH P md ops Q S fuel (listed.setIfInBounds i true) a' w):wpAnyH P md ops Q S (fuel+1) listed a w:=by
  rw [Bool.and_eq_true,Bool.and_eq_true] at hr
  exact Aj hS h i hi hd (of_decide_eq_true hdN) (fr hf) hr.1.1 hr.1.2 hr.2 hQ v (Or.inl ⟨Aa hg,fun w1 hSw=>hrun w1 hSw (h.ev k hm)⟩) K
theorem tkm (hS:S w) (h:Kn N l a) (i k:Nat) (hi:ops[i]? = some oi) (hd:oi.dst=some d) (hdN:decide (d<N)=true) (hf:l.all (fun x=>!(x.1 == d))=true) (hr:(Region.noSelect ops&&Region.free md ops listed i&&(Region.ready md ops listed).contains i)=true) (hQ:∀ c a w v,Q (.panic c) (a.put oi.dst v) w→Q (.panic c) a w) (hg:oi.guard=none)
    (ho:∀ ρ:Operand→Value,execOp ρ oi=pure (.value (ρ (.tmp k)))) (hm:l.find? (fun y=>y.1 == k)=some (k,v0)) (K:∀ a',Kn N ((d,v0)::l) a'→wpAnyH P md ops Q S fuel (listed.setIfInBounds i true) a' w):wpAnyH P md ops Q S (fuel+1) listed a w:=
  tk0 hS h i k hi hd hdN hf hr hQ hg hm (fun w1 _ e=>by rw [ho,e];rfl) K
theorem tkn {p:Addr} (hS:S w) (h:Kn N l a) (i k:Nat) (hi:ops[i]? = some oi) (hd:oi.dst=some d) (hdN:decide (d<N)=true) (hf:l.all (fun x=>!(x.1 == d))=true) (hr:(Region.noSelect ops&&Region.free md ops listed i&&(Region.ready md ops listed).contains i)=true) (hQ:∀ c a w v,Q (.panic c) (a.put oi.dst v) w→Q (.panic c) a w) (hg:oi.guard=none)
    (ho:oi.op=.nilCheck (.tmp k)) (hm:l.find? (fun y=>y.1 == k)=some (k,.pointer (some p))) (K:∀ a',Kn N ((d,.pointer (some p))::l) a'→wpAnyH P md ops Q S fuel (listed.setIfInBounds i true) a' w):wpAnyH P md ops Q S (fuel+1) listed a w:=
  tk0 hS h i k hi hd hdN hf hr hQ hg hm (fun w1 _ e=>by unfold execOp;rw [ho];simp only [e];rfl) K
theorem tkf {T:TypeId} {f:Nat} (hS:S w) (h:Kn N l a) (i k:Nat) (hi:ops[i]? = some oi) (hd:oi.dst=some d) (hdN:decide (d<N)=true) (hf:l.all (fun x=>!(x.1 == d))=true) (hr:(Region.noSelect ops&&Region.free md ops listed i&&(Region.ready md ops listed).contains i)=true) (hQ:∀ c a w v,Q (.panic c) (a.put oi.dst v) w→Q (.panic c) a w) (hg:oi.guard=none)
    (ho:oi.op=.fieldAddr T (.tmp k) f) (hm:l.find? (fun y=>y.1 == k)=some (k,v0)) (hfa:∀ w,(Instr.fieldAt T v0 f).run P w=.ok v w) (K:∀ a',Kn N ((d,v)::l) a'→wpAnyH P md ops Q S fuel (listed.setIfInBounds i true) a' w):wpAnyH P md ops Q S (fuel+1) listed a w:=
  tk0 hS h i k hi hd hdN hf hr hQ hg hm (fun w1 _ e=>by unfold execOp;rw [ho];simp only [e];exact Ad (hfa w1)) K
theorem tkl {T:TypeId} (hS:S w) (h:Kn N l a) (i k:Nat) (hi:ops[i]? = some oi) (hd:oi.dst=some d) (hdN:decide (d<N)=true) (hf:l.all (fun x=>!(x.1 == d))=true) (hr:(Region.noSelect ops&&Region.free md ops listed i&&(Region.ready md ops listed).contains i)=true) (hQ:∀ c a w v,Q (.panic c) (a.put oi.dst v) w→Q (.panic c) a w) (hg:oi.guard=none)
    (ho:oi.op=.load T (.tmp k)) (hm:l.find? (fun y=>y.1 == k)=some (k,v0)) (hld:∀ w1,S w1→(Instr.loadAt T v0).run P w1=.ok v w1) (K:∀ a',Kn N ((d,v)::l) a'→wpAnyH P md ops Q S fuel (listed.setIfInBounds i true) a' w):wpAnyH P md ops Q S (fuel+1) listed a w:=
  tk0 hS h i k hi hd hdN hf hr hQ hg hm (fun w1 hSw e=>by unfold execOp;rw [ho];simp only [e];exact Ad (hld w1 hSw)) K
end
end
section
theorem PP {w:World} {g off:Nat} {u:Value} (h:w.cell? ⟨g,off,none⟩=some u) (hz:w.frozen? ⟨g,off,none⟩=false) (a:Ω) (n c:Nat):(Instr.storeAt 68 (.pointer (some ⟨g,off,none⟩)) (.slice a n c)).run prog w=.ok () (w.setCell ⟨g,off,none⟩ (.slice a n c)):=by
  have u3:=υ68
  have a3:=Tryz.isAgg68
  have z3:=Tryz.sizeOf68
  go_simp
def obA (a:Ω):Option Nat:=a.map (·.block)
theorem Fk (a:Ω) (n c:Nat):(Value.slice a n c).ownBlock=obA a:=by cases a<;>rfl
def Kr (w:World) (a a':Ω):Prop:=obA a'=obA a∨∃ k,obA a'=some k∧w.heap.size≤k
theorem NC {w ws:World} {a a':Ω} (h:Kr ws a a') (hl:w.heap.size≤ws.heap.size):Kr w a a':=h.imp id fun ⟨k,h1,h2⟩=>⟨k,h1,Nat.le_trans hl h2⟩
theorem Zs {w:World} {B:Nat} {e:TypeId} {sz:Nat} {a:Ω} {n c:Nat} {cs:List Value} (h:Own w B e sz a n c cs):∀ k,obA a=some k→B≤k:=fun k hk=>(World.ownsRow.lt h k (by rw [Fk];exact hk)).1
theorem OV {w:World} {B:Nat} {t ty e:TypeId} {i:TypeInfo} {z:Value} {size bytes:Nat} (ht:prog.underlying t=some (.slice e)) (hi:prog.info? e=some i) (hz:i.zero=some z) (hsize:i.size=size) (hby:i.bytes=bytes) (hsz:0<size)
    {a1:Ω} {n c0:Nat} {xs:List Value} (hown:Own w B e size a1 n c0 xs) {a:Addr} {m c:Nat} {news:List Value} (hl:news.length=m*size) (hnews:∀ j u,news[j]? = some u→w.cell? (a.add j)=some u) (h1:∀ u∈news,u.oneCell'=true)
    (h63:n+m≤maxLen) (hbytes:(n+m)*bytes≤140737488355328) (hm:0<m) {b:Ω} {n' c':Nat} {w':World} (hr:(Builtin.append_ #[t,t] ty #[.slice a1 n c0,.slice (some a) m c]).run prog w=.ok (.slice b n' c') w'):Kr w a1 b:=by
  subst hsize
  subst hby
  have hsmall:n+m≤9223372036854775807:=by simp only [maxLen] at h63;omega
  rcases hown.2 with ⟨hv,hn⟩ | ⟨g,cap,cur,hv,hbg,hg,hnc,hcm,hcs,htake⟩
  · cases hv
    have q:=run_append_nil (P:=prog) w t ty e i z ht hi hz a m c news hl hnews ω ω (by have hb:=hbytes;simp only [Nat.zero_add] at hb;omega)
    rw [q] at hr
    cases hr
    exact .inr ⟨_,rfl,Nat.le_refl _⟩
  · cases hv
    by_cases hroom:n+m≤c0
    · have hfit:n*i.size+news.length≤cur.size:=by rw [hl,hcs,← Nat.add_mul];exact Nat.mul_le_mul_right _ hroom
      have q:=run_append_room (P:=prog) w t ty e i ht hi g n c0 cur hg a m c news hl hnews h1 hroom hfit
      rw [q] at hr
      cases hr
      exact .inl rfl
    · have holds:∀ j u,xs[j]? = some u→w.cell? ((⟨g,0,none⟩:Addr).add j)=some u:=World.ownsRow.cells hown (g:=g) rfl
      have q:=run_append_grow (P:=prog) w t ty e i z ht hi hz ⟨g,0,none⟩ n c0 xs hown.1 holds a m c news hl hnews ω ω (growslice_fits ω hbytes)
      rw [q] at hr
      cases hr
      exact .inr ⟨_,rfl,Nat.le_refl _⟩
section
variable {ops:Array Oper} {Q:Exit→Act→World→Prop} {oi:Oper} {a:Act} {w:World} {N:Nat} {l:List (Nat×Value)} {K:Act→World→Prop}
theorem Jj (h:Kn N l a) {d:Nat} (hd:oi.dst=some d) (hdN:d<N) (hf:∀ x∈l,x.1≠d) (s x:Operand) {t e:TypeId} {sz bytes:Nat}
    (ho:oi.op=.call { callee:=.builtin .append,args:=#[s,x],argTypes:=#[t,t] }) (E:ElemT prog t e sz bytes) (B:Nat)
    {a1:Ω} {ad:Addr} {n c m c2:Nat} {cs ds:List Value} (hs:a.eval s=.slice a1 n c) (hx:a.eval x=.slice (some ad) (m+1) c2)
    (hown:Own w B e sz a1 n c cs) (hrow:Row w sz (some ad) (m+1) c2 ds) (h1:∀ u∈ds,u.oneCell'=true)
    (hbytes:(n+(m+1))*bytes≤140737488355328) (h63:n+(m+1)≤9223372036854775807) (hbase:B≤w.heap.size)
    (k:∀ a' b' c' w',Own w' B e sz b' (n+(m+1)) c' (cs++ds)→w.grownBy w' (Value.slice a1 n c).ownBlock→Below B w w'→Kr w a1 b'→Kn N ((d,.slice b' (n+(m+1)) c')::l) a'→K a' w'):Oper.wp prog oi a w K Q:=by
  have hlt:∀ k,(Value.slice a1 n c).ownBlock=some k→B≤k:=fun k hk=>(World.ownsRow.lt hown k hk).1
  obtain ⟨under,⟨ti,z,hi',hz,hsize,hby,hzs⟩,hsz⟩:=E
  obtain ⟨g1,g2,g3,g4,g5⟩:=hrow
  have hnews:∀ j u,ds[j]? = some u→w.cell? (ad.add j)=some u:=by
    intro j u hu
    obtain ⟨b,off,e1,_,hc⟩:=g5 ω
    cases e1
    have:=hc j u hu
    unfold Addr.add
    split
    · subst j;simpa using this
    · exact this
  have hm63:n+(m+1)≤maxLen:=by unfold maxLen;omega
  obtain ⟨v',w',hr,r1,r2,_⟩:=run_append_own (P:=prog) w B t oi.type e ti z sz bytes under hi' hz hsize hby hzs hsz (.slice a1 n c) n cs hown ad (m+1) c2 ds g1 hnews h1 hm63 hbytes hbase
  obtain ⟨b,c',rfl,h5⟩:=EK r1
  have hw:=OV under hi' hz hsize hby hsz hown g1 hnews h1 hm63 hbytes (Nat.succ_pos m) hr
  have hrun:(execOp a.eval oi).run prog w=.ok (.value (.slice b (n+(m+1)) c')) w':=by
    unfold execOp
    simp only [ho,resolve,invoke,builtin,Sem.run_bind,Sem.run_pure,Result.andThen_ok,List.map_toArray,List.map_cons,List.map_nil,hs,hx,hr]
  unfold Oper.wp
  rw [hrun,Oper.upon_value,hd]
  exact k _ b c' w' h5 r2 ((Below.refl B w).grown r2 hbase (fun k hk=>hlt k hk)) hw (h.put hdN hf _)
end
theorem Ah7 (x y:Operand) (v u:Int) (w:World) {b:Bool} (h:decide (u≤v)=b):(do eqGuard .geq 3 x y (ν v) (ν u);binOp .geq 3 (ν v) (ν u):Sem Value).run prog w=.ok (.bool b) w:=by
  have u3:=υ3
  have a3:=Tryz.isAgg3
  have z3:=Tryz.sizeOf3
  go_simp
theorem Pt {w:World} {g off:Nat} {q:Ω} (h:w.cell? ⟨g,off,none⟩=some (.pointer q)):(Instr.loadAt 61 (.pointer (some ⟨g,off,none⟩))).run prog w=.ok (.pointer q) w:=by
  have u3:=υ61
  have a3:=Tryz.isAgg61
  have z3:=Tryz.sizeOf61
  go_simp
theorem XO (args:Array Value) (w:World):(callFunc 45 args).run prog w=.ok (.enter 45 args) w:=by
  have h:=func45
  go_simp
theorem Jb (g:Nat) (w:World):(Instr.fieldAt 70 (π g) 0).run prog w=.ok (π g) w:=rfl
theorem Cu (g:Nat) (w:World):(Instr.fieldAt 70 (π g) 2).run prog w=.ok (.pointer (some ⟨g,2,none⟩)) w:=rfl
def Ahp (w:World) (tg g lg B:Nat) (M:MemM) (P:List PtM) (at_:Int) (xs:Λ) (e:Ending) (w':World):Prop:=
  e=.returned (ν (NM M P at_ xs.length))∧∃ ta tc,Blk w' tg 70 (txC g lg ta (Ly M P at_ xs).length tc)∧BG w' B ta tc (Ly M P at_ xs)∧Turns (fun k=>k=tg∨B≤k) w w'
def LD (w:World) (tg g lg B:Nat) (ta0:Ω) (M:MemM) (P:List PtM) (at_:Int) (xs:Λ) (e:Ending) (w':World):Prop:=
  e=.returned (ν (NM M P at_ xs.length))∧∃ ta tc,Blk w' tg 70 (txC g lg ta (Ly M P at_ xs).length tc)∧BG w' B ta tc (Ly M P at_ xs)∧Turns (fun k=>k=tg∨some k=obA ta0) w w'∧Kr w ta0 ta
theorem Uc {w:World} {tg g lg B tc:Nat} {ta:Ω} {M:MemM} {P:List PtM} {at_:Int} {xs:Λ} (h:okT M P at_ xs.length=false) (b:Blk w tg 70 (txC g lg ta P.length tc)) (o:BG w B ta tc P):LD w tg g lg B ta M P at_ xs (.returned (ν 1)) w:=by
  unfold LD NM Ly
  rw [h]
  exact ⟨rfl,ta,tc,b,o,Turns.refl _ w,.inl rfl⟩
theorem Xb {w:World} {tg g lg v d p tc B:Nat} {ta:Ω} {M:MemM} {P:List PtM} (hm:MemP w g v d p M) (hb:Blk w tg 70 (txC g lg ta P.length tc)) (ho:BG w B ta tc P) (hB:B≤w.heap.size) (htg:tg<B) (hM:M.V.length≤1048576) {a:Ω} {c:Nat} {xs:Λ} (h0:Bo w a c xs) {at_:Int}
    (hl:xs.length≤256) (hP:P.length<64) (h3:0≤at_) (h4:at_+xs.length≤M.V.length) :
    Calls prog 75 #[π tg,ν at_,.slice a xs.length c] w fun e w'=>e=.returned (ν 0)∧∃ ta2 tc2,Blk w' tg 70 (txC g lg ta2 (P++[(⟨at_,xs⟩:PtM)]).length tc2)∧BG w' B ta2 tc2 (P++[(⟨at_,xs⟩:PtM)])∧Turns (fun k=>k=tg∨some k=obA ta) w w'∧Kr w ta ta2:=by
  have HM:=hid hm;have HB:=hid hb;have HO:=hid ho
  have n1:=hid (show decide ((256:Int)<(xs.length:Int))=false from decide_eq_false ω)
  have n2:=hid (show decide ((64:Int)≤(P.length:Int))=false from decide_eq_false ω)
  have n3:=hid (show decide (at_<(0:Int))=false from decide_eq_false ω)
  have n4:=hid (show decide ((M.V.length:Int)-(xs.length:Int)<at_)=false from decide_eq_false ω)
  clear hm hb ho
  go_enter func75,ntmps75
  iterate 3 go_step
  refine AU (N:=45) (l:=[(0,π tg),(1,ν at_),(2,.slice a xs.length c)]) ⟨rfl,(by intro x hx;simp only [List.mem_cons,List.not_mem_nil,or_false] at hx;rcases hx with rfl | rfl | rfl<;>rfl),rfl⟩ fun a2 h1=>?_
  refine wv h1 rfl rfl rfl rfl (ν 0) rfl fun a4 h3=>?_
  iterate 6 go_step
  refine wmk h3 rfl rfl rfl rfl 2 rfl (fun _=>rfl) fun a6 h5=>?_
  refine wv h5 rfl rfl rfl rfl (ν (xs.length:Int)) (DQ rfl (h5.ev 7 rfl) _) fun a8 h7=>?_
  refine wv h7 rfl rfl rfl rfl (.bool false) (by unfold execOp;simp only [h7.ev 8 rfl];exact Ad (FL _ _ _ _ _ n1.out)) fun a10 h9=>?_
  refine wmk h9 rfl rfl rfl rfl 9 rfl (fun _=>rfl) fun a12 h11=>?_
  refine Ak h11 (by rw [Ac (g:=3) (want:=false) (b:=false) rfl (h11.yields (prev:=10) rfl (by simp))];rfl) rfl (by decide) (fr rfl) (π tg) (by unfold execOp;simp only [h11.ev 0 rfl];rfl) fun a14 h13=>?_
  refine Ak h13 (by rw [Ac (g:=3) (want:=false) (b:=false) rfl (h13.yields (prev:=10) rfl (by simp))];rfl) rfl (by decide) (fr rfl) (π tg) (by unfold execOp;simp only [h13.ev 11 rfl];exact rfl) fun a16 h15=>?_
  refine Ak h15 (by rw [Ac (g:=3) (want:=false) (b:=false) rfl (h15.yields (prev:=10) rfl (by simp))];rfl) rfl (by decide) (fr rfl) (.pointer (some ⟨tg,2,none⟩)) (by unfold execOp;simp only [h15.ev 12 rfl];exact Ad (Cu (tg) _)) fun a18 h17=>?_
  refine Ak h17 (by rw [Ac (g:=3) (want:=false) (b:=false) rfl (h17.yields (prev:=10) rfl (by simp))];rfl) rfl (by decide) (fr rfl) (.slice ta P.length tc) (by unfold execOp;simp only [h17.ev 13 rfl];exact Ad (Dv (HB.out.cell (i:=2) (by show 2<3;omega)))) fun a20 h19=>?_
  refine Ak h19 (by rw [Ac (g:=3) (want:=false) (b:=false) rfl (h19.yields (prev:=10) rfl (by simp))];rfl) rfl (by decide) (fr rfl) (ν (P.length:Int)) (Dg rfl (h19.ev 14 rfl) _) fun a22 h21=>?_
  refine Ak h21 (by rw [Ac (g:=3) (want:=false) (b:=false) rfl (h21.yields (prev:=10) rfl (by simp))];rfl) rfl (by decide) (fr rfl) (.bool false) (by unfold execOp;simp only [h21.ev 15 rfl];exact Ad (Ah7 _ _ _ _ _ n2.out)) fun a24 h23=>?_
  refine wv h23 rfl rfl rfl rfl (.bool false) (Bf rfl (h23.ev 10 rfl) (by rw [if_neg (by simp)];exact h23.ev 16 rfl)) fun a26 h25=>?_
  have h27:=h25.subs (l':=[(17,_),(6,_),(0,_),(1,_),(2,_)]) rfl
  clear h25
  iterate 3 go_step
  refine wp_cond (t:=false) (h27.ev 17 rfl) ?_
  simp only [Bool.false_eq_true,if_false]
  have h28:=h27.subs (l':=[(6,_),(0,_),(1,_),(2,_)]) rfl
  clear h27
  iterate 6 go_step
  refine wmk h28 rfl rfl rfl rfl 1 rfl (fun _=>rfl) fun a30 h29=>?_
  refine wv h29 rfl rfl rfl rfl (.bool false) (by unfold execOp;simp only [h29.ev 18 rfl];exact Ad (IN _ _ _ _ _ n3.out)) fun a32 h31=>?_
  refine wmk h31 rfl rfl rfl rfl 19 rfl (fun _=>rfl) fun a34 h33=>?_
  refine Ak h33 (by rw [Ac (g:=2) (want:=false) (b:=false) rfl (h33.yields (prev:=20) rfl (by simp))];rfl) rfl (by decide) (fr rfl) (ν at_) (by unfold execOp;simp only [h33.ev 1 rfl];rfl) fun a36 h35=>?_
  refine Ak h35 (by rw [Ac (g:=2) (want:=false) (b:=false) rfl (h35.yields (prev:=20) rfl (by simp))];rfl) rfl (by decide) (fr rfl) (π tg) (by unfold execOp;simp only [h35.ev 0 rfl];rfl) fun a38 h37=>?_
  refine Ak h37 (by rw [Ac (g:=2) (want:=false) (b:=false) rfl (h37.yields (prev:=20) rfl (by simp))];rfl) rfl (by decide) (fr rfl) (π tg) (by unfold execOp;simp only [h37.ev 22 rfl];exact rfl) fun a40 h39=>?_
  refine Ak h39 (by rw [Ac (g:=2) (want:=false) (b:=false) rfl (h39.yields (prev:=20) rfl (by simp))];rfl) rfl (by decide) (fr rfl) (π tg) (by unfold execOp;simp only [h39.ev 23 rfl];exact Ad (Jb (tg) _)) fun a42 h41=>?_
  refine Ak h41 (by rw [Ac (g:=2) (want:=false) (b:=false) rfl (h41.yields (prev:=20) rfl (by simp))];rfl) rfl (by decide) (fr rfl) (π g) (by unfold execOp;simp only [h41.ev 24 rfl];exact Ad (GO (HB.out.cell (i:=0) (by show 0<3;omega)))) fun a44 h43=>?_
  refine AO h43 (by rw [Ac (g:=2) (want:=false) (b:=false) rfl (h43.yields (prev:=20) rfl (by simp))];rfl) rfl (by decide) (fr rfl) (fun args=>XO args _) rfl #[π g] (by simp only [List.map_toArray,List.map_cons,List.map_nil,h43.ev 25 rfl]) (R:=fun v' w'=>v'=ν (M.V.length:Int)∧w=w') ((Kg HM.out).mono fun e w' q=>⟨_,q.1,rfl,q.2⟩) fun a46 v2 w2 r2 h45=>?_
  obtain ⟨rfl,rfl⟩:=r2
  refine Ak h45 (by rw [Ac (g:=2) (want:=false) (b:=false) rfl (h45.yields (prev:=20) rfl (by simp))];rfl) rfl (by decide) (fr rfl) (.slice a xs.length c) (by unfold execOp;simp only [h45.ev 2 rfl];rfl) fun a48 h47=>?_
  refine Ak h47 (by rw [Ac (g:=2) (want:=false) (b:=false) rfl (h47.yields (prev:=20) rfl (by simp))];rfl) rfl (by decide) (fr rfl) (ν (xs.length:Int)) (DQ rfl (h47.ev 27 rfl) _) fun a50 h49=>?_
  refine Ak h49 (by rw [Ac (g:=2) (want:=false) (b:=false) rfl (h49.yields (prev:=20) rfl (by simp))];rfl) rfl (by decide) (fr rfl) (ν ((M.V.length:Int)-(xs.length:Int))) (by unfold execOp;simp only [h49.ev 26 rfl,h49.ev 28 rfl];exact Ad (Fb _ _ _ _ _ rfl ω ω _)) fun a52 h51=>?_
  refine Ak h51 (by rw [Ac (g:=2) (want:=false) (b:=false) rfl (h51.yields (prev:=20) rfl (by simp))];rfl) rfl (by decide) (fr rfl) (.bool false) (by unfold execOp;simp only [h51.ev 21 rfl,h51.ev 29 rfl];exact Ad (FL _ _ _ _ _ n4.out)) fun a54 h53=>?_
  refine wv h53 rfl rfl rfl rfl (.bool false) (Bf rfl (h53.ev 20 rfl) (by rw [if_neg (by simp)];exact h53.ev 30 rfl)) fun a56 h55=>?_
  have h57:=h55.subs (l':=[(31,_),(6,_),(0,_),(1,_),(2,_)]) rfl
  clear h55
  iterate 3 go_step
  refine wp_cond (t:=false) (h57.ev 31 rfl) ?_
  simp only [Bool.false_eq_true,if_false]
  have h58:=h57.subs (l':=[(6,_),(0,_),(1,_),(2,_)]) rfl
  clear h57
  iterate 4 go_step
  have HBd:=hid (HB.out.mono (Below.refl _ _).drew);have HOd:Hid (BG w.drew B ta tc P):=hid (Own.mono HO.out (Below.refl _ _).drew);have hst:=GX (h0.mono (Below.refl _ _).drew)
  refine wp_region_held_drew (S:=fun _=>True) κ trivial (fun hS1=>?_)
  refine tkm hS1 h58 0 0 rfl rfl rfl rfl κ (fun _ _ _ _ h=>h) rfl (fun _=>rfl) rfl fun a60 h59=>?_
  refine tkm hS1 h59 1 0 rfl rfl rfl rfl κ (fun _ _ _ _ h=>h) rfl (fun _=>rfl) rfl fun a62 h61=>?_
  refine tkn hS1 h61 2 33 rfl rfl rfl rfl κ (fun _ _ _ _ h=>h) rfl rfl rfl fun a64 h63=>?_
  refine tkf hS1 h63 3 34 rfl rfl rfl rfl κ (fun _ _ _ _ h=>h) rfl rfl rfl (fun w=>Cu _ w) fun a66 h65=>?_
  refine tkm hS1 h65 5 1 rfl rfl rfl rfl κ (fun _ _ _ _ h=>h) rfl (fun _=>rfl) rfl fun a68 h67=>?_
  refine tkm hS1 h67 6 2 rfl rfl rfl rfl κ (fun _ _ _ _ h=>h) rfl (fun _=>rfl) rfl fun a70 h69=>?_
  refine Vq 4 7 rfl rfl rfl rfl κ (fun KK hK=>Dt (w':=w.drew) h69 rfl (by decide) (fr rfl) (.slice ta P.length tc) (by show (execOp _ (⟨_,.load 68 (.tmp 35),_,_,_,_⟩:Oper)).run _ _=_;exact (by unfold execOp;simp only [h69.ev 35 rfl];exact Ad (Dv (HBd.out.cell (i:=2) (by show 2<3;omega))))) fun ax hx=>hK _ _ trivial fun hS2=>?_) (fun KK hK=>Dt (w':=w.drew) h69 rfl (by decide) (fr rfl) (Ap xs) (by show (execOp _ (⟨_,.convert 74 9 (.tmp 38),_,_,_,_⟩:Oper)).run _ _=_;exact (by unfold execOp;simp only [h69.ev 38 rfl];exact Ad hst)) fun ax hx=>hK _ _ trivial fun hS2=>?_)
  · clear hK KK
    refine AD 7 rfl rfl κ fun KK hK=>Dt (w':=w.drew) hx rfl (by decide) (fr rfl) (Ap xs) (by show (execOp _ (⟨_,.convert 74 9 (.tmp 38),_,_,_,_⟩:Oper)).run _ _=_;exact (by unfold execOp;simp only [hx.ev 38 rfl];exact Ad hst)) fun a72 h71=>hK _ _ (trivial) fun hS2b=>?_
    clear hK KK
    refine Aj hS1 h71 8 rfl rfl (by decide) (fr rfl) κ κ κ (fun _ _ _ _ h=>h) (ptV ⟨at_,xs⟩) (Or.inl ⟨Eq.refl true,fun w1 hSw=>(by show (execOp _ (⟨_,.build 127 #[(0,(.tmp 37)),(1,(.tmp 39))],_,_,_,_⟩:Oper)).run _ _=_;exact (by unfold execOp;simp only [List.map_toArray,List.map_cons,List.map_nil,h71.ev 37 rfl,h71.ev 39 rfl];exact Ad (Jy _ _ _)))⟩) fun a74 h73=>?_
    obtain ⟨ws,hws⟩:∃ x,x=w.drew.alloc (.cells (ptC ⟨at_,xs⟩).toArray 127):=⟨_,rfl⟩
    have bs:Below w.drew.heap.size w.drew ws:=by rw [hws];exact Cq _ _
    have rs:Fo ws (some ⟨w.drew.heap.size,0,none⟩) 1 [⟨at_,xs⟩]:=by rw [hws];exact PL _ _
    refine AD 9 rfl rfl κ fun KK hK=>Dt (w':=ws) h73 rfl (by decide) (fr rfl) (.slice (some ⟨w.drew.heap.size,0,none⟩) ([⟨at_,xs⟩]:List PtM).length 1) (by show (execOp _ (⟨_,.buildSlice 68 1 #[(0,(.tmp 40))],_,_,_,_⟩:Oper)).run _ _=_;exact (by unfold execOp;simp only [List.map_toArray,List.map_cons,List.map_nil,h73.ev 40 rfl];rw [hws];exact Ad (Hq _ _))) fun a76 h75=>hK _ _ (trivial) fun hS3=>?_
    clear hK KK
    have HBs:=hid (HBd.out.mono bs);have HOs:Hid (BG ws B ta tc P):=hid (Own.mono HOd.out bs);have HRs:=hid rs;have HTs:Hid (Turns (fun k=>k=tg∨some k=obA ta) w ws):=hid ((Turns.refl _ w).drew.trans (Turns.of_below bs));have hsz:B≤ws.heap.size:=Nat.le_trans hB bs.size;have hszw:w.heap.size≤ws.heap.size:=bs.size;clear hws rs bs
    refine AD 10 rfl rfl κ fun KK hK=>Jj h75 rfl (by decide) (fr rfl) (.tmp 36) (.tmp 41) rfl EPt B (h75.ev 36 rfl) (h75.ev 41 rfl) HOs.out HRs.out (Ka _) (by show (P.length+1)*24≤_;omega) (by show P.length+1≤_;omega) hsz fun a78 ta2 tc2 w3 o3 g3 b3 x3 h77=>hK _ _ trivial fun hS4=>?_
    clear hK KK
    have HO3:Hid (BG w3 B ta2 tc2 (P++[(⟨at_,xs⟩:PtM)])):=hid (by unfold BG;rw [List.length_append,List.flatMap_append];exact o3)
    have HB3:Hid (Blk w3 tg 70 (txC g lg ta P.length tc)):=hid ((b3.block tg htg).trans HBs.out)
    have HT3:Hid (Turns (fun k=>k=tg∨some k=obA ta) w w3):=hid (HTs.out.trans ⟨g3.os,g3.tape,g3.output,g3.size,fun k hk hx=>g3.block k hk (by rw [Fk];exact fun e=>hx (.inr e))⟩)
    have HX3:=hid (NC x3 hszw)
    clear o3 g3 b3 x3
    refine tkn hS1 h77 11 32 rfl rfl rfl rfl κ (fun _ _ _ _ h=>h) rfl rfl rfl fun a80 h79=>?_
    refine tkf hS1 h79 12 43 rfl rfl rfl rfl κ (fun _ _ _ _ h=>h) rfl rfl rfl (fun w=>Cu _ w) fun a82 h81=>?_
    obtain ⟨w4,hw4⟩:∃ x,x=w3.setCell ⟨tg,2,none⟩ (.slice ta2 (P.length+([⟨at_,xs⟩]:List PtM).length) tc2):=⟨_,rfl⟩
    refine AD 13 rfl rfl κ fun KK hK=>LM h81 rfl (w':=w4) (by show (execOp _ (⟨_,.store 68 (.tmp 44) (.tmp 42),_,_,_,_⟩:Oper)).run _ _=_;exact (by rw [hw4];unfold execOp;simp only [h81.ev 44 rfl,h81.ev 42 rfl];exact Gn (PP (HB3.out.cell (i:=2) (by show 2<3;omega)) (HB3.out.frozen 2) _ _ _))) fun a84 h83=>hK _ _ trivial fun _=>?_
    clear hK KK
    have HB4:Hid (Blk w4 tg 70 (txC g lg ta2 (P++[(⟨at_,xs⟩:PtM)]).length tc2)):=hid (by rw [hw4,List.length_append];exact HB3.out.set 2 _)
    have t4:Turns (fun k=>k=tg) w3 w4:=by rw [hw4];exact (Turns.refl (fun k=>k=tg) w3).setCell (p:=⟨tg,2,none⟩) rfl _
    have HO4:Hid (BG w4 B ta2 tc2 (P++[(⟨at_,xs⟩:PtM)])):=hid (t4.own HO3.out (fun k e=>ω));have HT4:Hid (Turns (fun k=>k=tg∨some k=obA ta) w w4):=hid (HT3.out.trans (t4.mono (fun k e=>.inl e)));clear t4 hw4
    refine wpAnyH_done κ ?_ _
    have h85:=h83.subs (l':=[(6,_),(0,_),(1,_),(2,_)]) rfl
    clear h83
    iterate 4 go_step
    have h86:=h85.subs (l':=[(0,_),(1,_),(2,_)]) rfl
    clear h85
    refine wv h86 rfl rfl rfl rfl (ν 0) rfl fun a88 h87=>?_
    iterate 4 go_step
    exact bodyPost_ret (AJ rfl (h87.known (6,ν 0) (by simp))) h87.defs ⟨rfl,ta2,tc2,HB4.out,HO4.out,HT4.out,HX3.out⟩
  · clear hK KK
    refine Aj hS1 hx 8 rfl rfl (by decide) (fr rfl) κ κ κ (fun _ _ _ _ h=>h) (ptV ⟨at_,xs⟩) (Or.inl ⟨Eq.refl true,fun w1 hSw=>(by show (execOp _ (⟨_,.build 127 #[(0,(.tmp 37)),(1,(.tmp 39))],_,_,_,_⟩:Oper)).run _ _=_;exact (by unfold execOp;simp only [List.map_toArray,List.map_cons,List.map_nil,hx.ev 37 rfl,hx.ev 39 rfl];exact Ad (Jy _ _ _)))⟩) fun a90 h89=>?_
    obtain ⟨ws,hws⟩:∃ x,x=w.drew.alloc (.cells (ptC ⟨at_,xs⟩).toArray 127):=⟨_,rfl⟩
    have bs:Below w.drew.heap.size w.drew ws:=by rw [hws];exact Cq _ _
    have rs:Fo ws (some ⟨w.drew.heap.size,0,none⟩) 1 [⟨at_,xs⟩]:=by rw [hws];exact PL _ _
    refine Vq 4 9 rfl rfl rfl rfl κ (fun KK hK=>Dt (w':=w.drew) h89 rfl (by decide) (fr rfl) (.slice ta P.length tc) (by show (execOp _ (⟨_,.load 68 (.tmp 35),_,_,_,_⟩:Oper)).run _ _=_;exact (by unfold execOp;simp only [h89.ev 35 rfl];exact Ad (Dv (HBd.out.cell (i:=2) (by show 2<3;omega))))) fun ax hx=>hK _ _ trivial fun hS2=>?_) (fun KK hK=>Dt (w':=ws) h89 rfl (by decide) (fr rfl) (.slice (some ⟨w.drew.heap.size,0,none⟩) ([⟨at_,xs⟩]:List PtM).length 1) (by show (execOp _ (⟨_,.buildSlice 68 1 #[(0,(.tmp 40))],_,_,_,_⟩:Oper)).run _ _=_;exact (by unfold execOp;simp only [List.map_toArray,List.map_cons,List.map_nil,h89.ev 40 rfl];rw [hws];exact Ad (Hq _ _))) fun ax hx=>hK _ _ trivial fun hS2=>?_)
    · clear hK KK
      refine AD 9 rfl rfl κ fun KK hK=>Dt (w':=ws) hx rfl (by decide) (fr rfl) (.slice (some ⟨w.drew.heap.size,0,none⟩) ([⟨at_,xs⟩]:List PtM).length 1) (by show (execOp _ (⟨_,.buildSlice 68 1 #[(0,(.tmp 40))],_,_,_,_⟩:Oper)).run _ _=_;exact (by unfold execOp;simp only [List.map_toArray,List.map_cons,List.map_nil,hx.ev 40 rfl];rw [hws];exact Ad (Hq _ _))) fun a92 h91=>hK _ _ (trivial) fun hS3=>?_
      clear hK KK
      have HBs:=hid (HBd.out.mono bs);have HOs:Hid (BG ws B ta tc P):=hid (Own.mono HOd.out bs);have HRs:=hid rs;have HTs:Hid (Turns (fun k=>k=tg∨some k=obA ta) w ws):=hid ((Turns.refl _ w).drew.trans (Turns.of_below bs));have hsz:B≤ws.heap.size:=Nat.le_trans hB bs.size;have hszw:w.heap.size≤ws.heap.size:=bs.size;clear hws rs bs
      refine AD 10 rfl rfl κ fun KK hK=>Jj h91 rfl (by decide) (fr rfl) (.tmp 36) (.tmp 41) rfl EPt B (h91.ev 36 rfl) (h91.ev 41 rfl) HOs.out HRs.out (Ka _) (by show (P.length+1)*24≤_;omega) (by show P.length+1≤_;omega) hsz fun a94 ta2 tc2 w3 o3 g3 b3 x3 h93=>hK _ _ trivial fun hS4=>?_
      clear hK KK
      have HO3:Hid (BG w3 B ta2 tc2 (P++[(⟨at_,xs⟩:PtM)])):=hid (by unfold BG;rw [List.length_append,List.flatMap_append];exact o3)
      have HB3:Hid (Blk w3 tg 70 (txC g lg ta P.length tc)):=hid ((b3.block tg htg).trans HBs.out)
      have HT3:Hid (Turns (fun k=>k=tg∨some k=obA ta) w w3):=hid (HTs.out.trans ⟨g3.os,g3.tape,g3.output,g3.size,fun k hk hx=>g3.block k hk (by rw [Fk];exact fun e=>hx (.inr e))⟩)
      have HX3:=hid (NC x3 hszw)
      clear o3 g3 b3 x3
      refine tkn hS1 h93 11 32 rfl rfl rfl rfl κ (fun _ _ _ _ h=>h) rfl rfl rfl fun a96 h95=>?_
      refine tkf hS1 h95 12 43 rfl rfl rfl rfl κ (fun _ _ _ _ h=>h) rfl rfl rfl (fun w=>Cu _ w) fun a98 h97=>?_
      obtain ⟨w4,hw4⟩:∃ x,x=w3.setCell ⟨tg,2,none⟩ (.slice ta2 (P.length+([⟨at_,xs⟩]:List PtM).length) tc2):=⟨_,rfl⟩
      refine AD 13 rfl rfl κ fun KK hK=>LM h97 rfl (w':=w4) (by show (execOp _ (⟨_,.store 68 (.tmp 44) (.tmp 42),_,_,_,_⟩:Oper)).run _ _=_;exact (by rw [hw4];unfold execOp;simp only [h97.ev 44 rfl,h97.ev 42 rfl];exact Gn (PP (HB3.out.cell (i:=2) (by show 2<3;omega)) (HB3.out.frozen 2) _ _ _))) fun a100 h99=>hK _ _ trivial fun _=>?_
      clear hK KK
      have HB4:Hid (Blk w4 tg 70 (txC g lg ta2 (P++[(⟨at_,xs⟩:PtM)]).length tc2)):=hid (by rw [hw4,List.length_append];exact HB3.out.set 2 _)
      have t4:Turns (fun k=>k=tg) w3 w4:=by rw [hw4];exact (Turns.refl (fun k=>k=tg) w3).setCell (p:=⟨tg,2,none⟩) rfl _
      have HO4:Hid (BG w4 B ta2 tc2 (P++[(⟨at_,xs⟩:PtM)])):=hid (t4.own HO3.out (fun k e=>ω));have HT4:Hid (Turns (fun k=>k=tg∨some k=obA ta) w w4):=hid (HT3.out.trans (t4.mono (fun k e=>.inl e)));clear t4 hw4
      refine wpAnyH_done κ ?_ _
      have h101:=h99.subs (l':=[(6,_),(0,_),(1,_),(2,_)]) rfl
      clear h99
      iterate 4 go_step
      have h102:=h101.subs (l':=[(0,_),(1,_),(2,_)]) rfl
      clear h101
      refine wv h102 rfl rfl rfl rfl (ν 0) rfl fun a104 h103=>?_
      iterate 4 go_step
      exact bodyPost_ret (AJ rfl (h103.known (6,ν 0) (by simp))) h103.defs ⟨rfl,ta2,tc2,HB4.out,HO4.out,HT4.out,HX3.out⟩
    · clear hK KK
      have HBs:=hid (HBd.out.mono bs);have HOs:Hid (BG ws B ta tc P):=hid (Own.mono HOd.out bs);have HRs:=hid rs;have HTs:Hid (Turns (fun k=>k=tg∨some k=obA ta) w ws):=hid ((Turns.refl _ w).drew.trans (Turns.of_below bs));have hsz:B≤ws.heap.size:=Nat.le_trans hB bs.size;have hszw:w.heap.size≤ws.heap.size:=bs.size;clear hws rs bs
      refine AD 4 rfl rfl κ fun KK hK=>Dt (w':=ws) hx rfl (by decide) (fr rfl) (.slice ta P.length tc) (by show (execOp _ (⟨_,.load 68 (.tmp 35),_,_,_,_⟩:Oper)).run _ _=_;exact (by unfold execOp;simp only [hx.ev 35 rfl];exact Ad (Dv (HBs.out.cell (i:=2) (by show 2<3;omega))))) fun a106 h105=>hK _ _ (trivial) fun hS3=>?_
      clear hK KK
      refine AD 10 rfl rfl κ fun KK hK=>Jj h105 rfl (by decide) (fr rfl) (.tmp 36) (.tmp 41) rfl EPt B (h105.ev 36 rfl) (h105.ev 41 rfl) HOs.out HRs.out (Ka _) (by show (P.length+1)*24≤_;omega) (by show P.length+1≤_;omega) hsz fun a108 ta2 tc2 w3 o3 g3 b3 x3 h107=>hK _ _ trivial fun hS4=>?_
      clear hK KK
      have HO3:Hid (BG w3 B ta2 tc2 (P++[(⟨at_,xs⟩:PtM)])):=hid (by unfold BG;rw [List.length_append,List.flatMap_append];exact o3)
      have HB3:Hid (Blk w3 tg 70 (txC g lg ta P.length tc)):=hid ((b3.block tg htg).trans HBs.out)
      have HT3:Hid (Turns (fun k=>k=tg∨some k=obA ta) w w3):=hid (HTs.out.trans ⟨g3.os,g3.tape,g3.output,g3.size,fun k hk hx=>g3.block k hk (by rw [Fk];exact fun e=>hx (.inr e))⟩)
      have HX3:=hid (NC x3 hszw)
      clear o3 g3 b3 x3
      refine tkn hS1 h107 11 32 rfl rfl rfl rfl κ (fun _ _ _ _ h=>h) rfl rfl rfl fun a110 h109=>?_
      refine tkf hS1 h109 12 43 rfl rfl rfl rfl κ (fun _ _ _ _ h=>h) rfl rfl rfl (fun w=>Cu _ w) fun a112 h111=>?_
      obtain ⟨w4,hw4⟩:∃ x,x=w3.setCell ⟨tg,2,none⟩ (.slice ta2 (P.length+([⟨at_,xs⟩]:List PtM).length) tc2):=⟨_,rfl⟩
      refine AD 13 rfl rfl κ fun KK hK=>LM h111 rfl (w':=w4) (by show (execOp _ (⟨_,.store 68 (.tmp 44) (.tmp 42),_,_,_,_⟩:Oper)).run _ _=_;exact (by rw [hw4];unfold execOp;simp only [h111.ev 44 rfl,h111.ev 42 rfl];exact Gn (PP (HB3.out.cell (i:=2) (by show 2<3;omega)) (HB3.out.frozen 2) _ _ _))) fun a114 h113=>hK _ _ trivial fun _=>?_
      clear hK KK
      have HB4:Hid (Blk w4 tg 70 (txC g lg ta2 (P++[(⟨at_,xs⟩:PtM)]).length tc2)):=hid (by rw [hw4,List.length_append];exact HB3.out.set 2 _)
      have t4:Turns (fun k=>k=tg) w3 w4:=by rw [hw4];exact (Turns.refl (fun k=>k=tg) w3).setCell (p:=⟨tg,2,none⟩) rfl _
      have HO4:Hid (BG w4 B ta2 tc2 (P++[(⟨at_,xs⟩:PtM)])):=hid (t4.own HO3.out (fun k e=>ω));have HT4:Hid (Turns (fun k=>k=tg∨some k=obA ta) w w4):=hid (HT3.out.trans (t4.mono (fun k e=>.inl e)));clear t4 hw4
      refine wpAnyH_done κ ?_ _
      have h115:=h113.subs (l':=[(6,_),(0,_),(1,_),(2,_)]) rfl
      clear h113
      iterate 4 go_step
      have h116:=h115.subs (l':=[(0,_),(1,_),(2,_)]) rfl
      clear h115
      refine wv h116 rfl rfl rfl rfl (ν 0) rfl fun a118 h117=>?_
      iterate 4 go_step
      exact bodyPost_ret (AJ rfl (h117.known (6,ν 0) (by simp))) h117.defs ⟨rfl,ta2,tc2,HB4.out,HO4.out,HT4.out,HX3.out⟩
theorem RK {w:World} {tg g lg v d p tc B:Nat} {ta:Ω} {M:MemM} {P:List PtM} (hm:MemP w g v d p M) (hb:Blk w tg 70 (txC g lg ta P.length tc)) (ho:BG w B ta tc P) (hB:B≤w.heap.size) (htg:tg<B) (hM:M.V.length≤1048576) {a:Ω} {c:Nat} {xs:Λ} (h0:Bo w a c xs) {at_:Int} (ha:EG at_) (hP:P.length≤64) (hx:xs.length≤4611686018427387904) :
    Calls prog 75 #[π tg,ν at_,.slice a xs.length c] w (LD w tg g lg B ta M P at_ xs):=by
  by_cases ok:okT M P at_ xs.length=true
  · have k:=ok
    unfold okT at k
    rw [decide_eq_true_iff] at k
    refine (Xb hm hb ho hB htg hM h0 k.1 k.2.1 k.2.2.1 k.2.2.2).mono fun e w' q=>?_
    unfold LD NM Ly
    rw [if_pos ok,if_pos ok]
    exact q
  have ok2:okT M P at_ xs.length=false:=by simpa using ok
  have HE:=hid (Uc ok2 hb ho)
  have c0:w.cell? ⟨tg,0,none⟩=some (π g):=hb.cell (i:=0) (by show 0<3;omega)
  have c2:w.cell? ⟨tg,2,none⟩=some (.slice ta P.length tc):=hb.cell (i:=2) (by show 2<3;omega)
  unfold okT at ok2
  rw [decide_eq_false_iff_not] at ok2
  have HS:=hid (Kg hm)
  unfold EG at ha
  obtain ⟨m,hm'⟩:∃ m:Nat,m=M.V.length:=⟨_,rfl⟩
  obtain ⟨n,hn⟩:∃ n:Nat,n=xs.length:=⟨_,rfl⟩
  obtain ⟨k,hk⟩:∃ n:Nat,n=P.length:=⟨_,rfl⟩
  rw [← hm'] at HS hM ok2;rw [← hn] at ok2 hx ⊢;rw [← hk] at ok2 c2 hP
  clear hm hb ho h0 hm' hn hk ok
  by_cases c1:(256:Int)<(n:Int)
  · have d1:decide ((256:Int)<(n:Int))=true:=decide_eq_true c1
    clear ok2 hx hP hM ha
    go_enter func75,ntmps75
    go_wp2
    go_ret
    exact HE.out
  have d1:decide ((256:Int)<(n:Int))=false:=decide_eq_false c1
  by_cases c3:(64:Int)≤(k:Int)
  · have d3:decide ((64:Int)≤(k:Int))=true:=decide_eq_true c3
    clear ok2 hx hP hM ha
    go_enter func75,ntmps75
    go_wp2
    go_ret
    exact HE.out
  have d3:decide ((64:Int)≤(k:Int))=false:=decide_eq_false c3
  by_cases c4:at_<0
  · have d4:decide (at_<(0:Int))=true:=decide_eq_true c4
    clear ok2 hx hP hM ha
    go_enter func75,ntmps75
    go_wp2
    go_ret
    exact HE.out
  have d4:decide (at_<(0:Int))=false:=decide_eq_false c4
  have c5:(m:Int)-(n:Int)<at_:=ω
  have d5:decide ((m:Int)-(n:Int)<at_)=true:=decide_eq_true c5
  have e5:IntKind.i64.wrap ((m:Int)-(n:Int))=(m:Int)-(n:Int):=IntWalk.i64_in _ ω
  clear ok2 hx hP ha
  go_enter func75,ntmps75
  go_wp2_with (go_at_call 45;refine HS.out.mono ?_;rintro e w1 ⟨rfl,rfl⟩)
  go_ret
  exact HE.out
end
end Go.Proofs.YtbfgjinpchbajaaGreatDoor
