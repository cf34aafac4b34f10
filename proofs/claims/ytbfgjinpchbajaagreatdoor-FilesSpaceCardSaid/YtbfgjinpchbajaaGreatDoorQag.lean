/- Parts of the proof. -/
import Derived.Test.YtbfgjinpchbajaaGreatDoorQaf
namespace Go.Proofs.YtbfgjinpchbajaaGreatDoor
open Go.RowKit
set_option linter.unusedSimpArgs false
set_option linter.unusedVariables false
set_option linter.unusedSectionVars false
set_option maxRecDepth 100000
set_option maxHeartbeats 8000000
section
theorem Is (g:Nat) (w:World):(Instr.fieldAt 101 (π g) 1).run Tryz.prog w=.ok (.pointer (some ⟨g,1,none⟩)) w:=rfl
theorem It (g:Nat) (w:World):(Instr.fieldAt 101 (π g) 2).run Tryz.prog w=.ok (.pointer (some ⟨g,2,none⟩)) w:=rfl
theorem Xr (a:Option Addr) (n c:Nat) (w:World):(Instr.buildSlice 122 1 #[(0,.slice a n c)]).run Tryz.prog w=.ok (.slice (some ⟨w.heap.size,0,none⟩) 1 1) (w.alloc (.cells #[.slice a n c] 68)):=by
  have u3:=υ122
  have u9:=υ68
  have z3:=Tryz.sizeOf68
  go_simp
theorem WG (w:World) (v:Value) (e:TypeId):Row (w.alloc (.cells #[v] e)) 1 (some ⟨w.heap.size,0,none⟩) 1 1 [v]:=Ab3 w [v] e (by simp)
theorem Agz:ElemT Tryz.prog 122 68 1 24:=Qd υ122 (z:=.slice none 0 0) κ rfl ω
structure LogOk (at_ size:Nat) (M:MemM):Prop where
  s1:128≤size
  s2:size≤65536
  a:at_+size≤M.V.length
  v:M.V.length≤1048576
theorem LogP.below {w w':World} {B lg g v d p at_ size:Nat} {M:MemM} (h:LogP w lg g v d p at_ size M) (b:Below B w w') (hb:lg<B∧g<B∧v<B∧d<B∧p<B):LogP w' lg g v d p at_ size M:=by
  have t:Turns (fun k=>B≤k) w w':=⟨b.os,b.tape,b.output,b.size,fun k _ hn=>b.block k ω⟩
  exact ⟨t.blk h.l ω,h.m.turns t ω ω ω ω⟩
theorem Ro {X:List UInt8} {M:MemM} {a n:Nat} (h:a+n≤M.V.length):Ih X M (a:Int) (n:Int)=(X.drop a).take n:=by
  unfold Ih
  rw [if_pos (by unfold inM;simp;omega),Int.toNat_natCast,Int.toNat_natCast]
theorem Aep {w W:World} {act:Act} {n m:Nat} (hd:act.defers=[]) (h2:act.tmps[2]? = some (ν (m:Int))) (hn:n=m) (hb:Below w.heap.size w W):bodyPost Tryz.prog Tryz.f90 (fun e w'=>∃ v,e=.returned v∧v=ν (n:Int)∧Below w.heap.size w w') .ret act W:=by
  subst hn
  exact bodyPost_ret (AK rfl h2) hd ⟨_,rfl,rfl,hb⟩
theorem Aal {w:World} {lg g v d p at_ size:Nat} {M:MemM} (hg0:LogP w lg g v d p at_ size M) (hok:LogOk at_ size M) :
    Calls Tryz.prog 90 #[π lg] w fun e w'=>∃ v,e=.returned v∧v=ν (Hi M.V at_ size:Int)∧Below w.heap.size w w':=by
  have HG0:=hid hg0
  obtain ⟨s1,s2,s3,s4⟩:=hok
  obtain ⟨b8,hb8⟩:∃ b,b=(M.V.drop at_).take 8:=⟨_,rfl⟩
  have hl8:b8.length=8:=by rw [hb8,List.length_take,List.length_drop];omega
  have hseen:Ih M.V M (at_:Int) 8=b8:=by rw [hb8];exact Ro (n:=8) ω
  have HB8:=hid hb8
  clear hg0 hb8
  go_enter Tryz.func90,Tryz.ntmps90
  iterate 3 go_step
  refine AW (N:=36) (l:=[(0,π lg)]) ⟨rfl,(by intro x hx;simp only [List.mem_cons,List.not_mem_nil,or_false] at hx;rcases hx with rfl<;>rfl),rfl⟩ fun a2 h1=>?_
  refine mv h1 rfl fun _ h3=>?_
  iterate 4 go_step
  have HG1:=hid (HG0.out.mono (Below.refl _ _).drew)
  refine wp_region_held_drew (S:=fun w'=>Blk w' lg 101 (NH g at_ size)) κ HG1.out.l (fun hS1=>?_)
  refine Aj hS1 h3 0 rfl rfl (by decide) (fr rfl) κ κ κ (fun _ _ _ _ h=>h) (π lg) (Or.inl ⟨Eq.refl true,fun w1 hSw=>(by show (execOp _ (⟨_,.move (.tmp 0),_,_,_,_⟩:Oper)).run _ _=_;exact (by unfold execOp;simp only [h3.ev 0 rfl];exact rfl))⟩) fun a6 h5=>?_
  refine Aj hS1 h5 1 rfl rfl (by decide) (fr rfl) κ κ κ (fun _ _ _ _ h=>h) (π lg) (Or.inl ⟨Eq.refl true,fun w1 hSw=>(by show (execOp _ (⟨_,.nilCheck (.tmp 8),_,_,_,_⟩:Oper)).run _ _=_;exact (by unfold execOp;simp only [h5.ev 8 rfl];exact rfl))⟩) fun a8 h7=>?_
  refine Aj hS1 h7 2 rfl rfl (by decide) (fr rfl) κ κ κ (fun _ _ _ _ h=>h) (π lg) (Or.inl ⟨Eq.refl true,fun w1 hSw=>(by show (execOp _ (⟨_,.fieldAddr 101 (.tmp 9) 0,_,_,_,_⟩:Oper)).run _ _=_;exact (by unfold execOp;simp only [h7.ev 9 rfl];exact Ac (Fg (lg) _)))⟩) fun a10 h9=>?_
  refine Aj hS1 h9 3 rfl rfl (by decide) (fr rfl) κ κ κ (fun _ _ _ _ h=>h) (π g) (Or.inl ⟨Eq.refl true,fun w1 hSw=>(by show (execOp _ (⟨_,.load 59 (.tmp 10),_,_,_,_⟩:Oper)).run _ _=_;exact (by unfold execOp;simp only [h9.ev 10 rfl];exact Ac (GJ (hSw.cell (i:=0) (by show 0<3;omega)))))⟩) fun a12 h11=>?_
  refine Aj hS1 h11 4 rfl rfl (by decide) (fr rfl) κ κ κ (fun _ _ _ _ h=>h) (π lg) (Or.inl ⟨Eq.refl true,fun w1 hSw=>(by show (execOp _ (⟨_,.move (.tmp 0),_,_,_,_⟩:Oper)).run _ _=_;exact (by unfold execOp;simp only [h11.ev 0 rfl];exact rfl))⟩) fun a14 h13=>?_
  refine Aj hS1 h13 5 rfl rfl (by decide) (fr rfl) κ κ κ (fun _ _ _ _ h=>h) (π lg) (Or.inl ⟨Eq.refl true,fun w1 hSw=>(by show (execOp _ (⟨_,.nilCheck (.tmp 12),_,_,_,_⟩:Oper)).run _ _=_;exact (by unfold execOp;simp only [h13.ev 12 rfl];exact rfl))⟩) fun a16 h15=>?_
  refine Aj hS1 h15 6 rfl rfl (by decide) (fr rfl) κ κ κ (fun _ _ _ _ h=>h) (.pointer (some ⟨lg,1,none⟩)) (Or.inl ⟨Eq.refl true,fun w1 hSw=>(by show (execOp _ (⟨_,.fieldAddr 101 (.tmp 13) 1,_,_,_,_⟩:Oper)).run _ _=_;exact (by unfold execOp;simp only [h15.ev 13 rfl];exact Ac (Is (lg) _)))⟩) fun a18 h17=>?_
  refine Aj hS1 h17 7 rfl rfl (by decide) (fr rfl) κ κ κ (fun _ _ _ _ h=>h) (ν (at_:Int)) (Or.inl ⟨Eq.refl true,fun w1 hSw=>(by show (execOp _ (⟨_,.load 3 (.tmp 14),_,_,_,_⟩:Oper)).run _ _=_;exact (by unfold execOp;simp only [h17.ev 14 rfl];exact Ac (BN (hSw.cell (i:=1) (by show 1<3;omega)))))⟩) fun a20 h19=>?_
  refine AE 8 rfl rfl κ fun K hK=>DA h19 rfl (by decide) (fr rfl) (fun args=>cF Tryz.func65 (args:=args) (w:=_)) rfl #[π g,ν (at_:Int),ν 8] (by simp only [List.map_toArray,List.map_cons,List.map_nil,h19.ev 11 rfl,h19.ev 15 rfl];rfl) (R:=fun v w'=>∃ a c,v=.tuple #[.slice a (Ih M.V M at_ 8).length c,ν (FZ M at_ 8)]∧Ca w' w.drew.heap.size a c (Ih M.V M at_ 8)∧Below w.drew.heap.size w.drew w') ((YA HG1.out.m at_ 8 (by unfold ED;omega) (by unfold ED;omega)).mono fun e w' q=>by obtain ⟨x,y,q1,q2,q3⟩:=q;exact ⟨_,q1,x,y,rfl,q2,q3⟩) fun a22 v2 w2 r2 h21=>hK _ _ (by obtain ⟨x,y,_,_,q⟩:=r2;exact HG1.out.l.mono q) fun hS2=>?_
  clear hK K
  obtain ⟨ba,bc,rfl,o2,b2⟩:=r2
  rw [hseen] at o2 h21
  have HG2:=hid (HG1.out.mono b2);have HR2:=hid o2.row;have B2:Hid (Below w.heap.size w w2):=hid ((Below.refl _ w).drew.trans b2);clear o2 b2
  refine Aj hS2 h21 9 rfl rfl (by decide) (fr rfl) κ κ κ (fun _ _ _ _ h=>h) (.tuple #[.slice ba b8.length bc,ν (FZ M at_ 8)]) (Or.inl ⟨Eq.refl true,fun w1 hSw=>(by show (execOp _ (⟨_,.move (.tmp 16),_,_,_,_⟩:Oper)).run _ _=_;exact (by unfold execOp;simp only [h21.ev 16 rfl];exact rfl))⟩) fun a24 h23=>?_
  refine Aj hS2 h23 10 rfl rfl (by decide) (fr rfl) κ κ κ (fun _ _ _ _ h=>h) (.slice ba b8.length bc) (Or.inl ⟨Eq.refl true,fun w1 hSw=>(by show (execOp _ (⟨_,.extract (.tmp 7) 0,_,_,_,_⟩:Oper)).run _ _=_;exact (by unfold execOp;simp only [h23.ev 7 rfl];exact rfl))⟩) fun a26 h25=>?_
  refine Aj hS2 h25 11 rfl rfl (by decide) (fr rfl) κ κ κ (fun _ _ _ _ h=>h) (ν (FZ M at_ 8)) (Or.inl ⟨Eq.refl true,fun w1 hSw=>(by show (execOp _ (⟨_,.extract (.tmp 7) 1,_,_,_,_⟩:Oper)).run _ _=_;exact (by unfold execOp;simp only [h25.ev 7 rfl];exact rfl))⟩) fun a28 h27=>?_
  refine Aj hS2 h27 12 rfl rfl (by decide) (fr rfl) κ κ κ (fun _ _ _ _ h=>h) (.slice ba b8.length bc) (Or.inl ⟨Eq.refl true,fun w1 hSw=>(by show (execOp _ (⟨_,.assign (.tmp 17),_,_,_,_⟩:Oper)).run _ _=_;exact (by unfold execOp;simp only [h27.ev 17 rfl];exact rfl))⟩) fun a30 h29=>?_
  refine Aj hS2 h29 13 rfl rfl (by decide) (fr rfl) κ κ κ (fun _ _ _ _ h=>h) (ν (FZ M at_ 8)) (Or.inl ⟨Eq.refl true,fun w1 hSw=>(by show (execOp _ (⟨_,.assign (.tmp 18),_,_,_,_⟩:Oper)).run _ _=_;exact (by unfold execOp;simp only [h29.ev 18 rfl];exact rfl))⟩) fun a32 h31=>?_
  refine wpAnyH_done κ ?_ _
  refine h31.sk [3,2,0] rfl fun h33=>?_
  iterate 2 go_step
  cases hg:AX b8 0 8 with
  | none=>
    have hok:(AX b8 0 8).isSome=false:=by rw [hg];rfl
    have hEnd:Hi M.V at_ size=0:=by unfold Hi;rw [← HB8.out,hg]
    iterate 2 go_step
    refine mv h33 rfl fun _ h34=>?_
    refine AN h34 (wn rfl) rfl (by decide) (fr rfl) (fun args=>cF Tryz.func69 (args:=args) (w:=_)) rfl #[.slice ba b8.length bc,ν 0,ν 8] (by simp only [List.map_toArray,List.map_cons,List.map_nil,h34.ev 20 rfl];rfl) (R:=fun v w'=>v=Lt (AX b8 0 8)∧w2=w') ((Eb ba bc b8 0 8 w2 HR2.out ω).mono fun e w' q=>⟨_,q.1,rfl,q.2⟩) fun a37 v3 w3 r3 h36=>?_
    obtain ⟨rfl,rfl⟩:=r3
    refine mv h36 rfl fun _ h38=>?_
    refine wv h38 rfl rfl rfl rfl (ν (((AX b8 0 8).getD 0:Nat):Int)) (by unfold execOp;simp only [h38.ev 19 rfl];exact rfl) fun a41 h40=>?_
    refine wv h40 rfl rfl rfl rfl (.bool false) (by unfold execOp;simp only [h40.ev 19 rfl];exact (by show _=Result.ok (Next.value (Value.bool false)) _;rw [← hok];rfl)) fun a43 h42=>?_
    refine mv h42 rfl fun _ h44=>?_
    refine mv h44 rfl fun _ h46=>?_
    refine h46.sk [6,5,3,2,0] rfl fun h48=>?_
    iterate 6 go_step
    refine mv h48 rfl fun _ h49=>?_
    refine wv h49 rfl rfl rfl rfl (.bool true) (Fd rfl (h49.ev 24 rfl)) fun a52 h51=>?_
    refine mv h51 rfl fun _ h53=>?_
    refine AG h53 (by rw [Ab (g:=2) (want:=false) (b:=true) rfl (h53.yields (prev:=26) rfl (by simp))];rfl) rfl (by decide) (fr rfl) fun a56 h55=>?_
    refine AG h55 (by rw [Ab (g:=2) (want:=false) (b:=true) rfl (h55.yields (prev:=26) rfl (by simp))];rfl) rfl (by decide) (fr rfl) fun a58 h57=>?_
    refine AG h57 (by rw [Ab (g:=2) (want:=false) (b:=true) rfl (h57.yields (prev:=26) rfl (by simp))];rfl) rfl (by decide) (fr rfl) fun a60 h59=>?_
    refine AG h59 (by rw [Ab (g:=2) (want:=false) (b:=true) rfl (h59.yields (prev:=26) rfl (by simp))];rfl) rfl (by decide) (fr rfl) fun a62 h61=>?_
    refine AG h61 (by rw [Ab (g:=2) (want:=false) (b:=true) rfl (h61.yields (prev:=26) rfl (by simp))];rfl) rfl (by decide) (fr rfl) fun a64 h63=>?_
    refine AG h63 (by rw [Ab (g:=2) (want:=false) (b:=true) rfl (h63.yields (prev:=26) rfl (by simp))];rfl) rfl (by decide) (fr rfl) fun a66 h65=>?_
    refine AG h65 (by rw [Ab (g:=2) (want:=false) (b:=true) rfl (h65.yields (prev:=26) rfl (by simp))];rfl) rfl (by decide) (fr rfl) fun a68 h67=>?_
    refine wv h67 rfl rfl rfl rfl (.bool true) (Bf rfl (h67.ev 26 rfl) rfl) fun a70 h69=>?_
    refine h69.sk [34,6,5,3,2,0] rfl fun h71=>?_
    iterate 3 go_step
    refine wp_cond (t:=true) (h71.ev 34 rfl) ?_
    simp only [if_true]
    refine h71.sk [6,5,3,2,0] rfl fun h72=>?_
    iterate 2 go_step
    refine h72.sk [6,5,3,0] rfl fun h73=>?_
    refine mv h73 rfl fun _ h74=>?_
    iterate 4 go_step
    simp only [Exit.then,Exit.inBlock]
    exact Aep h74.defs (h74.known (2,ν 0) (by simp)) hEnd B2.out
  | some n=>
    have hok:(AX b8 0 8).isSome=true:=by rw [hg];rfl
    have hn:(AX b8 0 8).getD 0=n:=by rw [hg];rfl
    by_cases hle:n≤size-8
    · have hEnd:Hi M.V at_ size=(AX b8 0 8).getD 0:=by rw [hn];unfold Hi;rw [← HB8.out,hg];exact if_pos hle
      have hgt:decide (((size-8:Nat):Int)<(((AX b8 0 8).getD 0:Nat):Int))=false:=decide_eq_false (by rw [hn];omega)
      iterate 2 go_step
      refine mv h33 rfl fun _ h76=>?_
      refine AN h76 (wn rfl) rfl (by decide) (fr rfl) (fun args=>cF Tryz.func69 (args:=args) (w:=_)) rfl #[.slice ba b8.length bc,ν 0,ν 8] (by simp only [List.map_toArray,List.map_cons,List.map_nil,h76.ev 20 rfl];rfl) (R:=fun v w'=>v=Lt (AX b8 0 8)∧w2=w') ((Eb ba bc b8 0 8 w2 HR2.out ω).mono fun e w' q=>⟨_,q.1,rfl,q.2⟩) fun a79 v3 w3 r3 h78=>?_
      obtain ⟨rfl,rfl⟩:=r3
      refine mv h78 rfl fun _ h80=>?_
      refine wv h80 rfl rfl rfl rfl (ν (((AX b8 0 8).getD 0:Nat):Int)) (by unfold execOp;simp only [h80.ev 19 rfl];exact rfl) fun a83 h82=>?_
      refine wv h82 rfl rfl rfl rfl (.bool true) (by unfold execOp;simp only [h82.ev 19 rfl];exact (by show _=Result.ok (Next.value (Value.bool true)) _;rw [← hok];rfl)) fun a85 h84=>?_
      refine mv h84 rfl fun _ h86=>?_
      refine mv h86 rfl fun _ h88=>?_
      refine h88.sk [6,5,3,2,0] rfl fun h90=>?_
      iterate 6 go_step
      refine mv h90 rfl fun _ h91=>?_
      refine wv h91 rfl rfl rfl rfl (.bool false) (Fd rfl (h91.ev 24 rfl)) fun a94 h93=>?_
      refine mv h93 rfl fun _ h95=>?_
      refine Ak h95 (by rw [Ab (g:=2) (want:=false) (b:=false) rfl (h95.yields (prev:=26) rfl (by simp))];rfl) rfl (by decide) (fr rfl) (ν (((AX b8 0 8).getD 0:Nat):Int)) (by unfold execOp;simp only [h95.ev 5 rfl];rfl) fun a98 h97=>?_
      refine Ak h97 (by rw [Ab (g:=2) (want:=false) (b:=false) rfl (h97.yields (prev:=26) rfl (by simp))];rfl) rfl (by decide) (fr rfl) (π lg) (by unfold execOp;simp only [h97.ev 0 rfl];rfl) fun a100 h99=>?_
      refine Ak h99 (by rw [Ab (g:=2) (want:=false) (b:=false) rfl (h99.yields (prev:=26) rfl (by simp))];rfl) rfl (by decide) (fr rfl) (π lg) (by unfold execOp;simp only [h99.ev 28 rfl];exact rfl) fun a102 h101=>?_
      refine Ak h101 (by rw [Ab (g:=2) (want:=false) (b:=false) rfl (h101.yields (prev:=26) rfl (by simp))];rfl) rfl (by decide) (fr rfl) (.pointer (some ⟨lg,2,none⟩)) (by unfold execOp;simp only [h101.ev 29 rfl];exact Ac (It (lg) _)) fun a104 h103=>?_
      refine Ak h103 (by rw [Ab (g:=2) (want:=false) (b:=false) rfl (h103.yields (prev:=26) rfl (by simp))];rfl) rfl (by decide) (fr rfl) (ν (size:Int)) (by unfold execOp;simp only [h103.ev 30 rfl];exact Ac (BN (HG2.out.l.cell (i:=2) (by show 2<3;omega)))) fun a106 h105=>?_
      refine Ak h105 (by rw [Ab (g:=2) (want:=false) (b:=false) rfl (h105.yields (prev:=26) rfl (by simp))];rfl) rfl (by decide) (fr rfl) (ν ((size-8:Nat):Int)) (by unfold execOp;simp only [h105.ev 31 rfl];exact Ac (EX _ _ _ _ _ ω ω ω _)) fun a108 h107=>?_
      refine Ak h107 (by rw [Ab (g:=2) (want:=false) (b:=false) rfl (h107.yields (prev:=26) rfl (by simp))];rfl) rfl (by decide) (fr rfl) (.bool false) (by unfold execOp;simp only [h107.ev 27 rfl,h107.ev 32 rfl];exact Ac (FI _ _ _ _ _ hgt)) fun a110 h109=>?_
      refine wv h109 rfl rfl rfl rfl (.bool false) (Bf rfl (h109.ev 26 rfl) (by rw [if_neg (by simp)];exact h109.ev 33 rfl)) fun a112 h111=>?_
      refine h111.sk [34,6,5,3,2,0] rfl fun h113=>?_
      iterate 3 go_step
      refine wp_cond (t:=false) (h113.ev 34 rfl) ?_
      simp only [Bool.false_eq_true,if_false]
      refine h113.sk [6,5,3,2,0] rfl fun h114=>?_
      iterate 5 go_step
      refine mv h114 rfl fun _ h115=>?_
      refine h115.sk [35,6,5,3,0] rfl fun h117=>?_
      refine mv h117 rfl fun _ h118=>?_
      refine h118.sk [2,6,5,3,0] rfl fun h120=>?_
      iterate 4 go_step
      exact Aep h120.defs (h120.known (2,ν (((AX b8 0 8).getD 0:Nat):Int)) (by simp)) hEnd B2.out
    · have hEnd:Hi M.V at_ size=0:=by unfold Hi;rw [← HB8.out,hg];exact if_neg hle
      have hgt:decide (((size-8:Nat):Int)<(((AX b8 0 8).getD 0:Nat):Int))=true:=decide_eq_true (by rw [hn];omega)
      iterate 2 go_step
      refine mv h33 rfl fun _ h121=>?_
      refine AN h121 (wn rfl) rfl (by decide) (fr rfl) (fun args=>cF Tryz.func69 (args:=args) (w:=_)) rfl #[.slice ba b8.length bc,ν 0,ν 8] (by simp only [List.map_toArray,List.map_cons,List.map_nil,h121.ev 20 rfl];rfl) (R:=fun v w'=>v=Lt (AX b8 0 8)∧w2=w') ((Eb ba bc b8 0 8 w2 HR2.out ω).mono fun e w' q=>⟨_,q.1,rfl,q.2⟩) fun a124 v3 w3 r3 h123=>?_
      obtain ⟨rfl,rfl⟩:=r3
      refine mv h123 rfl fun _ h125=>?_
      refine wv h125 rfl rfl rfl rfl (ν (((AX b8 0 8).getD 0:Nat):Int)) (by unfold execOp;simp only [h125.ev 19 rfl];exact rfl) fun a128 h127=>?_
      refine wv h127 rfl rfl rfl rfl (.bool true) (by unfold execOp;simp only [h127.ev 19 rfl];exact (by show _=Result.ok (Next.value (Value.bool true)) _;rw [← hok];rfl)) fun a130 h129=>?_
      refine mv h129 rfl fun _ h131=>?_
      refine mv h131 rfl fun _ h133=>?_
      refine h133.sk [6,5,3,2,0] rfl fun h135=>?_
      iterate 6 go_step
      refine mv h135 rfl fun _ h136=>?_
      refine wv h136 rfl rfl rfl rfl (.bool false) (Fd rfl (h136.ev 24 rfl)) fun a139 h138=>?_
      refine mv h138 rfl fun _ h140=>?_
      refine Ak h140 (by rw [Ab (g:=2) (want:=false) (b:=false) rfl (h140.yields (prev:=26) rfl (by simp))];rfl) rfl (by decide) (fr rfl) (ν (((AX b8 0 8).getD 0:Nat):Int)) (by unfold execOp;simp only [h140.ev 5 rfl];rfl) fun a143 h142=>?_
      refine Ak h142 (by rw [Ab (g:=2) (want:=false) (b:=false) rfl (h142.yields (prev:=26) rfl (by simp))];rfl) rfl (by decide) (fr rfl) (π lg) (by unfold execOp;simp only [h142.ev 0 rfl];rfl) fun a145 h144=>?_
      refine Ak h144 (by rw [Ab (g:=2) (want:=false) (b:=false) rfl (h144.yields (prev:=26) rfl (by simp))];rfl) rfl (by decide) (fr rfl) (π lg) (by unfold execOp;simp only [h144.ev 28 rfl];exact rfl) fun a147 h146=>?_
      refine Ak h146 (by rw [Ab (g:=2) (want:=false) (b:=false) rfl (h146.yields (prev:=26) rfl (by simp))];rfl) rfl (by decide) (fr rfl) (.pointer (some ⟨lg,2,none⟩)) (by unfold execOp;simp only [h146.ev 29 rfl];exact Ac (It (lg) _)) fun a149 h148=>?_
      refine Ak h148 (by rw [Ab (g:=2) (want:=false) (b:=false) rfl (h148.yields (prev:=26) rfl (by simp))];rfl) rfl (by decide) (fr rfl) (ν (size:Int)) (by unfold execOp;simp only [h148.ev 30 rfl];exact Ac (BN (HG2.out.l.cell (i:=2) (by show 2<3;omega)))) fun a151 h150=>?_
      refine Ak h150 (by rw [Ab (g:=2) (want:=false) (b:=false) rfl (h150.yields (prev:=26) rfl (by simp))];rfl) rfl (by decide) (fr rfl) (ν ((size-8:Nat):Int)) (by unfold execOp;simp only [h150.ev 31 rfl];exact Ac (EX _ _ _ _ _ ω ω ω _)) fun a153 h152=>?_
      refine Ak h152 (by rw [Ab (g:=2) (want:=false) (b:=false) rfl (h152.yields (prev:=26) rfl (by simp))];rfl) rfl (by decide) (fr rfl) (.bool true) (by unfold execOp;simp only [h152.ev 27 rfl,h152.ev 32 rfl];exact Ac (FI _ _ _ _ _ hgt)) fun a155 h154=>?_
      refine wv h154 rfl rfl rfl rfl (.bool true) (Bf rfl (h154.ev 26 rfl) (by rw [if_neg (by simp)];exact h154.ev 33 rfl)) fun a157 h156=>?_
      refine h156.sk [34,6,5,3,2,0] rfl fun h158=>?_
      iterate 3 go_step
      refine wp_cond (t:=true) (h158.ev 34 rfl) ?_
      simp only [if_true]
      refine h158.sk [6,5,3,2,0] rfl fun h159=>?_
      iterate 2 go_step
      refine h159.sk [6,5,3,0] rfl fun h160=>?_
      refine mv h160 rfl fun _ h161=>?_
      iterate 4 go_step
      simp only [Exit.then,Exit.inBlock]
      exact Aep h161.defs (h161.known (2,ν 0) (by simp)) hEnd B2.out
theorem Agd {w W:World} {act:Act} {M:MemM} {at_ size u:Nat} {b:List UInt8} {ra:Option Addr} {rc:Nat} {rs:List (Option Addr×Nat×List PtM)} (hd:act.defers=[]) (h2:act.tmps[2]? = some (.slice ra rs.length rc)) (h3:act.tmps[3]? = some (ν (u:Int))) (hr:EJ b=(rs.map (·.2.2),u)) (hb:b=Fm M.V at_ size) (hR:RecsP W w.heap.size ra rc rs) (hB:Below w.heap.size w W) :
    bodyPost Tryz.prog Tryz.f60 (fun e w'=>∃ x,e=.returned x∧∃ ra rc rs,x=.tuple #[.slice ra rs.length rc,ν ((CC M.V at_ size).2:Int)]∧rs.map (·.2.2)=(CC M.V at_ size).1∧RecsP w' w.heap.size ra rc rs∧Below w.heap.size w w') .ret act W:=by
  have e:CC M.V at_ size=(rs.map (·.2.2),u):=by unfold CC;rw [← hb];exact hr
  rw [e]
  exact bodyPost_ret (results_tmp2 rfl h2 h3) hd ⟨_,rfl,ra,rc,rs,rfl,rfl,hR,hB⟩
theorem Rh {w:World} {lg g v d p at_ size:Nat} {M:MemM} (hg0:LogP w lg g v d p at_ size M) (hok:LogOk at_ size M) :
    Calls Tryz.prog 60 #[π lg] w fun e w'=>∃ x,e=.returned x∧∃ ra rc rs,x=.tuple #[.slice ra rs.length rc,ν ((CC M.V at_ size).2:Int)]∧rs.map (·.2.2)=(CC M.V at_ size).1∧RecsP w' w.heap.size ra rc rs∧Below w.heap.size w w':=by
  have hbase0:=hg0.lt
  have HG0:=hid hg0
  have hok2:=hok
  obtain ⟨s1,s2,s3,s4⟩:=hok2
  obtain ⟨en,hen⟩:∃ n,n=Hi M.V at_ size:=⟨_,rfl⟩
  have hle:en≤size-8:=by rw [hen];exact Pb _ _ _
  obtain ⟨b,hb⟩:∃ b,b=Fm M.V at_ size:=⟨_,rfl⟩
  have hbl:b.length≤65536:=by rw [hb];unfold Fm;rw [List.length_take,← hen];omega
  have hseen:Ih M.V M ((at_+8:Nat):Int) en=b:=by rw [hb];unfold Fm;rw [← hen];exact Ro ω
  have HBV:=hid hb
  have HEN:=hid hen.symm
  clear hg0 hb hen
  go_enter Tryz.func60,Tryz.ntmps60
  iterate 3 go_step
  refine AW (N:=43) (l:=[(0,π lg)]) ⟨rfl,(by intro x hx;simp only [List.mem_cons,List.not_mem_nil,or_false] at hx;rcases hx with rfl<;>rfl),rfl⟩ fun a2 h1=>?_
  refine mv h1 rfl fun _ h3=>?_
  refine mv h3 rfl fun _ h5=>?_
  iterate 4 go_step
  have HG1:=hid (HG0.out.mono (Below.refl _ _).drew)
  refine wp_region_held_drew (S:=fun w'=>Blk w' lg 101 (NH g at_ size)) κ HG1.out.l (fun hS1=>?_)
  refine Aj hS1 h5 0 rfl rfl (by decide) (fr rfl) κ κ κ (fun _ _ _ _ h=>h) (π lg) (Or.inl ⟨Eq.refl true,fun w1 hSw=>(by show (execOp _ (⟨_,.move (.tmp 0),_,_,_,_⟩:Oper)).run _ _=_;exact (by unfold execOp;simp only [h5.ev 0 rfl];exact rfl))⟩) fun a8 h7=>?_
  refine Aj hS1 h7 1 rfl rfl (by decide) (fr rfl) κ κ κ (fun _ _ _ _ h=>h) (π lg) (Or.inl ⟨Eq.refl true,fun w1 hSw=>(by show (execOp _ (⟨_,.nilCheck (.tmp 10),_,_,_,_⟩:Oper)).run _ _=_;exact (by unfold execOp;simp only [h7.ev 10 rfl];exact rfl))⟩) fun a10 h9=>?_
  refine Aj hS1 h9 2 rfl rfl (by decide) (fr rfl) κ κ κ (fun _ _ _ _ h=>h) (π lg) (Or.inl ⟨Eq.refl true,fun w1 hSw=>(by show (execOp _ (⟨_,.fieldAddr 101 (.tmp 11) 0,_,_,_,_⟩:Oper)).run _ _=_;exact (by unfold execOp;simp only [h9.ev 11 rfl];exact Ac (Fg (lg) _)))⟩) fun a12 h11=>?_
  refine Aj hS1 h11 3 rfl rfl (by decide) (fr rfl) κ κ κ (fun _ _ _ _ h=>h) (π g) (Or.inl ⟨Eq.refl true,fun w1 hSw=>(by show (execOp _ (⟨_,.load 59 (.tmp 12),_,_,_,_⟩:Oper)).run _ _=_;exact (by unfold execOp;simp only [h11.ev 12 rfl];exact Ac (GJ (hSw.cell (i:=0) (by show 0<3;omega)))))⟩) fun a14 h13=>?_
  refine Aj hS1 h13 4 rfl rfl (by decide) (fr rfl) κ κ κ (fun _ _ _ _ h=>h) (π lg) (Or.inl ⟨Eq.refl true,fun w1 hSw=>(by show (execOp _ (⟨_,.move (.tmp 0),_,_,_,_⟩:Oper)).run _ _=_;exact (by unfold execOp;simp only [h13.ev 0 rfl];exact rfl))⟩) fun a16 h15=>?_
  refine Aj hS1 h15 5 rfl rfl (by decide) (fr rfl) κ κ κ (fun _ _ _ _ h=>h) (π lg) (Or.inl ⟨Eq.refl true,fun w1 hSw=>(by show (execOp _ (⟨_,.nilCheck (.tmp 14),_,_,_,_⟩:Oper)).run _ _=_;exact (by unfold execOp;simp only [h15.ev 14 rfl];exact rfl))⟩) fun a18 h17=>?_
  refine Aj hS1 h17 6 rfl rfl (by decide) (fr rfl) κ κ κ (fun _ _ _ _ h=>h) (.pointer (some ⟨lg,1,none⟩)) (Or.inl ⟨Eq.refl true,fun w1 hSw=>(by show (execOp _ (⟨_,.fieldAddr 101 (.tmp 15) 1,_,_,_,_⟩:Oper)).run _ _=_;exact (by unfold execOp;simp only [h17.ev 15 rfl];exact Ac (Is (lg) _)))⟩) fun a20 h19=>?_
  refine Aj hS1 h19 7 rfl rfl (by decide) (fr rfl) κ κ κ (fun _ _ _ _ h=>h) (ν (at_:Int)) (Or.inl ⟨Eq.refl true,fun w1 hSw=>(by show (execOp _ (⟨_,.load 3 (.tmp 16),_,_,_,_⟩:Oper)).run _ _=_;exact (by unfold execOp;simp only [h19.ev 16 rfl];exact Ac (BN (hSw.cell (i:=1) (by show 1<3;omega)))))⟩) fun a22 h21=>?_
  refine Aj hS1 h21 8 rfl rfl (by decide) (fr rfl) κ κ κ (fun _ _ _ _ h=>h) (ν ((at_+8:Nat):Int)) (Or.inl ⟨Eq.refl true,fun w1 hSw=>(by show (execOp _ (⟨_,.binOp .add 3 (.tmp 17) (.const (ν 8)) 3,_,_,_,_⟩:Oper)).run _ _=_;exact (by unfold execOp;simp only [h21.ev 17 rfl];exact Ac (NM _ _ _ _ _ ω ω ω _)))⟩) fun a24 h23=>?_
  refine Aj hS1 h23 9 rfl rfl (by decide) (fr rfl) κ κ κ (fun _ _ _ _ h=>h) (π lg) (Or.inl ⟨Eq.refl true,fun w1 hSw=>(by show (execOp _ (⟨_,.move (.tmp 0),_,_,_,_⟩:Oper)).run _ _=_;exact (by unfold execOp;simp only [h23.ev 0 rfl];exact rfl))⟩) fun a26 h25=>?_
  refine AE 10 rfl rfl κ fun K hK=>DA h25 rfl (by decide) (fr rfl) (fun args=>cF Tryz.func90 (args:=args) (w:=_)) rfl #[π lg] (by simp only [List.map_toArray,List.map_cons,List.map_nil,h25.ev 19 rfl]) (R:=fun v w'=>v=ν (en:Int)∧Below w.drew.heap.size w.drew w') ((by have z:=Aal HG1.out hok;rw [HEN.out] at z;exact z)) fun a28 v2 w2 r2 h27=>hK _ _ (HG1.out.l.mono r2.2) fun hS2=>?_
  clear hK K
  obtain ⟨rfl,b2⟩:=r2
  have HG2:=hid (HG1.out.mono b2);have B2:Hid (Below w.heap.size w w2):=hid ((Below.refl _ w).drew.trans b2);clear b2
  refine AE 11 rfl rfl κ fun K hK=>DA h27 rfl (by decide) (fr rfl) (fun args=>cF Tryz.func65 (args:=args) (w:=_)) rfl #[π g,ν ((at_+8:Nat):Int),ν (en:Int)] (by simp only [List.map_toArray,List.map_cons,List.map_nil,h27.ev 13 rfl,h27.ev 18 rfl,h27.ev 20 rfl]) (R:=fun v w'=>∃ a c,v=.tuple #[.slice a (Ih M.V M ((at_+8:Nat):Int) en).length c,ν (FZ M ((at_+8:Nat):Int) en)]∧Ca w' w2.heap.size a c (Ih M.V M ((at_+8:Nat):Int) en)∧Below w2.heap.size w2 w') ((YA HG2.out.m ((at_+8:Nat):Int) en (by unfold ED;omega) (by unfold ED;omega)).mono fun e w' q=>by obtain ⟨x,y,q1,q2,q3⟩:=q;exact ⟨_,q1,x,y,rfl,q2,q3⟩) fun a30 v3 w3 r3 h29=>hK _ _ (by obtain ⟨x,y,_,_,q⟩:=r3;exact HG2.out.l.mono q) fun hS3=>?_
  clear hK K
  obtain ⟨ba,bc,rfl,o3,b3⟩:=r3
  rw [hseen] at o3 h29
  have HG3:=hid (HG2.out.mono b3);have HB3:=hid (Own.low o3 B2.out.size);have B3:=hid (Ae B2.out b3);clear o3 b3
  refine Aj hS3 h29 12 rfl rfl (by decide) (fr rfl) κ κ κ (fun _ _ _ _ h=>h) (.tuple #[.slice ba b.length bc,ν (FZ M ((at_+8:Nat):Int) en)]) (Or.inl ⟨Eq.refl true,fun w1 hSw=>(by show (execOp _ (⟨_,.move (.tmp 21),_,_,_,_⟩:Oper)).run _ _=_;exact (by unfold execOp;simp only [h29.ev 21 rfl];exact rfl))⟩) fun a32 h31=>?_
  refine Aj hS3 h31 13 rfl rfl (by decide) (fr rfl) κ κ κ (fun _ _ _ _ h=>h) (.slice ba b.length bc) (Or.inl ⟨Eq.refl true,fun w1 hSw=>(by show (execOp _ (⟨_,.extract (.tmp 9) 0,_,_,_,_⟩:Oper)).run _ _=_;exact (by unfold execOp;simp only [h31.ev 9 rfl];exact rfl))⟩) fun a34 h33=>?_
  refine Aj hS3 h33 14 rfl rfl (by decide) (fr rfl) κ κ κ (fun _ _ _ _ h=>h) (ν (FZ M ((at_+8:Nat):Int) en)) (Or.inl ⟨Eq.refl true,fun w1 hSw=>(by show (execOp _ (⟨_,.extract (.tmp 9) 1,_,_,_,_⟩:Oper)).run _ _=_;exact (by unfold execOp;simp only [h33.ev 9 rfl];exact rfl))⟩) fun a36 h35=>?_
  refine Aj hS3 h35 15 rfl rfl (by decide) (fr rfl) κ κ κ (fun _ _ _ _ h=>h) (.slice ba b.length bc) (Or.inl ⟨Eq.refl true,fun w1 hSw=>(by show (execOp _ (⟨_,.assign (.tmp 22),_,_,_,_⟩:Oper)).run _ _=_;exact (by unfold execOp;simp only [h35.ev 22 rfl];exact rfl))⟩) fun a38 h37=>?_
  refine Aj hS3 h37 16 rfl rfl (by decide) (fr rfl) κ κ κ (fun _ _ _ _ h=>h) (ν (FZ M ((at_+8:Nat):Int) en)) (Or.inl ⟨Eq.refl true,fun w1 hSw=>(by show (execOp _ (⟨_,.assign (.tmp 23),_,_,_,_⟩:Oper)).run _ _=_;exact (by unfold execOp;simp only [h37.ev 23 rfl];exact rfl))⟩) fun a40 h39=>?_
  refine wpAnyH_done κ ?_ _
  refine h39.sk [4,3,2,0] rfl fun h41=>?_
  iterate 3 go_step
  refine h41.sk [2,3,4,0] rfl fun h42=>?_
  refine wp_loop (I:=fun a' w'=>∃ (u k:Nat) (ra:Option Addr) (rc:Nat) (rs:List (Option Addr×Nat×List PtM)),u≤b.length∧Kn 43 [(2,.slice ra rs.length rc),(3,ν (u:Int)),(4,.slice ba b.length bc),(0,π lg)] a'∧LogP w' lg g v d p at_ size M∧Ca w' w.heap.size ba bc b∧RecsP w' w.heap.size ra rc rs∧Below w.heap.size w w'∧EJ b=Hd b k u (rs.map (·.2.2))∧b.length-u<k∧rs.length≤u) (μ:=fun a' _=>b.length-(intOf (a'.eval (.tmp 3))).toNat) ⟨0,b.length+1,none,0,[],Nat.zero_le _,h42,HG3.out,HB3.out,RecsP.nil _ _,B3.out,rfl,ω,Nat.le_refl _⟩ ?_
  clear HG3 HB3 B3 h42
  rintro aL wL ⟨u,k,ra,rc,rs,hu,hK,hG,hB,hRS,hBL,hrd,huk,hru⟩
  have HG:=hid hG;have HB:=hid hB;have HRS:=hid hRS;have HBL:=hid hBL;have HRD:=hid hrd;clear hG hB hRS hBL hrd
  iterate 4 go_step
  refine mv hK rfl fun _ h43=>?_
  refine mv h43 rfl fun _ h45=>?_
  obtain ⟨dp,hsl,hrow⟩:=Aez HB.out.row u hu
  have hyl:(b.drop u).length=b.length-u:=by rw [List.length_drop]
  refine wv h45 rfl rfl rfl rfl (.slice dp (b.length-u) (bc-u)) (by unfold execOp;simp only [Option.map_some,Option.map_none,h45.ev 25 rfl,h45.ev 26 rfl];exact Ac (hsl _)) fun a48 h47=>?_
  refine AN h47 (wn rfl) rfl (by decide) (fr rfl) (fun args=>cF Tryz.func91 (args:=args) (w:=_)) rfl #[.slice dp (b.length-u) (bc-u)] (by simp only [List.map_toArray,List.map_cons,List.map_nil,h47.ev 27 rfl]) (R:=fun v w'=>∃ la lc,v=.tuple #[.slice la (Ci (b.drop u)).1.length lc,ν (Ci (b.drop u)).2.1,ν (Ci (b.drop u)).2.2]∧BG w' wL.heap.size la lc (Ci (b.drop u)).1∧Below wL.heap.size wL w') ((by have z:=So hrow ω;rw [hyl] at z;exact z)) fun a50 v5 w5 r5 h49=>?_
  obtain ⟨la,lc,rfl,o5,b5⟩:=r5
  obtain ⟨D,hD⟩:∃ D,D=Ci (b.drop u):=⟨_,rfl⟩
  rw [← hD] at o5 h49
  have HG5:=hid (HG.out.mono b5);have HB5:=hid (Own.mono HB.out b5);have HRS5:=hid (HRS.out.mono b5);have HO5:=hid (Own.low o5 HBL.out.size);have HBL5:=hid (Ae HBL.out b5);have HDD:=hid hD;clear o5 b5 hD
  refine mv h49 rfl fun _ h51=>?_
  refine wv h51 rfl rfl rfl rfl (.slice la D.1.length lc) (by unfold execOp;simp only [h51.ev 24 rfl];exact rfl) fun a54 h53=>?_
  refine wv h53 rfl rfl rfl rfl (ν D.2.1) (by unfold execOp;simp only [h53.ev 24 rfl];exact rfl) fun a56 h55=>?_
  refine wv h55 rfl rfl rfl rfl (ν D.2.2) (by unfold execOp;simp only [h55.ev 24 rfl];exact rfl) fun a58 h57=>?_
  refine mv h57 rfl fun _ h59=>?_
  refine mv h59 rfl fun _ h61=>?_
  refine mv h61 rfl fun _ h63=>?_
  refine h63.sk [8,7,6,2,3,4,0] rfl fun h65=>?_
  iterate 4 go_step
  obtain ⟨k,rfl⟩:∃ j,k=j+1:=⟨k-1,ω⟩
  have HR1:Hid (EJ b=if D.2.2=0 then Hd b k (u+D.2.1.toNat) (rs.map (·.2.2)++[D.1]) else (rs.map (·.2.2),u)):=hid (by rw [HRD.out,HDD.out];rfl)
  by_cases hD0:D.2.2=0
  · have hbad:(D.2.2 != 0)=false:=by rw [hD0];rfl
    obtain ⟨n,hn,hn1,hn2⟩:=LZ (xs:=b.drop u) (by rw [← HDD.out];exact hD0)
    rw [← HDD.out] at hn
    rw [hyl] at hn2
    have hbase:lg<w.heap.size∧g<w.heap.size∧v<w.heap.size∧d<w.heap.size∧p<w.heap.size:=hbase0
    rw [hn] at h65
    iterate 2 go_step
    refine mv h65 rfl fun _ h66=>?_
    refine wv h66 rfl rfl rfl rfl (.bool false) (by unfold execOp;simp only [h66.ev 32 rfl];exact Ac (QD _ _ _ _ _ hbad)) fun a69 h68=>?_
    refine h68.sk [33,8,7,6,2,3,4,0] rfl fun h70=>?_
    iterate 3 go_step
    refine wp_cond (t:=false) (h70.ev 33 rfl) ?_
    simp only [Bool.false_eq_true,if_false]
    refine h70.sk [8,7,6,2,3,4,0] rfl fun h71=>?_
    iterate 5 go_step
    refine mv h71 rfl fun _ h72=>?_
    refine mv h72 rfl fun _ h74=>?_
    refine wv h74 rfl rfl rfl rfl (.slice (some ⟨w5.heap.size,0,none⟩) 1 1) (by unfold execOp;simp only [List.map_toArray,List.map_cons,List.map_nil,h74.ev 37 rfl];exact Ac (Xr _ _ _ _)) fun a77 h76=>?_
    obtain ⟨w6,hw6⟩:∃ x,x=w5.alloc (.cells #[.slice la D.1.length lc] 68):=⟨_,rfl⟩
    have b6:Below w5.heap.size w5 w6:=by rw [hw6];exact Cq _ _
    have R6:Row w6 1 (some ⟨w5.heap.size,0,none⟩) 1 1 [.slice la D.1.length lc]:=by rw [hw6];exact WG w5 _ _
    have HG6:=hid (HG5.out.mono b6);have HB6:=hid (Own.mono HB5.out b6);have HRS6:=hid (HRS5.out.mono b6);have HO6:=hid (Own.mono HO5.out b6);have HBL6:=hid (Ae HBL5.out b6);have HR6:=hid R6;clear b6 R6
    rw [← hw6];clear hw6
    refine CF rfl (.tmp 36) (.tmp 38) rfl Agz w.heap.size (h76.ev 36 rfl) (h76.ev 38 rfl) HRS6.out.o HR6.out (by intro x hx;simp only [List.mem_cons,List.not_mem_nil,or_false] at hx;subst hx;rfl) ω ω HBL6.out.size ?_
    intro ra2 rc2 w7 o7 g7 b7
    refine AW (h76.put (d:=39) (by decide) (fr rfl) (.slice ra2 (rs.length+1) rc2)) fun a79 h78=>?_
    have HG7:=hid (HG6.out.below b7 hbase);have HB7:=hid (MH HB6.out HRS6.out.o (by decide) g7);have HBL7:=hid (HBL6.out.trans b7)
    have HRS7:Hid (RecsP w7 w.heap.size ra2 rc2 (rs++[(la,lc,D.1)])):=hid ⟨by rw [List.length_append,List.map_append];exact o7,fun r hr=>by rcases List.mem_append.1 hr with q | q;exact MH (HRS6.out.i r q) HRS6.out.o (by decide) g7;rw [List.mem_singleton.1 q];exact MH HO6.out HRS6.out.o (by decide) g7⟩
    clear o7 g7 b7
    refine h78.sk [39,38,37,36,8,7,6,3,4,0] rfl fun h80=>?_
    refine mv h80 rfl fun _ h81=>?_
    refine h81.sk [2,8,7,6,3,4,0] rfl fun h83=>?_
    iterate 4 go_step
    refine mv h83 rfl fun _ h84=>?_
    refine mv h84 rfl fun _ h86=>?_
    refine wv h86 rfl rfl rfl rfl (ν ((u+n:Nat):Int)) (by unfold execOp;simp only [h86.ev 40 rfl,h86.ev 41 rfl];exact Ac (NM _ _ _ _ _ ω ω ω _)) fun a89 h88=>?_
    refine h88.sk [42,41,40,2,8,7,6,4,0] rfl fun h90=>?_
    refine mv h90 rfl fun _ h91=>?_
    refine h91.sk [3,2,8,7,6,4,0] rfl fun h93=>?_
    iterate 2 go_step
    refine ⟨⟨u+n,k,ra2,rc2,rs++[(la,lc,D.1)],ω,?_,HG7.out,HB7.out,HRS7.out,HBL7.out,?_,ω,by rw [List.length_append];show rs.length+1≤_;omega⟩,?_⟩
    · rw [List.length_append];exact h93.subs rfl
    · rw [HR1.out,if_pos hD0,hn,Int.toNat_natCast,List.map_append];rfl
    · rw [h93.ev 3 rfl,hK.ev 3 rfl];simp [intOf];omega
  · have hbad:(D.2.2 != 0)=true:=by simp [bne,hD0]
    iterate 2 go_step
    refine mv h65 rfl fun _ h94=>?_
    refine wv h94 rfl rfl rfl rfl (.bool true) (by unfold execOp;simp only [h94.ev 32 rfl];exact Ac (QD _ _ _ _ _ hbad)) fun a97 h96=>?_
    refine h96.sk [33,8,7,6,2,3,4,0] rfl fun h98=>?_
    iterate 3 go_step
    refine wp_cond (t:=true) (h98.ev 33 rfl) ?_
    simp only [if_true]
    refine h98.sk [8,7,6,2,3,4,0] rfl fun h99=>?_
    iterate 2 go_step
    refine mv h99 rfl fun _ h100=>?_
    refine mv h100 rfl fun _ h102=>?_
    refine h102.sk [35,34,8,7,6,3,4,0] rfl fun h104=>?_
    refine mv h104 rfl fun _ h105=>?_
    refine h105.sk [2,35,34,8,7,6,4,0] rfl fun h107=>?_
    refine mv h107 rfl fun _ h108=>?_
    refine h108.sk [3,2,8,7,6,4,0] rfl fun h110=>?_
    iterate 4 go_step
    simp only [Exit.then,Exit.inBlock]
    exact Agd h110.defs (h110.known (2,.slice ra rs.length rc) (by simp)) (h110.known (3,ν (u:Int)) (by simp)) (HR1.out.trans (if_neg hD0)) HBV.out HRS5.out HBL5.out
end
section
theorem Hm {P:Program} {fn:Func} {R:Ending→World→Prop} {a:Act} {w:World} {v:Value} (hv:(results fn a.tmps).run P w=.ok v w) (hd:a.defers=[]) (h:R (.returned v) w):bodyPost P fn R .normal a w:=⟨hd,v,hv,h⟩
theorem Hn (p:PtM) (w:World):(Instr.buildSlice 68 1 #[(0,ptV p)]).run Tryz.prog w=.ok (.slice (some ⟨w.heap.size,0,none⟩) ([p]:List PtM).length 1) (w.alloc (.cells (ptC p).toArray 127)):=by
  have u3:=υ68
  have u9:=υ127
  have z3:=Tryz.sizeOf127
  unfold ptV ptC Aq
  go_simp
theorem PG (w:World) (p:PtM):Fl (w.alloc (.cells (ptC p).toArray 127)) (some ⟨w.heap.size,0,none⟩) 1 [p]:=by
  refine ⟨rfl,Nat.le_refl _,by unfold maxLen;omega,fun h=>by (cases h),fun _=>⟨w.heap.size,0,rfl,by simp,fun j u hu=>?_⟩⟩
  have hh:=heap_alloc_new w (.cells (ptC p).toArray 127)
  unfold World.cell?
  rw [show (⟨w.heap.size,0+j,none⟩:Addr).block=w.heap.size from rfl,hh]
  simpa using hu
def Gz (M:MemM) (at_:Nat) (n:Int):MemM:=Di M [⟨(at_:Int),AC [] n 8⟩]
theorem Wx (n:Int):(AC [] n 8).length≤8:=Ce [] n 8
theorem Nd {w:World} {lg g v d p at_ size:Nat} {M:MemM} (hg0:LogP w lg g v d p at_ size M) (n:Int) (hn:n≤1000000) (ha:at_≤1048576) :
    Calls Tryz.prog 62 #[π lg,ν n] w fun e w'=>∃ x,e=.returned x∧LogP w' lg g v d p at_ size (Gz M at_ n)∧Turns (XM v d p) w w':=by
  have HG0:=hid hg0
  have hp64a:okI (⟨(at_:Int),AC [] n 8⟩:PtM).at_:=by unfold okI;show _≤(at_:Int)∧(at_:Int)≤_;omega
  have hpda:(⟨(at_:Int),AC [] n 8⟩:PtM).d.length≤1000000:=by have:=Wx n;show (AC [] n 8).length≤_;omega
  clear hg0
  go_enter Tryz.func62,Tryz.ntmps62
  obtain ⟨ac,hac⟩:∃ x:Act,x={ tmps:=#[π lg,ν n,undef,undef,undef,undef,undef,undef,undef,undef,undef,undef,undef,undef,undef],defers:=[] }:=⟨_,rfl⟩
  have h0:Kn 15 [(0,π lg),(1,ν n)] ac:=⟨by rw [hac];rfl,(by intro x hx;rw [hac];simp only [List.mem_cons,List.not_mem_nil,or_false] at hx;rcases hx with rfl | rfl<;>rfl),by rw [hac]⟩
  rw [← hac]
  clear hac
  have HG1:=hid (HG0.out.mono (Below.refl _ _).drew);have HT1:Hid (Turns (XM v d p) w w.drew):=hid (Turns.refl _ _).drew
  refine wp_region_held_drew (S:=fun w'=>Blk w' lg 101 (NH g at_ size)∧True) κ ⟨HG1.out.l,trivial⟩ (fun hS1=>?_)
  refine Aj hS1 h0 0 rfl rfl (by decide) (fr rfl) κ κ κ (fun _ _ _ _ h=>h) (π lg) (Or.inl ⟨Eq.refl true,fun w1 hSw=>(by show (execOp _ (⟨_,.move (.tmp 0),_,_,_,_⟩:Oper)).run _ _=_;exact (by unfold execOp;simp only [h0.ev 0 rfl];exact rfl))⟩) fun a2 h1=>?_
  refine Aj hS1 h1 1 rfl rfl (by decide) (fr rfl) κ κ κ (fun _ _ _ _ h=>h) (π lg) (Or.inl ⟨Eq.refl true,fun w1 hSw=>(by show (execOp _ (⟨_,.move (.tmp 0),_,_,_,_⟩:Oper)).run _ _=_;exact (by unfold execOp;simp only [h1.ev 0 rfl];exact rfl))⟩) fun a4 h3=>?_
  refine Aj hS1 h3 2 rfl rfl (by decide) (fr rfl) κ κ κ (fun _ _ _ _ h=>h) (π lg) (Or.inl ⟨Eq.refl true,fun w1 hSw=>(by show (execOp _ (⟨_,.nilCheck (.tmp 5),_,_,_,_⟩:Oper)).run _ _=_;exact (by unfold execOp;simp only [h3.ev 5 rfl];exact rfl))⟩) fun a6 h5=>?_
  refine Aj hS1 h5 3 rfl rfl (by decide) (fr rfl) κ κ κ (fun _ _ _ _ h=>h) (.pointer (some ⟨lg,1,none⟩)) (Or.inl ⟨Eq.refl true,fun w1 hSw=>(by show (execOp _ (⟨_,.fieldAddr 101 (.tmp 6) 1,_,_,_,_⟩:Oper)).run _ _=_;exact (by unfold execOp;simp only [h5.ev 6 rfl];exact Ac (Is (lg) _)))⟩) fun a8 h7=>?_
  refine Aj hS1 h7 4 rfl rfl (by decide) (fr rfl) κ κ κ (fun _ _ _ _ h=>h) (ν (at_:Int)) (Or.inl ⟨Eq.refl true,fun w1 hSw=>(by show (execOp _ (⟨_,.load 3 (.tmp 7),_,_,_,_⟩:Oper)).run _ _=_;exact (by unfold execOp;simp only [h7.ev 7 rfl];exact Ac (BN (hSw.1.cell (i:=1) (by show 1<3;omega)))))⟩) fun a10 h9=>?_
  refine Aj hS1 h9 5 rfl rfl (by decide) (fr rfl) κ κ κ (fun _ _ _ _ h=>h) (ν n) (Or.inl ⟨Eq.refl true,fun w1 hSw=>(by show (execOp _ (⟨_,.move (.tmp 1),_,_,_,_⟩:Oper)).run _ _=_;exact (by unfold execOp;simp only [h9.ev 1 rfl];exact rfl))⟩) fun a12 h11=>?_
  refine AE 6 rfl rfl κ fun K hK=>DA h11 rfl (by decide) (fr rfl) (fun args=>cF Tryz.func87 (args:=args) (w:=_)) rfl #[.slice none 0 0,ν n,ν 8] (by simp only [List.map_toArray,List.map_cons,List.map_nil,h11.ev 9 rfl];rfl) (R:=fun v w'=>∃ a c,v=.slice a (AC [] n 8).length c∧Ca w' w.drew.heap.size a c (AC [] n 8)∧Below w.drew.heap.size w.drew w') ((Da none 0 [] n 8 w.drew (Row.nil _ _) (by simp) ω).mono fun e w' q=>by obtain ⟨a2,c2,q1,q2,q3⟩:=q;exact ⟨_,q1,a2,c2,rfl,q2,q3⟩) fun a14 v2 w2 r2 h13=>hK _ _ (by obtain ⟨x,y,_,_,q⟩:=r2;exact ⟨hS1.1.mono q,trivial⟩) fun hS2=>?_
  clear hK K
  obtain ⟨ba,bc,rfl,o2,b2⟩:=r2
  have HG2:=hid (HG1.out.mono b2);have HT2:Hid (Turns (XM v d p) w w2):=hid (HT1.out.trans (Turns.of_below b2));have hst:=GT o2.row;clear b2
  refine AE 7 rfl rfl κ fun K hK=>Ds (w':=w2) h13 rfl (by decide) (fr rfl) (Aq (AC [] n 8)) (by show (execOp _ (⟨_,.convert 74 9 (.tmp 10),_,_,_,_⟩:Oper)).run _ _=_;exact (by unfold execOp;simp only [h13.ev 10 rfl];exact Ac hst)) fun a16 h15=>hK _ _ (hS2) fun hS3=>?_
  clear hK K
  refine Aj hS3 h15 8 rfl rfl (by decide) (fr rfl) κ κ κ (fun _ _ _ _ h=>h) (ptV ⟨(at_:Int),AC [] n 8⟩) (Or.inl ⟨Eq.refl true,fun w1 hSw=>(by show (execOp _ (⟨_,.build 127 #[(0,(.tmp 8)),(1,(.tmp 11))],_,_,_,_⟩:Oper)).run _ _=_;exact (by unfold execOp;simp only [List.map_toArray,List.map_cons,List.map_nil,h15.ev 8 rfl,h15.ev 11 rfl];exact Ac (Jy _ _ _)))⟩) fun a18 h17=>?_
  obtain ⟨wsa,hwsa⟩:∃ x,x=w2.alloc (.cells (ptC ⟨(at_:Int),AC [] n 8⟩).toArray 127):=⟨_,rfl⟩
  have bsa:Below w2.heap.size w2 wsa:=by rw [hwsa];exact Cq _ _
  have rsa:Fl wsa (some ⟨w2.heap.size,0,none⟩) 1 [⟨(at_:Int),AC [] n 8⟩]:=by rw [hwsa];exact PG _ _
  refine AE 9 rfl rfl κ fun K hK=>Ds (w':=wsa) h17 rfl (by decide) (fr rfl) (.slice (some ⟨w2.heap.size,0,none⟩) ([⟨(at_:Int),AC [] n 8⟩]:List PtM).length 1) (by show (execOp _ (⟨_,.buildSlice 68 1 #[(0,(.tmp 12))],_,_,_,_⟩:Oper)).run _ _=_;exact (by unfold execOp;simp only [List.map_toArray,List.map_cons,List.map_nil,h17.ev 12 rfl];rw [hwsa];exact Ac (Hn _ _))) fun a20 h19=>hK _ _ (⟨hS3.1.mono bsa,trivial⟩) fun hSsa=>?_
  clear hK K
  have HGsa:=hid (HG2.out.mono bsa);have HTsa:Hid (Turns (XM v d p) w wsa):=hid (HT2.out.trans (Turns.of_below bsa));have hnwa:=HG2.out.lt;have HRsa:=hid rsa;clear hwsa rsa bsa
  refine AE 10 rfl rfl κ fun K hK=>DA h19 rfl (by decide) (fr rfl) (fun args=>cF Tryz.func61 (args:=args) (w:=_)) rfl #[π lg,.slice (some ⟨w2.heap.size,0,none⟩) ([⟨(at_:Int),AC [] n 8⟩]:List PtM).length 1] (by simp only [List.map_toArray,List.map_cons,List.map_nil,h19.ev 4 rfl,h19.ev 13 rfl]) (R:=fun xv w'=>LogP w' lg g v d p at_ size (Di M [⟨(at_:Int),AC [] n 8⟩])∧Turns (XM v d p) wsa w') ((GL HGsa.out (fun W t=>t.row HRsa.out (fun _ b hb=>by obtain ⟨off,e⟩:=hb;cases e;rintro (e | e | e)<;>omega)) (by intro q hq;rw [List.mem_singleton.1 hq];exact hp64a) (by intro q hq;rw [List.mem_singleton.1 hq];exact hpda) (by show (1:Nat)≤_;omega)).mono fun e w' q=>by obtain ⟨x,q1,q2,q3⟩:=q;exact ⟨x,q1,q2,q3⟩) fun a22 vwa wwa rwa h21=>hK _ _ (⟨rwa.1.l,trivial⟩) fun hSwa=>?_
  clear hK K
  have HGwa:=hid rwa.1;have HTwa:Hid (Turns (XM v d p) w wwa):=hid (HTsa.out.trans rwa.2);clear rwa
  refine wpAnyH_done κ ?_ _
  refine h21.sk [0,1] rfl fun h23=>?_
  exact Hm (results_none rfl _ _ _) h23.defs ⟨_,rfl,HGwa.out,HTwa.out⟩
end
section
theorem Rg (b:List UInt8) (k u:Nat) (acc:List (List PtM)) (hu:u≤b.length):(Hd b k u acc).2≤b.length∧(8*acc.length≤u→8*(Hd b k u acc).1.length≤(Hd b k u acc).2):=by
  induction k generalizing u acc with
  | zero=>exact ⟨hu,fun h=>h⟩
  | succ k ih=>
    unfold Hd
    split
    · next h=>
      obtain ⟨n,hn,h1,h2⟩:=LZ h
      rw [List.length_drop] at h2
      rw [hn,Int.toNat_natCast]
      obtain ⟨q1,q2⟩:=ih (u+n) (acc++[(Ci (b.drop u)).1]) ω
      exact ⟨q1,fun ha=>q2 (by rw [List.length_append];show 8*(acc.length+1)≤_;omega)⟩
    · exact ⟨hu,fun h=>h⟩
theorem Vp (V:List UInt8) (at_ size:Nat):(Fm V at_ size).length≤size-8:=by
  unfold Fm
  rw [List.length_take]
  have:=Pb V at_ size
  omega
theorem YD (V:List UInt8) (at_ size:Nat):(CC V at_ size).2≤size-8:=Nat.le_trans (Rg _ _ 0 [] (Nat.zero_le _)).1 (Vp V at_ size)
theorem Adw (V:List UInt8) (at_ size:Nat):8*(CC V at_ size).1.length≤size-8:=Nat.le_trans ((Rg _ _ 0 [] (Nat.zero_le _)).2 (Nat.le_refl _)) (YD V at_ size)
def Ww (L:List PtM):Prop:=IS L∧(∀ p∈L,p.d.length≤1000000)∧L.length≤64
theorem Yg {xs:List UInt8} (n:Nat) {s:DS} {acc:List PtM} (h:IS acc∧∀ p∈acc,p.d.length≤1000000) {r:List PtM×DS} (hr:DI xs n s acc=some r):(IS r.1∧∀ p∈r.1,p.d.length≤1000000)∧r.1.length=acc.length+n:=by
  induction n generalizing s acc with
  | zero=>cases hr;exact ⟨h,rfl⟩
  | succ n ih=>
    unfold DI at hr
    split at hr
    · cases hr
    · next hq=>
      have h2:=ih ⟨?_,?_⟩ hr
      · refine ⟨h2.1,?_⟩
        rw [h2.2,List.length_append]
        show acc.length+1+n=_
        omega
      · intro p hp
        rcases List.mem_append.1 hp with q | q
        · exact h.1 p q
        · rw [List.mem_singleton.1 q]
          have:=JR xs s 4
          unfold okI
          show _≤((Br xs s 4).1:Int)∧((Br xs s 4).1:Int)≤_
          omega
      · intro p hp
        rcases List.mem_append.1 hp with q | q
        · exact h.2 p q
        · rw [List.mem_singleton.1 q]
          exact Nat.le_trans (IH _ _ _) ω
theorem Aai (xs:List UInt8):Ww (Ci xs).1:=by
  have h0:Ww ([]:List PtM):=⟨fun p h=>(by cases h),fun p h=>(by cases h),Nat.zero_le _⟩
  unfold Ci
  split
  · exact h0
  · next q=>
    cases hg:DI xs (Br xs ⟨0,false⟩ 2).1 (Br xs ⟨0,false⟩ 2).2 [] with
    | none=>exact h0
    | some r=>
      obtain ⟨h1,h2⟩:=Yg _ ⟨fun p h=>(by cases h),fun p h=>(by cases h)⟩ hg
      show Ww (JA xs r.1 r.2).1
      unfold JA
      split
      · exact h0
      · split
        · exact h0
        · split
          · exact ⟨h1.1,h1.2,by rw [h2];show 0+_≤64;omega⟩
          · exact h0
theorem Zi (b:List UInt8) (k u:Nat) (acc:List (List PtM)) (h:∀ L∈acc,Ww L):∀ L∈(Hd b k u acc).1,Ww L:=by
  induction k generalizing u acc with
  | zero=>exact h
  | succ k ih=>
    unfold Hd
    split
    · refine ih _ _ fun L hL=>?_
      rcases List.mem_append.1 hL with q | q
      · exact h L q
      · rw [List.mem_singleton.1 q];exact Aai _
    · exact h
theorem Aa4 {V:List UInt8} {at_ size:Nat} {L:List PtM} (h:L∈(CC V at_ size).1):Ww L:=Zi _ _ _ [] (fun L h=>by cases h) L h
theorem Row.below {w w':World} {sz:Nat} {a:Option Addr} {n c:Nat} {cs:List Value} (h:Row w sz a n c cs) (b:Below w.heap.size w w'):Row w' sz a n c cs:=h.mono b
theorem Adv {w:World} {g off:Nat} {a:Option Addr} {n c:Nat} (h:w.cell? ⟨g,off,none⟩=some (.slice a n c)):(Instr.loadAt 68 (.pointer (some ⟨g,off,none⟩))).run Tryz.prog w=.ok (.slice a n c) w:=by
  have u3:=υ68
  have a3:=Tryz.isAgg68
  have z3:=Tryz.sizeOf68
  go_simp
theorem Ahl (b off n c j:Nat) (hj:j<n) (w:World):(Instr.indexAt 122 (.slice (some ⟨b,off,none⟩) n c) (ν (j:Int))).run Tryz.prog w=.ok (.pointer (some ⟨b,off+j,none⟩)) w:=by
  have u3:=υ122
  have u9:=υ68
  have z3:=Tryz.sizeOf68
  have d0:(j:Int)<(n:Int):=ω
  have d1:0≤(j:Int):=ω
  go_simp
theorem Ox {o:Oper} {x:Operand} (ho:o.op=.call { callee:=.builtin .len,args:=#[x],argTypes:=#[122] }) {ρ:Operand→Value} {a:Option Addr} {n c:Nat} (hx:ρ x=.slice a n c) (w:World):(execOp ρ o).run Tryz.prog w=.ok (.value (ν (n:Int))) w:=by
  unfold execOp;rw [ho]
  have u3:=υ122
  simp [resolve,invoke,builtin,hx]
  go_simp
theorem EPt:ElemT Tryz.prog 68 127 2 24:=Qd υ68 (z:=.agg (ptC zPt).toArray) κ rfl ω
def El (M:MemM) (at_ size:Nat) (L:List PtM):Int:=if IK L=0 then (if size-8<(CC M.V at_ size).2+(Ct L).length then 5 else 0) else IK L
def DT (M:MemM) (at_ size:Nat) (L:List PtM):MemM:=if IK L=0∧¬ size-8<(CC M.V at_ size).2+(Ct L).length then Gz (Di M [⟨((at_+8+(CC M.V at_ size).2:Nat):Int),Ct L⟩]) at_ (((CC M.V at_ size).2+(Ct L).length:Nat):Int) else M
def Fu (M:MemM) (at_ size:Nat):MemM:=Gz (Di M (CC M.V at_ size).1.flatten) at_ 0
theorem Aen {w W:World} {lg g v d p at_ size:Nat} {M:MemM} {L:List PtM} {act:Act} {E:Int} (hd:act.defers=[]) (h4:act.tmps[4]? = some (ν E)) (hE:El M at_ size L=E) (hG:LogP W lg g v d p at_ size (DT M at_ size L)) (hT:Turns (XM v d p) w W) :
    bodyPost Tryz.prog Tryz.f31 (fun e w'=>∃ x,e=.returned x∧x=ν (El M at_ size L)∧LogP w' lg g v d p at_ size (DT M at_ size L)∧Turns (XM v d p) w w') .ret act W:=by
  rw [hE]
  exact bodyPost_ret (AK rfl h4) hd ⟨_,rfl,rfl,hG,hT⟩
theorem XN {L:List PtM}:(Ct L).length≤20000:=by
  unfold Ct
  split
  · next h=>
    unfold CY at h
    rw [Bool.and_eq_true,decide_eq_true_iff,List.all_eq_true] at h
    have h1:=Qe L (AC [] L.length 2) (fun p hp=>by have:=h.2 p hp;unfold KF at this;rw [Bool.and_eq_true,decide_eq_true_iff] at this;exact this.2)
    have h2:(AC [] (L.length:Int) 2).length≤([]:List UInt8).length+2:=Ce _ _ 2
    have h3:(Ln (DD L)).length≤(DD L).length+4:=Ce _ _ 4
    unfold Rn
    rw [List.length_append,List.length_replicate]
    have h4:(DD L).length≤(AC [] (L.length:Int) 2).length+262*L.length:=h1
    have h5:([]:List UInt8).length=0:=rfl
    have h6:Bz (Ln (DD L)).length≤7:=by unfold Bz;omega
    omega
  · exact Nat.zero_le _
theorem Vu {w:World} {lg g v d p at_ size:Nat} {M:MemM} (hg0:LogP w lg g v d p at_ size M) (ha:at_≤1048576) :
    Calls Tryz.prog 63 #[π lg] w fun e w'=>∃ x,e=.returned x∧LogP w' lg g v d p at_ size (Gz M at_ 0)∧Turns (XM v d p) w w':=by
  go_enter Tryz.func63,Tryz.ntmps63
  obtain ⟨ac,hac⟩:∃ x:Act,x={ tmps:=#[π lg,undef,undef,undef],defers:=[] }:=⟨_,rfl⟩
  have h0:Kn 4 [(0,π lg)] ac:=⟨by rw [hac];rfl,(by intro x hx;rw [hac];simp only [List.mem_cons,List.not_mem_nil,or_false] at hx;rcases hx with rfl;rfl),by rw [hac]⟩
  rw [← hac]
  clear hac
  iterate 2 go_step
  refine mv h0 rfl fun _ h1=>?_
  refine AN h1 (wn rfl) rfl (by decide) (fr rfl) (fun args=>cF Tryz.func62 (args:=args) (w:=_)) rfl #[π lg,ν 0] (by simp only [List.map_toArray,List.map_cons,List.map_nil,h1.ev 2 rfl];rfl) (R:=fun xv w'=>LogP w' lg g v d p at_ size (Gz M at_ 0)∧Turns (XM v d p) w w') (Nd hg0 0 ω ha) fun a4 v1 w1 r1 h3=>?_
  refine h3.sk [0] rfl fun h5=>?_
  go_step
  exact Hm (results_none rfl _ _ _) h5.defs ⟨_,rfl,r1.1,r1.2⟩
theorem LO {w:World} {lg g v d p at_ size:Nat} {M:MemM} {a:Option Addr} {c:Nat} {L:List PtM} (hg0:LogP w lg g v d p at_ size M) (hok:LogOk at_ size M) (hrow:Fl w a c L) (okP:IS L) (hl:L.length≤1000000) :
    Calls Tryz.prog 31 #[π lg,.slice a L.length c] w fun e w'=>∃ x,e=.returned x∧x=ν (El M at_ size L)∧LogP w' lg g v d p at_ size (DT M at_ size L)∧Turns (XM v d p) w w':=by
  have HG0:=hid hg0
  have hok2:=hok
  obtain ⟨s1,s2,s3,s4⟩:=hok2
  obtain ⟨eb,heb⟩:∃ x,Ct L=x:=⟨_,rfl⟩
  obtain ⟨ee,hee⟩:∃ x,IK L=x:=⟨_,rfl⟩
  obtain ⟨u,hu⟩:∃ x,(CC M.V at_ size).2=x:=⟨_,rfl⟩
  have hul:u≤size-8:=by rw [← hu];exact YD _ _ _
  have hebl:eb.length≤20000:=by rw [← heb];exact XN
  have HEB:=hid heb;have HEE:=hid hee;have HU:=hid hu
  clear hg0 heb hee hu
  go_enter Tryz.func31,Tryz.ntmps31
  iterate 3 go_step
  refine AW (N:=51) (l:=[(0,π lg),(1,.slice a L.length c)]) ⟨rfl,(by intro x hx;simp only [List.mem_cons,List.not_mem_nil,or_false] at hx;rcases hx with rfl | rfl<;>rfl),rfl⟩ fun a2 h1=>?_
  refine mv h1 rfl fun _ h3=>?_
  iterate 5 go_step
  refine mv h3 rfl fun _ h5=>?_
  refine AN h5 (wn rfl) rfl (by decide) (fr rfl) (fun args=>cF Tryz.func59 (args:=args) (w:=_)) rfl #[.slice a L.length c] (by simp only [List.map_toArray,List.map_cons,List.map_nil,h5.ev 10 rfl]) (R:=fun xv w'=>∃ ba bc,xv=.tuple #[.slice ba (Ct L).length bc,ν (IK L)]∧Ca w' w.heap.size ba bc (Ct L)∧Below w.heap.size w w') ((Sr hrow okP ω).mono fun e w' q=>by obtain ⟨x,y,q1,q2,q3⟩:=q;exact ⟨_,q1,x,y,rfl,q2,q3⟩) fun a8 v2 w2 r2 h7=>?_
  obtain ⟨ba,bc,rfl,o2,b2⟩:=r2
  rw [HEB.out] at o2 h7;rw [HEE.out] at h7
  have HG2:=hid (HG0.out.mono b2);have HO2:=hid o2;have HT2:Hid (Turns (XM v d p) w w2):=hid (Turns.of_below b2);have HB2:=hid b2;clear o2 b2
  refine mv h7 rfl fun _ h9=>?_
  refine wv h9 rfl rfl rfl rfl (.slice ba eb.length bc) (by unfold execOp;simp only [h9.ev 9 rfl];exact rfl) fun a12 h11=>?_
  refine wv h11 rfl rfl rfl rfl (ν ee) (by unfold execOp;simp only [h11.ev 9 rfl];exact rfl) fun a14 h13=>?_
  refine mv h13 rfl fun _ h15=>?_
  refine mv h15 rfl fun _ h17=>?_
  refine h17.sk [6,5,4,0,1] rfl fun h19=>?_
  iterate 4 go_step
  by_cases he:ee=0
  · have hbad:(ee != 0)=false:=by rw [he];rfl
    iterate 2 go_step
    refine mv h19 rfl fun _ h20=>?_
    refine wv h20 rfl rfl rfl rfl (.bool false) (by unfold execOp;simp only [h20.ev 14 rfl];exact Ac (QD _ _ _ _ _ hbad)) fun a23 h22=>?_
    refine h22.sk [15,6,5,4,0,1] rfl fun h24=>?_
    iterate 3 go_step
    refine wp_cond (t:=false) (h24.ev 15 rfl) ?_
    simp only [Bool.false_eq_true,if_false]
    refine h24.sk [6,5,4,0,1] rfl fun h25=>?_
    iterate 5 go_step
    refine mv h25 rfl fun _ h26=>?_
    refine AN h26 (wn rfl) rfl (by decide) (fr rfl) (fun args=>cF Tryz.func60 (args:=args) (w:=_)) rfl #[π lg] (by simp only [List.map_toArray,List.map_cons,List.map_nil,h26.ev 18 rfl]) (R:=fun xv w'=>∃ ra rc rs,xv=.tuple #[.slice ra rs.length rc,ν ((CC M.V at_ size).2:Int)]∧rs.map (·.2.2)=(CC M.V at_ size).1∧RecsP w' w2.heap.size ra rc rs∧Below w2.heap.size w2 w') (Rh HG2.out hok) fun a29 v3 w3 r3 h28=>?_
    obtain ⟨ra,rc,rs,rfl,_,_,b3⟩:=r3
    rw [HU.out] at h28
    have HG3:=hid (HG2.out.mono b3);have HO3:=hid (Own.mono HO2.out b3);have HT3:Hid (Turns (XM v d p) w w3):=hid (HT2.out.trans (Turns.of_below b3));have HB3:=hid (Ae HB2.out b3);clear b3
    refine mv h28 rfl fun _ h30=>?_
    refine wv h30 rfl rfl rfl rfl (.slice ra rs.length rc) (by unfold execOp;simp only [h30.ev 17 rfl];exact rfl) fun a33 h32=>?_
    refine wv h32 rfl rfl rfl rfl (ν (u:Int)) (by unfold execOp;simp only [h32.ev 17 rfl];exact rfl) fun a35 h34=>?_
    refine mv h34 rfl fun _ h36=>?_
    refine mv h36 rfl fun _ h38=>?_
    refine h38.sk [8,6,5,4,0,1] rfl fun h40=>?_
    iterate 4 go_step
    by_cases hf:size-8<u+eb.length
    · have hfull:decide (((size-8-u:Nat):Int)<(eb.length:Int))=true:=decide_eq_true ω
      iterate 2 go_step
      refine mv h40 rfl fun _ h41=>?_
      refine wv h41 rfl rfl rfl rfl (ν (eb.length:Int)) (DO rfl (h41.ev 22 rfl) _) fun a44 h43=>?_
      refine mv h43 rfl fun _ h45=>?_
      refine wv h45 rfl rfl rfl rfl (π lg) (by unfold execOp;simp only [h45.ev 24 rfl];exact rfl) fun a48 h47=>?_
      refine wv h47 rfl rfl rfl rfl (.pointer (some ⟨lg,2,none⟩)) (by unfold execOp;simp only [h47.ev 25 rfl];exact Ac (It (lg) _)) fun a50 h49=>?_
      refine wv h49 rfl rfl rfl rfl (ν (size:Int)) (by unfold execOp;simp only [h49.ev 26 rfl];exact Ac (BN (HG3.out.l.cell (i:=2) (by show 2<3;omega)))) fun a52 h51=>?_
      refine wv h51 rfl rfl rfl rfl (ν ((size-8:Nat):Int)) (by unfold execOp;simp only [h51.ev 27 rfl];exact Ac (EX _ _ _ _ _ ω ω ω _)) fun a54 h53=>?_
      refine mv h53 rfl fun _ h55=>?_
      refine wv h55 rfl rfl rfl rfl (ν ((size-8-u:Nat):Int)) (by unfold execOp;simp only [h55.ev 28 rfl,h55.ev 29 rfl];exact Ac (EX _ _ _ _ _ ω ω ω _)) fun a58 h57=>?_
      refine wv h57 rfl rfl rfl rfl (.bool true) (by unfold execOp;simp only [h57.ev 23 rfl,h57.ev 30 rfl];exact Ac (FI _ _ _ _ _ hfull)) fun a60 h59=>?_
      refine h59.sk [31,8,6,5,4,0,1] rfl fun h61=>?_
      iterate 3 go_step
      refine wp_cond (t:=true) (h61.ev 31 rfl) ?_
      simp only [if_true]
      refine h61.sk [8,6,5,4,0,1] rfl fun h62=>?_
      iterate 2 go_step
      refine h62.sk [8,6,5,0,1] rfl fun h63=>?_
      refine mv h63 rfl fun _ h64=>?_
      iterate 4 go_step
      simp only [Exit.then,Exit.inBlock]
      exact Aen h64.defs (h64.known (4,ν 5) (by simp)) (by unfold El;rw [HEE.out,if_pos he,HU.out,HEB.out,if_pos hf]) (by have z:=HG3.out;unfold DT;rw [HU.out,HEB.out,if_neg (fun q=>q.2 hf)];exact z) HT3.out
    · have hfull:decide (((size-8-u:Nat):Int)<(eb.length:Int))=false:=decide_eq_false ω
      have hp64b:okI (⟨((at_+8+u:Nat):Int),eb⟩:PtM).at_:=by unfold okI;show _≤((at_+8+u:Nat):Int)∧((at_+8+u:Nat):Int)≤_;omega
      have hpdb:(⟨((at_+8+u:Nat):Int),eb⟩:PtM).d.length≤1000000:=by show eb.length≤_;omega
      iterate 2 go_step
      refine mv h40 rfl fun _ h66=>?_
      refine wv h66 rfl rfl rfl rfl (ν (eb.length:Int)) (DO rfl (h66.ev 22 rfl) _) fun a69 h68=>?_
      refine mv h68 rfl fun _ h70=>?_
      refine wv h70 rfl rfl rfl rfl (π lg) (by unfold execOp;simp only [h70.ev 24 rfl];exact rfl) fun a73 h72=>?_
      refine wv h72 rfl rfl rfl rfl (.pointer (some ⟨lg,2,none⟩)) (by unfold execOp;simp only [h72.ev 25 rfl];exact Ac (It (lg) _)) fun a75 h74=>?_
      refine wv h74 rfl rfl rfl rfl (ν (size:Int)) (by unfold execOp;simp only [h74.ev 26 rfl];exact Ac (BN (HG3.out.l.cell (i:=2) (by show 2<3;omega)))) fun a77 h76=>?_
      refine wv h76 rfl rfl rfl rfl (ν ((size-8:Nat):Int)) (by unfold execOp;simp only [h76.ev 27 rfl];exact Ac (EX _ _ _ _ _ ω ω ω _)) fun a79 h78=>?_
      refine mv h78 rfl fun _ h80=>?_
      refine wv h80 rfl rfl rfl rfl (ν ((size-8-u:Nat):Int)) (by unfold execOp;simp only [h80.ev 28 rfl,h80.ev 29 rfl];exact Ac (EX _ _ _ _ _ ω ω ω _)) fun a83 h82=>?_
      refine wv h82 rfl rfl rfl rfl (.bool false) (by unfold execOp;simp only [h82.ev 23 rfl,h82.ev 30 rfl];exact Ac (FI _ _ _ _ _ hfull)) fun a85 h84=>?_
      refine h84.sk [31,8,6,5,4,0,1] rfl fun h86=>?_
      iterate 3 go_step
      refine wp_cond (t:=false) (h86.ev 31 rfl) ?_
      simp only [Bool.false_eq_true,if_false]
      refine h86.sk [8,6,5,4,0,1] rfl fun h87=>?_
      iterate 4 go_step
      have HG4:=hid (HG3.out.mono (Below.refl _ _).drew);have HT4:Hid (Turns (XM v d p) w w3.drew):=hid HT3.out.drew;have hst:=GT (Own.mono HO3.out (Below.refl _ _).drew).row
      refine wp_region_held_drew (S:=fun w'=>Blk w' lg 101 (NH g at_ size)∧True) κ ⟨HG4.out.l,trivial⟩ (fun hS4=>?_)
      refine Aj hS4 h87 0 rfl rfl (by decide) (fr rfl) κ κ κ (fun _ _ _ _ h=>h) (π lg) (Or.inl ⟨Eq.refl true,fun w1 hSw=>(by show (execOp _ (⟨_,.move (.tmp 0),_,_,_,_⟩:Oper)).run _ _=_;exact (by unfold execOp;simp only [h87.ev 0 rfl];exact rfl))⟩) fun a89 h88=>?_
      refine Aj hS4 h88 1 rfl rfl (by decide) (fr rfl) κ κ κ (fun _ _ _ _ h=>h) (π lg) (Or.inl ⟨Eq.refl true,fun w1 hSw=>(by show (execOp _ (⟨_,.move (.tmp 0),_,_,_,_⟩:Oper)).run _ _=_;exact (by unfold execOp;simp only [h88.ev 0 rfl];exact rfl))⟩) fun a91 h90=>?_
      refine Aj hS4 h90 2 rfl rfl (by decide) (fr rfl) κ κ κ (fun _ _ _ _ h=>h) (π lg) (Or.inl ⟨Eq.refl true,fun w1 hSw=>(by show (execOp _ (⟨_,.nilCheck (.tmp 33),_,_,_,_⟩:Oper)).run _ _=_;exact (by unfold execOp;simp only [h90.ev 33 rfl];exact rfl))⟩) fun a93 h92=>?_
      refine Aj hS4 h92 3 rfl rfl (by decide) (fr rfl) κ κ κ (fun _ _ _ _ h=>h) (.pointer (some ⟨lg,1,none⟩)) (Or.inl ⟨Eq.refl true,fun w1 hSw=>(by show (execOp _ (⟨_,.fieldAddr 101 (.tmp 34) 1,_,_,_,_⟩:Oper)).run _ _=_;exact (by unfold execOp;simp only [h92.ev 34 rfl];exact Ac (Is (lg) _)))⟩) fun a95 h94=>?_
      refine Aj hS4 h94 4 rfl rfl (by decide) (fr rfl) κ κ κ (fun _ _ _ _ h=>h) (ν (at_:Int)) (Or.inl ⟨Eq.refl true,fun w1 hSw=>(by show (execOp _ (⟨_,.load 3 (.tmp 35),_,_,_,_⟩:Oper)).run _ _=_;exact (by unfold execOp;simp only [h94.ev 35 rfl];exact Ac (BN (hSw.1.cell (i:=1) (by show 1<3;omega)))))⟩) fun a97 h96=>?_
      refine Aj hS4 h96 5 rfl rfl (by decide) (fr rfl) κ κ κ (fun _ _ _ _ h=>h) (ν ((at_+8:Nat):Int)) (Or.inl ⟨Eq.refl true,fun w1 hSw=>(by show (execOp _ (⟨_,.binOp .add 3 (.tmp 36) (.const (ν 8)) 3,_,_,_,_⟩:Oper)).run _ _=_;exact (by unfold execOp;simp only [h96.ev 36 rfl];exact Ac (NM _ _ _ _ _ ω ω ω _)))⟩) fun a99 h98=>?_
      refine Aj hS4 h98 6 rfl rfl (by decide) (fr rfl) κ κ κ (fun _ _ _ _ h=>h) (ν (u:Int)) (Or.inl ⟨Eq.refl true,fun w1 hSw=>(by show (execOp _ (⟨_,.move (.tmp 8),_,_,_,_⟩:Oper)).run _ _=_;exact (by unfold execOp;simp only [h98.ev 8 rfl];exact rfl))⟩) fun a101 h100=>?_
      refine Aj hS4 h100 7 rfl rfl (by decide) (fr rfl) κ κ κ (fun _ _ _ _ h=>h) (ν ((at_+8+u:Nat):Int)) (Or.inl ⟨Eq.refl true,fun w1 hSw=>(by show (execOp _ (⟨_,.binOp .add 3 (.tmp 37) (.tmp 38) 3,_,_,_,_⟩:Oper)).run _ _=_;exact (by unfold execOp;simp only [h100.ev 37 rfl,h100.ev 38 rfl];exact Ac (NM _ _ _ _ _ ω ω ω _)))⟩) fun a103 h102=>?_
      refine Aj hS4 h102 8 rfl rfl (by decide) (fr rfl) κ κ κ (fun _ _ _ _ h=>h) (.slice ba eb.length bc) (Or.inl ⟨Eq.refl true,fun w1 hSw=>(by show (execOp _ (⟨_,.move (.tmp 5),_,_,_,_⟩:Oper)).run _ _=_;exact (by unfold execOp;simp only [h102.ev 5 rfl];exact rfl))⟩) fun a105 h104=>?_
      refine AE 9 rfl rfl κ fun K hK=>Ds (w':=w3.drew) h104 rfl (by decide) (fr rfl) (Aq eb) (by show (execOp _ (⟨_,.convert 74 9 (.tmp 40),_,_,_,_⟩:Oper)).run _ _=_;exact (by unfold execOp;simp only [h104.ev 40 rfl];exact Ac hst)) fun a107 h106=>hK _ _ (hS4) fun hS5=>?_
      clear hK K
      refine Aj hS5 h106 10 rfl rfl (by decide) (fr rfl) κ κ κ (fun _ _ _ _ h=>h) (ptV ⟨((at_+8+u:Nat):Int),eb⟩) (Or.inl ⟨Eq.refl true,fun w1 hSw=>(by show (execOp _ (⟨_,.build 127 #[(0,(.tmp 39)),(1,(.tmp 41))],_,_,_,_⟩:Oper)).run _ _=_;exact (by unfold execOp;simp only [List.map_toArray,List.map_cons,List.map_nil,h106.ev 39 rfl,h106.ev 41 rfl];exact Ac (Jy _ _ _)))⟩) fun a109 h108=>?_
      obtain ⟨wsb,hwsb⟩:∃ x,x=w3.drew.alloc (.cells (ptC ⟨((at_+8+u:Nat):Int),eb⟩).toArray 127):=⟨_,rfl⟩
      have bsb:Below w3.drew.heap.size w3.drew wsb:=by rw [hwsb];exact Cq _ _
      have rsb:Fl wsb (some ⟨w3.drew.heap.size,0,none⟩) 1 [⟨((at_+8+u:Nat):Int),eb⟩]:=by rw [hwsb];exact PG _ _
      refine AE 11 rfl rfl κ fun K hK=>Ds (w':=wsb) h108 rfl (by decide) (fr rfl) (.slice (some ⟨w3.drew.heap.size,0,none⟩) ([⟨((at_+8+u:Nat):Int),eb⟩]:List PtM).length 1) (by show (execOp _ (⟨_,.buildSlice 68 1 #[(0,(.tmp 42))],_,_,_,_⟩:Oper)).run _ _=_;exact (by unfold execOp;simp only [List.map_toArray,List.map_cons,List.map_nil,h108.ev 42 rfl];rw [hwsb];exact Ac (Hn _ _))) fun a111 h110=>hK _ _ (⟨hS5.1.mono bsb,trivial⟩) fun hSsb=>?_
      clear hK K
      have HGsb:=hid (HG4.out.mono bsb);have HTsb:Hid (Turns (XM v d p) w wsb):=hid (HT4.out.trans (Turns.of_below bsb));have hnwb:=HG4.out.lt;have HRsb:=hid rsb;clear hwsb rsb bsb
      refine AE 12 rfl rfl κ fun K hK=>DA h110 rfl (by decide) (fr rfl) (fun args=>cF Tryz.func61 (args:=args) (w:=_)) rfl #[π lg,.slice (some ⟨w3.drew.heap.size,0,none⟩) ([⟨((at_+8+u:Nat):Int),eb⟩]:List PtM).length 1] (by simp only [List.map_toArray,List.map_cons,List.map_nil,h110.ev 32 rfl,h110.ev 43 rfl]) (R:=fun xv w'=>LogP w' lg g v d p at_ size (Di M [⟨((at_+8+u:Nat):Int),eb⟩])∧Turns (XM v d p) wsb w') ((GL HGsb.out (fun W t=>t.row HRsb.out (fun _ b hb=>by obtain ⟨off,e⟩:=hb;cases e;rintro (e | e | e)<;>omega)) (by intro q hq;rw [List.mem_singleton.1 hq];exact hp64b) (by intro q hq;rw [List.mem_singleton.1 hq];exact hpdb) (by show (1:Nat)≤_;omega)).mono fun e w' q=>by obtain ⟨x,q1,q2,q3⟩:=q;exact ⟨x,q1,q2,q3⟩) fun a113 vwb wwb rwb h112=>hK _ _ (⟨rwb.1.l,trivial⟩) fun hSwb=>?_
      clear hK K
      have HGwb:=hid rwb.1;have HTwb:Hid (Turns (XM v d p) w wwb):=hid (HTsb.out.trans rwb.2);clear rwb
      refine wpAnyH_done κ ?_ _
      refine h112.sk [8,6,5,4,0,1] rfl fun h114=>?_
      iterate 4 go_step
      refine mv h114 rfl fun _ h115=>?_
      refine mv h115 rfl fun _ h117=>?_
      refine mv h117 rfl fun _ h119=>?_
      refine wv h119 rfl rfl rfl rfl (ν (eb.length:Int)) (DO rfl (h119.ev 47 rfl) _) fun a122 h121=>?_
      refine wv h121 rfl rfl rfl rfl (ν ((u+eb.length:Nat):Int)) (by unfold execOp;simp only [h121.ev 46 rfl,h121.ev 48 rfl];exact Ac (NM _ _ _ _ _ ω ω ω _)) fun a124 h123=>?_
      refine AN h123 (wn rfl) rfl (by decide) (fr rfl) (fun args=>cF Tryz.func62 (args:=args) (w:=_)) rfl #[π lg,ν ((u+eb.length:Nat):Int)] (by simp only [List.map_toArray,List.map_cons,List.map_nil,h123.ev 45 rfl,h123.ev 49 rfl]) (R:=fun xv w'=>LogP w' lg g v d p at_ size (Gz (Di M [⟨((at_+8+u:Nat):Int),eb⟩]) at_ ((u+eb.length:Nat):Int))∧Turns (XM v d p) wwb w') ((Nd HGwb.out ((u+eb.length:Nat):Int) ω ω)) fun a126 v9 w9 r9 h125=>?_
      refine h125.sk [8,6,5,4,0,1] rfl fun h127=>?_
      iterate 5 go_step
      refine h127.sk [8,6,5,0,1] rfl fun h128=>?_
      refine mv h128 rfl fun _ h129=>?_
      iterate 4 go_step
      exact Aen h129.defs (h129.known (4,ν 0) (by simp)) (by unfold El;rw [HEE.out,if_pos he,HU.out,HEB.out,if_neg hf]) (by unfold DT;rw [HEE.out,HU.out,HEB.out,if_pos ⟨he,hf⟩];exact r9.1) (HTwb.out.trans r9.2)
  · have hbad:(ee != 0)=true:=by simp [bne,he]
    iterate 2 go_step
    refine mv h19 rfl fun _ h131=>?_
    refine wv h131 rfl rfl rfl rfl (.bool true) (by unfold execOp;simp only [h131.ev 14 rfl];exact Ac (QD _ _ _ _ _ hbad)) fun a134 h133=>?_
    refine h133.sk [15,6,5,4,0,1] rfl fun h135=>?_
    iterate 3 go_step
    refine wp_cond (t:=true) (h135.ev 15 rfl) ?_
    simp only [if_true]
    refine h135.sk [6,5,4,0,1] rfl fun h136=>?_
    iterate 2 go_step
    refine mv h136 rfl fun _ h137=>?_
    refine h137.sk [16,6,5,0,1] rfl fun h139=>?_
    refine mv h139 rfl fun _ h140=>?_
    refine h140.sk [4,6,5,0,1] rfl fun h142=>?_
    iterate 4 go_step
    simp only [Exit.then,Exit.inBlock]
    exact Aen h142.defs (h142.known (4,ν ee) (by simp)) (by unfold El;rw [HEE.out,if_neg he]) (by have z:=HG2.out;unfold DT;rw [HEE.out,if_neg (fun q=>he q.1)];exact z) HT2.out
theorem Zk {w:World} {lg g v d p at_ size:Nat} {M:MemM} (hg0:LogP w lg g v d p at_ size M) (hok:LogOk at_ size M) :
    Calls Tryz.prog 32 #[π lg] w fun e w'=>∃ x,e=.returned x∧x=ν ((CC M.V at_ size).1.length:Int)∧LogP w' lg g v d p at_ size (Fu M at_ size)∧Turns (XM v d p) w w':=by
  have HG0:=hid hg0
  have hok2:=hok
  obtain ⟨s1,s2,s3,s4⟩:=hok2
  clear hg0
  go_enter Tryz.func32,Tryz.ntmps32
  iterate 3 go_step
  refine AW (N:=30) (l:=[(0,π lg)]) ⟨rfl,(by intro x hx;simp only [List.mem_cons,List.not_mem_nil,or_false] at hx;rcases hx with rfl<;>rfl),rfl⟩ fun a2 h1=>?_
  refine mv h1 rfl fun _ h3=>?_
  iterate 5 go_step
  refine mv h3 rfl fun _ h5=>?_
  refine AN h5 (wn rfl) rfl (by decide) (fr rfl) (fun args=>cF Tryz.func60 (args:=args) (w:=_)) rfl #[π lg] (by simp only [List.map_toArray,List.map_cons,List.map_nil,h5.ev 9 rfl]) (R:=fun xv w'=>∃ ra rc rs,xv=.tuple #[.slice ra rs.length rc,ν ((CC M.V at_ size).2:Int)]∧rs.map (·.2.2)=(CC M.V at_ size).1∧RecsP w' w.heap.size ra rc rs∧Below w.heap.size w w') (Rh HG0.out hok) fun a8 v3 w3 r3 h7=>?_
  obtain ⟨ra,rc,rs,rfl,hrs,hrec,b3⟩:=r3
  obtain ⟨u,hu⟩:∃ u,u=(CC M.V at_ size).2:=⟨_,rfl⟩
  rw [← hu] at h7
  have HG3:=hid (HG0.out.mono b3);have HT3:Hid (Turns (XM v d p) w w3):=hid (Turns.of_below b3);have HRC:=hid hrec;have HRS:=hid hrs;have HB3:=hid b3;clear b3 hrec hrs hu
  have hnr:8*rs.length≤65536:=by have z:=congrArg List.length HRS.out;rw [List.length_map] at z;rw [z];exact Nat.le_trans (Adw _ _ _) ω
  have hpts:=fun r (hr:r∈rs)=>Aa4 (V:=M.V) (at_:=at_) (size:=size) (by rw [← HRS.out];exact List.mem_map.2 ⟨r,hr,rfl⟩)
  refine mv h7 rfl fun _ h9=>?_
  refine wv h9 rfl rfl rfl rfl (.slice ra rs.length rc) (by unfold execOp;simp only [h9.ev 8 rfl];exact rfl) fun a12 h11=>?_
  refine wv h11 rfl rfl rfl rfl (ν (u:Int)) (by unfold execOp;simp only [h11.ev 8 rfl];exact rfl) fun a14 h13=>?_
  refine mv h13 rfl fun _ h15=>?_
  refine mv h15 rfl fun _ h17=>?_
  refine h17.sk [3,2,0] rfl fun h19=>?_
  iterate 5 go_step
  refine mv h19 rfl fun _ h20=>?_
  iterate 6 go_step
  refine mv h20 rfl fun _ h22=>?_
  refine wv h22 rfl rfl rfl rfl (ν (rs.length:Int)) (Ox rfl (h22.ev 13 rfl) _) fun a25 h24=>?_
  refine mv h24 rfl fun _ h26=>?_
  iterate 4 go_step
  refine h26.sk [5,15,14,13,3,2,0] rfl fun h28=>?_
  refine wp_loop (I:=fun a' w'=>∃ (j:Nat) (al:List PtM) (aa:Option Addr) (ac:Nat),j≤rs.length∧Kn 30 [(5,.slice aa al.length ac),(15,ν (j:Int)),(14,ν (rs.length:Int)),(13,.slice ra rs.length rc),(3,.slice ra rs.length rc),(2,ν 0),(0,π lg)] a'∧al=(rs.take j).flatMap (·.2.2)∧BG w' w3.heap.size aa ac al∧Below w3.heap.size w3 w'∧al.length≤64*j) (μ:=fun a' _=>rs.length-(intOf (a'.eval (.tmp 15))).toNat) ⟨0,[],none,0,Nat.zero_le _,h28,rfl,Own.nil _ _ _ _,Below.refl _ _,Nat.le_refl _⟩ ?_
  clear h28
  rintro aL wL ⟨j,al,aa,ac,hj,hK,hal,hA,hBL,hln⟩
  have HA:=hid hA;have HBL:=hid hBL;have HAL:=hid hal;clear hA hBL hal
  by_cases hlt:j<rs.length
  · have hd0:decide ((j:Int)<(rs.length:Int))=true:=decide_eq_true ω
    obtain ⟨q,hq⟩:∃ q,q=rs[j]:=⟨_,rfl⟩
    have hqm:q∈rs:=by rw [hq];exact List.getElem_mem hlt
    obtain ⟨pb,poff,ha0,_,hcc⟩:=(HRC.out.o.row.below HBL.out).at ω
    have hcell:=hcc j (Zj q) (by rw [List.getElem?_map,List.getElem?_eq_getElem hlt,← hq];rfl)
    unfold Zj at hcell
    have hrq:=(HRC.out.i q hqm).row.below HBL.out
    have hqn:=(hpts q hqm).2.2
    have HQ:=hid hq;clear hq hcc
    iterate 3 go_step
    refine wv hK rfl rfl rfl rfl (.bool true) (by unfold execOp;simp only [hK.ev 15 rfl,hK.ev 14 rfl];exact Ac (IL _ _ _ _ _ hd0)) fun a30 h29=>?_
    iterate 4 go_step
    refine wp_cond (t:=true) (h29.ev 16 rfl) ?_
    simp only [if_true]
    refine h29.sk [5,15,14,13,3,2,0] rfl fun h31=>?_
    iterate 7 go_step
    refine wv h31 rfl rfl rfl rfl (.pointer (some ⟨pb,poff+j,none⟩)) (by unfold execOp;simp only [h31.ev 13 rfl,h31.ev 15 rfl];exact Ac (by rw [ha0];exact Ahl pb poff _ rc j hlt _)) fun a33 h32=>?_
    refine wv h32 rfl rfl rfl rfl (.slice q.1 q.2.2.length q.2.1) (by unfold execOp;simp only [h32.ev 17 rfl];exact Ac (Adv hcell)) fun a35 h34=>?_
    refine mv h34 rfl fun _ h36=>?_
    refine h36.sk [7,5,15,14,13,3,2,0] rfl fun h38=>?_
    iterate 4 go_step
    refine mv h38 rfl fun _ h39=>?_
    refine mv h39 rfl fun _ h41=>?_
    refine CF rfl (.tmp 19) (.tmp 20) rfl EPt w3.heap.size (h41.ev 19 rfl) (h41.ev 20 rfl) HA.out hrq (JX _) ω ω HBL.out.size ?_
    intro aa2 ac2 w7 o7 g7 b7
    refine AW (h41.put (d:=21) (by decide) (fr rfl) (.slice aa2 (al.length+q.2.2.length) ac2)) fun a44 h43=>?_
    have HA7:Hid (BG w7 w3.heap.size aa2 ac2 (al++q.2.2)):=hid (by unfold BG;rw [List.length_append,List.flatMap_append];exact o7);have HBL7:=hid (HBL.out.trans b7);clear o7 g7 b7
    refine h43.sk [21,20,19,7,15,14,13,3,2,0] rfl fun h45=>?_
    refine mv h45 rfl fun _ h46=>?_
    refine h46.sk [5,7,15,14,13,3,2,0] rfl fun h48=>?_
    iterate 4 go_step
    refine wv h48 rfl rfl rfl rfl (ν ((j+1:Nat):Int)) (by unfold execOp;simp only [h48.ev 15 rfl];exact Ac (LN _ _ j ω _)) fun a50 h49=>?_
    refine h49.sk [22,5,7,14,13,3,2,0] rfl fun h51=>?_
    refine mv h51 rfl fun _ h52=>?_
    refine h52.sk [15,5,7,14,13,3,2,0] rfl fun h54=>?_
    iterate 2 go_step
    refine ⟨⟨j+1,al++q.2.2,aa2,ac2,ω,?_,?_,HA7.out,HBL7.out,by rw [List.length_append];omega⟩,?_⟩
    · rw [List.length_append];exact h54.subs rfl
    · rw [List.take_add_one,List.getElem?_eq_getElem hlt,Option.toList_some,List.flatMap_append,← HAL.out,← HQ.out];simp
    · rw [h54.ev 15 rfl,hK.ev 15 rfl];simp [intOf];omega
  · have hd0:decide ((j:Int)<(rs.length:Int))=false:=decide_eq_false ω
    obtain rfl:j=rs.length:=ω
    rw [List.take_length] at HAL
    have HGL:=hid (HG3.out.mono HBL.out);have hXlt:∀ k,XM v d p k→k<w3.heap.size:=by have z:=HG3.out.lt;rintro k (e | e | e)<;>omega
    have hP64:IS al:=by intro x hx;rw [HAL.out] at hx;obtain ⟨r,hr,hx⟩:=List.mem_flatMap.1 hx;exact (hpts r hr).1 x hx
    have hPd:∀ x∈al,x.d.length≤1000000:=by intro x hx;rw [HAL.out] at hx;obtain ⟨r,hr,hx⟩:=List.mem_flatMap.1 hx;exact (hpts r hr).2.1 x hx
    iterate 3 go_step
    refine wv hK rfl rfl rfl rfl (.bool false) (by unfold execOp;simp only [hK.ev 15 rfl,hK.ev 14 rfl];exact Ac (IL _ _ _ _ _ hd0)) fun a56 h55=>?_
    iterate 4 go_step
    refine wp_cond (t:=false) (h55.ev 16 rfl) ?_
    simp only [Bool.false_eq_true,if_false]
    refine h55.sk [5,15,14,13,3,2,0] rfl fun h57=>?_
    iterate 7 go_step
    refine mv h57 rfl fun _ h58=>?_
    refine mv h58 rfl fun _ h60=>?_
    refine AN h60 (wn rfl) rfl (by decide) (fr rfl) (fun args=>cF Tryz.func61 (args:=args) (w:=_)) rfl #[π lg,.slice aa al.length ac] (by simp only [List.map_toArray,List.map_cons,List.map_nil,h60.ev 23 rfl,h60.ev 24 rfl]) (R:=fun xv w'=>LogP w' lg g v d p at_ size (Di M al)∧Turns (XM v d p) wL w') ((GL HGL.out (fun W t=>(t.own HA.out (fun k hk=>hXlt k hk)).row) hP64 hPd ω).mono fun e w' q=>by obtain ⟨x,q1,q2,q3⟩:=q;exact ⟨x,q1,q2,q3⟩) fun a63 v8 w8 r8 h62=>?_
    refine h62.sk [5,15,14,13,3,2,0] rfl fun h64=>?_
    iterate 5 go_step
    refine mv h64 rfl fun _ h65=>?_
    refine AN h65 (wn rfl) rfl (by decide) (fr rfl) (fun args=>cF Tryz.func63 (args:=args) (w:=_)) rfl #[π lg] (by simp only [List.map_toArray,List.map_cons,List.map_nil,h65.ev 26 rfl]) (R:=fun xv w'=>LogP w' lg g v d p at_ size (Gz (Di M al) at_ 0)∧Turns (XM v d p) w8 w') (Vu r8.1 ω) fun a68 v9 w9 r9 h67=>?_
    refine h67.sk [5,15,14,13,3,2,0] rfl fun h69=>?_
    iterate 5 go_step
    refine mv h69 rfl fun _ h70=>?_
    refine wv h70 rfl rfl rfl rfl (ν (rs.length:Int)) (Ox rfl (h70.ev 28 rfl) _) fun a73 h72=>?_
    refine h72.sk [29,28,5,15,14,13,3,0] rfl fun h74=>?_
    refine mv h74 rfl fun _ h75=>?_
    refine h75.sk [2,5,15,14,13,3,0] rfl fun h77=>?_
    iterate 4 go_step
    have hfl:al=(CC M.V at_ size).1.flatten:=by rw [HAL.out,← HRS.out,List.flatMap_def]
    have hln2:rs.length=(CC M.V at_ size).1.length:=by rw [← HRS.out,List.length_map]
    refine bodyPost_ret (AK rfl (h77.known (2,ν (rs.length:Int)) (by simp))) h77.defs ?_
    exact ⟨_,rfl,by rw [hln2],by show LogP _ _ _ _ _ _ _ _ (Gz (Di M (CC M.V at_ size).1.flatten) at_ 0);rw [← hfl];exact r9.1,((HT3.out.trans (Turns.of_below HBL.out)).trans r8.2).trans r9.2⟩
end
section
def Chain (b:List UInt8):Nat→List (List PtM)→Nat→Prop
  | u,[],u'=>u'=u
  | u,L::rs,u'=>∃ n:Nat,Ci (b.drop u)=(L,(n:Int),0)∧Chain b (u+n) rs u'
theorem Chain.le {b:List UInt8} {u:Nat} {rs:List (List PtM)} {u':Nat} (h:Chain b u rs u') (hu:u≤b.length):u≤u'∧u'≤b.length:=by
  induction rs generalizing u with
  | nil=>cases h;exact ⟨Nat.le_refl _,hu⟩
  | cons L rs ih=>
    obtain ⟨n,h1,h2⟩:=h
    obtain ⟨m,e,h3,h4⟩:=LZ (xs:=b.drop u) (by rw [h1])
    rw [h1] at e
    change (n:Int)=m at e
    rw [List.length_drop] at h4
    have:=ih h2 ω
    omega
theorem Chain.snoc {b:List UInt8} {u u' n:Nat} {rs:List (List PtM)} {L:List PtM} (h:Chain b u rs u') (hd:Ci (b.drop u')=(L,(n:Int),0)):Chain b u (rs++[L]) (u'+n):=by
  induction rs generalizing u with
  | nil=>cases h;exact ⟨n,hd,rfl⟩
  | cons K rs ih=>
    obtain ⟨m,h1,h2⟩:=h
    exact ⟨m,h1,ih h2⟩
theorem XG {xs:List UInt8} {L:List PtM} {n:Nat} (h:Ci xs=(L,(n:Int),0)):n % 8=0:=by
  rw [Ip] at h
  unfold Jz at h
  split at h
  · cases h
  · split at h
    · cases h
    · next k _ _=>
      cases hg:Fq xs k 2 [] with
      | inl e=>
        rw [hg] at h
        change (([]:List PtM),(0:Int),e)=_ at h
        have:(0:Int)=n:=congrArg (fun x=>x.2.1) h
        omega
      | inr r=>
        rw [hg] at h
        change Hs xs r.1 r.2=_ at h
        unfold Hs at h
        split at h
        · cases h
        · split at h
          · cases h
          · split at h
            · cases h
            · split at h
              · have:((r.2+4+Bz (r.2+4):Nat):Int)=(n:Int):=congrArg (fun x=>x.2.1) h
                have h2:r.2+4+Bz (r.2+4)=n:=ω
                rw [← h2];unfold Bz;omega
              · cases h
theorem Chain.mod {b:List UInt8} {u:Nat} {rs:List (List PtM)} {u':Nat} (h:Chain b u rs u') (hu:u % 8=0):u' % 8=0:=by
  induction rs generalizing u with
  | nil=>cases h;exact hu
  | cons L rs ih=>
    obtain ⟨n,h1,h2⟩:=h
    have:=XG h1
    exact ih h2 ω
theorem Chain.local {b c:List UInt8} {u:Nat} {rs:List (List PtM)} {u':Nat} (h:Chain b u rs u') (hu:u≤b.length) (e:b.take u'=c.take u') (hc:u'≤c.length):Chain c u rs u':=by
  induction rs generalizing u with
  | nil=>exact h
  | cons L rs ih=>
    obtain ⟨n,h1,h2⟩:=h
    obtain ⟨m,em,h3,h4⟩:=LZ (xs:=b.drop u) (by rw [h1])
    rw [h1] at em
    change (n:Int)=m at em
    rw [List.length_drop] at h4
    have hl:=h2.le ω
    have e2:(b.drop u).take n=(c.drop u).take n:=by
      have:∀ zs:List UInt8,(zs.drop u).take n=((zs.take u').drop u).take n:=fun zs=>by rw [List.drop_take,List.take_take,Nat.min_eq_left ω]
      rw [this b,this c,e]
    refine ⟨n,?_,ih h2 ω⟩
    rw [Ip] at h1 ⊢
    exact Sn h1 e2 (by rw [List.length_drop];omega) (by rw [List.length_drop];omega)
theorem Rf (b:List UInt8) (k u:Nat) (acc:List (List PtM)) (hu:u≤b.length) (hk:b.length<u+8*k):∃ rs u',Hd b k u acc=(acc++rs,u')∧Chain b u rs u'∧(Ci (b.drop u')).2.2≠0:=by
  induction k generalizing u acc with
  | zero=>omega
  | succ k ih=>
    unfold Hd
    by_cases h:(Ci (b.drop u)).2.2=0
    · rw [if_pos h]
      obtain ⟨n,hn,h1,h2⟩:=LZ h
      rw [List.length_drop] at h2
      rw [hn,Int.toNat_natCast]
      obtain ⟨rs,u',e,hc,hs⟩:=ih (u+n) (acc++[(Ci (b.drop u)).1]) ω ω
      refine ⟨(Ci (b.drop u)).1::rs,u',by rw [e,List.append_assoc];rfl,⟨n,?_,hc⟩,hs⟩
      rw [← hn,← h]
    · rw [if_neg h]
      exact ⟨[],u,by rw [List.append_nil],rfl,h⟩
theorem Ie (b:List UInt8):Chain b 0 (EJ b).1 (EJ b).2∧(Ci (b.drop (EJ b).2)).2.2≠0:=by
  obtain ⟨rs,u',e,h⟩:=Rf b (b.length+1) 0 [] (Nat.zero_le _) ω
  rw [List.nil_append] at e
  unfold EJ
  rw [e]
  exact h
theorem Chain.det {b:List UInt8} {u:Nat} {rs rs':List (List PtM)} {v v':Nat} (h:Chain b u rs v) (h':Chain b u rs' v') (s:(Ci (b.drop v)).2.2≠0) (s':(Ci (b.drop v')).2.2≠0):rs=rs'∧v=v':=by
  induction rs generalizing u rs' with
  | nil=>
    cases h
    cases rs' with
    | nil=>cases h';exact ⟨rfl,rfl⟩
    | cons L rs'=>obtain ⟨n,h1,_⟩:=h';exact absurd (by rw [h1]) s
  | cons L rs ih=>
    obtain ⟨n,h1,h2⟩:=h
    cases rs' with
    | nil=>cases h';exact absurd (by rw [h1]) s'
    | cons L' rs'=>
      obtain ⟨n',h1',h2'⟩:=h'
      rw [h1] at h1'
      have e1:L=L':=congrArg (fun x=>x.1) h1'
      have e2:(n:Int)=n':=congrArg (fun x=>x.2.1) h1'
      have e3:n=n':=ω
      subst e1 e3
      obtain ⟨q1,q2⟩:=ih h2 h2'
      exact ⟨by rw [q1],q2⟩
theorem Re {b:List UInt8} {rs:List (List PtM)} {u:Nat} (h:Chain b 0 rs u) (s:(Ci (b.drop u)).2.2≠0):EJ b=(rs,u):=by
  obtain ⟨h1,s1⟩:=Ie b
  obtain ⟨q1,q2⟩:=h1.det h s1 s
  exact Prod.ext q1 q2
theorem Qb:Ci []=([],0,3):=by
  rw [Ip]
  have g:AX ([]:List UInt8) 0 2=none:=Fh (a:=0) (k:=2) (by show 0<0+2;omega)
  unfold Jz
  rw [g]
theorem WC (b:List UInt8) {L:List PtM} (h:CY L=true):EJ (b.take (EJ b).2++Ct L)=((EJ b).1++[L],(EJ b).2+(Ct L).length):=by
  obtain ⟨hc,_⟩:=Ie b
  have hl:=(hc.le (Nat.zero_le _)).2
  have hlt:(b.take (EJ b).2).length=(EJ b).2:=by rw [List.length_take];omega
  refine Re (Chain.snoc (hc.local (Nat.zero_le _) ?_ ?_) ?_) ?_
  · rw [List.take_left' hlt]
  · rw [List.length_append];omega
  · rw [List.drop_left' hlt]
    have:=XF h []
    rwa [List.append_nil] at this
  · rw [List.drop_eq_nil_of_le (by rw [List.length_append];omega),Qb]
    show (3:Int)≠0
    omega
theorem Ou:EJ []=([],0):=Re rfl (by rw [List.drop_nil,Qb];show (3:Int)≠0;omega)
def stV (V:List UInt8) (p:PtM):List UInt8:=if 0≤p.at_∧p.at_+p.d.length≤V.length then splice V p.at_.toNat p.d else V
theorem UB (M:MemM) (a:Int) (n:Nat):inM M a (n:Int)=true↔0≤a∧a+n≤M.V.length:=by
  unfold inM
  rw [decide_eq_true_iff]
  omega
theorem Acg (M:MemM) (p:PtM):(IT M p).V=stV M.V p:=by
  unfold IT stV
  by_cases h:inM M p.at_ p.d.length=true
  · have h2:=(UB _ _ _).1 h
    rw [if_pos h,if_pos h2]
    unfold Mo GU
    rw [if_pos h]
    split<;>rfl
  · have h2:=fun q=>h ((UB _ _ _).2 q)
    rw [if_neg h,if_neg h2]
theorem Db (V:List UInt8) (p:PtM):(stV V p).length=V.length:=by
  unfold stV;split
  · exact length_splice _ _ _ ω
  · rfl
theorem Aax (L:List PtM) (M:MemM):(L.foldl IT M).V=L.foldl stV M.V:=by
  induction L generalizing M with
  | nil=>rfl
  | cons p L ih=>rw [List.foldl_cons,List.foldl_cons,ih,Acg]
theorem FE (M:MemM) (L:List PtM):(Di M L).V=L.foldl stV M.V:=Aax L M
theorem Kz (L:List PtM) (V:List UInt8):(L.foldl stV V).length=V.length:=by
  induction L generalizing V with
  | nil=>rfl
  | cons p L ih=>rw [List.foldl_cons,ih,Db]
theorem FF (M:MemM) (L:List PtM):(Di M L).V.length=M.V.length:=by rw [FE,Kz]
def Aif (M:MemM):Prop:=∀ k,k<M.A.length→DY M.V M.D k=true→M.A.getD k false=true
theorem Agc (n:Nat):AC [] (n:Int) 8=le 8 n:=by
  have f:By (n:Int) 8=true:=by unfold By;simp
  exact (if_pos f).trans (List.nil_append _)
theorem Uu {V:List UInt8} {at_ size n:Nat} (h:(V.drop at_).take 8=le 8 n) (hn:n≤size-8) (hs:size≤65536):Hi V at_ size=n:=by
  have g:AX (le 8 n) 0 8=some n:=by
    unfold AX
    rw [if_pos ⟨rfl,ω,by rw [AA];omega⟩]
    show (if BU (((le 8 n).drop 0).take 8)≤_ then some (BU (((le 8 n).drop 0).take 8)) else none)=_
    rw [List.drop_zero,List.take_of_length_le (by rw [AA];omega),QH 8 n ω,if_pos ω]
  unfold Hi
  rw [h,g]
  exact if_pos hn
theorem Zv {M:MemM} {at_ n:Nat} (h:at_+8≤M.V.length):(Gz M at_ (n:Int)).V=splice M.V at_ (le 8 n):=by
  unfold Gz
  rw [FE]
  show stV M.V ⟨(at_:Int),AC [] (n:Int) 8⟩=_
  rw [Agc]
  unfold stV
  dsimp only
  rw [if_pos (by rw [AA];omega),Int.toNat_natCast]
theorem Ij {V b:List UInt8} {q n:Nat} (h:q+b.length≤V.length) (hn:b.length=n):((splice V q b).drop q).take n=b:=by
  subst hn
  unfold splice
  have hq:(V.take q).length=q:=by rw [List.length_take];omega
  rw [List.drop_left' hq,List.take_left]
theorem OA {V b:List UInt8} {q a n:Nat} (h:q+b.length≤V.length) (ho:a+n≤q∨q+b.length≤a) (ha:a+n≤V.length):((splice V q b).drop a).take n=(V.drop a).take n:=by
  refine CV ?_ fun i hi=>?_
  · rw [List.length_take,List.length_take,List.length_drop,List.length_drop,length_splice _ _ _ h]
  · rw [List.length_take,List.length_drop] at hi
    have e:∀ Z:List UInt8,((Z.drop a).take n).getD i 0=Z.getD (a+i) 0:=fun Z=>by
      simp only [List.getD_eq_getElem?_getD,List.getElem?_take,List.getElem?_drop,if_pos (ω:i<n)]
    rw [e,e,FJ _ _ _ h,if_neg ω]
theorem VB {M:MemM} {at_ size n:Nat} (hok:LogOk at_ size M) (hn:n≤size-8):Hi (Gz M at_ (n:Int)).V at_ size=n:=by
  obtain ⟨s1,s2,s3,s4⟩:=hok
  rw [Zv ω]
  exact Uu (Ij (by rw [AA];omega) (AA 8 n)) hn s2
theorem NP {M:MemM} {at_ size n:Nat} (hok:LogOk at_ size M) (hn:n≤size-8):Fm (Gz M at_ (n:Int)).V at_ size=(M.V.drop (at_+8)).take n:=by
  have he:=VB hok hn
  obtain ⟨s1,s2,s3,s4⟩:=hok
  unfold Fm
  rw [he,Zv ω]
  exact OA (by rw [AA];omega) (.inr (by rw [AA];omega)) ω
theorem Hz {at_ size:Nat} {M M':MemM} (h:LogOk at_ size M) (e:M'.V.length=M.V.length):LogOk at_ size M':=⟨h.s1,h.s2,by rw [e];exact h.a,by rw [e];exact h.v⟩
theorem SY {M:MemM} {at_ size:Nat} (hok:LogOk at_ size M):CC (Gz M at_ 0).V at_ size=([],0):=by
  unfold CC
  rw [show Gz M at_ 0=Gz M at_ ((0:Nat):Int) from rfl,NP hok (Nat.zero_le _),List.take_zero,Ou]
theorem SX (V:List UInt8) (at_ size:Nat) (h:at_+size≤V.length) (h8:8≤size):(CC V at_ size).2≤Hi V at_ size∧(CC V at_ size).2 % 8=0:=by
  obtain ⟨hc,_⟩:=Ie (Fm V at_ size)
  have h1:=hc.le (Nat.zero_le _)
  have h2:=hc.mod rfl
  have h3:(Fm V at_ size).length=Hi V at_ size:=by
    have:=Pb V at_ size
    unfold Fm
    rw [List.length_take,List.length_drop];omega
  exact ⟨by rw [← h3];exact h1.2,h2⟩
theorem Afb {V b:List UInt8} {q:Nat} (h:q+b.length≤V.length):[(⟨(q:Int),b⟩:PtM)].foldl stV V=splice V q b:=by
  show stV V _=_
  unfold stV
  dsimp only
  rw [if_pos ω,Int.toNat_natCast]
theorem Ac9 {V b:List UInt8} {at_ u e:Nat} (hV:at_+8+u+b.length≤V.length) (hu:u≤e):((splice V (at_+8+u) b).drop (at_+8)).take (u+b.length)=((V.drop (at_+8)).take e).take u++b:=by
  rw [List.take_add,List.take_take,Nat.min_eq_left hu,List.drop_drop,Ij hV rfl,OA hV (.inl (Nat.le_refl _)) ω]
theorem Qx {M:MemM} {at_ size:Nat} {L:List PtM} (hok:LogOk at_ size M) (h:CY L=true) {u:Nat} (hu0:(CC M.V at_ size).2=u) {eb:List UInt8} (heb:Ct L=eb) (hf:u+eb.length≤size-8) :
    CC (Gz (Di M [⟨((at_+8+u:Nat):Int),eb⟩]) at_ ((u+eb.length:Nat):Int)).V at_ size=((CC M.V at_ size).1++[L],u+eb.length):=by
  have hok2:=hok
  obtain ⟨s1,s2,s3,s4⟩:=hok2
  have hu:=(SX M.V at_ size s3 ω).1
  rw [hu0] at hu
  have hV:(Di M [⟨((at_+8+u:Nat):Int),eb⟩]).V=splice M.V (at_+8+u) eb:=by
    rw [FE]
    exact Afb ω
  have hb:=WC (Fm M.V at_ size) h
  have e1:(EJ (Fm M.V at_ size)).2=u:=hu0
  rw [e1,heb] at hb
  have e2:=Ac9 (V:=M.V) (b:=eb) (at_:=at_) (u:=u) (e:=Hi M.V at_ size) ω hu
  have e3:=NP (M:=Di M [⟨((at_+8+u:Nat):Int),eb⟩]) (Hz hok (FF _ _)) hf
  rw [hV,e2] at e3
  unfold CC
  rw [e3]
  exact hb
end
section
def JQ (n at_ size:Int):Prop:=128≤size∧size≤65536∧size % 64=0∧0≤at_∧at_ % 64=0∧at_≤n-size
instance (n at_ size:Int):Decidable (JQ n at_ size):=by unfold JQ;infer_instance
def NK (w:World) (g:Nat) (n at_ size:Int) (e:Ending) (w':World):Prop:=
  if JQ n at_ size then ∃ lg,e=.returned (π lg)∧Blk w' lg 101 (NH g at_.toNat size.toNat)∧w.heap.size≤lg∧Below w.heap.size w w' else e=.returned (.pointer none)∧w=w'
theorem Wi {w W:World} {g:Nat} {n at_ size:Int} (h:JQ n at_ size) {lg:Nat} (hb:Blk W lg 101 [π g,ν at_,ν size]) (hl:w.heap.size≤lg) (b:Below w.heap.size w W):NK w g n at_ size (.returned (π lg)) W:=by
  unfold NK
  rw [if_pos h]
  refine ⟨lg,rfl,?_,hl,b⟩
  obtain ⟨h1,h2,h3,h4,h5,h6⟩:=h
  unfold NH
  rw [Int.toNat_of_nonneg h4,Int.toNat_of_nonneg ω]
  exact hb
theorem Gq {w:World} {g:Nat} {n at_ size:Int} (h:¬ JQ n at_ size):NK w g n at_ size (.returned (.pointer none)) w:=by
  unfold NK;rw [if_neg h];exact ⟨rfl,rfl⟩
theorem YL {w:World} {g v d p:Nat} {M:MemM} (h:MemP w g v d p M) (at_ size:Int) (ha:ED at_) (hs:ED size) (hM:M.V.length≤1048576) :
    Calls Tryz.prog 22 #[π g,ν at_,ν size] w (NK w g M.V.length at_ size):=by
  have HS:=hid (Kd h)
  obtain ⟨m,hm⟩:∃ m:Nat,m=M.V.length:=⟨_,rfl⟩
  rw [← hm] at HS hM ⊢
  clear hm h
  unfold ED at ha hs
  by_cases c1:size<128
  · have HE:=hid (Gq (w:=w) (g:=g) (n:=m) (at_:=at_) (size:=size) (by unfold JQ;omega))
    have d1:decide (size<128)=true:=decide_eq_true c1
    clear ha hs
    go_enter Tryz.func22,Tryz.ntmps22
    go_wp2
    go_ret
    exact HE.out
  have d1:decide (size<128)=false:=decide_eq_false c1
  by_cases c2:65536<size
  · have HE:=hid (Gq (w:=w) (g:=g) (n:=m) (at_:=at_) (size:=size) (by unfold JQ;omega))
    have d2:decide (65536<size)=true:=decide_eq_true c2
    clear ha hs
    go_enter Tryz.func22,Tryz.ntmps22
    go_wp2
    go_ret
    exact HE.out
  have d2:decide (65536<size)=false:=decide_eq_false c2
  have e1:size.tmod 64=size % 64:=Int.tmod_eq_emod_of_nonneg ω
  have e2:IntKind.i64.wrap (size % 64)=size % 64:=IntWalk.i64_in _ ω
  by_cases c3:size % 64=0
  case neg=>
    have HE:=hid (Gq (w:=w) (g:=g) (n:=m) (at_:=at_) (size:=size) (by unfold JQ;omega))
    clear ha hs
    generalize size % 64=r at *
    have d3:(r != 0)=true:=by simpa using c3
    go_enter Tryz.func22,Tryz.ntmps22
    go_wp2
    go_ret
    exact HE.out
  by_cases c4:at_<0
  · have HE:=hid (Gq (w:=w) (g:=g) (n:=m) (at_:=at_) (size:=size) (by unfold JQ;omega))
    have d4:decide (at_<0)=true:=decide_eq_true c4
    clear ha hs
    rw [c3] at e1 e2
    clear c3
    go_enter Tryz.func22,Tryz.ntmps22
    go_wp2
    go_ret
    exact HE.out
  have d4:decide (at_<0)=false:=decide_eq_false c4
  have e3:at_.tmod 64=at_ % 64:=Int.tmod_eq_emod_of_nonneg ω
  have e4:IntKind.i64.wrap (at_ % 64)=at_ % 64:=IntWalk.i64_in _ ω
  by_cases c5:at_ % 64=0
  case neg=>
    have HE:=hid (Gq (w:=w) (g:=g) (n:=m) (at_:=at_) (size:=size) (by unfold JQ;omega))
    clear ha hs
    rw [c3] at e1 e2
    clear c3
    generalize at_ % 64=r at *
    have d5:(r != 0)=true:=by simpa using c5
    go_enter Tryz.func22,Tryz.ntmps22
    go_wp2
    go_ret
    exact HE.out
  have e5:IntKind.i64.wrap ((m:Int)-size)=(m:Int)-size:=IntWalk.i64_in _ ω
  by_cases c6:(m:Int)-size<at_
  · have HE:=hid (Gq (w:=w) (g:=g) (n:=m) (at_:=at_) (size:=size) (by unfold JQ;omega))
    have d6:decide ((m:Int)-size<at_)=true:=decide_eq_true c6
    clear ha hs
    rw [c3] at e1 e2
    rw [c5] at e3 e4
    clear c3 c5
    go_enter Tryz.func22,Tryz.ntmps22
    go_wp2_with (go_at_call 45;refine HS.out.mono ?_;rintro e w1 ⟨rfl,rfl⟩)
    go_ret
    exact HE.out
  have d6:decide ((m:Int)-size<at_)=false:=decide_eq_false c6
  have HM:Hid (JQ m at_ size):=hid (by unfold JQ;omega)
  clear ha hs
  rw [c3] at e1 e2
  rw [c5] at e3 e4
  clear c3 c5
  go_enter Tryz.func22,Tryz.ntmps22
  go_wp2_with (go_at_call 45;refine HS.out.mono ?_;rintro e w1 ⟨rfl,rfl⟩)
  go_ret
  exact Wi HM.out (AL rfl _ _) (Nat.le_refl _) (Cq w _)
theorem Rq (M:MemM) (at_:Nat) (n:Int):(Gz M at_ n).V.length=M.V.length:=FF _ _
theorem Jv (M:MemM) (at_ size:Nat) (L:List PtM):(DT M at_ size L).V.length=M.V.length:=by
  unfold DT;split
  · rw [Rq,FF]
  · rfl
theorem KL (M:MemM) (at_ size:Nat):(Fu M at_ size).V.length=M.V.length:=by unfold Fu;rw [Rq,FF]
theorem Of {at_ size:Nat} {M:MemM} (h:LogOk at_ size M) (L:List PtM):LogOk at_ size (DT M at_ size L):=Hz h (Jv _ _ _ _)
theorem YC {M:MemM} {at_ size:Nat} (hok:LogOk at_ size M) (L:List PtM):CC (DT M at_ size L).V at_ size=if El M at_ size L=0 then ((CC M.V at_ size).1++[L],(CC M.V at_ size).2+(Ct L).length) else CC M.V at_ size:=by
  unfold El DT
  by_cases he:IK L=0
  · have hk:CY L=true:=by
      unfold IK at he
      by_cases q:CY L=true
      · exact q
      · rw [if_neg q] at he;cases he
    by_cases hf:size-8<(CC M.V at_ size).2+(Ct L).length
    · rw [if_pos he,if_pos hf,if_neg (fun q=>q.2 hf),if_neg ω]
    · rw [if_pos he,if_neg hf,if_pos ⟨he,hf⟩,if_pos rfl]
      exact Qx hok hk rfl rfl ω
  · rw [if_neg he,if_neg (fun q=>he q.1),if_neg he]
theorem VU {M:MemM} {at_ size:Nat} (hok:LogOk at_ size M):CC (Fu M at_ size).V at_ size=([],0):=SY (Hz hok (FF _ _))
def exP:PtM:=⟨258,[5]⟩
def exQ:PtM:=⟨3,[120]⟩
def Af2:MemM:=GO 1024
def Af3:MemM:=DT Af2 512 512 [exQ]
def Aho:MemM:=Fu Af3 512 512
attribute [irreducible] Af2 Af3 Aho
end
section
end
section
def JT (at_:Int) (b:List UInt8) (p:PtM):List UInt8:=(List.range b.length).map fun (i:Nat)=>if p.at_≤at_+(i:Int)∧at_+(i:Int)<p.at_+p.d.length then p.d.getD (at_+(i:Int)-p.at_).toNat 0 else b.getD i 0
def ovl (at_:Int) (b:List UInt8) (P:List PtM):List UInt8:=P.foldl (JT at_) b
theorem De (at_:Int) (b:List UInt8) (p:PtM):(JT at_ b p).length=b.length:=by unfold JT;rw [List.length_map,List.length_range]
theorem GQ (at_:Int) (b:List UInt8) (P:List PtM):(ovl at_ b P).length=b.length:=by
  unfold ovl
  induction P generalizing b with
  | nil=>rfl
  | cons p P ih=>rw [List.foldl_cons,ih,De]
theorem Ib {at_:Int} {b:List UInt8} {p:PtM} {i:Nat} (h:i<b.length):(JT at_ b p).getD i 0=if p.at_≤at_+(i:Int)∧at_+(i:Int)<p.at_+p.d.length then p.d.getD (at_+(i:Int)-p.at_).toNat 0 else b.getD i 0:=by
  unfold JT
  rw [List.getD_eq_getElem?_getD,List.getElem?_map,List.getElem?_range h]
  rfl
theorem YW {at_:Int} {b:List UInt8} {p:PtM} {fr to:Int} (hf:fr=max at_ p.at_) (ht:to=min (at_+b.length) (p.at_+p.d.length)) (h:fr<to) :
    splice b (fr-at_).toNat ((p.d.drop (fr-p.at_).toNat).take (to-fr).toNat)=JT at_ b p:=by
  have hl:((p.d.drop (fr-p.at_).toNat).take (to-fr).toNat).length=(to-fr).toNat:=by rw [List.length_take,List.length_drop];omega
  have hb:(fr-at_).toNat+((p.d.drop (fr-p.at_).toNat).take (to-fr).toNat).length≤b.length:=by rw [hl];omega
  refine CV (by rw [length_splice _ _ _ hb,De]) fun i hi=>?_
  rw [De] at hi
  rw [FJ _ _ _ hb,Ib hi,hl]
  by_cases hc:(fr-at_).toNat≤i∧i<(fr-at_).toNat+(to-fr).toNat
  · rw [if_pos hc,if_pos ω]
    simp only [List.getD_eq_getElem?_getD,List.getElem?_take,List.getElem?_drop,if_pos (ω:i-(fr-at_).toNat<(to-fr).toNat)]
    congr 2
    omega
  · rw [if_neg hc,if_neg ω]
theorem YX {at_:Int} {b:List UInt8} {p:PtM} {fr to:Int} (hf:fr=max at_ p.at_) (ht:to=min (at_+b.length) (p.at_+p.d.length)) (h:¬ fr<to):JT at_ b p=b:=by
  refine CV (De _ _ _) fun i hi=>?_
  rw [Ib hi,if_neg ω]
def Ah8 (V:List UInt8) (M:MemM) (P:List PtM) (at_ n:Int):List UInt8:=if inM M at_ n=true then ovl at_ ((V.drop at_.toNat).take n.toNat) P else []
def okT (M:MemM) (P:List PtM) (at_:Int) (n:Nat):Bool:=decide (n≤256∧P.length<64∧0≤at_∧at_+n≤M.V.length)
def Lw (M:MemM) (P:List PtM) (at_:Int) (d:List UInt8):List PtM:=if okT M P at_ d.length=true then P++[⟨at_,d⟩] else P
def ND (M:MemM) (P:List PtM) (at_:Int) (n:Nat):Int:=if okT M P at_ n=true then 0 else 1
def Aii (M:MemM) (P:List PtM):Int:=if P=[] then 0 else El M 512 512 P
def Ade (M:MemM) (P:List PtM):MemM:=if P=[] then M else if El M 512 512 P=0 then Fu (DT M 512 512 P) 512 512 else M
def Afi (M:MemM) (P:List PtM):List PtM:=if P=[] then [] else if El M 512 512 P=0 then [] else P
structure TxOk (M:MemM) (P:List PtM):Prop where
  n:P.length≤64
  i:∀ p∈P,0≤p.at_∧p.at_+p.d.length≤M.V.length∧p.d.length≤256
theorem TxOk.nil (M:MemM):TxOk M []:=⟨Nat.zero_le _,fun p hp=>by cases hp⟩
theorem TxOk.put {M:MemM} {P:List PtM} (h:TxOk M P) (at_:Int) (d:List UInt8):TxOk M (Lw M P at_ d):=by
  unfold Lw
  split
  · next q=>
    unfold okT at q
    rw [decide_eq_true_iff] at q
    refine ⟨by rw [List.length_append];show P.length+1≤_;omega,fun p hp=>?_⟩
    rcases List.mem_append.1 hp with z | z
    · exact h.i p z
    · rw [List.mem_singleton.1 z];dsimp only;omega
  · exact h
theorem TxOk.pts {M:MemM} {P:List PtM} (h:TxOk M P) (hl:M.V.length≤1048576):IS P∧(∀ p∈P,p.d.length≤1000000):=by
  refine ⟨fun p hp=>?_,fun p hp=>?_⟩
  · have:=h.i p hp;unfold okI;omega
  · have:=h.i p hp;omega
theorem XB (M:MemM) (P:List PtM):(Ade M P).V.length=M.V.length:=by
  unfold Ade;split
  · rfl
  · split
    · rw [KL,Jv]
    · rfl
theorem TxOk.congr {M M':MemM} {P:List PtM} (h:TxOk M P) (e:M'.V.length=M.V.length):TxOk M' P:=⟨h.n,fun p hp=>by rw [e];exact h.i p hp⟩
theorem TxOk.com {M:MemM} {P:List PtM} (h:TxOk M P):TxOk (Ade M P) (Afi M P):=by
  refine TxOk.congr (M:=M) ?_ (XB M P)
  unfold Afi;split
  · exact TxOk.nil M
  · split
    · exact TxOk.nil M
    · exact h
end
section
def txC (g lg:Nat) (ta:Option Addr) (n tc:Nat):List Value:=[π g,π lg,.slice ta n tc]
theorem YN (w:World) (g lg:Nat):Calls Tryz.prog 23 #[π g,π lg] w fun e w'=>∃ tg,e=.returned (π tg)∧Blk w' tg 70 (txC g lg none 0 0)∧w.heap.size≤tg∧Below w.heap.size w w':=by
  go_enter Tryz.func23,Tryz.ntmps23
  go_wp2
  go_ret
  exact ⟨_,rfl,AL rfl _ _,Nat.le_refl _,Cq w _⟩
theorem Du {w:World} {g off:Nat} {q:Option Addr} {n c:Nat} (h:w.cell? ⟨g,off,none⟩=some (.slice q n c)):(Instr.loadAt 68 (.pointer (some ⟨g,off,none⟩))).run Tryz.prog w=.ok (.slice q n c) w:=by
  have u3:=υ68
  have a3:=Tryz.isAgg68
  have z3:=Tryz.sizeOf68
  go_simp
theorem Qc {w:World} {tg g lg n tc:Nat} {ta:Option Addr} (h:Blk w tg 70 (txC g lg ta n tc)):Calls Tryz.prog 10 #[π tg] w fun e w'=>(∃ x,e=.returned x)∧Blk w' tg 70 (txC g lg none 0 0)∧Turns (fun k=>k=tg) w w':=by
  have c2:w.cell? ⟨tg,2,none⟩=some (.slice ta n tc):=h.cell (i:=2) (by show 2<3;omega)
  have f2:=h.frozen 2
  have HB:=hid h
  go_enter Tryz.func10,Tryz.ntmps10
  go_wp2
  go_end0
  exact ⟨⟨_,rfl⟩,HB.out.set 2 _,(Turns.refl (fun k=>k=tg) w).setCell (p:=⟨tg,2,none⟩) rfl _⟩
theorem QQ (w:World):BG (w.alloc (.cells #[] 127)) w.heap.size (some ⟨w.heap.size,0,none⟩) 0 []:=by
  refine ⟨rfl,.inr ⟨w.heap.size,0,#[],rfl,Nat.le_refl _,?_,Nat.le_refl _,Nat.zero_le _,rfl,rfl⟩⟩
  exact heap_alloc_new w _
theorem OX {w:World} {a:Option Addr} {c:Nat} {P:List PtM} (h:Fl w a c P) (hl:P.length≤1000) :
    Calls Tryz.prog 72 #[.slice a P.length c] w fun e w'=>∃ la lc,e=.returned (.slice la P.length lc)∧BG w' w.heap.size la lc P∧Below w.heap.size w w':=by
  have qT:∀ (w:World) (a:Option Addr) (n c n' c':Nat),(binOp .eql 68 (.slice a n c) (.slice none n' c')).run Tryz.prog w=.ok (.bool a.isNone) w:=fun w a n c n' c'=>Lib.run_eql_slice_nil w _ _ a n c n' c' υ68
  cases a with
  | none=>
    have hc:c=0:=h.2.2.2.1 rfl
    have hl:P=[]:=List.eq_nil_of_length_eq_zero (by have:=h.2.1;omega)
    subst hl
    clear h hc
    go_enter Tryz.func72,Tryz.ntmps72
    go_wp2
    go_ret
    exact ⟨none,0,rfl,Own.nil _ _ _ _,Below.refl _ _⟩
  | some ad=>
    have HO:=hid (QQ w)
    have HR:=hid (h.mono (Cq w (.cells #[] 127)))
    have B0:=hid (Cq w (.cells #[] 127))
    clear h
    go_enter Tryz.func72,Tryz.ntmps72
    go_wp2_with (at_builtin;(refine CF rfl (.tmp 5) (.tmp 6) rfl EPt w.heap.size rfl rfl HO.out HR.out (JX P) (by show (0+_)*24≤_;omega) (by show 0+_≤_;omega) (by simp) ?_);intro a2 c2 w2 o2 g2 b2;have O2:=hid o2;have B2:=hid (B0.out.trans b2);clear o2 g2 b2)
    go_ret
    exact ⟨a2,c2,by simp,by have:=O2.out;simpa using this,B2.out⟩
theorem QV {w:World} {tg g lg tc:Nat} {ta:Option Addr} {P:List PtM} (h:Blk w tg 70 (txC g lg ta P.length tc)) (hr:Fl w ta tc P) (hl:P.length≤1000) :
    Calls Tryz.prog 40 #[π tg] w fun e w'=>∃ la lc,e=.returned (.slice la P.length lc)∧BG w' w.heap.size la lc P∧Below w.heap.size w w':=by
  have c2:w.cell? ⟨tg,2,none⟩=some (.slice ta P.length tc):=h.cell (i:=2) (by show 2<3;omega)
  have HC:=hid (OX hr hl)
  clear h hr
  go_enter Tryz.func40,Tryz.ntmps40
  go_wp2_with (go_at_call 72;refine HC.out.mono ?_;rintro e w1 ⟨la,lc,rfl,o1,b1⟩;have O1:=hid o1;have B1:=hid b1;clear o1 b1)
  go_ret
  exact ⟨la,lc,rfl,O1.out,B1.out⟩
section
variable {P:Program} {ops:Array Oper} {Q:Exit→Act→World→Prop} {md:Region.Mode} {S:World→Prop} {oi:Oper} {fuel:Nat} {listed:Array Bool} {a:Act} {w:World} {N:Nat} {l:List (Nat×Value)} {d:Nat} {v0 v:Value}
theorem tk0 (hS:S w) (h:Kn N l a) (i k:Nat) (hi:ops[i]? = some oi) (hd:oi.dst=some d) (hdN:decide (d<N)=true) (hf:l.all (fun x=>!(x.1 == d))=true) (hr:(Region.noSelect ops&&Region.free md ops listed i&&(Region.ready md ops listed).contains i)=true) (hQ:∀ c a w v,Q (.panic c) (a.put oi.dst v) w→Q (.panic c) a w) (hg:oi.guard=none) (hm:l.find? (fun y=>y.1 == k)=some (k,v0))
    (hrun:∀ w1,S w1→a.eval (.tmp k)=v0→(execOp a.eval oi).run P w1=.ok (.value v) w1) (K:∀ a',Kn N ((d,v)::l) a'→wpAnyH P md ops Q S fuel (listed.setIfInBounds i true) a' w):wpAnyH P md ops Q S (fuel+1) listed a w:=by
  rw [Bool.and_eq_true,Bool.and_eq_true] at hr
  exact Aj hS h i hi hd (of_decide_eq_true hdN) (fr hf) hr.1.1 hr.1.2 hr.2 hQ v (Or.inl ⟨Aa hg,fun w1 hSw=>hrun w1 hSw (h.ev k hm)⟩) K
theorem tkm (hS:S w) (h:Kn N l a) (i k:Nat) (hi:ops[i]? = some oi) (hd:oi.dst=some d) (hdN:decide (d<N)=true) (hf:l.all (fun x=>!(x.1 == d))=true) (hr:(Region.noSelect ops&&Region.free md ops listed i&&(Region.ready md ops listed).contains i)=true) (hQ:∀ c a w v,Q (.panic c) (a.put oi.dst v) w→Q (.panic c) a w) (hg:oi.guard=none)
    (ho:∀ ρ:Operand→Value,execOp ρ oi=pure (.value (ρ (.tmp k)))) (hm:l.find? (fun y=>y.1 == k)=some (k,v0)) (K:∀ a',Kn N ((d,v0)::l) a'→wpAnyH P md ops Q S fuel (listed.setIfInBounds i true) a' w):wpAnyH P md ops Q S (fuel+1) listed a w:=
  tk0 hS h i k hi hd hdN hf hr hQ hg hm (fun w1 _ e=>by rw [ho,e];rfl) K
theorem tkn {p:Addr} (hS:S w) (h:Kn N l a) (i k:Nat) (hi:ops[i]? = some oi) (hd:oi.dst=some d) (hdN:decide (d<N)=true) (hf:l.all (fun x=>!(x.1 == d))=true) (hr:(Region.noSelect ops&&Region.free md ops listed i&&(Region.ready md ops listed).contains i)=true) (hQ:∀ c a w v,Q (.panic c) (a.put oi.dst v) w→Q (.panic c) a w) (hg:oi.guard=none)
    (ho:oi.op=.nilCheck (.tmp k)) (hm:l.find? (fun y=>y.1 == k)=some (k,.pointer (some p))) (K:∀ a',Kn N ((d,.pointer (some p))::l) a'→wpAnyH P md ops Q S fuel (listed.setIfInBounds i true) a' w):wpAnyH P md ops Q S (fuel+1) listed a w:=
  tk0 hS h i k hi hd hdN hf hr hQ hg hm (fun w1 _ e=>by unfold execOp;rw [ho];simp only [e];rfl) K
theorem tkf {T:TypeId} {f:Nat} (hS:S w) (h:Kn N l a) (i k:Nat) (hi:ops[i]? = some oi) (hd:oi.dst=some d) (hdN:decide (d<N)=true) (hf:l.all (fun x=>!(x.1 == d))=true) (hr:(Region.noSelect ops&&Region.free md ops listed i&&(Region.ready md ops listed).contains i)=true) (hQ:∀ c a w v,Q (.panic c) (a.put oi.dst v) w→Q (.panic c) a w) (hg:oi.guard=none)
    (ho:oi.op=.fieldAddr T (.tmp k) f) (hm:l.find? (fun y=>y.1 == k)=some (k,v0)) (hfa:∀ w,(Instr.fieldAt T v0 f).run P w=.ok v w) (K:∀ a',Kn N ((d,v)::l) a'→wpAnyH P md ops Q S fuel (listed.setIfInBounds i true) a' w):wpAnyH P md ops Q S (fuel+1) listed a w:=
  tk0 hS h i k hi hd hdN hf hr hQ hg hm (fun w1 _ e=>by unfold execOp;rw [ho];simp only [e];exact Ac (hfa w1)) K
theorem tkl {T:TypeId} (hS:S w) (h:Kn N l a) (i k:Nat) (hi:ops[i]? = some oi) (hd:oi.dst=some d) (hdN:decide (d<N)=true) (hf:l.all (fun x=>!(x.1 == d))=true) (hr:(Region.noSelect ops&&Region.free md ops listed i&&(Region.ready md ops listed).contains i)=true) (hQ:∀ c a w v,Q (.panic c) (a.put oi.dst v) w→Q (.panic c) a w) (hg:oi.guard=none)
    (ho:oi.op=.load T (.tmp k)) (hm:l.find? (fun y=>y.1 == k)=some (k,v0)) (hld:∀ w1,S w1→(Instr.loadAt T v0).run P w1=.ok v w1) (K:∀ a',Kn N ((d,v)::l) a'→wpAnyH P md ops Q S fuel (listed.setIfInBounds i true) a' w):wpAnyH P md ops Q S (fuel+1) listed a w:=
  tk0 hS h i k hi hd hdN hf hr hQ hg hm (fun w1 hSw e=>by unfold execOp;rw [ho];simp only [e];exact Ac (hld w1 hSw)) K
end
end
end Go.Proofs.YtbfgjinpchbajaaGreatDoor
