/- Parts of the proof. -/
import Derived.Test.YtpnknncmacjdkaaGreatDoorQae
namespace Go.Proofs.YtpnknncmacjdkaaGreatDoor
open Go.RowKit
open _root_.Go.Proofs.Tryz
set_option linter.unusedSimpArgs false
set_option linter.unusedVariables false
set_option linter.unusedSectionVars false
set_option maxRecDepth 100000
set_option maxHeartbeats 8000000
section
theorem JP (g:Nat) (w:World):(Instr.fieldAt 137 (π g) 1).run prog w=.ok (.pointer (some ⟨g,1,none⟩)) w:=rfl
theorem Nr (g:Nat) (w:World):(Instr.fieldAt 137 (π g) 2).run prog w=.ok (.pointer (some ⟨g,2,none⟩)) w:=rfl
theorem WO (a:Ω) (n c:Nat) (w:World):(Instr.buildSlice 86 1 #[(0,.slice a n c)]).run prog w=.ok (.slice (some ⟨w.heap.size,0,none⟩) 1 1) (w.alloc (.cells #[.slice a n c] 89)):=by
  have u3:=υ86
  have u9:=υ89
  have z3:=Tryz.sizeOf89
  go_simp
theorem VY (w:World) (v:Value) (e:TypeId):Row (w.alloc (.cells #[v] e)) 1 (some ⟨w.heap.size,0,none⟩) 1 1 [v]:=Abo w [v] e (by simp)
theorem Agf:ElemT prog 86 89 1 24:=Lv υ86 (z:=.slice none 0 0) κ rfl ω
theorem LogP.below {w w':World} {B lg g v d p at_ size:Nat} {M:MemM} (h:LogP w lg g v d p at_ size M) (b:Below B w w') (hb:lg<B∧g<B∧v<B∧d<B∧p<B):LogP w' lg g v d p at_ size M:=by
  have t:Turns (fun k=>B≤k) w w':=⟨b.os,b.tape,b.output,b.size,fun k _ hn=>b.block k ω⟩
  exact ⟨t.blk h.l ω,h.m.turns t ω ω ω ω⟩
theorem YQ {X:Λ} {M:MemM} {a n:Nat} (h:a+n≤M.V.length):KG X M (a:Int) (n:Int)=(X.drop a).take n:=by
  unfold KG
  rw [if_pos (by unfold inM;simp;omega),Int.toNat_natCast,Int.toNat_natCast]
theorem Afs {w W:World} {act:Act} {M:MemM} {at_ size u:Nat} {b:Λ} {ra:Ω} {rc:Nat} {rs:List (Ω×Nat×List PtM)} (hd:act.defers=[]) (h2:act.tmps[2]? = some (.slice ra rs.length rc)) (h3:act.tmps[3]? = some (ν (u:Int))) (hr:Ex b=(rs.map (·.2.2),u)) (hb:b=Ff M.V at_ size) (hR:RecsP W w.heap.size ra rc rs) (hB:Below w.heap.size w W) :
    bodyPost prog Tryz.f42 (fun e w'=>∃ x,e=.returned x∧∃ ra rc rs,x=.tuple #[.slice ra rs.length rc,ν ((Cn M.V at_ size).2:Int)]∧rs.map (·.2.2)=(Cn M.V at_ size).1∧RecsP w' w.heap.size ra rc rs∧Below w.heap.size w w') .ret act W:=by
  have e:Cn M.V at_ size=(rs.map (·.2.2),u):=by unfold Cn;rw [← hb];exact hr
  rw [e]
  exact bodyPost_ret (results_tmp2 rfl h2 h3) hd ⟨_,rfl,ra,rc,rs,rfl,rfl,hR,hB⟩
theorem QG {w:World} {lg g v d p at_ size:Nat} {M:MemM} (hg0:LogP w lg g v d p at_ size M) (hok:LogOk at_ size M) :
    Calls prog 42 #[π lg] w fun e w'=>∃ x,e=.returned x∧∃ ra rc rs,x=.tuple #[.slice ra rs.length rc,ν ((Cn M.V at_ size).2:Int)]∧rs.map (·.2.2)=(Cn M.V at_ size).1∧RecsP w' w.heap.size ra rc rs∧Below w.heap.size w w':=by
  have hbase0:=hg0.lt
  have HG0:=hid hg0
  have hok2:=hok
  obtain ⟨s1,s2,s3,s4⟩:=hok2
  obtain ⟨en,hen⟩:∃ n,n=GU M.V at_ size:=⟨_,rfl⟩
  have hle:en≤size-8:=by rw [hen];exact Ov _ _ _
  obtain ⟨b,hb⟩:∃ b,b=Ff M.V at_ size:=⟨_,rfl⟩
  have hbl:b.length≤65536:=by rw [hb];unfold Ff;rw [List.length_take,← hen];omega
  have hseen:KG M.V M ((at_+8:Nat):Int) en=b:=by rw [hb];unfold Ff;rw [← hen];exact YQ ω
  have HBV:=hid hb
  have HEN:=hid hen.symm
  clear hg0 hb hen
  go_enter func42,ntmps42
  iterate 3 go_step
  refine Bk (N:=43) (l:=[(0,π lg)]) ⟨rfl,(by intro x hx;simp only [List.mem_cons,List.not_mem_nil,or_false] at hx;rcases hx with rfl<;>rfl),rfl⟩ fun a2 h1=>mv h1 rfl fun _ h3=>mv h3 rfl fun _ h5=>?_
  iterate 4 go_step
  have HG1:=hid (HG0.out.mono (Below.refl _ _).drew)
  refine wp_region_held_drew (S:=fun w'=>Blk w' lg 137 (Nb g at_ size)) κ HG1.out.l (fun hS1=>?_)
  refine tv1 hS1 h5 0 rfl rfl (v:=π lg) (fun w1 hSw=>Au h5 rfl rfl w1) fun a8 h7=>tv1 hS1 h7 1 rfl rfl (v:=π lg) (fun w1 hSw=>Hl h7 rfl rfl w1) fun a1 h9=>tv1 hS1 h9 2 rfl rfl (v:=π lg) (fun w1 hSw=>rfa h9 rfl rfl (fun _=>FY (lg) _) w1) fun a3 h2=>tv1 hS1 h2 3 rfl rfl (v:=π g) (fun w1 hSw=>rld h2 rfl rfl (He (hSw.cell (i:=0) (by show 0<3;omega)))) fun a4 h4=>tv1 hS1 h4 4 rfl rfl (v:=π lg) (fun w1 hSw=>Au h4 rfl rfl w1) fun a5 h6=>tv1 hS1 h6 5 rfl rfl (v:=π lg) (fun w1 hSw=>Hl h6 rfl rfl w1) fun a6 h8=>tv1 hS1 h8 6 rfl rfl (v:=.pointer (some ⟨lg,1,none⟩)) (fun w1 hSw=>rfa h8 rfl rfl (fun _=>JP (lg) _) w1) fun a7 h10=>tv1 hS1 h10 7 rfl rfl (v:=ν (at_:Int)) (fun w1 hSw=>rld h10 rfl rfl (Cy (hSw.cell (i:=1) (by show 1<3;omega)))) fun a9 h11=>tv1 hS1 h11 8 rfl rfl (v:=ν ((at_+8:Nat):Int)) (fun w1 hSw=>(by show (execOp _ (⟨_,.binOp .add 3 (.tmp 17) (.const (ν 8)) 3,_,_,_,_⟩:Oper)).run _ _=_;exact (by unfold execOp;simp only [h11.ev 17 rfl];exact Af (Ni _ _ _ _ _ ω ω ω _)))) fun a10 h12=>tv1 hS1 h12 9 rfl rfl (v:=π lg) (fun w1 hSw=>Au h12 rfl rfl w1) fun a11 h13=>?_
  refine AF 10 rfl rfl κ fun K hK=>DT h13 rfl (by decide) (fr rfl) (fun args=>cF func81 (args:=args) (w:=_)) rfl #[π lg] (by simp only [List.map_toArray,List.map_cons,List.map_nil,h13.ev 19 rfl]) (R:=fun v w'=>v=ν (en:Int)∧Below w.drew.heap.size w.drew w') ((by have z:=ZK HG1.out hok;rw [HEN.out] at z;exact z)) fun a12 v2 w2 r2 h14=>hK _ _ (HG1.out.l.mono r2.2) fun hS2=>?_
  clear hK K
  obtain ⟨rfl,b2⟩:=r2
  have HG2:=hid (HG1.out.mono b2);have B2:Hid (Below w.heap.size w w2):=hid ((Below.refl _ w).drew.trans b2);clear b2
  refine AF 11 rfl rfl κ fun K hK=>DT h14 rfl (by decide) (fr rfl) (fun args=>cF func13 (args:=args) (w:=_)) rfl #[π g,ν ((at_+8:Nat):Int),ν (en:Int)] (by simp only [List.map_toArray,List.map_cons,List.map_nil,h14.ev 13 rfl,h14.ev 18 rfl,h14.ev 20 rfl]) (R:=fun v w'=>∃ a c,v=.tuple #[.slice a (KG M.V M ((at_+8:Nat):Int) en).length c,ν (GX M ((at_+8:Nat):Int) en)]∧CF w' w2.heap.size a c (KG M.V M ((at_+8:Nat):Int) en)∧Below w2.heap.size w2 w') ((Adi HG2.out.m ((at_+8:Nat):Int) en (by unfold ER;omega) (by unfold ER;omega)).mono fun e w' q=>by obtain ⟨x,y,q1,q2,q3⟩:=q;exact ⟨_,q1,x,y,rfl,q2,q3⟩) fun a13 v3 w3 r3 h15=>hK _ _ (by obtain ⟨x,y,_,_,q⟩:=r3;exact HG2.out.l.mono q) fun hS3=>?_
  clear hK K
  obtain ⟨ba,bc,rfl,o3,b3⟩:=r3
  rw [hseen] at o3 h15
  have HG3:=hid (HG2.out.mono b3);have HB3:=hid (Own.low o3 B2.out.size);have B3:=hid (Ac B2.out b3);clear o3 b3
  refine tv1 hS3 h15 12 rfl rfl (v:=.tuple #[.slice ba b.length bc,ν (GX M ((at_+8:Nat):Int) en)]) (fun w1 hSw=>Au h15 rfl rfl w1) fun a14 h16=>tv1 hS3 h16 13 rfl rfl (v:=.slice ba b.length bc) (fun w1 hSw=>(by show (execOp _ (⟨_,.extract (.tmp 9) 0,_,_,_,_⟩:Oper)).run _ _=_;exact (by unfold execOp;simp only [h16.ev 9 rfl];exact rfl))) fun a15 h17=>tv1 hS3 h17 14 rfl rfl (v:=ν (GX M ((at_+8:Nat):Int) en)) (fun w1 hSw=>(by show (execOp _ (⟨_,.extract (.tmp 9) 1,_,_,_,_⟩:Oper)).run _ _=_;exact (by unfold execOp;simp only [h17.ev 9 rfl];exact rfl))) fun a16 h18=>tv1 hS3 h18 15 rfl rfl (v:=.slice ba b.length bc) (fun w1 hSw=>(by show (execOp _ (⟨_,.assign (.tmp 22),_,_,_,_⟩:Oper)).run _ _=_;exact (by unfold execOp;simp only [h18.ev 22 rfl];exact rfl))) fun a17 h19=>tv1 hS3 h19 16 rfl rfl (v:=ν (GX M ((at_+8:Nat):Int) en)) (fun w1 hSw=>(by show (execOp _ (⟨_,.assign (.tmp 23),_,_,_,_⟩:Oper)).run _ _=_;exact (by unfold execOp;simp only [h19.ev 23 rfl];exact rfl))) fun a18 h20=>?_
  refine wpAnyH_done κ ?_ _
  refine h20.sk [4,3,2,0] rfl fun h21=>?_
  iterate 3 go_step
  refine h21.sk [2,3,4,0] rfl fun h22=>?_
  refine wp_loop (I:=fun a' w'=>∃ (u k:Nat) (ra:Ω) (rc:Nat) (rs:List (Ω×Nat×List PtM)),u≤b.length∧Kn 43 [(2,.slice ra rs.length rc),(3,ν (u:Int)),(4,.slice ba b.length bc),(0,π lg)] a'∧LogP w' lg g v d p at_ size M∧CF w' w.heap.size ba bc b∧RecsP w' w.heap.size ra rc rs∧Below w.heap.size w w'∧Ex b=GJ b k u (rs.map (·.2.2))∧b.length-u<k∧rs.length≤u) (μ:=fun a' _=>b.length-(intOf (a'.eval (.tmp 3))).toNat) ⟨0,b.length+1,none,0,[],Nat.zero_le _,h22,HG3.out,HB3.out,RecsP.nil _ _,B3.out,rfl,ω,Nat.le_refl _⟩ ?_
  clear HG3 HB3 B3 h22
  rintro aL wL ⟨u,k,ra,rc,rs,hu,hK,hG,hB,hRS,hBL,hrd,huk,hru⟩
  have HG:=hid hG;have HB:=hid hB;have HRS:=hid hRS;have HBL:=hid hBL;have HRD:=hid hrd;clear hG hB hRS hBL hrd
  iterate 4 go_step
  refine mv hK rfl fun _ h23=>mv h23 rfl fun _ h24=>?_
  obtain ⟨dp,hsl,hrow⟩:=Aei HB.out.row u hu
  have hyl:(b.drop u).length=b.length-u:=by rw [List.length_drop]
  refine wv h24 rfl rfl rfl rfl (.slice dp (b.length-u) (bc-u)) (by unfold execOp;simp only [Option.map_some,Option.map_none,h24.ev 25 rfl,h24.ev 26 rfl];exact Af (hsl _)) fun a19 h25=>BI h25 (wn rfl) rfl (by decide) (fr rfl) (fun args=>cF func82 (args:=args) (w:=_)) rfl #[.slice dp (b.length-u) (bc-u)] (by simp only [List.map_toArray,List.map_cons,List.map_nil,h25.ev 27 rfl]) (R:=fun v w'=>∃ la lc,v=.tuple #[.slice la (Cd (b.drop u)).1.length lc,ν (Cd (b.drop u)).2.1,ν (Cd (b.drop u)).2.2]∧By w' wL.heap.size la lc (Cd (b.drop u)).1∧Below wL.heap.size wL w') ((by have z:=RH hrow ω;rw [hyl] at z;exact z)) fun a20 v5 w5 r5 h26=>?_
  obtain ⟨la,lc,rfl,o5,b5⟩:=r5
  obtain ⟨D,hD⟩:∃ D,D=Cd (b.drop u):=⟨_,rfl⟩
  rw [← hD] at o5 h26
  have HG5:=hid (HG.out.mono b5);have HB5:=hid (Own.mono HB.out b5);have HRS5:=hid (HRS.out.mono b5);have HO5:=hid (Own.low o5 HBL.out.size);have HBL5:=hid (Ac HBL.out b5);have HDD:=hid hD;clear o5 b5 hD
  refine mv h26 rfl fun _ h27=>mv h27 rfl fun a21 h28=>mv h28 rfl fun a22 h29=>mv h29 rfl fun a23 h30=>mv h30 rfl fun _ h31=>mv h31 rfl fun _ h32=>mv h32 rfl fun _ h33=>h33.sk [8,7,6,2,3,4,0] rfl fun h34=>?_
  iterate 4 go_step
  obtain ⟨k,rfl⟩:∃ j,k=j+1:=⟨k-1,ω⟩
  have HR1:Hid (Ex b=if D.2.2=0 then GJ b k (u+D.2.1.toNat) (rs.map (·.2.2)++[D.1]) else (rs.map (·.2.2),u)):=hid (by rw [HRD.out,HDD.out];rfl)
  by_cases hD0:D.2.2=0
  · have hbad:(D.2.2 != 0)=false:=by rw [hD0];rfl
    obtain ⟨n,hn,hn1,hn2⟩:=Ls (xs:=b.drop u) (by rw [← HDD.out];exact hD0)
    rw [← HDD.out] at hn
    rw [hyl] at hn2
    have hbase:lg<w.heap.size∧g<w.heap.size∧v<w.heap.size∧d<w.heap.size∧p<w.heap.size:=hbase0
    rw [hn] at h34
    iterate 2 go_step
    refine mv h34 rfl fun _ h35=>wv h35 rfl rfl rfl rfl (.bool false) (by unfold execOp;simp only [h35.ev 32 rfl];exact Af (Qi _ _ _ _ _ hbad)) fun a24 h36=>h36.sk [33,8,7,6,2,3,4,0] rfl fun h37=>?_
    iterate 3 go_step
    refine wp_cond (t:=false) (h37.ev 33 rfl) ?_
    simp only [Bool.false_eq_true,if_false]
    refine h37.sk [8,7,6,2,3,4,0] rfl fun h38=>?_
    iterate 5 go_step
    refine mv h38 rfl fun _ h39=>mv h39 rfl fun _ h40=>wv h40 rfl rfl rfl rfl (.slice (some ⟨w5.heap.size,0,none⟩) 1 1) (by unfold execOp;simp only [List.map_toArray,List.map_cons,List.map_nil,h40.ev 37 rfl];exact Af (WO _ _ _ _)) fun a25 h41=>?_
    obtain ⟨w6,hw6⟩:∃ x,x=w5.alloc (.cells #[.slice la D.1.length lc] 89):=⟨_,rfl⟩
    have b6:Below w5.heap.size w5 w6:=by rw [hw6];exact Ck _ _
    have R6:Row w6 1 (some ⟨w5.heap.size,0,none⟩) 1 1 [.slice la D.1.length lc]:=by rw [hw6];exact VY w5 _ _
    have HG6:=hid (HG5.out.mono b6);have HB6:=hid (Own.mono HB5.out b6);have HRS6:=hid (HRS5.out.mono b6);have HO6:=hid (Own.mono HO5.out b6);have HBL6:=hid (Ac HBL5.out b6);have HR6:=hid R6;clear b6 R6
    rw [← hw6];clear hw6
    refine CA rfl (.tmp 36) (.tmp 38) rfl Agf w.heap.size (h41.ev 36 rfl) (h41.ev 38 rfl) HRS6.out.o HR6.out (by intro x hx;simp only [List.mem_cons,List.not_mem_nil,or_false] at hx;subst hx;rfl) ω ω HBL6.out.size ?_
    intro ra2 rc2 w7 o7 g7 b7
    refine Bk (h41.put (d:=39) (by decide) (fr rfl) (.slice ra2 (rs.length+1) rc2)) fun a26 h42=>?_
    have HG7:=hid (HG6.out.below b7 hbase);have HB7:=hid (Md HB6.out HRS6.out.o (by decide) g7);have HBL7:=hid (HBL6.out.trans b7)
    have HRS7:Hid (RecsP w7 w.heap.size ra2 rc2 (rs++[(la,lc,D.1)])):=hid ⟨by rw [List.length_append,List.map_append];exact o7,fun r hr=>by rcases List.mem_append.1 hr with q | q;exact Md (HRS6.out.i r q) HRS6.out.o (by decide) g7;rw [List.mem_singleton.1 q];exact Md HO6.out HRS6.out.o (by decide) g7⟩
    clear o7 g7 b7
    refine h42.sk [39,38,37,36,8,7,6,3,4,0] rfl fun h43=>mv h43 rfl fun _ h44=>h44.sk [2,8,7,6,3,4,0] rfl fun h45=>?_
    iterate 4 go_step
    refine mv h45 rfl fun _ h46=>mv h46 rfl fun _ h47=>bv h47 rfl (z:=ν ((u+n:Nat):Int)) (Ni _ _ _ _ _ ω ω ω) fun a27 h48=>h48.sk [42,41,40,2,8,7,6,4,0] rfl fun h49=>mv h49 rfl fun _ h50=>h50.sk [3,2,8,7,6,4,0] rfl fun h51=>?_
    iterate 2 go_step
    refine ⟨⟨u+n,k,ra2,rc2,rs++[(la,lc,D.1)],ω,?_,HG7.out,HB7.out,HRS7.out,HBL7.out,?_,ω,by rw [List.length_append];show rs.length+1≤_;omega⟩,?_⟩
    · rw [List.length_append];exact h51.subs rfl
    · rw [HR1.out,if_pos hD0,hn,Int.toNat_natCast,List.map_append];rfl
    · rw [h51.ev 3 rfl,hK.ev 3 rfl];simp [intOf];omega
  · have hbad:(D.2.2 != 0)=true:=by simp [bne,hD0]
    iterate 2 go_step
    refine mv h34 rfl fun _ h52=>wv h52 rfl rfl rfl rfl (.bool true) (by unfold execOp;simp only [h52.ev 32 rfl];exact Af (Qi _ _ _ _ _ hbad)) fun a28 h53=>h53.sk [33,8,7,6,2,3,4,0] rfl fun h54=>?_
    iterate 3 go_step
    refine wp_cond (t:=true) (h54.ev 33 rfl) ?_
    simp only [if_true]
    refine h54.sk [8,7,6,2,3,4,0] rfl fun h55=>?_
    iterate 2 go_step
    refine mv h55 rfl fun _ h56=>mv h56 rfl fun _ h57=>h57.sk [35,34,8,7,6,3,4,0] rfl fun h58=>mv h58 rfl fun _ h59=>h59.sk [2,35,34,8,7,6,4,0] rfl fun h60=>mv h60 rfl fun _ h61=>h61.sk [3,2,8,7,6,4,0] rfl fun h62=>?_
    iterate 4 go_step
    simp only [Exit.then,Exit.inBlock]
    exact Afs h62.defs (h62.known (2,.slice ra rs.length rc) (by simp)) (h62.known (3,ν (u:Int)) (by simp)) (HR1.out.trans (if_neg hD0)) HBV.out HRS5.out HBL5.out
end
section
theorem GR {P:Program} {fn:Func} {R:Ending→World→Prop} {a:Act} {w:World} {v:Value} (hv:(results fn a.tmps).run P w=.ok v w) (hd:a.defers=[]) (h:R (.returned v) w):bodyPost P fn R .normal a w:=⟨hd,v,hv,h⟩
theorem GT (p:PtM) (w:World):(Instr.buildSlice 89 1 #[(0,ptV p)]).run prog w=.ok (.slice (some ⟨w.heap.size,0,none⟩) ([p]:List PtM).length 1) (w.alloc (.cells (ptC p).toArray 141)):=by
  have u3:=υ89
  have u9:=υ141
  have z3:=Tryz.sizeOf141
  unfold ptV ptC Am
  go_simp
theorem Pc (w:World) (p:PtM):EN (w.alloc (.cells (ptC p).toArray 141)) (some ⟨w.heap.size,0,none⟩) 1 [p]:=by
  refine ⟨rfl,Nat.le_refl _,by unfold maxLen;omega,fun h=>by (cases h),fun _=>⟨w.heap.size,0,rfl,by simp,fun j u hu=>?_⟩⟩
  have hh:=heap_alloc_new w (.cells (ptC p).toArray 141)
  unfold World.cell?
  rw [show (⟨w.heap.size,0+j,none⟩:Addr).block=w.heap.size from rfl,hh]
  simpa using hu
def Dn (M:MemM) (at_:Nat) (n:Int):MemM:=CC M [⟨(at_:Int),Ar [] n 8⟩]
theorem VP (n:Int):(Ar [] n 8).length≤8:=BK [] n 8
theorem MD {w:World} {lg g v d p at_ size:Nat} {M:MemM} (hg0:LogP w lg g v d p at_ size M) (n:Int) (hn:n≤1000000) (ha:at_≤1048576) :
    Calls prog 48 #[π lg,ν n] w fun e w'=>∃ x,e=.returned x∧LogP w' lg g v d p at_ size (Dn M at_ n)∧Turns (XM v d p) w w':=by
  have HG0:=hid hg0
  have hp64a:okI (⟨(at_:Int),Ar [] n 8⟩:PtM).at_:=by unfold okI;show _≤(at_:Int)∧(at_:Int)≤_;omega
  have hpda:(⟨(at_:Int),Ar [] n 8⟩:PtM).d.length≤1000000:=by have:=VP n;show (Ar [] n 8).length≤_;omega
  clear hg0
  go_enter func48,ntmps48
  obtain ⟨ac,hac⟩:∃ x:Act,x={ tmps:=#[π lg,ν n,undef,undef,undef,undef,undef,undef,undef,undef,undef,undef,undef,undef,undef],defers:=[] }:=⟨_,rfl⟩
  have h0:Kn 15 [(0,π lg),(1,ν n)] ac:=⟨by rw [hac];rfl,(by intro x hx;rw [hac];simp only [List.mem_cons,List.not_mem_nil,or_false] at hx;rcases hx with rfl | rfl<;>rfl),by rw [hac]⟩
  rw [← hac]
  clear hac
  have HG1:=hid (HG0.out.mono (Below.refl _ _).drew);have HT1:Hid (Turns (XM v d p) w w.drew):=hid (Turns.refl _ _).drew
  refine wp_region_held_drew (S:=fun w'=>Blk w' lg 137 (Nb g at_ size)∧True) κ ⟨HG1.out.l,trivial⟩ (fun hS1=>?_)
  refine tv1 hS1 h0 0 rfl rfl (v:=π lg) (fun w1 hSw=>Au h0 rfl rfl w1) fun a2 h1=>tv1 hS1 h1 1 rfl rfl (v:=π lg) (fun w1 hSw=>Au h1 rfl rfl w1) fun a4 h3=>tv1 hS1 h3 2 rfl rfl (v:=π lg) (fun w1 hSw=>Hl h3 rfl rfl w1) fun a6 h5=>tv1 hS1 h5 3 rfl rfl (v:=.pointer (some ⟨lg,1,none⟩)) (fun w1 hSw=>rfa h5 rfl rfl (fun _=>JP (lg) _) w1) fun a8 h7=>tv1 hS1 h7 4 rfl rfl (v:=ν (at_:Int)) (fun w1 hSw=>rld h7 rfl rfl (Cy (hSw.1.cell (i:=1) (by show 1<3;omega)))) fun a1 h9=>tv1 hS1 h9 5 rfl rfl (v:=ν n) (fun w1 hSw=>Au h9 rfl rfl w1) fun a3 h2=>AF 6 rfl rfl κ fun K hK=>DT h2 rfl (by decide) (fr rfl) (fun args=>cF func84 (args:=args) (w:=_)) rfl #[.slice none 0 0,ν n,ν 8] (by simp only [List.map_toArray,List.map_cons,List.map_nil,h2.ev 9 rfl];rfl) (R:=fun v w'=>∃ a c,v=.slice a (Ar [] n 8).length c∧CF w' w.drew.heap.size a c (Ar [] n 8)∧Below w.drew.heap.size w.drew w') ((DU none 0 [] n 8 w.drew (Row.nil _ _) (by simp) ω).mono fun e w' q=>by obtain ⟨a2,c2,q1,q2,q3⟩:=q;exact ⟨_,q1,a2,c2,rfl,q2,q3⟩) fun a5 v2 w2 r2 h4=>hK _ _ (by obtain ⟨x,y,_,_,q⟩:=r2;exact ⟨hS1.1.mono q,trivial⟩) fun hS2=>?_
  clear hK K
  obtain ⟨ba,bc,rfl,o2,b2⟩:=r2
  have HG2:=hid (HG1.out.mono b2);have HT2:Hid (Turns (XM v d p) w w2):=hid (HT1.out.trans (Turns.of_below b2));have hst:=Gy o2.row;clear b2
  refine AF 7 rfl rfl κ fun K hK=>Di (w':=w2) h4 rfl (by decide) (fr rfl) (Am (Ar [] n 8)) (by show (execOp _ (⟨_,.convert 22 9 (.tmp 10),_,_,_,_⟩:Oper)).run _ _=_;exact (by unfold execOp;simp only [h4.ev 10 rfl];exact Af hst)) fun a7 h6=>hK _ _ (hS2) fun hS3=>?_
  clear hK K
  refine tv1 hS3 h6 8 rfl rfl (v:=ptV ⟨(at_:Int),Ar [] n 8⟩) (fun w1 hSw=>(by show (execOp _ (⟨_,.build 141 #[(0,(.tmp 8)),(1,(.tmp 11))],_,_,_,_⟩:Oper)).run _ _=_;exact (by unfold execOp;simp only [List.map_toArray,List.map_cons,List.map_nil,h6.ev 8 rfl,h6.ev 11 rfl];exact Af (IQ _ _ _)))) fun a9 h8=>?_
  obtain ⟨wsa,hwsa⟩:∃ x,x=w2.alloc (.cells (ptC ⟨(at_:Int),Ar [] n 8⟩).toArray 141):=⟨_,rfl⟩
  have bsa:Below w2.heap.size w2 wsa:=by rw [hwsa];exact Ck _ _
  have rsa:EN wsa (some ⟨w2.heap.size,0,none⟩) 1 [⟨(at_:Int),Ar [] n 8⟩]:=by rw [hwsa];exact Pc _ _
  refine AF 9 rfl rfl κ fun K hK=>Di (w':=wsa) h8 rfl (by decide) (fr rfl) (.slice (some ⟨w2.heap.size,0,none⟩) ([⟨(at_:Int),Ar [] n 8⟩]:List PtM).length 1) (by show (execOp _ (⟨_,.buildSlice 89 1 #[(0,(.tmp 12))],_,_,_,_⟩:Oper)).run _ _=_;exact (by unfold execOp;simp only [List.map_toArray,List.map_cons,List.map_nil,h8.ev 12 rfl];rw [hwsa];exact Af (GT _ _))) fun a10 h10=>hK _ _ (⟨hS3.1.mono bsa,trivial⟩) fun hSsa=>?_
  clear hK K
  have HGsa:=hid (HG2.out.mono bsa);have HTsa:Hid (Turns (XM v d p) w wsa):=hid (HT2.out.trans (Turns.of_below bsa));have hnwa:=HG2.out.lt;have HRsa:=hid rsa;clear hwsa rsa bsa
  refine AF 10 rfl rfl κ fun K hK=>DT h10 rfl (by decide) (fr rfl) (fun args=>cF func43 (args:=args) (w:=_)) rfl #[π lg,.slice (some ⟨w2.heap.size,0,none⟩) ([⟨(at_:Int),Ar [] n 8⟩]:List PtM).length 1] (by simp only [List.map_toArray,List.map_cons,List.map_nil,h10.ev 4 rfl,h10.ev 13 rfl]) (R:=fun xv w'=>LogP w' lg g v d p at_ size (CC M [⟨(at_:Int),Ar [] n 8⟩])∧Turns (XM v d p) wsa w') ((Gv HGsa.out (fun W t=>t.row HRsa.out (fun _ b hb=>by obtain ⟨off,e⟩:=hb;cases e;rintro (e | e | e)<;>omega)) (by intro q hq;rw [List.mem_singleton.1 hq];exact hp64a) (by intro q hq;rw [List.mem_singleton.1 hq];exact hpda) (by show (1:Nat)≤_;omega)).mono fun e w' q=>by obtain ⟨x,q1,q2,q3⟩:=q;exact ⟨x,q1,q2,q3⟩) fun a11 vwa wwa rwa h11=>hK _ _ (⟨rwa.1.l,trivial⟩) fun hSwa=>?_
  clear hK K
  have HGwa:=hid rwa.1;have HTwa:Hid (Turns (XM v d p) w wwa):=hid (HTsa.out.trans rwa.2);clear rwa
  refine wpAnyH_done κ ?_ _
  refine h11.sk [0,1] rfl fun h12=>?_
  exact GR (results_none rfl _ _ _) h12.defs ⟨_,rfl,HGwa.out,HTwa.out⟩
end
section
theorem QF (b:Λ) (k u:Nat) (acc:List (List PtM)) (hu:u≤b.length):(GJ b k u acc).2≤b.length∧(8*acc.length≤u→8*(GJ b k u acc).1.length≤(GJ b k u acc).2):=by
  induction k generalizing u acc with
  | zero=>exact ⟨hu,fun h=>h⟩
  | succ k ih=>
    unfold GJ
    split
    · next h=>
      obtain ⟨n,hn,h1,h2⟩:=Ls h
      rw [List.length_drop] at h2
      rw [hn,Int.toNat_natCast]
      obtain ⟨q1,q2⟩:=ih (u+n) (acc++[(Cd (b.drop u)).1]) ω
      exact ⟨q1,fun ha=>q2 (by rw [List.length_append];show 8*(acc.length+1)≤_;omega)⟩
    · exact ⟨hu,fun h=>h⟩
theorem UM (V:Λ) (at_ size:Nat):(Ff V at_ size).length≤size-8:=by
  unfold Ff
  rw [List.length_take]
  have:=Ov V at_ size
  omega
theorem XX (V:Λ) (at_ size:Nat):(Cn V at_ size).2≤size-8:=Nat.le_trans (QF _ _ 0 [] (Nat.zero_le _)).1 (UM V at_ size)
theorem Adj (V:Λ) (at_ size:Nat):8*(Cn V at_ size).1.length≤size-8:=Nat.le_trans ((QF _ _ 0 [] (Nat.zero_le _)).2 (Nat.le_refl _)) (XX V at_ size)
def VO (L:List PtM):Prop:=Ir L∧(∀ p∈L,p.d.length≤1000000)∧L.length≤64
theorem XC {xs:Λ} (n:Nat) {s:DS} {acc:List PtM} (h:Ir acc∧∀ p∈acc,p.d.length≤1000000) {r:List PtM×DS} (hr:Dy xs n s acc=some r):(Ir r.1∧∀ p∈r.1,p.d.length≤1000000)∧r.1.length=acc.length+n:=by
  induction n generalizing s acc with
  | zero=>cases hr;exact ⟨h,rfl⟩
  | succ n ih=>
    unfold Dy at hr
    split at hr
    · cases hr
    · next hq=>
      have h2:=ih ⟨?_,?_⟩ hr
      · refine ⟨h2.1,?_⟩
        rw [h2.2,List.length_append]
        show acc.length+1+n=_
        omega
      · intro p hp
        rcases List.mem_append.1 hp with q | q
        · exact h.1 p q
        · rw [List.mem_singleton.1 q]
          have:=Jk xs s 4
          unfold okI
          show _≤((Bg xs s 4).1:Int)∧((Bg xs s 4).1:Int)≤_
          omega
      · intro p hp
        rcases List.mem_append.1 hp with q | q
        · exact h.2 p q
        · rw [List.mem_singleton.1 q]
          exact Nat.le_trans (Il _ _ _) ω
theorem ZI (xs:Λ):VO (Cd xs).1:=by
  have h0:VO ([]:List PtM):=⟨fun p h=>(by cases h),fun p h=>(by cases h),Nat.zero_le _⟩
  unfold Cd
  split
  · exact h0
  · next q=>
    cases hg:Dy xs (Bg xs ⟨0,false⟩ 2).1 (Bg xs ⟨0,false⟩ 2).2 [] with
    | none=>exact h0
    | some r=>
      obtain ⟨h1,h2⟩:=XC _ ⟨fun p h=>(by cases h),fun p h=>(by cases h)⟩ hg
      show VO (IV xs r.1 r.2).1
      unfold IV
      split
      · exact h0
      · split
        · exact h0
        · split
          · exact ⟨h1.1,h1.2,by rw [h2];show 0+_≤64;omega⟩
          · exact h0
theorem YE (b:Λ) (k u:Nat) (acc:List (List PtM)) (h:∀ L∈acc,VO L):∀ L∈(GJ b k u acc).1,VO L:=by
  induction k generalizing u acc with
  | zero=>exact h
  | succ k ih=>
    unfold GJ
    split
    · refine ih _ _ fun L hL=>?_
      rcases List.mem_append.1 hL with q | q
      · exact h L q
      · rw [List.mem_singleton.1 q];exact ZI _
    · exact h
theorem Aak {V:Λ} {at_ size:Nat} {L:List PtM} (h:L∈(Cn V at_ size).1):VO L:=YE _ _ _ [] (fun L h=>by cases h) L h
theorem Row.below {w w':World} {sz:Nat} {a:Ω} {n c:Nat} {cs:List Value} (h:Row w sz a n c cs) (b:Below w.heap.size w w'):Row w' sz a n c cs:=h.mono b
theorem Adh {w:World} {g off:Nat} {a:Ω} {n c:Nat} (h:w.cell? ⟨g,off,none⟩=some (.slice a n c)):(Instr.loadAt 89 (.pointer (some ⟨g,off,none⟩))).run prog w=.ok (.slice a n c) w:=by
  have u3:=υ89
  have a3:=Tryz.isAgg89
  have z3:=Tryz.sizeOf89
  go_simp
theorem Agx (b off n c j:Nat) (hj:j<n) (w:World):(Instr.indexAt 86 (.slice (some ⟨b,off,none⟩) n c) (ν (j:Int))).run prog w=.ok (.pointer (some ⟨b,off+j,none⟩)) w:=by
  have u3:=υ86
  have u9:=υ89
  have z3:=Tryz.sizeOf89
  have d0:(j:Int)<(n:Int):=ω
  have d1:0≤(j:Int):=ω
  go_simp
theorem NR {o:Oper} {x:Operand} (ho:o.op=.call { callee:=.builtin .len,args:=#[x],argTypes:=#[86] }) {ρ:Operand→Value} {a:Ω} {n c:Nat} (hx:ρ x=.slice a n c) (w:World):(execOp ρ o).run prog w=.ok (.value (ν (n:Int))) w:=by
  unfold execOp;rw [ho]
  have u3:=υ86
  simp [resolve,invoke,builtin,hx]
  go_simp
theorem EPt:ElemT prog 89 141 2 24:=Lv υ89 (z:=.agg (ptC zPt).toArray) κ rfl ω
def Dt (M:MemM) (at_ size:Nat) (L:List PtM):Int:=if FW L=0 then (if size-8<(Cn M.V at_ size).2+(BP L).length then 5 else 0) else FW L
def CR (M:MemM) (at_ size:Nat) (L:List PtM):MemM:=if FW L=0∧¬ size-8<(Cn M.V at_ size).2+(BP L).length then Dn (CC M [⟨((at_+8+(Cn M.V at_ size).2:Nat):Int),BP L⟩]) at_ (((Cn M.V at_ size).2+(BP L).length:Nat):Int) else M
def AI (M:MemM) (at_ size:Nat):MemM:=Dn (CC M (Cn M.V at_ size).1.flatten) at_ 0
theorem Aea {w W:World} {lg g v d p at_ size:Nat} {M:MemM} {L:List PtM} {act:Act} {E:Int} (hd:act.defers=[]) (h4:act.tmps[4]? = some (ν E)) (hE:Dt M at_ size L=E) (hG:LogP W lg g v d p at_ size (CR M at_ size L)) (hT:Turns (XM v d p) w W) :
    bodyPost prog Tryz.f55 (fun e w'=>∃ x,e=.returned x∧x=ν (Dt M at_ size L)∧LogP w' lg g v d p at_ size (CR M at_ size L)∧Turns (XM v d p) w w') .ret act W:=by
  rw [hE]
  exact bodyPost_ret (AL rfl h4) hd ⟨_,rfl,rfl,hG,hT⟩
theorem Xg {L:List PtM}:(BP L).length≤20000:=by
  unfold BP
  split
  · next h=>
    unfold CG at h
    rw [Bool.and_eq_true,decide_eq_true_iff,List.all_eq_true] at h
    have h1:=PD L (Ar [] L.length 2) (fun p hp=>by have:=h.2 p hp;unfold Gw at this;rw [Bool.and_eq_true,decide_eq_true_iff] at this;exact this.2)
    have h2:(Ar [] (L.length:Int) 2).length≤([]:Λ).length+2:=BK _ _ 2
    have h3:(MA (DG L)).length≤(DG L).length+4:=BK _ _ 4
    unfold Up
    rw [List.length_append,List.length_replicate]
    have h4:(DG L).length≤(Ar [] (L.length:Int) 2).length+262*L.length:=h1
    have h5:([]:Λ).length=0:=rfl
    have h6:Bl (MA (DG L)).length≤7:=by unfold Bl;omega
    omega
  · exact Nat.zero_le _
theorem Nk {w:World} {lg g v d p at_ size:Nat} {M:MemM} (hg0:LogP w lg g v d p at_ size M) (ha:at_≤1048576) :
    Calls prog 19 #[π lg] w fun e w'=>∃ x,e=.returned x∧LogP w' lg g v d p at_ size (Dn M at_ 0)∧Turns (XM v d p) w w':=by
  go_enter func19,ntmps19
  obtain ⟨ac,hac⟩:∃ x:Act,x={ tmps:=#[π lg,undef,undef,undef],defers:=[] }:=⟨_,rfl⟩
  have h0:Kn 4 [(0,π lg)] ac:=⟨by rw [hac];rfl,(by intro x hx;rw [hac];simp only [List.mem_cons,List.not_mem_nil,or_false] at hx;rcases hx with rfl;rfl),by rw [hac]⟩
  rw [← hac]
  clear hac
  iterate 2 go_step
  refine mv h0 rfl fun _ h1=>BI h1 (wn rfl) rfl (by decide) (fr rfl) (fun args=>cF func48 (args:=args) (w:=_)) rfl #[π lg,ν 0] (by simp only [List.map_toArray,List.map_cons,List.map_nil,h1.ev 2 rfl];rfl) (R:=fun xv w'=>LogP w' lg g v d p at_ size (Dn M at_ 0)∧Turns (XM v d p) w w') (MD hg0 0 ω ha) fun a4 v1 w1 r1 h3=>h3.sk [0] rfl fun h5=>?_
  go_step
  exact GR (results_none rfl _ _ _) h5.defs ⟨_,rfl,r1.1,r1.2⟩
theorem Lh {w:World} {lg g v d p at_ size:Nat} {M:MemM} {a:Ω} {c:Nat} {L:List PtM} (hg0:LogP w lg g v d p at_ size M) (hok:LogOk at_ size M) (hrow:EN w a c L) (okP:Ir L) (hl:L.length≤1000000) :
    Calls prog 55 #[π lg,.slice a L.length c] w fun e w'=>∃ x,e=.returned x∧x=ν (Dt M at_ size L)∧LogP w' lg g v d p at_ size (CR M at_ size L)∧Turns (XM v d p) w w':=by
  have HG0:=hid hg0
  have hok2:=hok
  obtain ⟨s1,s2,s3,s4⟩:=hok2
  obtain ⟨eb,heb⟩:∃ x,BP L=x:=⟨_,rfl⟩
  obtain ⟨ee,hee⟩:∃ x,FW L=x:=⟨_,rfl⟩
  obtain ⟨u,hu⟩:∃ x,(Cn M.V at_ size).2=x:=⟨_,rfl⟩
  have hul:u≤size-8:=by rw [← hu];exact XX _ _ _
  have hebl:eb.length≤20000:=by rw [← heb];exact Xg
  have HEB:=hid heb;have HEE:=hid hee;have HU:=hid hu
  clear hg0 heb hee hu
  go_enter func55,ntmps55
  iterate 3 go_step
  refine Bk (N:=51) (l:=[(0,π lg),(1,.slice a L.length c)]) ⟨rfl,(by intro x hx;simp only [List.mem_cons,List.not_mem_nil,or_false] at hx;rcases hx with rfl | rfl<;>rfl),rfl⟩ fun a2 h1=>mv h1 rfl fun _ h3=>?_
  iterate 5 go_step
  refine mv h3 rfl fun _ h5=>BI h5 (wn rfl) rfl (by decide) (fr rfl) (fun args=>cF func89 (args:=args) (w:=_)) rfl #[.slice a L.length c] (by simp only [List.map_toArray,List.map_cons,List.map_nil,h5.ev 10 rfl]) (R:=fun xv w'=>∃ ba bc,xv=.tuple #[.slice ba (BP L).length bc,ν (FW L)]∧CF w' w.heap.size ba bc (BP L)∧Below w.heap.size w w') ((RJ hrow okP ω).mono fun e w' q=>by obtain ⟨x,y,q1,q2,q3⟩:=q;exact ⟨_,q1,x,y,rfl,q2,q3⟩) fun a8 v2 w2 r2 h7=>?_
  obtain ⟨ba,bc,rfl,o2,b2⟩:=r2
  rw [HEB.out] at o2 h7;rw [HEE.out] at h7
  have HG2:=hid (HG0.out.mono b2);have HO2:=hid o2;have HT2:Hid (Turns (XM v d p) w w2):=hid (Turns.of_below b2);have HB2:=hid b2;clear o2 b2
  refine mv h7 rfl fun _ h9=>mv h9 rfl fun a1 h2=>mv h2 rfl fun a3 h4=>mv h4 rfl fun _ h6=>mv h6 rfl fun _ h8=>h8.sk [6,5,4,0,1] rfl fun h10=>?_
  iterate 4 go_step
  by_cases he:ee=0
  · have hbad:(ee != 0)=false:=by rw [he];rfl
    iterate 2 go_step
    refine mv h10 rfl fun _ h11=>wv h11 rfl rfl rfl rfl (.bool false) (by unfold execOp;simp only [h11.ev 14 rfl];exact Af (Qi _ _ _ _ _ hbad)) fun a4 h12=>h12.sk [15,6,5,4,0,1] rfl fun h13=>?_
    iterate 3 go_step
    refine wp_cond (t:=false) (h13.ev 15 rfl) ?_
    simp only [Bool.false_eq_true,if_false]
    refine h13.sk [6,5,4,0,1] rfl fun h14=>?_
    iterate 5 go_step
    refine mv h14 rfl fun _ h15=>BI h15 (wn rfl) rfl (by decide) (fr rfl) (fun args=>cF func42 (args:=args) (w:=_)) rfl #[π lg] (by simp only [List.map_toArray,List.map_cons,List.map_nil,h15.ev 18 rfl]) (R:=fun xv w'=>∃ ra rc rs,xv=.tuple #[.slice ra rs.length rc,ν ((Cn M.V at_ size).2:Int)]∧rs.map (·.2.2)=(Cn M.V at_ size).1∧RecsP w' w2.heap.size ra rc rs∧Below w2.heap.size w2 w') (QG HG2.out hok) fun a5 v3 w3 r3 h16=>?_
    obtain ⟨ra,rc,rs,rfl,_,_,b3⟩:=r3
    rw [HU.out] at h16
    have HG3:=hid (HG2.out.mono b3);have HO3:=hid (Own.mono HO2.out b3);have HT3:Hid (Turns (XM v d p) w w3):=hid (HT2.out.trans (Turns.of_below b3));have HB3:=hid (Ac HB2.out b3);clear b3
    refine mv h16 rfl fun _ h17=>mv h17 rfl fun a6 h18=>mv h18 rfl fun a7 h19=>mv h19 rfl fun _ h20=>mv h20 rfl fun _ h21=>h21.sk [8,6,5,4,0,1] rfl fun h22=>?_
    iterate 4 go_step
    by_cases hf:size-8<u+eb.length
    · have hfull:decide (((size-8-u:Nat):Int)<(eb.length:Int))=true:=decide_eq_true ω
      iterate 2 go_step
      refine mv h22 rfl fun _ h23=>wv h23 rfl rfl rfl rfl (ν (eb.length:Int)) (El rfl (h23.ev 22 rfl) _) fun a9 h24=>mv h24 rfl fun _ h25=>mv h25 rfl fun a10 h26=>fav h26 rfl (u:=.pointer (some ⟨lg,2,none⟩)) (fun _=>Nr (lg) _) fun a11 h27=>sw1 h27 rfl (v:=ν (size:Int)) (rld h27 rfl rfl (Cy (HG3.out.l.cell (i:=2) (by show 2<3;omega)))) fun a12 h28=>bv h28 rfl (z:=ν ((size-8:Nat):Int)) (FH _ _ _ _ _ ω ω ω) fun a13 h29=>mv h29 rfl fun _ h30=>bv h30 rfl (z:=ν ((size-8-u:Nat):Int)) (FH _ _ _ _ _ ω ω ω) fun a14 h31=>wv h31 rfl rfl rfl rfl (.bool true) (by unfold execOp;simp only [h31.ev 23 rfl,h31.ev 30 rfl];exact Af (Im _ _ _ _ _ hfull)) fun a15 h32=>?_
      refine h32.sk [31,8,6,5,4,0,1] rfl fun h33=>?_
      iterate 3 go_step
      refine wp_cond (t:=true) (h33.ev 31 rfl) ?_
      simp only [if_true]
      refine h33.sk [8,6,5,4,0,1] rfl fun h34=>?_
      iterate 2 go_step
      refine h34.sk [8,6,5,0,1] rfl fun h35=>mv h35 rfl fun _ h36=>?_
      iterate 4 go_step
      simp only [Exit.then,Exit.inBlock]
      exact Aea h36.defs (h36.known (4,ν 5) (by simp)) (by unfold Dt;rw [HEE.out,if_pos he,HU.out,HEB.out,if_pos hf]) (by have z:=HG3.out;unfold CR;rw [HU.out,HEB.out,if_neg (fun q=>q.2 hf)];exact z) HT3.out
    · have hfull:decide (((size-8-u:Nat):Int)<(eb.length:Int))=false:=decide_eq_false ω
      have hp64b:okI (⟨((at_+8+u:Nat):Int),eb⟩:PtM).at_:=by unfold okI;show _≤((at_+8+u:Nat):Int)∧((at_+8+u:Nat):Int)≤_;omega
      have hpdb:(⟨((at_+8+u:Nat):Int),eb⟩:PtM).d.length≤1000000:=by show eb.length≤_;omega
      iterate 2 go_step
      refine mv h22 rfl fun _ h37=>wv h37 rfl rfl rfl rfl (ν (eb.length:Int)) (El rfl (h37.ev 22 rfl) _) fun a16 h38=>mv h38 rfl fun _ h39=>mv h39 rfl fun a17 h40=>fav h40 rfl (u:=.pointer (some ⟨lg,2,none⟩)) (fun _=>Nr (lg) _) fun a18 h41=>sw1 h41 rfl (v:=ν (size:Int)) (rld h41 rfl rfl (Cy (HG3.out.l.cell (i:=2) (by show 2<3;omega)))) fun a19 h42=>bv h42 rfl (z:=ν ((size-8:Nat):Int)) (FH _ _ _ _ _ ω ω ω) fun a20 h43=>mv h43 rfl fun _ h44=>bv h44 rfl (z:=ν ((size-8-u:Nat):Int)) (FH _ _ _ _ _ ω ω ω) fun a21 h45=>wv h45 rfl rfl rfl rfl (.bool false) (by unfold execOp;simp only [h45.ev 23 rfl,h45.ev 30 rfl];exact Af (Im _ _ _ _ _ hfull)) fun a22 h46=>?_
      refine h46.sk [31,8,6,5,4,0,1] rfl fun h47=>?_
      iterate 3 go_step
      refine wp_cond (t:=false) (h47.ev 31 rfl) ?_
      simp only [Bool.false_eq_true,if_false]
      refine h47.sk [8,6,5,4,0,1] rfl fun h48=>?_
      iterate 4 go_step
      have HG4:=hid (HG3.out.mono (Below.refl _ _).drew);have HT4:Hid (Turns (XM v d p) w w3.drew):=hid HT3.out.drew;have hst:=Gy (Own.mono HO3.out (Below.refl _ _).drew).row
      refine wp_region_held_drew (S:=fun w'=>Blk w' lg 137 (Nb g at_ size)∧True) κ ⟨HG4.out.l,trivial⟩ (fun hS4=>?_)
      refine tv1 hS4 h48 0 rfl rfl (v:=π lg) (fun w1 hSw=>Au h48 rfl rfl w1) fun a23 h49=>tv1 hS4 h49 1 rfl rfl (v:=π lg) (fun w1 hSw=>Au h49 rfl rfl w1) fun a24 h50=>tv1 hS4 h50 2 rfl rfl (v:=π lg) (fun w1 hSw=>Hl h50 rfl rfl w1) fun a25 h51=>tv1 hS4 h51 3 rfl rfl (v:=.pointer (some ⟨lg,1,none⟩)) (fun w1 hSw=>rfa h51 rfl rfl (fun _=>JP (lg) _) w1) fun a26 h52=>tv1 hS4 h52 4 rfl rfl (v:=ν (at_:Int)) (fun w1 hSw=>rld h52 rfl rfl (Cy (hSw.1.cell (i:=1) (by show 1<3;omega)))) fun a27 h53=>tv1 hS4 h53 5 rfl rfl (v:=ν ((at_+8:Nat):Int)) (fun w1 hSw=>(by show (execOp _ (⟨_,.binOp .add 3 (.tmp 36) (.const (ν 8)) 3,_,_,_,_⟩:Oper)).run _ _=_;exact (by unfold execOp;simp only [h53.ev 36 rfl];exact Af (Ni _ _ _ _ _ ω ω ω _)))) fun a28 h54=>tv1 hS4 h54 6 rfl rfl (v:=ν (u:Int)) (fun w1 hSw=>Au h54 rfl rfl w1) fun a29 h55=>tv1 hS4 h55 7 rfl rfl (v:=ν ((at_+8+u:Nat):Int)) (fun w1 hSw=>(by show (execOp _ (⟨_,.binOp .add 3 (.tmp 37) (.tmp 38) 3,_,_,_,_⟩:Oper)).run _ _=_;exact (by unfold execOp;simp only [h55.ev 37 rfl,h55.ev 38 rfl];exact Af (Ni _ _ _ _ _ ω ω ω _)))) fun a30 h56=>tv1 hS4 h56 8 rfl rfl (v:=.slice ba eb.length bc) (fun w1 hSw=>Au h56 rfl rfl w1) fun a31 h57=>AF 9 rfl rfl κ fun K hK=>Di (w':=w3.drew) h57 rfl (by decide) (fr rfl) (Am eb) (by show (execOp _ (⟨_,.convert 22 9 (.tmp 40),_,_,_,_⟩:Oper)).run _ _=_;exact (by unfold execOp;simp only [h57.ev 40 rfl];exact Af hst)) fun a32 h58=>hK _ _ (hS4) fun hS5=>?_
      clear hK K
      refine tv1 hS5 h58 10 rfl rfl (v:=ptV ⟨((at_+8+u:Nat):Int),eb⟩) (fun w1 hSw=>(by show (execOp _ (⟨_,.build 141 #[(0,(.tmp 39)),(1,(.tmp 41))],_,_,_,_⟩:Oper)).run _ _=_;exact (by unfold execOp;simp only [List.map_toArray,List.map_cons,List.map_nil,h58.ev 39 rfl,h58.ev 41 rfl];exact Af (IQ _ _ _)))) fun a33 h59=>?_
      obtain ⟨wsb,hwsb⟩:∃ x,x=w3.drew.alloc (.cells (ptC ⟨((at_+8+u:Nat):Int),eb⟩).toArray 141):=⟨_,rfl⟩
      have bsb:Below w3.drew.heap.size w3.drew wsb:=by rw [hwsb];exact Ck _ _
      have rsb:EN wsb (some ⟨w3.drew.heap.size,0,none⟩) 1 [⟨((at_+8+u:Nat):Int),eb⟩]:=by rw [hwsb];exact Pc _ _
      refine AF 11 rfl rfl κ fun K hK=>Di (w':=wsb) h59 rfl (by decide) (fr rfl) (.slice (some ⟨w3.drew.heap.size,0,none⟩) ([⟨((at_+8+u:Nat):Int),eb⟩]:List PtM).length 1) (by show (execOp _ (⟨_,.buildSlice 89 1 #[(0,(.tmp 42))],_,_,_,_⟩:Oper)).run _ _=_;exact (by unfold execOp;simp only [List.map_toArray,List.map_cons,List.map_nil,h59.ev 42 rfl];rw [hwsb];exact Af (GT _ _))) fun a34 h60=>hK _ _ (⟨hS5.1.mono bsb,trivial⟩) fun hSsb=>?_
      clear hK K
      have HGsb:=hid (HG4.out.mono bsb);have HTsb:Hid (Turns (XM v d p) w wsb):=hid (HT4.out.trans (Turns.of_below bsb));have hnwb:=HG4.out.lt;have HRsb:=hid rsb;clear hwsb rsb bsb
      refine AF 12 rfl rfl κ fun K hK=>DT h60 rfl (by decide) (fr rfl) (fun args=>cF func43 (args:=args) (w:=_)) rfl #[π lg,.slice (some ⟨w3.drew.heap.size,0,none⟩) ([⟨((at_+8+u:Nat):Int),eb⟩]:List PtM).length 1] (by simp only [List.map_toArray,List.map_cons,List.map_nil,h60.ev 32 rfl,h60.ev 43 rfl]) (R:=fun xv w'=>LogP w' lg g v d p at_ size (CC M [⟨((at_+8+u:Nat):Int),eb⟩])∧Turns (XM v d p) wsb w') ((Gv HGsb.out (fun W t=>t.row HRsb.out (fun _ b hb=>by obtain ⟨off,e⟩:=hb;cases e;rintro (e | e | e)<;>omega)) (by intro q hq;rw [List.mem_singleton.1 hq];exact hp64b) (by intro q hq;rw [List.mem_singleton.1 hq];exact hpdb) (by show (1:Nat)≤_;omega)).mono fun e w' q=>by obtain ⟨x,q1,q2,q3⟩:=q;exact ⟨x,q1,q2,q3⟩) fun a35 vwb wwb rwb h61=>hK _ _ (⟨rwb.1.l,trivial⟩) fun hSwb=>?_
      clear hK K
      have HGwb:=hid rwb.1;have HTwb:Hid (Turns (XM v d p) w wwb):=hid (HTsb.out.trans rwb.2);clear rwb
      refine wpAnyH_done κ ?_ _
      refine h61.sk [8,6,5,4,0,1] rfl fun h62=>?_
      iterate 4 go_step
      refine mv h62 rfl fun _ h63=>mv h63 rfl fun _ h64=>mv h64 rfl fun _ h65=>wv h65 rfl rfl rfl rfl (ν (eb.length:Int)) (El rfl (h65.ev 47 rfl) _) fun a36 h66=>bv h66 rfl (z:=ν ((u+eb.length:Nat):Int)) (Ni _ _ _ _ _ ω ω ω) fun a37 h67=>BI h67 (wn rfl) rfl (by decide) (fr rfl) (fun args=>cF func48 (args:=args) (w:=_)) rfl #[π lg,ν ((u+eb.length:Nat):Int)] (by simp only [List.map_toArray,List.map_cons,List.map_nil,h67.ev 45 rfl,h67.ev 49 rfl]) (R:=fun xv w'=>LogP w' lg g v d p at_ size (Dn (CC M [⟨((at_+8+u:Nat):Int),eb⟩]) at_ ((u+eb.length:Nat):Int))∧Turns (XM v d p) wwb w') ((MD HGwb.out ((u+eb.length:Nat):Int) ω ω)) fun a38 v9 w9 r9 h68=>h68.sk [8,6,5,4,0,1] rfl fun h69=>?_
      iterate 5 go_step
      refine h69.sk [8,6,5,0,1] rfl fun h70=>mv h70 rfl fun _ h71=>?_
      iterate 4 go_step
      exact Aea h71.defs (h71.known (4,ν 0) (by simp)) (by unfold Dt;rw [HEE.out,if_pos he,HU.out,HEB.out,if_neg hf]) (by unfold CR;rw [HEE.out,HU.out,HEB.out,if_pos ⟨he,hf⟩];exact r9.1) (HTwb.out.trans r9.2)
  · have hbad:(ee != 0)=true:=by simp [bne,he]
    iterate 2 go_step
    refine mv h10 rfl fun _ h72=>wv h72 rfl rfl rfl rfl (.bool true) (by unfold execOp;simp only [h72.ev 14 rfl];exact Af (Qi _ _ _ _ _ hbad)) fun a39 h73=>h73.sk [15,6,5,4,0,1] rfl fun h74=>?_
    iterate 3 go_step
    refine wp_cond (t:=true) (h74.ev 15 rfl) ?_
    simp only [if_true]
    refine h74.sk [6,5,4,0,1] rfl fun h75=>?_
    iterate 2 go_step
    refine mv h75 rfl fun _ h76=>h76.sk [16,6,5,0,1] rfl fun h77=>mv h77 rfl fun _ h78=>h78.sk [4,6,5,0,1] rfl fun h79=>?_
    iterate 4 go_step
    simp only [Exit.then,Exit.inBlock]
    exact Aea h79.defs (h79.known (4,ν ee) (by simp)) (by unfold Dt;rw [HEE.out,if_neg he]) (by have z:=HG2.out;unfold CR;rw [HEE.out,if_neg (fun q=>he q.1)];exact z) HT2.out
theorem QH {w:World} {lg g v d p at_ size:Nat} {M:MemM} (hg0:LogP w lg g v d p at_ size M) (hok:LogOk at_ size M) :
    Calls prog 16 #[π lg] w fun e w'=>∃ x,e=.returned x∧x=ν ((Cn M.V at_ size).1.length:Int)∧LogP w' lg g v d p at_ size (AI M at_ size)∧Turns (XM v d p) w w':=by
  have HG0:=hid hg0
  have hok2:=hok
  obtain ⟨s1,s2,s3,s4⟩:=hok2
  clear hg0
  go_enter func16,ntmps16
  iterate 3 go_step
  refine Bk (N:=30) (l:=[(0,π lg)]) ⟨rfl,(by intro x hx;simp only [List.mem_cons,List.not_mem_nil,or_false] at hx;rcases hx with rfl<;>rfl),rfl⟩ fun a2 h1=>mv h1 rfl fun _ h3=>?_
  iterate 5 go_step
  refine mv h3 rfl fun _ h5=>BI h5 (wn rfl) rfl (by decide) (fr rfl) (fun args=>cF func42 (args:=args) (w:=_)) rfl #[π lg] (by simp only [List.map_toArray,List.map_cons,List.map_nil,h5.ev 9 rfl]) (R:=fun xv w'=>∃ ra rc rs,xv=.tuple #[.slice ra rs.length rc,ν ((Cn M.V at_ size).2:Int)]∧rs.map (·.2.2)=(Cn M.V at_ size).1∧RecsP w' w.heap.size ra rc rs∧Below w.heap.size w w') (QG HG0.out hok) fun a8 v3 w3 r3 h7=>?_
  obtain ⟨ra,rc,rs,rfl,hrs,hrec,b3⟩:=r3
  obtain ⟨u,hu⟩:∃ u,u=(Cn M.V at_ size).2:=⟨_,rfl⟩
  rw [← hu] at h7
  have HG3:=hid (HG0.out.mono b3);have HT3:Hid (Turns (XM v d p) w w3):=hid (Turns.of_below b3);have HRC:=hid hrec;have HRS:=hid hrs;have HB3:=hid b3;clear b3 hrec hrs hu
  have hnr:8*rs.length≤65536:=by have z:=congrArg List.length HRS.out;rw [List.length_map] at z;rw [z];exact Nat.le_trans (Adj _ _ _) ω
  have hpts:=fun r (hr:r∈rs)=>Aak (V:=M.V) (at_:=at_) (size:=size) (by rw [← HRS.out];exact List.mem_map.2 ⟨r,hr,rfl⟩)
  refine mv h7 rfl fun _ h9=>mv h9 rfl fun a1 h2=>mv h2 rfl fun a3 h4=>mv h4 rfl fun _ h6=>mv h6 rfl fun _ h8=>h8.sk [3,2,0] rfl fun h10=>?_
  iterate 5 go_step
  refine mv h10 rfl fun _ h11=>?_
  iterate 6 go_step
  refine mv h11 rfl fun _ h12=>wv h12 rfl rfl rfl rfl (ν (rs.length:Int)) (NR rfl (h12.ev 13 rfl) _) fun a4 h13=>mv h13 rfl fun _ h14=>?_
  iterate 4 go_step
  refine h14.sk [5,15,14,13,3,2,0] rfl fun h15=>?_
  refine wp_loop (I:=fun a' w'=>∃ (j:Nat) (al:List PtM) (aa:Ω) (ac:Nat),j≤rs.length∧Kn 30 [(5,.slice aa al.length ac),(15,ν (j:Int)),(14,ν (rs.length:Int)),(13,.slice ra rs.length rc),(3,.slice ra rs.length rc),(2,ν 0),(0,π lg)] a'∧al=(rs.take j).flatMap (·.2.2)∧By w' w3.heap.size aa ac al∧Below w3.heap.size w3 w'∧al.length≤64*j) (μ:=fun a' _=>rs.length-(intOf (a'.eval (.tmp 15))).toNat) ⟨0,[],none,0,Nat.zero_le _,h15,rfl,Own.nil _ _ _ _,Below.refl _ _,Nat.le_refl _⟩ ?_
  clear h15
  rintro aL wL ⟨j,al,aa,ac,hj,hK,hal,hA,hBL,hln⟩
  have HA:=hid hA;have HBL:=hid hBL;have HAL:=hid hal;clear hA hBL hal
  by_cases hlt:j<rs.length
  · have hd0:decide ((j:Int)<(rs.length:Int))=true:=decide_eq_true ω
    obtain ⟨q,hq⟩:∃ q,q=rs[j]:=⟨_,rfl⟩
    have hqm:q∈rs:=by rw [hq];exact List.getElem_mem hlt
    obtain ⟨pb,poff,ha0,_,hcc⟩:=(HRC.out.o.row.below HBL.out).at ω
    have hcell:=hcc j (YF q) (by rw [List.getElem?_map,List.getElem?_eq_getElem hlt,← hq];rfl)
    unfold YF at hcell
    have hrq:=(HRC.out.i q hqm).row.below HBL.out
    have hqn:=(hpts q hqm).2.2
    have HQ:=hid hq;clear hq hcc
    iterate 3 go_step
    refine wv hK rfl rfl rfl rfl (.bool true) (by unfold execOp;simp only [hK.ev 15 rfl,hK.ev 14 rfl];exact Af (KO _ _ _ _ _ hd0)) fun a5 h16=>?_
    iterate 4 go_step
    refine wp_cond (t:=true) (h16.ev 16 rfl) ?_
    simp only [if_true]
    refine h16.sk [5,15,14,13,3,2,0] rfl fun h17=>?_
    iterate 7 go_step
    refine wv h17 rfl rfl rfl rfl (.pointer (some ⟨pb,poff+j,none⟩)) (by unfold execOp;simp only [h17.ev 13 rfl,h17.ev 15 rfl];exact Af (by rw [ha0];exact Agx pb poff _ rc j hlt _)) fun a6 h18=>sw1 h18 rfl (v:=.slice q.1 q.2.2.length q.2.1) (rld h18 rfl rfl (Adh hcell)) fun a7 h19=>mv h19 rfl fun _ h20=>h20.sk [7,5,15,14,13,3,2,0] rfl fun h21=>?_
    iterate 4 go_step
    refine mv h21 rfl fun _ h22=>mv h22 rfl fun _ h23=>CA rfl (.tmp 19) (.tmp 20) rfl EPt w3.heap.size (h23.ev 19 rfl) (h23.ev 20 rfl) HA.out hrq (Jq _) ω ω HBL.out.size ?_
    intro aa2 ac2 w7 o7 g7 b7
    refine Bk (h23.put (d:=21) (by decide) (fr rfl) (.slice aa2 (al.length+q.2.2.length) ac2)) fun a9 h24=>?_
    have HA7:Hid (By w7 w3.heap.size aa2 ac2 (al++q.2.2)):=hid (by unfold By;rw [List.length_append,List.flatMap_append];exact o7);have HBL7:=hid (HBL.out.trans b7);clear o7 g7 b7
    refine h24.sk [21,20,19,7,15,14,13,3,2,0] rfl fun h25=>mv h25 rfl fun _ h26=>h26.sk [5,7,15,14,13,3,2,0] rfl fun h27=>?_
    iterate 4 go_step
    refine bv h27 rfl (z:=ν ((j+1:Nat):Int)) (Nh _ _ j ω) fun a10 h28=>h28.sk [22,5,7,14,13,3,2,0] rfl fun h29=>mv h29 rfl fun _ h30=>h30.sk [15,5,7,14,13,3,2,0] rfl fun h31=>?_
    iterate 2 go_step
    refine ⟨⟨j+1,al++q.2.2,aa2,ac2,ω,?_,?_,HA7.out,HBL7.out,by rw [List.length_append];omega⟩,?_⟩
    · rw [List.length_append];exact h31.subs rfl
    · rw [List.take_add_one,List.getElem?_eq_getElem hlt,Option.toList_some,List.flatMap_append,← HAL.out,← HQ.out];simp
    · rw [h31.ev 15 rfl,hK.ev 15 rfl];simp [intOf];omega
  · have hd0:decide ((j:Int)<(rs.length:Int))=false:=decide_eq_false ω
    obtain rfl:j=rs.length:=ω
    rw [List.take_length] at HAL
    have HGL:=hid (HG3.out.mono HBL.out);have hXlt:∀ k,XM v d p k→k<w3.heap.size:=by have z:=HG3.out.lt;rintro k (e | e | e)<;>omega
    have hP64:Ir al:=by intro x hx;rw [HAL.out] at hx;obtain ⟨r,hr,hx⟩:=List.mem_flatMap.1 hx;exact (hpts r hr).1 x hx
    have hPd:∀ x∈al,x.d.length≤1000000:=by intro x hx;rw [HAL.out] at hx;obtain ⟨r,hr,hx⟩:=List.mem_flatMap.1 hx;exact (hpts r hr).2.1 x hx
    iterate 3 go_step
    refine wv hK rfl rfl rfl rfl (.bool false) (by unfold execOp;simp only [hK.ev 15 rfl,hK.ev 14 rfl];exact Af (KO _ _ _ _ _ hd0)) fun a11 h32=>?_
    iterate 4 go_step
    refine wp_cond (t:=false) (h32.ev 16 rfl) ?_
    simp only [Bool.false_eq_true,if_false]
    refine h32.sk [5,15,14,13,3,2,0] rfl fun h33=>?_
    iterate 7 go_step
    refine mv h33 rfl fun _ h34=>mv h34 rfl fun _ h35=>BI h35 (wn rfl) rfl (by decide) (fr rfl) (fun args=>cF func43 (args:=args) (w:=_)) rfl #[π lg,.slice aa al.length ac] (by simp only [List.map_toArray,List.map_cons,List.map_nil,h35.ev 23 rfl,h35.ev 24 rfl]) (R:=fun xv w'=>LogP w' lg g v d p at_ size (CC M al)∧Turns (XM v d p) wL w') ((Gv HGL.out (fun W t=>(t.own HA.out (fun k hk=>hXlt k hk)).row) hP64 hPd ω).mono fun e w' q=>by obtain ⟨x,q1,q2,q3⟩:=q;exact ⟨x,q1,q2,q3⟩) fun a12 v8 w8 r8 h36=>h36.sk [5,15,14,13,3,2,0] rfl fun h37=>?_
    iterate 5 go_step
    refine mv h37 rfl fun _ h38=>BI h38 (wn rfl) rfl (by decide) (fr rfl) (fun args=>cF func19 (args:=args) (w:=_)) rfl #[π lg] (by simp only [List.map_toArray,List.map_cons,List.map_nil,h38.ev 26 rfl]) (R:=fun xv w'=>LogP w' lg g v d p at_ size (Dn (CC M al) at_ 0)∧Turns (XM v d p) w8 w') (Nk r8.1 ω) fun a13 v9 w9 r9 h39=>h39.sk [5,15,14,13,3,2,0] rfl fun h40=>?_
    iterate 5 go_step
    refine mv h40 rfl fun _ h41=>wv h41 rfl rfl rfl rfl (ν (rs.length:Int)) (NR rfl (h41.ev 28 rfl) _) fun a14 h42=>h42.sk [29,28,5,15,14,13,3,0] rfl fun h43=>mv h43 rfl fun _ h44=>h44.sk [2,5,15,14,13,3,0] rfl fun h45=>?_
    iterate 4 go_step
    have hfl:al=(Cn M.V at_ size).1.flatten:=by rw [HAL.out,← HRS.out,List.flatMap_def]
    have hln2:rs.length=(Cn M.V at_ size).1.length:=by rw [← HRS.out,List.length_map]
    refine bodyPost_ret (AL rfl (h45.known (2,ν (rs.length:Int)) (by simp))) h45.defs ?_
    exact ⟨_,rfl,by rw [hln2],by show LogP _ _ _ _ _ _ _ _ (Dn (CC M (Cn M.V at_ size).1.flatten) at_ 0);rw [← hfl];exact r9.1,((HT3.out.trans (Turns.of_below HBL.out)).trans r8.2).trans r9.2⟩
end
section
def Chain (b:Λ):Nat→List (List PtM)→Nat→Prop
  | u,[],u'=>u'=u
  | u,L::rs,u'=>∃ n:Nat,Cd (b.drop u)=(L,(n:Int),0)∧Chain b (u+n) rs u'
theorem Chain.le {b:Λ} {u:Nat} {rs:List (List PtM)} {u':Nat} (h:Chain b u rs u') (hu:u≤b.length):u≤u'∧u'≤b.length:=by
  induction rs generalizing u with
  | nil=>cases h;exact ⟨Nat.le_refl _,hu⟩
  | cons L rs ih=>
    obtain ⟨n,h1,h2⟩:=h
    obtain ⟨m,e,h3,h4⟩:=Ls (xs:=b.drop u) (by rw [h1])
    rw [h1] at e
    change (n:Int)=m at e
    rw [List.length_drop] at h4
    have:=ih h2 ω
    omega
theorem Chain.snoc {b:Λ} {u u' n:Nat} {rs:List (List PtM)} {L:List PtM} (h:Chain b u rs u') (hd:Cd (b.drop u')=(L,(n:Int),0)):Chain b u (rs++[L]) (u'+n):=by
  induction rs generalizing u with
  | nil=>cases h;exact ⟨n,hd,rfl⟩
  | cons K rs ih=>
    obtain ⟨m,h1,h2⟩:=h
    exact ⟨m,h1,ih h2⟩
theorem Xa {xs:Λ} {L:List PtM} {n:Nat} (h:Cd xs=(L,(n:Int),0)):n % 8=0:=by
  rw [Hv] at h
  unfold IT at h
  split at h
  · cases h
  · split at h
    · cases h
    · next k _ _=>
      cases hg:Fh xs k 2 [] with
      | inl e=>
        rw [hg] at h
        change (([]:List PtM),(0:Int),e)=_ at h
        have:(0:Int)=n:=congrArg (fun x=>x.2.1) h
        omega
      | inr r=>
        rw [hg] at h
        change GV xs r.1 r.2=_ at h
        unfold GV at h
        split at h
        · cases h
        · split at h
          · cases h
          · split at h
            · cases h
            · split at h
              · have:((r.2+4+Bl (r.2+4):Nat):Int)=(n:Int):=congrArg (fun x=>x.2.1) h
                have h2:r.2+4+Bl (r.2+4)=n:=ω
                rw [← h2];unfold Bl;omega
              · cases h
theorem Chain.mod {b:Λ} {u:Nat} {rs:List (List PtM)} {u':Nat} (h:Chain b u rs u') (hu:u % 8=0):u' % 8=0:=by
  induction rs generalizing u with
  | nil=>cases h;exact hu
  | cons L rs ih=>
    obtain ⟨n,h1,h2⟩:=h
    have:=Xa h1
    exact ih h2 ω
theorem Chain.local {b c:Λ} {u:Nat} {rs:List (List PtM)} {u':Nat} (h:Chain b u rs u') (hu:u≤b.length) (e:b.take u'=c.take u') (hc:u'≤c.length):Chain c u rs u':=by
  induction rs generalizing u with
  | nil=>exact h
  | cons L rs ih=>
    obtain ⟨n,h1,h2⟩:=h
    obtain ⟨m,em,h3,h4⟩:=Ls (xs:=b.drop u) (by rw [h1])
    rw [h1] at em
    change (n:Int)=m at em
    rw [List.length_drop] at h4
    have hl:=h2.le ω
    have e2:(b.drop u).take n=(c.drop u).take n:=by
      have:∀ zs:Λ,(zs.drop u).take n=((zs.take u').drop u).take n:=fun zs=>by rw [List.drop_take,List.take_take,Nat.min_eq_left ω]
      rw [this b,this c,e]
    refine ⟨n,?_,ih h2 ω⟩
    rw [Hv] at h1 ⊢
    exact RG h1 e2 (by rw [List.length_drop];omega) (by rw [List.length_drop];omega)
theorem QE (b:Λ) (k u:Nat) (acc:List (List PtM)) (hu:u≤b.length) (hk:b.length<u+8*k):∃ rs u',GJ b k u acc=(acc++rs,u')∧Chain b u rs u'∧(Cd (b.drop u')).2.2≠0:=by
  induction k generalizing u acc with
  | zero=>omega
  | succ k ih=>
    unfold GJ
    by_cases h:(Cd (b.drop u)).2.2=0
    · rw [if_pos h]
      obtain ⟨n,hn,h1,h2⟩:=Ls h
      rw [List.length_drop] at h2
      rw [hn,Int.toNat_natCast]
      obtain ⟨rs,u',e,hc,hs⟩:=ih (u+n) (acc++[(Cd (b.drop u)).1]) ω ω
      refine ⟨(Cd (b.drop u)).1::rs,u',by rw [e,List.append_assoc];rfl,⟨n,?_,hc⟩,hs⟩
      rw [← hn,← h]
    · rw [if_neg h]
      exact ⟨[],u,by rw [List.append_nil],rfl,h⟩
theorem Hj (b:Λ):Chain b 0 (Ex b).1 (Ex b).2∧(Cd (b.drop (Ex b).2)).2.2≠0:=by
  obtain ⟨rs,u',e,h⟩:=QE b (b.length+1) 0 [] (Nat.zero_le _) ω
  rw [List.nil_append] at e
  unfold Ex
  rw [e]
  exact h
theorem Chain.det {b:Λ} {u:Nat} {rs rs':List (List PtM)} {v v':Nat} (h:Chain b u rs v) (h':Chain b u rs' v') (s:(Cd (b.drop v)).2.2≠0) (s':(Cd (b.drop v')).2.2≠0):rs=rs'∧v=v':=by
  induction rs generalizing u rs' with
  | nil=>
    cases h
    cases rs' with
    | nil=>cases h';exact ⟨rfl,rfl⟩
    | cons L rs'=>obtain ⟨n,h1,_⟩:=h';exact absurd (by rw [h1]) s
  | cons L rs ih=>
    obtain ⟨n,h1,h2⟩:=h
    cases rs' with
    | nil=>cases h';exact absurd (by rw [h1]) s'
    | cons L' rs'=>
      obtain ⟨n',h1',h2'⟩:=h'
      rw [h1] at h1'
      have e1:L=L':=congrArg (fun x=>x.1) h1'
      have e2:(n:Int)=n':=congrArg (fun x=>x.2.1) h1'
      have e3:n=n':=ω
      subst e1 e3
      obtain ⟨q1,q2⟩:=ih h2 h2'
      exact ⟨by rw [q1],q2⟩
theorem QD {b:Λ} {rs:List (List PtM)} {u:Nat} (h:Chain b 0 rs u) (s:(Cd (b.drop u)).2.2≠0):Ex b=(rs,u):=by
  obtain ⟨h1,s1⟩:=Hj b
  obtain ⟨q1,q2⟩:=h1.det h s1 s
  exact Prod.ext q1 q2
theorem PC:Cd []=([],0,3):=by
  rw [Hv]
  have g:AC ([]:Λ) 0 2=none:=Fa (a:=0) (k:=2) (by show 0<0+2;omega)
  unfold IT
  rw [g]
theorem VT (b:Λ) {L:List PtM} (h:CG L=true):Ex (b.take (Ex b).2++BP L)=((Ex b).1++[L],(Ex b).2+(BP L).length):=by
  obtain ⟨hc,_⟩:=Hj b
  have hl:=(hc.le (Nat.zero_le _)).2
  have hlt:(b.take (Ex b).2).length=(Ex b).2:=by rw [List.length_take];omega
  refine QD (Chain.snoc (hc.local (Nat.zero_le _) ?_ ?_) ?_) ?_
  · rw [List.take_left' hlt]
  · rw [List.length_append];omega
  · rw [List.drop_left' hlt]
    have:=WZ h []
    rwa [List.append_nil] at this
  · rw [List.drop_eq_nil_of_le (by rw [List.length_append];omega),PC]
    show (3:Int)≠0
    omega
theorem NO:Ex []=([],0):=QD rfl (by rw [List.drop_nil,PC];show (3:Int)≠0;omega)
def stV (V:Λ) (p:PtM):Λ:=if 0≤p.at_∧p.at_+p.d.length≤V.length then splice V p.at_.toNat p.d else V
theorem TX (M:MemM) (a:Int) (n:Nat):inM M a (n:Int)=true↔0≤a∧a+n≤M.V.length:=by
  unfold inM
  rw [decide_eq_true_iff]
  omega
theorem Ab2 (M:MemM) (p:PtM):(Is M p).V=stV M.V p:=by
  unfold Is stV
  by_cases h:inM M p.at_ p.d.length=true
  · have h2:=(TX _ _ _).1 h
    rw [if_pos h,if_pos h2]
    unfold LG GA
    rw [if_pos h]
    split<;>rfl
  · have h2:=fun q=>h ((TX _ _ _).2 q)
    rw [if_neg h,if_neg h2]
theorem Bw (V:Λ) (p:PtM):(stV V p).length=V.length:=by
  unfold stV;split
  · exact length_splice _ _ _ ω
  · rfl
theorem ZZ (L:List PtM) (M:MemM):(L.foldl Is M).V=L.foldl stV M.V:=by
  induction L generalizing M with
  | nil=>rfl
  | cons p L ih=>rw [List.foldl_cons,List.foldl_cons,ih,Ab2]
theorem CM (M:MemM) (L:List PtM):(CC M L).V=L.foldl stV M.V:=ZZ L M
theorem Ga (L:List PtM) (V:Λ):(L.foldl stV V).length=V.length:=by
  induction L generalizing V with
  | nil=>rfl
  | cons p L ih=>rw [List.foldl_cons,ih,Bw]
theorem CZ (M:MemM) (L:List PtM):(CC M L).V.length=M.V.length:=by rw [CM,Ga]
def Ahz (M:MemM):Prop:=∀ k,k<M.A.length→DN M.V M.D k=true→M.A.getD k false=true
theorem Afr (n:Nat):Ar [] (n:Int) 8=le 8 n:=by
  have f:Bp (n:Int) 8=true:=by unfold Bp;simp
  exact (if_pos f).trans (List.nil_append _)
theorem TO {V:Λ} {at_ size n:Nat} (h:(V.drop at_).take 8=le 8 n) (hn:n≤size-8) (hs:size≤65536):GU V at_ size=n:=by
  have g:AC (le 8 n) 0 8=some n:=by
    unfold AC
    rw [if_pos ⟨rfl,ω,by rw [Ay];omega⟩]
    show (if BL (((le 8 n).drop 0).take 8)≤_ then some (BL (((le 8 n).drop 0).take 8)) else none)=_
    rw [List.drop_zero,List.take_of_length_le (by rw [Ay];omega),Qm 8 n ω,if_pos ω]
  unfold GU
  rw [h,g]
  exact if_pos hn
theorem MH {M:MemM} {at_ n:Nat} (h:at_+8≤M.V.length):(Dn M at_ (n:Int)).V=splice M.V at_ (le 8 n):=by
  unfold Dn
  rw [CM]
  show stV M.V ⟨(at_:Int),Ar [] (n:Int) 8⟩=_
  rw [Afr]
  unfold stV
  dsimp only
  rw [if_pos (by rw [Ay];omega),Int.toNat_natCast]
theorem Hq {V b:Λ} {q n:Nat} (h:q+b.length≤V.length) (hn:b.length=n):((splice V q b).drop q).take n=b:=by
  subst hn
  unfold splice
  have hq:(V.take q).length=q:=by rw [List.length_take];omega
  rw [List.drop_left' hq,List.take_left]
theorem NU {V b:Λ} {q a n:Nat} (h:q+b.length≤V.length) (ho:a+n≤q∨q+b.length≤a) (ha:a+n≤V.length):((splice V q b).drop a).take n=(V.drop a).take n:=by
  refine CP ?_ fun i hi=>?_
  · rw [List.length_take,List.length_take,List.length_drop,List.length_drop,length_splice _ _ _ h]
  · rw [List.length_take,List.length_drop] at hi
    have e:∀ Z:Λ,((Z.drop a).take n).getD i 0=Z.getD (a+i) 0:=fun Z=>by
      simp only [List.getD_eq_getElem?_getD,List.getElem?_take,List.getElem?_drop,if_pos (ω:i<n)]
    rw [e,e,Fy _ _ _ h,if_neg ω]
theorem UW {M:MemM} {at_ size n:Nat} (hok:LogOk at_ size M) (hn:n≤size-8):GU (Dn M at_ (n:Int)).V at_ size=n:=by
  obtain ⟨s1,s2,s3,s4⟩:=hok
  rw [MH ω]
  exact TO (Hq (by rw [Ay];omega) (Ay 8 n)) hn s2
theorem Nj {M:MemM} {at_ size n:Nat} (hok:LogOk at_ size M) (hn:n≤size-8):Ff (Dn M at_ (n:Int)).V at_ size=(M.V.drop (at_+8)).take n:=by
  have he:=UW hok hn
  obtain ⟨s1,s2,s3,s4⟩:=hok
  unfold Ff
  rw [he,MH ω]
  exact NU (by rw [Ay];omega) (.inr (by rw [Ay];omega)) ω
theorem Hg {at_ size:Nat} {M M':MemM} (h:LogOk at_ size M) (e:M'.V.length=M.V.length):LogOk at_ size M':=⟨h.s1,h.s2,by rw [e];exact h.a,by rw [e];exact h.v⟩
theorem Sq {M:MemM} {at_ size:Nat} (hok:LogOk at_ size M):Cn (Dn M at_ 0).V at_ size=([],0):=by
  unfold Cn
  rw [show Dn M at_ 0=Dn M at_ ((0:Nat):Int) from rfl,Nj hok (Nat.zero_le _),List.take_zero,NO]
theorem So (V:Λ) (at_ size:Nat) (h:at_+size≤V.length) (h8:8≤size):(Cn V at_ size).2≤GU V at_ size∧(Cn V at_ size).2 % 8=0:=by
  obtain ⟨hc,_⟩:=Hj (Ff V at_ size)
  have h1:=hc.le (Nat.zero_le _)
  have h2:=hc.mod rfl
  have h3:(Ff V at_ size).length=GU V at_ size:=by
    have:=Ov V at_ size
    unfold Ff
    rw [List.length_take,List.length_drop];omega
  exact ⟨by rw [← h3];exact h1.2,h2⟩
theorem Aes {V b:Λ} {q:Nat} (h:q+b.length≤V.length):[(⟨(q:Int),b⟩:PtM)].foldl stV V=splice V q b:=by
  show stV V _=_
  unfold stV
  dsimp only
  rw [if_pos ω,Int.toNat_natCast]
theorem Acu {V b:Λ} {at_ u e:Nat} (hV:at_+8+u+b.length≤V.length) (hu:u≤e):((splice V (at_+8+u) b).drop (at_+8)).take (u+b.length)=((V.drop (at_+8)).take e).take u++b:=by
  rw [List.take_add,List.take_take,Nat.min_eq_left hu,List.drop_drop,Hq hV rfl,NU hV (.inl (Nat.le_refl _)) ω]
theorem Qe {M:MemM} {at_ size:Nat} {L:List PtM} (hok:LogOk at_ size M) (h:CG L=true) {u:Nat} (hu0:(Cn M.V at_ size).2=u) {eb:Λ} (heb:BP L=eb) (hf:u+eb.length≤size-8) :
    Cn (Dn (CC M [⟨((at_+8+u:Nat):Int),eb⟩]) at_ ((u+eb.length:Nat):Int)).V at_ size=((Cn M.V at_ size).1++[L],u+eb.length):=by
  have hok2:=hok
  obtain ⟨s1,s2,s3,s4⟩:=hok2
  have hu:=(So M.V at_ size s3 ω).1
  rw [hu0] at hu
  have hV:(CC M [⟨((at_+8+u:Nat):Int),eb⟩]).V=splice M.V (at_+8+u) eb:=by
    rw [CM]
    exact Aes ω
  have hb:=VT (Ff M.V at_ size) h
  have e1:(Ex (Ff M.V at_ size)).2=u:=hu0
  rw [e1,heb] at hb
  have e2:=Acu (V:=M.V) (b:=eb) (at_:=at_) (u:=u) (e:=GU M.V at_ size) ω hu
  have e3:=Nj (M:=CC M [⟨((at_+8+u:Nat):Int),eb⟩]) (Hg hok (CZ _ _)) hf
  rw [hV,e2] at e3
  unfold Cn
  rw [e3]
  exact hb
end
section
def Ji (n at_ size:Int):Prop:=128≤size∧size≤65536∧size % 64=0∧0≤at_∧at_ % 64=0∧at_≤n-size
instance (n at_ size:Int):Decidable (Ji n at_ size):=by unfold Ji;infer_instance
def Nf (w:World) (g:Nat) (n at_ size:Int) (e:Ending) (w':World):Prop:=
  if Ji n at_ size then ∃ lg,e=.returned (π lg)∧Blk w' lg 137 (Nb g at_.toNat size.toNat)∧w.heap.size≤lg∧Below w.heap.size w w' else e=.returned (.pointer none)∧w=w'
theorem VA {w W:World} {g:Nat} {n at_ size:Int} (h:Ji n at_ size) {lg:Nat} (hb:Blk W lg 137 [π g,ν at_,ν size]) (hl:w.heap.size≤lg) (b:Below w.heap.size w W):Nf w g n at_ size (.returned (π lg)) W:=by
  unfold Nf
  rw [if_pos h]
  refine ⟨lg,rfl,?_,hl,b⟩
  obtain ⟨h1,h2,h3,h4,h5,h6⟩:=h
  unfold Nb
  rw [Int.toNat_of_nonneg h4,Int.toNat_of_nonneg ω]
  exact hb
theorem Gc {w:World} {g:Nat} {n at_ size:Int} (h:¬ Ji n at_ size):Nf w g n at_ size (.returned (.pointer none)) w:=by
  unfold Nf;rw [if_neg h];exact ⟨rfl,rfl⟩
theorem Ye {w:World} {g v d p:Nat} {M:MemM} (h:MemP w g v d p M) (at_ size:Int) (ha:ER at_) (hs:ER size) (hM:M.V.length≤1048576) :
    Calls prog 41 #[π g,ν at_,ν size] w (Nf w g M.V.length at_ size):=by
  have HS:=hid (Hp h)
  obtain ⟨m,hm⟩:∃ m:Nat,m=M.V.length:=⟨_,rfl⟩
  rw [← hm] at HS hM ⊢
  clear hm h
  unfold ER at ha hs
  by_cases c1:size<128
  · have HE:=hid (Gc (w:=w) (g:=g) (n:=m) (at_:=at_) (size:=size) (by unfold Ji;omega))
    have d1:decide (size<128)=true:=decide_eq_true c1
    clear ha hs
    go_enter func41,ntmps41
    go_wp2
    go_ret
    exact HE.out
  have d1:decide (size<128)=false:=decide_eq_false c1
  by_cases c2:65536<size
  · have HE:=hid (Gc (w:=w) (g:=g) (n:=m) (at_:=at_) (size:=size) (by unfold Ji;omega))
    have d2:decide (65536<size)=true:=decide_eq_true c2
    clear ha hs
    go_enter func41,ntmps41
    go_wp2
    go_ret
    exact HE.out
  have d2:decide (65536<size)=false:=decide_eq_false c2
  have e1:size.tmod 64=size % 64:=Int.tmod_eq_emod_of_nonneg ω
  have e2:IntKind.i64.wrap (size % 64)=size % 64:=IntWalk.i64_in _ ω
  by_cases c3:size % 64=0
  case neg=>
    have HE:=hid (Gc (w:=w) (g:=g) (n:=m) (at_:=at_) (size:=size) (by unfold Ji;omega))
    clear ha hs
    generalize size % 64=r at *
    have d3:(r != 0)=true:=by simpa using c3
    go_enter func41,ntmps41
    go_wp2
    go_ret
    exact HE.out
  by_cases c4:at_<0
  · have HE:=hid (Gc (w:=w) (g:=g) (n:=m) (at_:=at_) (size:=size) (by unfold Ji;omega))
    have d4:decide (at_<0)=true:=decide_eq_true c4
    clear ha hs
    rw [c3] at e1 e2
    clear c3
    go_enter func41,ntmps41
    go_wp2
    go_ret
    exact HE.out
  have d4:decide (at_<0)=false:=decide_eq_false c4
  have e3:at_.tmod 64=at_ % 64:=Int.tmod_eq_emod_of_nonneg ω
  have e4:IntKind.i64.wrap (at_ % 64)=at_ % 64:=IntWalk.i64_in _ ω
  by_cases c5:at_ % 64=0
  case neg=>
    have HE:=hid (Gc (w:=w) (g:=g) (n:=m) (at_:=at_) (size:=size) (by unfold Ji;omega))
    clear ha hs
    rw [c3] at e1 e2
    clear c3
    generalize at_ % 64=r at *
    have d5:(r != 0)=true:=by simpa using c5
    go_enter func41,ntmps41
    go_wp2
    go_ret
    exact HE.out
  have e5:IntKind.i64.wrap ((m:Int)-size)=(m:Int)-size:=IntWalk.i64_in _ ω
  by_cases c6:(m:Int)-size<at_
  · have HE:=hid (Gc (w:=w) (g:=g) (n:=m) (at_:=at_) (size:=size) (by unfold Ji;omega))
    have d6:decide ((m:Int)-size<at_)=true:=decide_eq_true c6
    clear ha hs
    rw [c3] at e1 e2
    rw [c5] at e3 e4
    clear c3 c5
    go_enter func41,ntmps41
    go_wp2_with (go_at_call 38;refine HS.out.mono ?_;rintro e w1 ⟨rfl,rfl⟩)
    go_ret
    exact HE.out
  have d6:decide ((m:Int)-size<at_)=false:=decide_eq_false c6
  have HM:Hid (Ji m at_ size):=hid (by unfold Ji;omega)
  clear ha hs
  rw [c3] at e1 e2
  rw [c5] at e3 e4
  clear c3 c5
  go_enter func41,ntmps41
  go_wp2_with (go_at_call 38;refine HS.out.mono ?_;rintro e w1 ⟨rfl,rfl⟩)
  go_ret
  exact VA HM.out (AN rfl _ _) (Nat.le_refl _) (Ck w _)
theorem QQ (M:MemM) (at_:Nat) (n:Int):(Dn M at_ n).V.length=M.V.length:=CZ _ _
theorem GP (M:MemM) (at_ size:Nat) (L:List PtM):(CR M at_ size L).V.length=M.V.length:=by
  unfold CR;split
  · rw [QQ,CZ]
  · rfl
theorem Cp (M:MemM) (at_ size:Nat):(AI M at_ size).V.length=M.V.length:=by unfold AI;rw [QQ,CZ]
theorem NA {at_ size:Nat} {M:MemM} (h:LogOk at_ size M) (L:List PtM):LogOk at_ size (CR M at_ size L):=Hg h (GP _ _ _ _)
theorem Qd {M:MemM} {at_ size:Nat} (hok:LogOk at_ size M) (L:List PtM):Cn (CR M at_ size L).V at_ size=if Dt M at_ size L=0 then ((Cn M.V at_ size).1++[L],(Cn M.V at_ size).2+(BP L).length) else Cn M.V at_ size:=by
  unfold Dt CR
  by_cases he:FW L=0
  · have hk:CG L=true:=by
      unfold FW at he
      by_cases q:CG L=true
      · exact q
      · rw [if_neg q] at he;cases he
    by_cases hf:size-8<(Cn M.V at_ size).2+(BP L).length
    · rw [if_pos he,if_pos hf,if_neg (fun q=>q.2 hf),if_neg ω]
    · rw [if_pos he,if_neg hf,if_pos ⟨he,hf⟩,if_pos rfl]
      exact Qe hok hk rfl rfl ω
  · rw [if_neg he,if_neg (fun q=>he q.1),if_neg he]
theorem NB {M:MemM} {at_ size:Nat} (hok:LogOk at_ size M):Cn (AI M at_ size).V at_ size=([],0):=Sq (Hg hok (CZ _ _))
def exP:PtM:=⟨258,[5]⟩
def exQ:PtM:=⟨3,[120]⟩
def Afj:MemM:=EV 1024
def Afk:MemM:=CR Afj 512 512 [exQ]
def Ag0:MemM:=AI Afk 512 512
attribute [irreducible] Afj Afk Ag0
end
section
end
section
def Jm (at_:Int) (b:Λ) (p:PtM):Λ:=(List.range b.length).map fun (i:Nat)=>if p.at_≤at_+(i:Int)∧at_+(i:Int)<p.at_+p.d.length then p.d.getD (at_+(i:Int)-p.at_).toNat 0 else b.getD i 0
def ovl (at_:Int) (b:Λ) (P:List PtM):Λ:=P.foldl (Jm at_) b
theorem Cu (at_:Int) (b:Λ) (p:PtM):(Jm at_ b p).length=b.length:=by unfold Jm;rw [List.length_map,List.length_range]
theorem Fz (at_:Int) (b:Λ) (P:List PtM):(ovl at_ b P).length=b.length:=by
  unfold ovl
  induction P generalizing b with
  | nil=>rfl
  | cons p P ih=>rw [List.foldl_cons,ih,Cu]
theorem Hh {at_:Int} {b:Λ} {p:PtM} {i:Nat} (h:i<b.length):(Jm at_ b p).getD i 0=if p.at_≤at_+(i:Int)∧at_+(i:Int)<p.at_+p.d.length then p.d.getD (at_+(i:Int)-p.at_).toNat 0 else b.getD i 0:=by
  unfold Jm
  rw [List.getD_eq_getElem?_getD,List.getElem?_map,List.getElem?_range h]
  rfl
theorem Yr {at_:Int} {b:Λ} {p:PtM} {fr to:Int} (hf:fr=max at_ p.at_) (ht:to=min (at_+b.length) (p.at_+p.d.length)) (h:fr<to) :
    splice b (fr-at_).toNat ((p.d.drop (fr-p.at_).toNat).take (to-fr).toNat)=Jm at_ b p:=by
  have hl:((p.d.drop (fr-p.at_).toNat).take (to-fr).toNat).length=(to-fr).toNat:=by rw [List.length_take,List.length_drop];omega
  have hb:(fr-at_).toNat+((p.d.drop (fr-p.at_).toNat).take (to-fr).toNat).length≤b.length:=by rw [hl];omega
  refine CP (by rw [length_splice _ _ _ hb,Cu]) fun i hi=>?_
  rw [Cu] at hi
  rw [Fy _ _ _ hb,Hh hi,hl]
  by_cases hc:(fr-at_).toNat≤i∧i<(fr-at_).toNat+(to-fr).toNat
  · rw [if_pos hc,if_pos ω]
    simp only [List.getD_eq_getElem?_getD,List.getElem?_take,List.getElem?_drop,if_pos (ω:i-(fr-at_).toNat<(to-fr).toNat)]
    congr 2
    omega
  · rw [if_neg hc,if_neg ω]
theorem Ys {at_:Int} {b:Λ} {p:PtM} {fr to:Int} (hf:fr=max at_ p.at_) (ht:to=min (at_+b.length) (p.at_+p.d.length)) (h:¬ fr<to):Jm at_ b p=b:=by
  refine CP (Cu _ _ _) fun i hi=>?_
  rw [Hh hi,if_neg ω]
def Ahs (V:Λ) (M:MemM) (P:List PtM) (at_ n:Int):Λ:=if inM M at_ n=true then ovl at_ ((V.drop at_.toNat).take n.toNat) P else []
def okT (M:MemM) (P:List PtM) (at_:Int) (n:Nat):Bool:=decide (n≤256∧P.length<64∧0≤at_∧at_+n≤M.V.length)
def Kg (M:MemM) (P:List PtM) (at_:Int) (d:Λ):List PtM:=if okT M P at_ d.length=true then P++[⟨at_,d⟩] else P
def Ly (M:MemM) (P:List PtM) (at_:Int) (n:Nat):Int:=if okT M P at_ n=true then 0 else 1
def Ah2 (M:MemM) (P:List PtM):Int:=if P=[] then 0 else Dt M 512 512 P
def Acz (M:MemM) (P:List PtM):MemM:=if P=[] then M else if Dt M 512 512 P=0 then AI (CR M 512 512 P) 512 512 else M
def Aey (M:MemM) (P:List PtM):List PtM:=if P=[] then [] else if Dt M 512 512 P=0 then [] else P
structure TxOk (M:MemM) (P:List PtM):Prop where
  n:P.length≤64
  i:∀ p∈P,0≤p.at_∧p.at_+p.d.length≤M.V.length∧p.d.length≤256
theorem TxOk.nil (M:MemM):TxOk M []:=⟨Nat.zero_le _,fun p hp=>by cases hp⟩
theorem TxOk.put {M:MemM} {P:List PtM} (h:TxOk M P) (at_:Int) (d:Λ):TxOk M (Kg M P at_ d):=by
  unfold Kg
  split
  · next q=>
    unfold okT at q
    rw [decide_eq_true_iff] at q
    refine ⟨by rw [List.length_append];show P.length+1≤_;omega,fun p hp=>?_⟩
    rcases List.mem_append.1 hp with z | z
    · exact h.i p z
    · rw [List.mem_singleton.1 z];dsimp only;omega
  · exact h
theorem TxOk.pts {M:MemM} {P:List PtM} (h:TxOk M P) (hl:M.V.length≤1048576):Ir P∧(∀ p∈P,p.d.length≤1000000):=by
  refine ⟨fun p hp=>?_,fun p hp=>?_⟩
  · have:=h.i p hp;unfold okI;omega
  · have:=h.i p hp;omega
theorem WV (M:MemM) (P:List PtM):(Acz M P).V.length=M.V.length:=by
  unfold Acz;split
  · rfl
  · split
    · rw [Cp,GP]
    · rfl
theorem TxOk.congr {M M':MemM} {P:List PtM} (h:TxOk M P) (e:M'.V.length=M.V.length):TxOk M' P:=⟨h.n,fun p hp=>by rw [e];exact h.i p hp⟩
theorem TxOk.com {M:MemM} {P:List PtM} (h:TxOk M P):TxOk (Acz M P) (Aey M P):=by
  refine TxOk.congr (M:=M) ?_ (WV M P)
  unfold Aey;split
  · exact TxOk.nil M
  · split
    · exact TxOk.nil M
    · exact h
end
section
def txC (g lg:Nat) (ta:Ω) (n tc:Nat):List Value:=[π g,π lg,.slice ta n tc]
theorem Yg (w:World) (g lg:Nat):Calls prog 44 #[π g,π lg] w fun e w'=>∃ tg,e=.returned (π tg)∧Blk w' tg 105 (txC g lg none 0 0)∧w.heap.size≤tg∧Below w.heap.size w w':=by
  go_enter func44,ntmps44
  go_wp2
  go_ret
  exact ⟨_,rfl,AN rfl _ _,Nat.le_refl _,Ck w _⟩
theorem Dk {w:World} {g off:Nat} {q:Ω} {n c:Nat} (h:w.cell? ⟨g,off,none⟩=some (.slice q n c)):(Instr.loadAt 89 (.pointer (some ⟨g,off,none⟩))).run prog w=.ok (.slice q n c) w:=by
  have u3:=υ89
  have a3:=Tryz.isAgg89
  have z3:=Tryz.sizeOf89
  go_simp
theorem Xe {w:World} {tg g lg n tc:Nat} {ta:Ω} (h:Blk w tg 105 (txC g lg ta n tc)):Calls prog 56 #[π tg] w fun e w'=>(∃ x,e=.returned x)∧Blk w' tg 105 (txC g lg none 0 0)∧Turns (fun k=>k=tg) w w':=by
  have c2:w.cell? ⟨tg,2,none⟩=some (.slice ta n tc):=h.cell (i:=2) (by show 2<3;omega)
  have f2:=h.frozen 2
  have HB:=hid h
  go_enter func56,ntmps56
  go_wp2
  go_end0
  exact ⟨⟨_,rfl⟩,HB.out.set 2 _,(Turns.refl (fun k=>k=tg) w).setCell (p:=⟨tg,2,none⟩) rfl _⟩
theorem Qr (w:World):By (w.alloc (.cells #[] 141)) w.heap.size (some ⟨w.heap.size,0,none⟩) 0 []:=by
  refine ⟨rfl,.inr ⟨w.heap.size,0,#[],rfl,Nat.le_refl _,?_,Nat.le_refl _,Nat.zero_le _,rfl,rfl⟩⟩
  exact heap_alloc_new w _
theorem On {w:World} {a:Ω} {c:Nat} {P:List PtM} (h:EN w a c P) (hl:P.length≤1000) :
    Calls prog 95 #[.slice a P.length c] w fun e w'=>∃ la lc,e=.returned (.slice la P.length lc)∧By w' w.heap.size la lc P∧Below w.heap.size w w':=by
  have qT:∀ (w:World) (a:Ω) (n c n' c':Nat),(binOp .eql 89 (.slice a n c) (.slice none n' c')).run prog w=.ok (.bool a.isNone) w:=fun w a n c n' c'=>Lib.run_eql_slice_nil w _ _ a n c n' c' υ89
  cases a with
  | none=>
    have hc:c=0:=h.2.2.2.1 rfl
    have hl:P=[]:=List.eq_nil_of_length_eq_zero (by have:=h.2.1;omega)
    subst hl
    clear h hc
    go_enter func95,ntmps95
    go_wp2
    go_ret
    exact ⟨none,0,rfl,Own.nil _ _ _ _,Below.refl _ _⟩
  | some ad=>
    have HO:=hid (Qr w)
    have HR:=hid (h.mono (Ck w (.cells #[] 141)))
    have B0:=hid (Ck w (.cells #[] 141))
    clear h
    go_enter func95,ntmps95
    go_wp2_with (at_builtin;(refine CA rfl (.tmp 5) (.tmp 6) rfl EPt w.heap.size rfl rfl HO.out HR.out (Jq P) (by show (0+_)*24≤_;omega) (by show 0+_≤_;omega) (by simp) ?_);intro a2 c2 w2 o2 g2 b2;have O2:=hid o2;have B2:=hid (B0.out.trans b2);clear o2 g2 b2)
    go_ret
    exact ⟨a2,c2,by simp,by have:=O2.out;simpa using this,B2.out⟩
theorem Qw {w:World} {tg g lg tc:Nat} {ta:Ω} {P:List PtM} (h:Blk w tg 105 (txC g lg ta P.length tc)) (hr:EN w ta tc P) (hl:P.length≤1000) :
    Calls prog 62 #[π tg] w fun e w'=>∃ la lc,e=.returned (.slice la P.length lc)∧By w' w.heap.size la lc P∧Below w.heap.size w w':=by
  have c2:w.cell? ⟨tg,2,none⟩=some (.slice ta P.length tc):=h.cell (i:=2) (by show 2<3;omega)
  have HC:=hid (On hr hl)
  clear h hr
  go_enter func62,ntmps62
  go_wp2_with (go_at_call 95;refine HC.out.mono ?_;rintro e w1 ⟨la,lc,rfl,o1,b1⟩;have O1:=hid o1;have B1:=hid b1;clear o1 b1)
  go_ret
  exact ⟨la,lc,rfl,O1.out,B1.out⟩
section
variable {P:Program} {ops:Array Oper} {Q:Exit→Act→World→Prop} {md:Region.Mode} {S:World→Prop} {oi:Oper} {fuel:Nat} {listed:Array Bool} {a:Act} {w:World} {N:Nat} {l:List (Nat×Value)} {d:Nat} {v0 v:Value}
theorem tk0 (hS:S w) (h:Kn N l a) (i k:Nat) (hi:ops[i]? = some oi) (hd:oi.dst=some d) (hdN:decide (d<N)=true) (hf:l.all (fun x=>!(x.1 == d))=true) (hr:(Region.noSelect ops&&Region.free md ops listed i&&(Region.ready md ops listed).contains i)=true) (hQ:∀ c a w v,Q (.panic c) (a.put oi.dst v) w→Q (.panic c) a w) (hg:oi.guard=none) (hm:l.find? (fun y=>y.1 == k)=some (k,v0))
    (hrun:∀ w1,S w1→a.eval (.tmp k)=v0→(execOp a.eval oi).run P w1=.ok (.value v) w1) (K:∀ a',Kn N ((d,v)::l) a'→wpAnyH P md ops Q S fuel (listed.setIfInBounds i true) a' w):wpAnyH P md ops Q S (fuel+1) listed a w:=by
  rw [Bool.and_eq_true,Bool.and_eq_true] at hr
  exact JC hS h i hi hd (of_decide_eq_true hdN) (fr hf) hr.1.1 hr.1.2 hr.2 hQ v (Or.inl ⟨Aa hg,fun w1 hSw=>hrun w1 hSw (h.ev k hm)⟩) K
theorem tkm (hS:S w) (h:Kn N l a) (i k:Nat) (hi:ops[i]? = some oi) (hd:oi.dst=some d) (hdN:decide (d<N)=true) (hf:l.all (fun x=>!(x.1 == d))=true) (hr:(Region.noSelect ops&&Region.free md ops listed i&&(Region.ready md ops listed).contains i)=true) (hQ:∀ c a w v,Q (.panic c) (a.put oi.dst v) w→Q (.panic c) a w) (hg:oi.guard=none)
    (ho:∀ ρ:Operand→Value,execOp ρ oi=pure (.value (ρ (.tmp k)))) (hm:l.find? (fun y=>y.1 == k)=some (k,v0)) (K:∀ a',Kn N ((d,v0)::l) a'→wpAnyH P md ops Q S fuel (listed.setIfInBounds i true) a' w):wpAnyH P md ops Q S (fuel+1) listed a w:=
  tk0 hS h i k hi hd hdN hf hr hQ hg hm (fun w1 _ e=>by rw [ho,e];rfl) K
theorem tkn {p:Addr} (hS:S w) (h:Kn N l a) (i k:Nat) (hi:ops[i]? = some oi) (hd:oi.dst=some d) (hdN:decide (d<N)=true) (hf:l.all (fun x=>!(x.1 == d))=true) (hr:(Region.noSelect ops&&Region.free md ops listed i&&(Region.ready md ops listed).contains i)=true) (hQ:∀ c a w v,Q (.panic c) (a.put oi.dst v) w→Q (.panic c) a w) (hg:oi.guard=none)
    (ho:oi.op=.nilCheck (.tmp k)) (hm:l.find? (fun y=>y.1 == k)=some (k,.pointer (some p))) (K:∀ a',Kn N ((d,.pointer (some p))::l) a'→wpAnyH P md ops Q S fuel (listed.setIfInBounds i true) a' w):wpAnyH P md ops Q S (fuel+1) listed a w:=
  tk0 hS h i k hi hd hdN hf hr hQ hg hm (fun w1 _ e=>by unfold execOp;rw [ho];simp only [e];rfl) K
theorem tkf {T:TypeId} {f:Nat} (hS:S w) (h:Kn N l a) (i k:Nat) (hi:ops[i]? = some oi) (hd:oi.dst=some d) (hdN:decide (d<N)=true) (hf:l.all (fun x=>!(x.1 == d))=true) (hr:(Region.noSelect ops&&Region.free md ops listed i&&(Region.ready md ops listed).contains i)=true) (hQ:∀ c a w v,Q (.panic c) (a.put oi.dst v) w→Q (.panic c) a w) (hg:oi.guard=none)
    (ho:oi.op=.fieldAddr T (.tmp k) f) (hm:l.find? (fun y=>y.1 == k)=some (k,v0)) (hfa:∀ w,(Instr.fieldAt T v0 f).run P w=.ok v w) (K:∀ a',Kn N ((d,v)::l) a'→wpAnyH P md ops Q S fuel (listed.setIfInBounds i true) a' w):wpAnyH P md ops Q S (fuel+1) listed a w:=
  tk0 hS h i k hi hd hdN hf hr hQ hg hm (fun w1 _ e=>by unfold execOp;rw [ho];simp only [e];exact Af (hfa w1)) K
theorem tkl {T:TypeId} (hS:S w) (h:Kn N l a) (i k:Nat) (hi:ops[i]? = some oi) (hd:oi.dst=some d) (hdN:decide (d<N)=true) (hf:l.all (fun x=>!(x.1 == d))=true) (hr:(Region.noSelect ops&&Region.free md ops listed i&&(Region.ready md ops listed).contains i)=true) (hQ:∀ c a w v,Q (.panic c) (a.put oi.dst v) w→Q (.panic c) a w) (hg:oi.guard=none)
    (ho:oi.op=.load T (.tmp k)) (hm:l.find? (fun y=>y.1 == k)=some (k,v0)) (hld:∀ w1,S w1→(Instr.loadAt T v0).run P w1=.ok v w1) (K:∀ a',Kn N ((d,v)::l) a'→wpAnyH P md ops Q S fuel (listed.setIfInBounds i true) a' w):wpAnyH P md ops Q S (fuel+1) listed a w:=
  tk0 hS h i k hi hd hdN hf hr hQ hg hm (fun w1 hSw e=>by unfold execOp;rw [ho];simp only [e];exact Af (hld w1 hSw)) K
end
end
section
theorem Pk {w:World} {g off:Nat} {u:Value} (h:w.cell? ⟨g,off,none⟩=some u) (hz:w.frozen? ⟨g,off,none⟩=false) (a:Ω) (n c:Nat):(Instr.storeAt 89 (.pointer (some ⟨g,off,none⟩)) (.slice a n c)).run prog w=.ok () (w.setCell ⟨g,off,none⟩ (.slice a n c)):=by
  have u3:=υ89
  have a3:=Tryz.isAgg89
  have z3:=Tryz.sizeOf89
  go_simp
def obA (a:Ω):Option Nat:=a.map (·.block)
theorem Fb (a:Ω) (n c:Nat):(Value.slice a n c).ownBlock=obA a:=by cases a<;>rfl
def JG (w:World) (a a':Ω):Prop:=obA a'=obA a∨∃ k,obA a'=some k∧w.heap.size≤k
theorem MT {w ws:World} {a a':Ω} (h:JG ws a a') (hl:w.heap.size≤ws.heap.size):JG w a a':=h.imp id fun ⟨k,h1,h2⟩=>⟨k,h1,Nat.le_trans hl h2⟩
theorem Yu {w:World} {B:Nat} {e:TypeId} {sz:Nat} {a:Ω} {n c:Nat} {cs:List Value} (h:Own w B e sz a n c cs):∀ k,obA a=some k→B≤k:=fun k hk=>(World.ownsRow.lt h k (by rw [Fb];exact hk)).1
theorem Ok {w:World} {B:Nat} {t ty e:TypeId} {i:TypeInfo} {z:Value} {size bytes:Nat} (ht:prog.underlying t=some (.slice e)) (hi:prog.info? e=some i) (hz:i.zero=some z) (hsize:i.size=size) (hby:i.bytes=bytes) (hsz:0<size)
    {a1:Ω} {n c0:Nat} {xs:List Value} (hown:Own w B e size a1 n c0 xs) {a:Addr} {m c:Nat} {news:List Value} (hl:news.length=m*size) (hnews:∀ j u,news[j]? = some u→w.cell? (a.add j)=some u) (h1:∀ u∈news,u.oneCell'=true)
    (h63:n+m≤maxLen) (hbytes:(n+m)*bytes≤140737488355328) (hm:0<m) {b:Ω} {n' c':Nat} {w':World} (hr:(Builtin.append_ #[t,t] ty #[.slice a1 n c0,.slice (some a) m c]).run prog w=.ok (.slice b n' c') w'):JG w a1 b:=by
  subst hsize
  subst hby
  have hsmall:n+m≤9223372036854775807:=by simp only [maxLen] at h63;omega
  rcases hown.2 with ⟨hv,hn⟩ | ⟨g,cap,cur,hv,hbg,hg,hnc,hcm,hcs,htake⟩
  · cases hv
    have q:=run_append_nil (P:=prog) w t ty e i z ht hi hz a m c news hl hnews ω ω (by have hb:=hbytes;simp only [Nat.zero_add] at hb;omega)
    rw [q] at hr
    cases hr
    exact .inr ⟨_,rfl,Nat.le_refl _⟩
  · cases hv
    by_cases hroom:n+m≤c0
    · have hfit:n*i.size+news.length≤cur.size:=by rw [hl,hcs,← Nat.add_mul];exact Nat.mul_le_mul_right _ hroom
      have q:=run_append_room (P:=prog) w t ty e i ht hi g n c0 cur hg a m c news hl hnews h1 hroom hfit
      rw [q] at hr
      cases hr
      exact .inl rfl
    · have holds:∀ j u,xs[j]? = some u→w.cell? ((⟨g,0,none⟩:Addr).add j)=some u:=World.ownsRow.cells hown (g:=g) rfl
      have q:=run_append_grow (P:=prog) w t ty e i z ht hi hz ⟨g,0,none⟩ n c0 xs hown.1 holds a m c news hl hnews ω ω (growslice_fits ω hbytes)
      rw [q] at hr
      cases hr
      exact .inr ⟨_,rfl,Nat.le_refl _⟩
section
variable {ops:Array Oper} {Q:Exit→Act→World→Prop} {oi:Oper} {a:Act} {w:World} {N:Nat} {l:List (Nat×Value)} {K:Act→World→Prop}
theorem ID (h:Kn N l a) {d:Nat} (hd:oi.dst=some d) (hdN:d<N) (hf:∀ x∈l,x.1≠d) (s x:Operand) {t e:TypeId} {sz bytes:Nat}
    (ho:oi.op=.call { callee:=.builtin .append,args:=#[s,x],argTypes:=#[t,t] }) (E:ElemT prog t e sz bytes) (B:Nat)
    {a1:Ω} {ad:Addr} {n c m c2:Nat} {cs ds:List Value} (hs:a.eval s=.slice a1 n c) (hx:a.eval x=.slice (some ad) (m+1) c2)
    (hown:Own w B e sz a1 n c cs) (hrow:Row w sz (some ad) (m+1) c2 ds) (h1:∀ u∈ds,u.oneCell'=true)
    (hbytes:(n+(m+1))*bytes≤140737488355328) (h63:n+(m+1)≤9223372036854775807) (hbase:B≤w.heap.size)
    (k:∀ a' b' c' w',Own w' B e sz b' (n+(m+1)) c' (cs++ds)→w.grownBy w' (Value.slice a1 n c).ownBlock→Below B w w'→JG w a1 b'→Kn N ((d,.slice b' (n+(m+1)) c')::l) a'→K a' w'):Oper.wp prog oi a w K Q:=by
  have hlt:∀ k,(Value.slice a1 n c).ownBlock=some k→B≤k:=fun k hk=>(World.ownsRow.lt hown k hk).1
  obtain ⟨under,⟨ti,z,hi',hz,hsize,hby,hzs⟩,hsz⟩:=E
  obtain ⟨g1,g2,g3,g4,g5⟩:=hrow
  have hnews:∀ j u,ds[j]? = some u→w.cell? (ad.add j)=some u:=by
    intro j u hu
    obtain ⟨b,off,e1,_,hc⟩:=g5 ω
    cases e1
    have:=hc j u hu
    unfold Addr.add
    split
    · subst j;simpa using this
    · exact this
  have hm63:n+(m+1)≤maxLen:=by unfold maxLen;omega
  obtain ⟨v',w',hr,r1,r2,_⟩:=run_append_own (P:=prog) w B t oi.type e ti z sz bytes under hi' hz hsize hby hzs hsz (.slice a1 n c) n cs hown ad (m+1) c2 ds g1 hnews h1 hm63 hbytes hbase
  obtain ⟨b,c',rfl,h5⟩:=CX r1
  have hw:=Ok under hi' hz hsize hby hsz hown g1 hnews h1 hm63 hbytes (Nat.succ_pos m) hr
  have hrun:(execOp a.eval oi).run prog w=.ok (.value (.slice b (n+(m+1)) c')) w':=by
    unfold execOp
    simp only [ho,resolve,invoke,builtin,Sem.run_bind,Sem.run_pure,Result.andThen_ok,List.map_toArray,List.map_cons,List.map_nil,hs,hx,hr]
  unfold Oper.wp
  rw [hrun,Oper.upon_value,hd]
  exact k _ b c' w' h5 r2 ((Below.refl B w).grown r2 hbase (fun k hk=>hlt k hk)) hw (h.put hdN hf _)
end
theorem Agu (x y:Operand) (v u:Int) (w:World) {b:Bool} (h:decide (u≤v)=b):(do eqGuard .geq 3 x y (ν v) (ν u);binOp .geq 3 (ν v) (ν u):Sem Value).run prog w=.ok (.bool b) w:=by
  have u3:=υ3
  have a3:=Tryz.isAgg3
  have z3:=Tryz.sizeOf3
  go_simp
theorem OI {w:World} {g off:Nat} {q:Ω} (h:w.cell? ⟨g,off,none⟩=some (.pointer q)):(Instr.loadAt 58 (.pointer (some ⟨g,off,none⟩))).run prog w=.ok (.pointer q) w:=by
  have u3:=υ58
  have a3:=Tryz.isAgg58
  have z3:=Tryz.sizeOf58
  go_simp
theorem WQ (args:Array Value) (w:World):(callFunc 38 args).run prog w=.ok (.enter 38 args) w:=by
  have h:=func38
  go_simp
theorem Iz (g:Nat) (w:World):(Instr.fieldAt 105 (π g) 0).run prog w=.ok (π g) w:=rfl
theorem Cl (g:Nat) (w:World):(Instr.fieldAt 105 (π g) 2).run prog w=.ok (.pointer (some ⟨g,2,none⟩)) w:=rfl
def Agd (w:World) (tg g lg B:Nat) (M:MemM) (P:List PtM) (at_:Int) (xs:Λ) (e:Ending) (w':World):Prop:=
  e=.returned (ν (Ly M P at_ xs.length))∧∃ ta tc,Blk w' tg 105 (txC g lg ta (Kg M P at_ xs).length tc)∧By w' B ta tc (Kg M P at_ xs)∧Turns (fun k=>k=tg∨B≤k) w w'
def KT (w:World) (tg g lg B:Nat) (ta0:Ω) (M:MemM) (P:List PtM) (at_:Int) (xs:Λ) (e:Ending) (w':World):Prop:=
  e=.returned (ν (Ly M P at_ xs.length))∧∃ ta tc,Blk w' tg 105 (txC g lg ta (Kg M P at_ xs).length tc)∧By w' B ta tc (Kg M P at_ xs)∧Turns (fun k=>k=tg∨some k=obA ta0) w w'∧JG w ta0 ta
theorem Ti {w:World} {tg g lg B tc:Nat} {ta:Ω} {M:MemM} {P:List PtM} {at_:Int} {xs:Λ} (h:okT M P at_ xs.length=false) (b:Blk w tg 105 (txC g lg ta P.length tc)) (o:By w B ta tc P):KT w tg g lg B ta M P at_ xs (.returned (ν 1)) w:=by
  unfold KT Ly Kg
  rw [h]
  exact ⟨rfl,ta,tc,b,o,Turns.refl _ w,.inl rfl⟩
theorem Wk {w:World} {tg g lg v d p tc B:Nat} {ta:Ω} {M:MemM} {P:List PtM} (hm:MemP w g v d p M) (hb:Blk w tg 105 (txC g lg ta P.length tc)) (ho:By w B ta tc P) (hB:B≤w.heap.size) (htg:tg<B) (hM:M.V.length≤1048576) {a:Ω} {c:Nat} {xs:Λ} (h0:RowB w a c xs) {at_:Int}
    (hl:xs.length≤256) (hP:P.length<64) (h3:0≤at_) (h4:at_+xs.length≤M.V.length) :
    Calls prog 69 #[π tg,ν at_,.slice a xs.length c] w fun e w'=>e=.returned (ν 0)∧∃ ta2 tc2,Blk w' tg 105 (txC g lg ta2 (P++[(⟨at_,xs⟩:PtM)]).length tc2)∧By w' B ta2 tc2 (P++[(⟨at_,xs⟩:PtM)])∧Turns (fun k=>k=tg∨some k=obA ta) w w'∧JG w ta ta2:=by
  have HM:=hid hm;have HB:=hid hb;have HO:=hid ho
  have n1:=hid (show decide ((256:Int)<(xs.length:Int))=false from decide_eq_false ω)
  have n2:=hid (show decide ((64:Int)≤(P.length:Int))=false from decide_eq_false ω)
  have n3:=hid (show decide (at_<(0:Int))=false from decide_eq_false ω)
  have n4:=hid (show decide ((M.V.length:Int)-(xs.length:Int)<at_)=false from decide_eq_false ω)
  clear hm hb ho
  go_enter func69,ntmps69
  iterate 3 go_step
  refine Bk (N:=45) (l:=[(0,π tg),(1,ν at_),(2,.slice a xs.length c)]) ⟨rfl,(by intro x hx;simp only [List.mem_cons,List.not_mem_nil,or_false] at hx;rcases hx with rfl | rfl | rfl<;>rfl),rfl⟩ fun a2 h1=>?_
  refine wv h1 rfl rfl rfl rfl (ν 0) rfl fun a4 h3=>?_
  iterate 6 go_step
  refine wmk h3 rfl rfl rfl rfl 2 rfl (fun _=>rfl) fun a6 h5=>?_
  refine wv h5 rfl rfl rfl rfl (ν (xs.length:Int)) (El rfl (h5.ev 7 rfl) _) fun a8 h7=>?_
  refine wv h7 rfl rfl rfl rfl (.bool false) (by unfold execOp;simp only [h7.ev 8 rfl];exact Af (Im _ _ _ _ _ n1.out)) fun a10 h9=>?_
  refine wmk h9 rfl rfl rfl rfl 9 rfl (fun _=>rfl) fun a12 h11=>?_
  refine Ak h11 (by rw [Ae (g:=3) (want:=false) (b:=false) rfl (h11.yields (prev:=10) rfl (by simp))];rfl) rfl (by decide) (fr rfl) (π tg) (by unfold execOp;simp only [h11.ev 0 rfl];rfl) fun a14 h13=>?_
  refine Ak h13 (by rw [Ae (g:=3) (want:=false) (b:=false) rfl (h13.yields (prev:=10) rfl (by simp))];rfl) rfl (by decide) (fr rfl) (π tg) (by unfold execOp;simp only [h13.ev 11 rfl];exact rfl) fun a16 h15=>?_
  refine Ak h15 (by rw [Ae (g:=3) (want:=false) (b:=false) rfl (h15.yields (prev:=10) rfl (by simp))];rfl) rfl (by decide) (fr rfl) (.pointer (some ⟨tg,2,none⟩)) (by unfold execOp;simp only [h15.ev 12 rfl];exact Af (Cl (tg) _)) fun a18 h17=>?_
  refine Ak h17 (by rw [Ae (g:=3) (want:=false) (b:=false) rfl (h17.yields (prev:=10) rfl (by simp))];rfl) rfl (by decide) (fr rfl) (.slice ta P.length tc) (by unfold execOp;simp only [h17.ev 13 rfl];exact Af (Dk (HB.out.cell (i:=2) (by show 2<3;omega)))) fun a20 h19=>?_
  refine Ak h19 (by rw [Ae (g:=3) (want:=false) (b:=false) rfl (h19.yields (prev:=10) rfl (by simp))];rfl) rfl (by decide) (fr rfl) (ν (P.length:Int)) (Fq rfl (h19.ev 14 rfl) _) fun a22 h21=>?_
  refine Ak h21 (by rw [Ae (g:=3) (want:=false) (b:=false) rfl (h21.yields (prev:=10) rfl (by simp))];rfl) rfl (by decide) (fr rfl) (.bool false) (by unfold execOp;simp only [h21.ev 15 rfl];exact Af (Agu _ _ _ _ _ n2.out)) fun a24 h23=>?_
  refine wv h23 rfl rfl rfl rfl (.bool false) (BR rfl (h23.ev 10 rfl) (by rw [if_neg (by simp)];exact h23.ev 16 rfl)) fun a26 h25=>?_
  have h27:=h25.subs (l':=[(17,_),(6,_),(0,_),(1,_),(2,_)]) rfl
  clear h25
  iterate 3 go_step
  refine wp_cond (t:=false) (h27.ev 17 rfl) ?_
  simp only [Bool.false_eq_true,if_false]
  have h28:=h27.subs (l':=[(6,_),(0,_),(1,_),(2,_)]) rfl
  clear h27
  iterate 6 go_step
  refine wmk h28 rfl rfl rfl rfl 1 rfl (fun _=>rfl) fun a30 h29=>?_
  refine wv h29 rfl rfl rfl rfl (.bool false) (by unfold execOp;simp only [h29.ev 18 rfl];exact Af (KO _ _ _ _ _ n3.out)) fun a32 h31=>?_
  refine wmk h31 rfl rfl rfl rfl 19 rfl (fun _=>rfl) fun a34 h33=>?_
  refine Ak h33 (by rw [Ae (g:=2) (want:=false) (b:=false) rfl (h33.yields (prev:=20) rfl (by simp))];rfl) rfl (by decide) (fr rfl) (ν at_) (by unfold execOp;simp only [h33.ev 1 rfl];rfl) fun a36 h35=>?_
  refine Ak h35 (by rw [Ae (g:=2) (want:=false) (b:=false) rfl (h35.yields (prev:=20) rfl (by simp))];rfl) rfl (by decide) (fr rfl) (π tg) (by unfold execOp;simp only [h35.ev 0 rfl];rfl) fun a38 h37=>?_
  refine Ak h37 (by rw [Ae (g:=2) (want:=false) (b:=false) rfl (h37.yields (prev:=20) rfl (by simp))];rfl) rfl (by decide) (fr rfl) (π tg) (by unfold execOp;simp only [h37.ev 22 rfl];exact rfl) fun a40 h39=>?_
  refine Ak h39 (by rw [Ae (g:=2) (want:=false) (b:=false) rfl (h39.yields (prev:=20) rfl (by simp))];rfl) rfl (by decide) (fr rfl) (π tg) (by unfold execOp;simp only [h39.ev 23 rfl];exact Af (Iz (tg) _)) fun a42 h41=>?_
  refine Ak h41 (by rw [Ae (g:=2) (want:=false) (b:=false) rfl (h41.yields (prev:=20) rfl (by simp))];rfl) rfl (by decide) (fr rfl) (π g) (by unfold execOp;simp only [h41.ev 24 rfl];exact Af (He (HB.out.cell (i:=0) (by show 0<3;omega)))) fun a44 h43=>?_
  refine BI h43 (by rw [Ae (g:=2) (want:=false) (b:=false) rfl (h43.yields (prev:=20) rfl (by simp))];rfl) rfl (by decide) (fr rfl) (fun args=>WQ args _) rfl #[π g] (by simp only [List.map_toArray,List.map_cons,List.map_nil,h43.ev 25 rfl]) (R:=fun v' w'=>v'=ν (M.V.length:Int)∧w=w') ((Hp HM.out).mono fun e w' q=>⟨_,q.1,rfl,q.2⟩) fun a46 v2 w2 r2 h45=>?_
  obtain ⟨rfl,rfl⟩:=r2
  refine Ak h45 (by rw [Ae (g:=2) (want:=false) (b:=false) rfl (h45.yields (prev:=20) rfl (by simp))];rfl) rfl (by decide) (fr rfl) (.slice a xs.length c) (by unfold execOp;simp only [h45.ev 2 rfl];rfl) fun a48 h47=>?_
  refine Ak h47 (by rw [Ae (g:=2) (want:=false) (b:=false) rfl (h47.yields (prev:=20) rfl (by simp))];rfl) rfl (by decide) (fr rfl) (ν (xs.length:Int)) (El rfl (h47.ev 27 rfl) _) fun a50 h49=>?_
  refine Ak h49 (by rw [Ae (g:=2) (want:=false) (b:=false) rfl (h49.yields (prev:=20) rfl (by simp))];rfl) rfl (by decide) (fr rfl) (ν ((M.V.length:Int)-(xs.length:Int))) (by unfold execOp;simp only [h49.ev 26 rfl,h49.ev 28 rfl];exact Af (FH _ _ _ _ _ rfl ω ω _)) fun a52 h51=>?_
  refine Ak h51 (by rw [Ae (g:=2) (want:=false) (b:=false) rfl (h51.yields (prev:=20) rfl (by simp))];rfl) rfl (by decide) (fr rfl) (.bool false) (by unfold execOp;simp only [h51.ev 21 rfl,h51.ev 29 rfl];exact Af (Im _ _ _ _ _ n4.out)) fun a54 h53=>?_
  refine wv h53 rfl rfl rfl rfl (.bool false) (BR rfl (h53.ev 20 rfl) (by rw [if_neg (by simp)];exact h53.ev 30 rfl)) fun a56 h55=>?_
  have h57:=h55.subs (l':=[(31,_),(6,_),(0,_),(1,_),(2,_)]) rfl
  clear h55
  iterate 3 go_step
  refine wp_cond (t:=false) (h57.ev 31 rfl) ?_
  simp only [Bool.false_eq_true,if_false]
  have h58:=h57.subs (l':=[(6,_),(0,_),(1,_),(2,_)]) rfl
  clear h57
  iterate 4 go_step
  have HBd:=hid (HB.out.mono (Below.refl _ _).drew);have HOd:Hid (By w.drew B ta tc P):=hid (Own.mono HO.out (Below.refl _ _).drew);have hst:=Gy (h0.mono (Below.refl _ _).drew)
  refine wp_region_held_drew (S:=fun _=>True) κ trivial (fun hS1=>?_)
  refine tkm hS1 h58 0 0 rfl rfl rfl rfl κ (fun _ _ _ _ h=>h) rfl (fun _=>rfl) rfl fun a60 h59=>?_
  refine tkm hS1 h59 1 0 rfl rfl rfl rfl κ (fun _ _ _ _ h=>h) rfl (fun _=>rfl) rfl fun a62 h61=>?_
  refine tkn hS1 h61 2 33 rfl rfl rfl rfl κ (fun _ _ _ _ h=>h) rfl rfl rfl fun a64 h63=>?_
  refine tkf hS1 h63 3 34 rfl rfl rfl rfl κ (fun _ _ _ _ h=>h) rfl rfl rfl (fun w=>Cl _ w) fun a66 h65=>?_
  refine tkm hS1 h65 5 1 rfl rfl rfl rfl κ (fun _ _ _ _ h=>h) rfl (fun _=>rfl) rfl fun a68 h67=>?_
  refine tkm hS1 h67 6 2 rfl rfl rfl rfl κ (fun _ _ _ _ h=>h) rfl (fun _=>rfl) rfl fun a70 h69=>?_
  refine Uz 4 7 rfl rfl rfl rfl κ (fun KK hK=>Di (w':=w.drew) h69 rfl (by decide) (fr rfl) (.slice ta P.length tc) (by show (execOp _ (⟨_,.load 89 (.tmp 35),_,_,_,_⟩:Oper)).run _ _=_;exact (by unfold execOp;simp only [h69.ev 35 rfl];exact Af (Dk (HBd.out.cell (i:=2) (by show 2<3;omega))))) fun ax hx=>hK _ _ trivial fun hS2=>?_) (fun KK hK=>Di (w':=w.drew) h69 rfl (by decide) (fr rfl) (Am xs) (by show (execOp _ (⟨_,.convert 22 9 (.tmp 38),_,_,_,_⟩:Oper)).run _ _=_;exact (by unfold execOp;simp only [h69.ev 38 rfl];exact Af hst)) fun ax hx=>hK _ _ trivial fun hS2=>?_)
  · clear hK KK
    refine AF 7 rfl rfl κ fun KK hK=>Di (w':=w.drew) hx rfl (by decide) (fr rfl) (Am xs) (by show (execOp _ (⟨_,.convert 22 9 (.tmp 38),_,_,_,_⟩:Oper)).run _ _=_;exact (by unfold execOp;simp only [hx.ev 38 rfl];exact Af hst)) fun a72 h71=>hK _ _ (trivial) fun hS2b=>?_
    clear hK KK
    refine JC hS1 h71 8 rfl rfl (by decide) (fr rfl) κ κ κ (fun _ _ _ _ h=>h) (ptV ⟨at_,xs⟩) (Or.inl ⟨Eq.refl true,fun w1 hSw=>(by show (execOp _ (⟨_,.build 141 #[(0,(.tmp 37)),(1,(.tmp 39))],_,_,_,_⟩:Oper)).run _ _=_;exact (by unfold execOp;simp only [List.map_toArray,List.map_cons,List.map_nil,h71.ev 37 rfl,h71.ev 39 rfl];exact Af (IQ _ _ _)))⟩) fun a74 h73=>?_
    obtain ⟨ws,hws⟩:∃ x,x=w.drew.alloc (.cells (ptC ⟨at_,xs⟩).toArray 141):=⟨_,rfl⟩
    have bs:Below w.drew.heap.size w.drew ws:=by rw [hws];exact Ck _ _
    have rs:EN ws (some ⟨w.drew.heap.size,0,none⟩) 1 [⟨at_,xs⟩]:=by rw [hws];exact Pc _ _
    refine AF 9 rfl rfl κ fun KK hK=>Di (w':=ws) h73 rfl (by decide) (fr rfl) (.slice (some ⟨w.drew.heap.size,0,none⟩) ([⟨at_,xs⟩]:List PtM).length 1) (by show (execOp _ (⟨_,.buildSlice 89 1 #[(0,(.tmp 40))],_,_,_,_⟩:Oper)).run _ _=_;exact (by unfold execOp;simp only [List.map_toArray,List.map_cons,List.map_nil,h73.ev 40 rfl];rw [hws];exact Af (GT _ _))) fun a76 h75=>hK _ _ (trivial) fun hS3=>?_
    clear hK KK
    have HBs:=hid (HBd.out.mono bs);have HOs:Hid (By ws B ta tc P):=hid (Own.mono HOd.out bs);have HRs:=hid rs;have HTs:Hid (Turns (fun k=>k=tg∨some k=obA ta) w ws):=hid ((Turns.refl _ w).drew.trans (Turns.of_below bs));have hsz:B≤ws.heap.size:=Nat.le_trans hB bs.size;have hszw:w.heap.size≤ws.heap.size:=bs.size;clear hws rs bs
    refine AF 10 rfl rfl κ fun KK hK=>ID h75 rfl (by decide) (fr rfl) (.tmp 36) (.tmp 41) rfl EPt B (h75.ev 36 rfl) (h75.ev 41 rfl) HOs.out HRs.out (Jq _) (by show (P.length+1)*24≤_;omega) (by show P.length+1≤_;omega) hsz fun a78 ta2 tc2 w3 o3 g3 b3 x3 h77=>hK _ _ trivial fun hS4=>?_
    clear hK KK
    have HO3:Hid (By w3 B ta2 tc2 (P++[(⟨at_,xs⟩:PtM)])):=hid (by unfold By;rw [List.length_append,List.flatMap_append];exact o3)
    have HB3:Hid (Blk w3 tg 105 (txC g lg ta P.length tc)):=hid ((b3.block tg htg).trans HBs.out)
    have HT3:Hid (Turns (fun k=>k=tg∨some k=obA ta) w w3):=hid (HTs.out.trans ⟨g3.os,g3.tape,g3.output,g3.size,fun k hk hx=>g3.block k hk (by rw [Fb];exact fun e=>hx (.inr e))⟩)
    have HX3:=hid (MT x3 hszw)
    clear o3 g3 b3 x3
    refine tkn hS1 h77 11 32 rfl rfl rfl rfl κ (fun _ _ _ _ h=>h) rfl rfl rfl fun a80 h79=>?_
    refine tkf hS1 h79 12 43 rfl rfl rfl rfl κ (fun _ _ _ _ h=>h) rfl rfl rfl (fun w=>Cl _ w) fun a82 h81=>?_
    obtain ⟨w4,hw4⟩:∃ x,x=w3.setCell ⟨tg,2,none⟩ (.slice ta2 (P.length+([⟨at_,xs⟩]:List PtM).length) tc2):=⟨_,rfl⟩
    refine AF 13 rfl rfl κ fun KK hK=>Lc h81 rfl (w':=w4) (by show (execOp _ (⟨_,.store 89 (.tmp 44) (.tmp 42),_,_,_,_⟩:Oper)).run _ _=_;exact (by rw [hw4];unfold execOp;simp only [h81.ev 44 rfl,h81.ev 42 rfl];exact FO (Pk (HB3.out.cell (i:=2) (by show 2<3;omega)) (HB3.out.frozen 2) _ _ _))) fun a84 h83=>hK _ _ trivial fun _=>?_
    clear hK KK
    have HB4:Hid (Blk w4 tg 105 (txC g lg ta2 (P++[(⟨at_,xs⟩:PtM)]).length tc2)):=hid (by rw [hw4,List.length_append];exact HB3.out.set 2 _)
    have t4:Turns (fun k=>k=tg) w3 w4:=by rw [hw4];exact (Turns.refl (fun k=>k=tg) w3).setCell (p:=⟨tg,2,none⟩) rfl _
    have HO4:Hid (By w4 B ta2 tc2 (P++[(⟨at_,xs⟩:PtM)])):=hid (t4.own HO3.out (fun k e=>ω));have HT4:Hid (Turns (fun k=>k=tg∨some k=obA ta) w w4):=hid (HT3.out.trans (t4.mono (fun k e=>.inl e)));clear t4 hw4
    refine wpAnyH_done κ ?_ _
    have h85:=h83.subs (l':=[(6,_),(0,_),(1,_),(2,_)]) rfl
    clear h83
    iterate 4 go_step
    have h86:=h85.subs (l':=[(0,_),(1,_),(2,_)]) rfl
    clear h85
    refine wv h86 rfl rfl rfl rfl (ν 0) rfl fun a88 h87=>?_
    iterate 4 go_step
    exact bodyPost_ret (AL rfl (h87.known (6,ν 0) (by simp))) h87.defs ⟨rfl,ta2,tc2,HB4.out,HO4.out,HT4.out,HX3.out⟩
  · clear hK KK
    refine JC hS1 hx 8 rfl rfl (by decide) (fr rfl) κ κ κ (fun _ _ _ _ h=>h) (ptV ⟨at_,xs⟩) (Or.inl ⟨Eq.refl true,fun w1 hSw=>(by show (execOp _ (⟨_,.build 141 #[(0,(.tmp 37)),(1,(.tmp 39))],_,_,_,_⟩:Oper)).run _ _=_;exact (by unfold execOp;simp only [List.map_toArray,List.map_cons,List.map_nil,hx.ev 37 rfl,hx.ev 39 rfl];exact Af (IQ _ _ _)))⟩) fun a90 h89=>?_
    obtain ⟨ws,hws⟩:∃ x,x=w.drew.alloc (.cells (ptC ⟨at_,xs⟩).toArray 141):=⟨_,rfl⟩
    have bs:Below w.drew.heap.size w.drew ws:=by rw [hws];exact Ck _ _
    have rs:EN ws (some ⟨w.drew.heap.size,0,none⟩) 1 [⟨at_,xs⟩]:=by rw [hws];exact Pc _ _
    refine Uz 4 9 rfl rfl rfl rfl κ (fun KK hK=>Di (w':=w.drew) h89 rfl (by decide) (fr rfl) (.slice ta P.length tc) (by show (execOp _ (⟨_,.load 89 (.tmp 35),_,_,_,_⟩:Oper)).run _ _=_;exact (by unfold execOp;simp only [h89.ev 35 rfl];exact Af (Dk (HBd.out.cell (i:=2) (by show 2<3;omega))))) fun ax hx=>hK _ _ trivial fun hS2=>?_) (fun KK hK=>Di (w':=ws) h89 rfl (by decide) (fr rfl) (.slice (some ⟨w.drew.heap.size,0,none⟩) ([⟨at_,xs⟩]:List PtM).length 1) (by show (execOp _ (⟨_,.buildSlice 89 1 #[(0,(.tmp 40))],_,_,_,_⟩:Oper)).run _ _=_;exact (by unfold execOp;simp only [List.map_toArray,List.map_cons,List.map_nil,h89.ev 40 rfl];rw [hws];exact Af (GT _ _))) fun ax hx=>hK _ _ trivial fun hS2=>?_)
    · clear hK KK
      refine AF 9 rfl rfl κ fun KK hK=>Di (w':=ws) hx rfl (by decide) (fr rfl) (.slice (some ⟨w.drew.heap.size,0,none⟩) ([⟨at_,xs⟩]:List PtM).length 1) (by show (execOp _ (⟨_,.buildSlice 89 1 #[(0,(.tmp 40))],_,_,_,_⟩:Oper)).run _ _=_;exact (by unfold execOp;simp only [List.map_toArray,List.map_cons,List.map_nil,hx.ev 40 rfl];rw [hws];exact Af (GT _ _))) fun a92 h91=>hK _ _ (trivial) fun hS3=>?_
      clear hK KK
      have HBs:=hid (HBd.out.mono bs);have HOs:Hid (By ws B ta tc P):=hid (Own.mono HOd.out bs);have HRs:=hid rs;have HTs:Hid (Turns (fun k=>k=tg∨some k=obA ta) w ws):=hid ((Turns.refl _ w).drew.trans (Turns.of_below bs));have hsz:B≤ws.heap.size:=Nat.le_trans hB bs.size;have hszw:w.heap.size≤ws.heap.size:=bs.size;clear hws rs bs
      refine AF 10 rfl rfl κ fun KK hK=>ID h91 rfl (by decide) (fr rfl) (.tmp 36) (.tmp 41) rfl EPt B (h91.ev 36 rfl) (h91.ev 41 rfl) HOs.out HRs.out (Jq _) (by show (P.length+1)*24≤_;omega) (by show P.length+1≤_;omega) hsz fun a94 ta2 tc2 w3 o3 g3 b3 x3 h93=>hK _ _ trivial fun hS4=>?_
      clear hK KK
      have HO3:Hid (By w3 B ta2 tc2 (P++[(⟨at_,xs⟩:PtM)])):=hid (by unfold By;rw [List.length_append,List.flatMap_append];exact o3)
      have HB3:Hid (Blk w3 tg 105 (txC g lg ta P.length tc)):=hid ((b3.block tg htg).trans HBs.out)
      have HT3:Hid (Turns (fun k=>k=tg∨some k=obA ta) w w3):=hid (HTs.out.trans ⟨g3.os,g3.tape,g3.output,g3.size,fun k hk hx=>g3.block k hk (by rw [Fb];exact fun e=>hx (.inr e))⟩)
      have HX3:=hid (MT x3 hszw)
      clear o3 g3 b3 x3
      refine tkn hS1 h93 11 32 rfl rfl rfl rfl κ (fun _ _ _ _ h=>h) rfl rfl rfl fun a96 h95=>?_
      refine tkf hS1 h95 12 43 rfl rfl rfl rfl κ (fun _ _ _ _ h=>h) rfl rfl rfl (fun w=>Cl _ w) fun a98 h97=>?_
      obtain ⟨w4,hw4⟩:∃ x,x=w3.setCell ⟨tg,2,none⟩ (.slice ta2 (P.length+([⟨at_,xs⟩]:List PtM).length) tc2):=⟨_,rfl⟩
      refine AF 13 rfl rfl κ fun KK hK=>Lc h97 rfl (w':=w4) (by show (execOp _ (⟨_,.store 89 (.tmp 44) (.tmp 42),_,_,_,_⟩:Oper)).run _ _=_;exact (by rw [hw4];unfold execOp;simp only [h97.ev 44 rfl,h97.ev 42 rfl];exact FO (Pk (HB3.out.cell (i:=2) (by show 2<3;omega)) (HB3.out.frozen 2) _ _ _))) fun a100 h99=>hK _ _ trivial fun _=>?_
      clear hK KK
      have HB4:Hid (Blk w4 tg 105 (txC g lg ta2 (P++[(⟨at_,xs⟩:PtM)]).length tc2)):=hid (by rw [hw4,List.length_append];exact HB3.out.set 2 _)
      have t4:Turns (fun k=>k=tg) w3 w4:=by rw [hw4];exact (Turns.refl (fun k=>k=tg) w3).setCell (p:=⟨tg,2,none⟩) rfl _
      have HO4:Hid (By w4 B ta2 tc2 (P++[(⟨at_,xs⟩:PtM)])):=hid (t4.own HO3.out (fun k e=>ω));have HT4:Hid (Turns (fun k=>k=tg∨some k=obA ta) w w4):=hid (HT3.out.trans (t4.mono (fun k e=>.inl e)));clear t4 hw4
      refine wpAnyH_done κ ?_ _
      have h101:=h99.subs (l':=[(6,_),(0,_),(1,_),(2,_)]) rfl
      clear h99
      iterate 4 go_step
      have h102:=h101.subs (l':=[(0,_),(1,_),(2,_)]) rfl
      clear h101
      refine wv h102 rfl rfl rfl rfl (ν 0) rfl fun a104 h103=>?_
      iterate 4 go_step
      exact bodyPost_ret (AL rfl (h103.known (6,ν 0) (by simp))) h103.defs ⟨rfl,ta2,tc2,HB4.out,HO4.out,HT4.out,HX3.out⟩
    · clear hK KK
      have HBs:=hid (HBd.out.mono bs);have HOs:Hid (By ws B ta tc P):=hid (Own.mono HOd.out bs);have HRs:=hid rs;have HTs:Hid (Turns (fun k=>k=tg∨some k=obA ta) w ws):=hid ((Turns.refl _ w).drew.trans (Turns.of_below bs));have hsz:B≤ws.heap.size:=Nat.le_trans hB bs.size;have hszw:w.heap.size≤ws.heap.size:=bs.size;clear hws rs bs
      refine AF 4 rfl rfl κ fun KK hK=>Di (w':=ws) hx rfl (by decide) (fr rfl) (.slice ta P.length tc) (by show (execOp _ (⟨_,.load 89 (.tmp 35),_,_,_,_⟩:Oper)).run _ _=_;exact (by unfold execOp;simp only [hx.ev 35 rfl];exact Af (Dk (HBs.out.cell (i:=2) (by show 2<3;omega))))) fun a106 h105=>hK _ _ (trivial) fun hS3=>?_
      clear hK KK
      refine AF 10 rfl rfl κ fun KK hK=>ID h105 rfl (by decide) (fr rfl) (.tmp 36) (.tmp 41) rfl EPt B (h105.ev 36 rfl) (h105.ev 41 rfl) HOs.out HRs.out (Jq _) (by show (P.length+1)*24≤_;omega) (by show P.length+1≤_;omega) hsz fun a108 ta2 tc2 w3 o3 g3 b3 x3 h107=>hK _ _ trivial fun hS4=>?_
      clear hK KK
      have HO3:Hid (By w3 B ta2 tc2 (P++[(⟨at_,xs⟩:PtM)])):=hid (by unfold By;rw [List.length_append,List.flatMap_append];exact o3)
      have HB3:Hid (Blk w3 tg 105 (txC g lg ta P.length tc)):=hid ((b3.block tg htg).trans HBs.out)
      have HT3:Hid (Turns (fun k=>k=tg∨some k=obA ta) w w3):=hid (HTs.out.trans ⟨g3.os,g3.tape,g3.output,g3.size,fun k hk hx=>g3.block k hk (by rw [Fb];exact fun e=>hx (.inr e))⟩)
      have HX3:=hid (MT x3 hszw)
      clear o3 g3 b3 x3
      refine tkn hS1 h107 11 32 rfl rfl rfl rfl κ (fun _ _ _ _ h=>h) rfl rfl rfl fun a110 h109=>?_
      refine tkf hS1 h109 12 43 rfl rfl rfl rfl κ (fun _ _ _ _ h=>h) rfl rfl rfl (fun w=>Cl _ w) fun a112 h111=>?_
      obtain ⟨w4,hw4⟩:∃ x,x=w3.setCell ⟨tg,2,none⟩ (.slice ta2 (P.length+([⟨at_,xs⟩]:List PtM).length) tc2):=⟨_,rfl⟩
      refine AF 13 rfl rfl κ fun KK hK=>Lc h111 rfl (w':=w4) (by show (execOp _ (⟨_,.store 89 (.tmp 44) (.tmp 42),_,_,_,_⟩:Oper)).run _ _=_;exact (by rw [hw4];unfold execOp;simp only [h111.ev 44 rfl,h111.ev 42 rfl];exact FO (Pk (HB3.out.cell (i:=2) (by show 2<3;omega)) (HB3.out.frozen 2) _ _ _))) fun a114 h113=>hK _ _ trivial fun _=>?_
      clear hK KK
      have HB4:Hid (Blk w4 tg 105 (txC g lg ta2 (P++[(⟨at_,xs⟩:PtM)]).length tc2)):=hid (by rw [hw4,List.length_append];exact HB3.out.set 2 _)
      have t4:Turns (fun k=>k=tg) w3 w4:=by rw [hw4];exact (Turns.refl (fun k=>k=tg) w3).setCell (p:=⟨tg,2,none⟩) rfl _
      have HO4:Hid (By w4 B ta2 tc2 (P++[(⟨at_,xs⟩:PtM)])):=hid (t4.own HO3.out (fun k e=>ω));have HT4:Hid (Turns (fun k=>k=tg∨some k=obA ta) w w4):=hid (HT3.out.trans (t4.mono (fun k e=>.inl e)));clear t4 hw4
      refine wpAnyH_done κ ?_ _
      have h115:=h113.subs (l':=[(6,_),(0,_),(1,_),(2,_)]) rfl
      clear h113
      iterate 4 go_step
      have h116:=h115.subs (l':=[(0,_),(1,_),(2,_)]) rfl
      clear h115
      refine wv h116 rfl rfl rfl rfl (ν 0) rfl fun a118 h117=>?_
      iterate 4 go_step
      exact bodyPost_ret (AL rfl (h117.known (6,ν 0) (by simp))) h117.defs ⟨rfl,ta2,tc2,HB4.out,HO4.out,HT4.out,HX3.out⟩
theorem Ra {w:World} {tg g lg v d p tc B:Nat} {ta:Ω} {M:MemM} {P:List PtM} (hm:MemP w g v d p M) (hb:Blk w tg 105 (txC g lg ta P.length tc)) (ho:By w B ta tc P) (hB:B≤w.heap.size) (htg:tg<B) (hM:M.V.length≤1048576) {a:Ω} {c:Nat} {xs:Λ} (h0:RowB w a c xs) {at_:Int} (ha:ER at_) (hP:P.length≤64) (hx:xs.length≤4611686018427387904) :
    Calls prog 69 #[π tg,ν at_,.slice a xs.length c] w (KT w tg g lg B ta M P at_ xs):=by
  by_cases ok:okT M P at_ xs.length=true
  · have k:=ok
    unfold okT at k
    rw [decide_eq_true_iff] at k
    refine (Wk hm hb ho hB htg hM h0 k.1 k.2.1 k.2.2.1 k.2.2.2).mono fun e w' q=>?_
    unfold KT Ly Kg
    rw [if_pos ok,if_pos ok]
    exact q
  have ok2:okT M P at_ xs.length=false:=by simpa using ok
  have HE:=hid (Ti ok2 hb ho)
  have c0:w.cell? ⟨tg,0,none⟩=some (π g):=hb.cell (i:=0) (by show 0<3;omega)
  have c2:w.cell? ⟨tg,2,none⟩=some (.slice ta P.length tc):=hb.cell (i:=2) (by show 2<3;omega)
  unfold okT at ok2
  rw [decide_eq_false_iff_not] at ok2
  have HS:=hid (Hp hm)
  unfold ER at ha
  obtain ⟨m,hm'⟩:∃ m:Nat,m=M.V.length:=⟨_,rfl⟩
  obtain ⟨n,hn⟩:∃ n:Nat,n=xs.length:=⟨_,rfl⟩
  obtain ⟨k,hk⟩:∃ n:Nat,n=P.length:=⟨_,rfl⟩
  rw [← hm'] at HS hM ok2;rw [← hn] at ok2 hx ⊢;rw [← hk] at ok2 c2 hP
  clear hm hb ho h0 hm' hn hk ok
  by_cases c1:(256:Int)<(n:Int)
  · have d1:decide ((256:Int)<(n:Int))=true:=decide_eq_true c1
    clear ok2 hx hP hM ha
    go_enter func69,ntmps69
    go_wp2
    go_ret
    exact HE.out
  have d1:decide ((256:Int)<(n:Int))=false:=decide_eq_false c1
  by_cases c3:(64:Int)≤(k:Int)
  · have d3:decide ((64:Int)≤(k:Int))=true:=decide_eq_true c3
    clear ok2 hx hP hM ha
    go_enter func69,ntmps69
    go_wp2
    go_ret
    exact HE.out
  have d3:decide ((64:Int)≤(k:Int))=false:=decide_eq_false c3
  by_cases c4:at_<0
  · have d4:decide (at_<(0:Int))=true:=decide_eq_true c4
    clear ok2 hx hP hM ha
    go_enter func69,ntmps69
    go_wp2
    go_ret
    exact HE.out
  have d4:decide (at_<(0:Int))=false:=decide_eq_false c4
  have c5:(m:Int)-(n:Int)<at_:=ω
  have d5:decide ((m:Int)-(n:Int)<at_)=true:=decide_eq_true c5
  have e5:IntKind.i64.wrap ((m:Int)-(n:Int))=(m:Int)-(n:Int):=IntWalk.i64_in _ ω
  clear ok2 hx hP ha
  go_enter func69,ntmps69
  go_wp2_with (go_at_call 38;refine HS.out.mono ?_;rintro e w1 ⟨rfl,rfl⟩)
  go_ret
  exact HE.out
end
section
theorem Fj {X:Nat→Prop} {w w':World} {lg g v d p at_ size:Nat} {M:MemM} (h:LogP w lg g v d p at_ size M) (t:Turns X w w') (hl:¬ X lg) (hg:¬ X g) (hv:¬ X v) (hd:¬ X d) (hp:¬ X p):LogP w' lg g v d p at_ size M:=⟨t.blk h.l hl,h.m.turns t hg hv hd hp⟩
theorem WH {M:MemM} {at_ size:Nat} {P:List PtM} (h:Dt M at_ size P≠0):CR M at_ size P=M:=by
  unfold Dt at h
  unfold CR
  by_cases c1:FW P=0
  · rw [if_pos c1] at h
    by_cases c2:size-8<(Cn M.V at_ size).2+(BP P).length
    · rw [if_neg (fun q=>q.2 c2)]
    · rw [if_neg c2] at h;exact absurd rfl h
  · rw [if_neg (fun q=>c1 q.1)]
theorem WP (args:Array Value) (w:World):(callFunc 16 args).run prog w=.ok (.enter 16 args) w:=by
  have h:=func16
  go_simp
theorem Pw (args:Array Value) (w:World):(callFunc 55 args).run prog w=.ok (.enter 55 args) w:=by
  have h:=func55
  go_simp
theorem WR (args:Array Value) (w:World):(callFunc 56 args).run prog w=.ok (.enter 56 args) w:=by
  have h:=func56
  go_simp
theorem IA (g:Nat) (w:World):(Instr.fieldAt 105 (π g) 1).run prog w=.ok (.pointer (some ⟨g,1,none⟩)) w:=rfl
theorem Pz {w:World} {tg g lg tc:Nat} {ta:Ω} {P:List PtM} (hb:Blk w tg 105 (txC g lg ta P.length tc)) (h0:P=[]):Calls prog 21 #[π tg] w fun e w'=>e=.returned (ν 0)∧Blk w' tg 105 (txC g lg ta P.length tc)∧Turns (fun k=>k=tg) w w':=by
  have HB:=hid hb
  have n1:=hid (show ((P.length:Int) == (0:Int))=true by rw [h0];rfl)
  clear hb
  go_enter func21,ntmps21
  iterate 3 go_step
  refine Bk (N:=29) (l:=[(0,π tg)]) ⟨rfl,(by intro x hx;simp only [List.mem_cons,List.not_mem_nil,or_false] at hx;rcases hx with rfl<;>rfl),rfl⟩ fun a2 h1=>mv h1 rfl fun _ h3=>?_
  iterate 6 go_step
  refine mv h3 rfl fun _ h5=>wv h5 rfl rfl rfl rfl (π tg) (by unfold execOp;simp only [h5.ev 4 rfl];exact rfl) fun a8 h7=>wv h7 rfl rfl rfl rfl (.pointer (some ⟨tg,2,none⟩)) (by unfold execOp;simp only [h7.ev 5 rfl];exact Af (Cl (tg) _)) fun a1 h9=>wv h9 rfl rfl rfl rfl (.slice ta P.length tc) (by unfold execOp;simp only [h9.ev 6 rfl];exact Af (Dk (HB.out.cell (i:=2) (by show 2<3;omega)))) fun a3 h2=>wv h2 rfl rfl rfl rfl (ν (P.length:Int)) (Fq rfl (h2.ev 7 rfl) _) fun a4 h4=>wv h4 rfl rfl rfl rfl (.bool true) (by unfold execOp;simp only [h4.ev 8 rfl];exact Af (ZN _ _ _ _ _ n1.out)) fun a5 h6=>h6.sk [9,2,0] rfl fun h8=>?_
  iterate 3 go_step
  refine wp_cond (t:=true) (h8.ev 9 rfl) ?_
  simp only [if_true]
  refine h8.sk [2,0] rfl fun h10=>?_
  iterate 2 go_step
  refine h10.sk [0] rfl fun h11=>mv h11 rfl fun _ h12=>?_
  iterate 4 go_step
  simp only [Exit.then,Exit.inBlock]
  exact bodyPost_ret (AL rfl (h12.known (2,ν 0) (by simp))) h12.defs ⟨rfl,HB.out,Turns.refl _ _⟩
theorem Py {w:World} {la ls:Nat} {tg g lg v d p tc B:Nat} {ta:Ω} {M:MemM} {P:List PtM} (hl:LogP w lg g v d p la ls M) (hok:LogOk la ls M) (hb:Blk w tg 105 (txC g lg ta P.length tc)) (hr:EN w ta tc P) (k1:tg≠lg) (k2:tg≠g) (k3:tg≠v) (k4:tg≠d) (k5:tg≠p) (hn:P.length≤64) (okp:Ir P) (h0:P≠[]) (hE:Dt M la ls P≠0):Calls prog 21 #[π tg] w fun e w'=>e=.returned (ν (Dt M la ls P))∧LogP w' lg g v d p la ls (CR M la ls P)∧Blk w' tg 105 (txC g lg ta P.length tc)∧Turns (XM v d p) w w':=by
  have n1:=hid (show ((P.length:Int) == (0:Int))=false by have z:=List.length_pos_iff.2 h0;simpa using (ω:P.length≠0))
  have n2:=hid (show (Dt M la ls P != 0)=true by simpa using hE)
  have ht:¬ XM v d p tg:=by rintro (e | e | e)<;>omega
  have HB:=hid hb;have HL:=hid hl;have HR:=hid hr
  clear hb hl hr
  go_enter func21,ntmps21
  iterate 3 go_step
  refine Bk (N:=29) (l:=[(0,π tg)]) ⟨rfl,(by intro x hx;simp only [List.mem_cons,List.not_mem_nil,or_false] at hx;rcases hx with rfl<;>rfl),rfl⟩ fun a2 h1=>mv h1 rfl fun _ h3=>?_
  iterate 6 go_step
  refine mv h3 rfl fun _ h5=>wv h5 rfl rfl rfl rfl (π tg) (by unfold execOp;simp only [h5.ev 4 rfl];exact rfl) fun a8 h7=>wv h7 rfl rfl rfl rfl (.pointer (some ⟨tg,2,none⟩)) (by unfold execOp;simp only [h7.ev 5 rfl];exact Af (Cl (tg) _)) fun a1 h9=>wv h9 rfl rfl rfl rfl (.slice ta P.length tc) (by unfold execOp;simp only [h9.ev 6 rfl];exact Af (Dk (HB.out.cell (i:=2) (by show 2<3;omega)))) fun a3 h2=>wv h2 rfl rfl rfl rfl (ν (P.length:Int)) (Fq rfl (h2.ev 7 rfl) _) fun a4 h4=>wv h4 rfl rfl rfl rfl (.bool false) (by unfold execOp;simp only [h4.ev 8 rfl];exact Af (ZN _ _ _ _ _ n1.out)) fun a5 h6=>h6.sk [9,2,0] rfl fun h8=>?_
  iterate 3 go_step
  refine wp_cond (t:=false) (h8.ev 9 rfl) ?_
  simp only [Bool.false_eq_true,if_false]
  refine h8.sk [2,0] rfl fun h10=>?_
  iterate 5 go_step
  have HBd:=hid (HB.out.mono (Below.refl _ _).drew);have HLd:=hid (HL.out.mono (Below.refl _ _).drew);have HRd:=hid (HR.out.mono (Below.refl _ _).drew)
  refine wp_region_held_drew (S:=fun w'=>Blk w' tg 105 (txC g lg ta P.length tc)) κ HBd.out (fun hS1=>?_)
  refine tkm hS1 h10 0 0 rfl rfl rfl rfl κ (fun _ _ _ _ h=>h) rfl (fun _=>rfl) rfl fun a6 h11=>tkn hS1 h11 1 10 rfl rfl rfl rfl κ (fun _ _ _ _ h=>h) rfl rfl rfl fun a7 h12=>tkf hS1 h12 2 11 rfl rfl rfl rfl κ (fun _ _ _ _ h=>h) rfl rfl rfl (fun w=>IA _ w) fun a9 h13=>tkl hS1 h13 3 12 rfl rfl rfl rfl κ (fun _ _ _ _ h=>h) rfl rfl rfl (fun _ hSw=>(OI (hSw.cell (i:=1) (by show 1<3;omega)))) fun a10 h14=>tkm hS1 h14 4 0 rfl rfl rfl rfl κ (fun _ _ _ _ h=>h) rfl (fun _=>rfl) rfl fun a11 h15=>tkn hS1 h15 5 14 rfl rfl rfl rfl κ (fun _ _ _ _ h=>h) rfl rfl rfl fun a12 h16=>tkf hS1 h16 6 15 rfl rfl rfl rfl κ (fun _ _ _ _ h=>h) rfl rfl rfl (fun w=>Cl _ w) fun a13 h17=>tkl hS1 h17 7 16 rfl rfl rfl rfl κ (fun _ _ _ _ h=>h) rfl rfl rfl (fun _ hSw=>(Dk (hSw.cell (i:=2) (by show 2<3;omega)))) fun a14 h18=>AF 8 rfl rfl κ fun KK hK=>DT h18 rfl (by decide) (fr rfl) (fun args=>Pw args _) rfl #[π lg,.slice ta P.length tc] (by simp only [List.map_toArray,List.map_cons,List.map_nil,h18.ev 13 rfl,h18.ev 17 rfl]) (R:=fun v' w'=>v'=ν (Dt M la ls P)∧LogP w' lg g v d p la ls (CR M la ls P)∧Turns (XM v d p) w.drew w') (Lh HLd.out hok HRd.out okp ω) fun a15 v2 w2 r2 h19=>hK _ _ (r2.2.2.blk HBd.out ht) fun hS2=>?_
  clear hK KK
  obtain ⟨rfl,l2,t2⟩:=r2
  have HL2:=hid l2;have HB2:Hid (Blk w2 tg 105 (txC g lg ta P.length tc)):=hid (t2.blk HBd.out ht);have HT2:Hid (Turns (XM v d p) w w2):=hid ((Turns.refl _ w).drew.trans t2);clear l2 t2
  refine tkm hS2 h19 9 18 rfl rfl rfl rfl κ (fun _ _ _ _ h=>h) rfl (fun _=>rfl) rfl fun a16 h20=>?_
  refine wpAnyH_done κ ?_ _
  refine h20.sk [3,2,0] rfl fun h21=>?_
  iterate 4 go_step
  refine mv h21 rfl fun _ h22=>wv h22 rfl rfl rfl rfl (.bool true) (by unfold execOp;simp only [h22.ev 19 rfl];exact Af (Qi _ _ _ _ _ n2.out)) fun a17 h23=>h23.sk [20,3,2,0] rfl fun h24=>?_
  iterate 3 go_step
  refine wp_cond (t:=true) (h24.ev 20 rfl) ?_
  simp only [if_true]
  refine h24.sk [3,2,0] rfl fun h25=>?_
  iterate 2 go_step
  refine mv h25 rfl fun _ h26=>h26.sk [21,3,0] rfl fun h27=>mv h27 rfl fun _ h28=>h28.sk [2,3,0] rfl fun h29=>?_
  iterate 4 go_step
  simp only [Exit.then,Exit.inBlock]
  exact bodyPost_ret (AL rfl (h29.known (2,ν (Dt M la ls P)) (by simp))) h29.defs ⟨rfl,HL2.out,HB2.out,HT2.out⟩
theorem Rx {w:World} {la ls:Nat} {tg g lg v d p tc B:Nat} {ta:Ω} {M:MemM} {P:List PtM} (hl:LogP w lg g v d p la ls M) (hok:LogOk la ls M) (hb:Blk w tg 105 (txC g lg ta P.length tc)) (hr:EN w ta tc P) (k1:tg≠lg) (k2:tg≠g) (k3:tg≠v) (k4:tg≠d) (k5:tg≠p) (hn:P.length≤64) (okp:Ir P) (h0:P≠[]) (hE:Dt M la ls P=0):Calls prog 21 #[π tg] w fun e w'=>e=.returned (ν 0)∧LogP w' lg g v d p la ls (AI (CR M la ls P) la ls)∧Blk w' tg 105 (txC g lg none 0 0)∧Turns (fun k=>XM v d p k∨k=tg) w w':=by
  have n1:=hid (show ((P.length:Int) == (0:Int))=false by have z:=List.length_pos_iff.2 h0;simpa using (ω:P.length≠0))
  have n2:=hid (show (Dt M la ls P != 0)=false by rw [hE];rfl)
  have ht:¬ XM v d p tg:=by rintro (e | e | e)<;>omega
  have HB:=hid hb;have HL:=hid hl;have HR:=hid hr
  clear hb hl hr
  go_enter func21,ntmps21
  iterate 3 go_step
  refine Bk (N:=29) (l:=[(0,π tg)]) ⟨rfl,(by intro x hx;simp only [List.mem_cons,List.not_mem_nil,or_false] at hx;rcases hx with rfl<;>rfl),rfl⟩ fun a2 h1=>mv h1 rfl fun _ h3=>?_
  iterate 6 go_step
  refine mv h3 rfl fun _ h5=>wv h5 rfl rfl rfl rfl (π tg) (by unfold execOp;simp only [h5.ev 4 rfl];exact rfl) fun a8 h7=>wv h7 rfl rfl rfl rfl (.pointer (some ⟨tg,2,none⟩)) (by unfold execOp;simp only [h7.ev 5 rfl];exact Af (Cl (tg) _)) fun a1 h9=>wv h9 rfl rfl rfl rfl (.slice ta P.length tc) (by unfold execOp;simp only [h9.ev 6 rfl];exact Af (Dk (HB.out.cell (i:=2) (by show 2<3;omega)))) fun a3 h2=>wv h2 rfl rfl rfl rfl (ν (P.length:Int)) (Fq rfl (h2.ev 7 rfl) _) fun a4 h4=>wv h4 rfl rfl rfl rfl (.bool false) (by unfold execOp;simp only [h4.ev 8 rfl];exact Af (ZN _ _ _ _ _ n1.out)) fun a5 h6=>h6.sk [9,2,0] rfl fun h8=>?_
  iterate 3 go_step
  refine wp_cond (t:=false) (h8.ev 9 rfl) ?_
  simp only [Bool.false_eq_true,if_false]
  refine h8.sk [2,0] rfl fun h10=>?_
  iterate 5 go_step
  have HBd:=hid (HB.out.mono (Below.refl _ _).drew);have HLd:=hid (HL.out.mono (Below.refl _ _).drew);have HRd:=hid (HR.out.mono (Below.refl _ _).drew)
  refine wp_region_held_drew (S:=fun w'=>Blk w' tg 105 (txC g lg ta P.length tc)) κ HBd.out (fun hS1=>?_)
  refine tkm hS1 h10 0 0 rfl rfl rfl rfl κ (fun _ _ _ _ h=>h) rfl (fun _=>rfl) rfl fun a6 h11=>tkn hS1 h11 1 10 rfl rfl rfl rfl κ (fun _ _ _ _ h=>h) rfl rfl rfl fun a7 h12=>tkf hS1 h12 2 11 rfl rfl rfl rfl κ (fun _ _ _ _ h=>h) rfl rfl rfl (fun w=>IA _ w) fun a9 h13=>tkl hS1 h13 3 12 rfl rfl rfl rfl κ (fun _ _ _ _ h=>h) rfl rfl rfl (fun _ hSw=>(OI (hSw.cell (i:=1) (by show 1<3;omega)))) fun a10 h14=>tkm hS1 h14 4 0 rfl rfl rfl rfl κ (fun _ _ _ _ h=>h) rfl (fun _=>rfl) rfl fun a11 h15=>tkn hS1 h15 5 14 rfl rfl rfl rfl κ (fun _ _ _ _ h=>h) rfl rfl rfl fun a12 h16=>tkf hS1 h16 6 15 rfl rfl rfl rfl κ (fun _ _ _ _ h=>h) rfl rfl rfl (fun w=>Cl _ w) fun a13 h17=>tkl hS1 h17 7 16 rfl rfl rfl rfl κ (fun _ _ _ _ h=>h) rfl rfl rfl (fun _ hSw=>(Dk (hSw.cell (i:=2) (by show 2<3;omega)))) fun a14 h18=>AF 8 rfl rfl κ fun KK hK=>DT h18 rfl (by decide) (fr rfl) (fun args=>Pw args _) rfl #[π lg,.slice ta P.length tc] (by simp only [List.map_toArray,List.map_cons,List.map_nil,h18.ev 13 rfl,h18.ev 17 rfl]) (R:=fun v' w'=>v'=ν (Dt M la ls P)∧LogP w' lg g v d p la ls (CR M la ls P)∧Turns (XM v d p) w.drew w') (Lh HLd.out hok HRd.out okp ω) fun a15 v2 w2 r2 h19=>hK _ _ (r2.2.2.blk HBd.out ht) fun hS2=>?_
  clear hK KK
  obtain ⟨rfl,l2,t2⟩:=r2
  have HL2:=hid l2;have HB2:Hid (Blk w2 tg 105 (txC g lg ta P.length tc)):=hid (t2.blk HBd.out ht);have HT2:Hid (Turns (XM v d p) w w2):=hid ((Turns.refl _ w).drew.trans t2);clear l2 t2
  refine tkm hS2 h19 9 18 rfl rfl rfl rfl κ (fun _ _ _ _ h=>h) rfl (fun _=>rfl) rfl fun a16 h20=>?_
  refine wpAnyH_done κ ?_ _
  refine h20.sk [3,2,0] rfl fun h21=>?_
  iterate 4 go_step
  refine mv h21 rfl fun _ h22=>wv h22 rfl rfl rfl rfl (.bool false) (by unfold execOp;simp only [h22.ev 19 rfl];exact Af (Qi _ _ _ _ _ n2.out)) fun a17 h23=>h23.sk [20,3,2,0] rfl fun h24=>?_
  iterate 3 go_step
  refine wp_cond (t:=false) (h24.ev 20 rfl) ?_
  simp only [Bool.false_eq_true,if_false]
  refine h24.sk [3,2,0] rfl fun h25=>?_
  iterate 5 go_step
  refine mv h25 rfl fun _ h26=>wv h26 rfl rfl rfl rfl (π tg) (by unfold execOp;simp only [h26.ev 22 rfl];exact rfl) fun a18 h27=>wv h27 rfl rfl rfl rfl (.pointer (some ⟨tg,1,none⟩)) (by unfold execOp;simp only [h27.ev 23 rfl];exact Af (IA (tg) _)) fun a19 h28=>wv h28 rfl rfl rfl rfl (π lg) (by unfold execOp;simp only [h28.ev 24 rfl];exact Af (OI (HB2.out.cell (i:=1) (by show 1<3;omega)))) fun a20 h29=>BI h29 (wn rfl) rfl (by decide) (fr rfl) (fun args=>WP args _) rfl #[π lg] (by simp only [List.map_toArray,List.map_cons,List.map_nil,h29.ev 25 rfl]) (R:=fun v' w'=>v'=ν ((Cn (CR M la ls P).V la ls).1.length:Int)∧LogP w' lg g v d p la ls (AI (CR M la ls P) la ls)∧Turns (XM v d p) w2 w') (QH HL2.out (NA hok P)) fun a21 v3 w3 r3 h30=>?_
  obtain ⟨rfl,l3,t3⟩:=r3
  have HL3:=hid l3;have HB3:Hid (Blk w3 tg 105 (txC g lg ta P.length tc)):=hid (t3.blk HB2.out ht);have HT3:=hid (HT2.out.trans t3);clear l3 t3
  refine h30.sk [3,2,0] rfl fun h31=>?_
  iterate 5 go_step
  refine mv h31 rfl fun _ h32=>?_
  have HD:=hid (Xe HB3.out)
  refine BI h32 (wn rfl) rfl (by decide) (fr rfl) (fun args=>WR args _) rfl #[π tg] (by simp only [List.map_toArray,List.map_cons,List.map_nil,h32.ev 27 rfl]) (R:=fun v' w'=>Blk w' tg 105 (txC g lg none 0 0)∧Turns (fun k=>k=tg) w3 w') (HD.out.mono fun e w' q=>by obtain ⟨⟨x,rfl⟩,q2,q3⟩:=q;exact ⟨x,rfl,q2,q3⟩) fun a22 v4 w4 r4 h33=>?_
  have HB4:=hid r4.1;have HL4:Hid (LogP w4 lg g v d p la ls (AI (CR M la ls P) la ls)):=hid (Fj HL3.out r4.2 (fun e=>k1 e.symm) (fun e=>k2 e.symm) (fun e=>k3 e.symm) (fun e=>k4 e.symm) (fun e=>k5 e.symm));have HT4:Hid (Turns (fun k=>XM v d p k∨k=tg) w w4):=hid ((HT3.out.mono (fun k e=>.inl e)).trans (r4.2.mono (fun k e=>.inr e)));clear r4
  refine h33.sk [3,2,0] rfl fun h34=>?_
  iterate 5 go_step
  refine h34.sk [3,0] rfl fun h35=>mv h35 rfl fun _ h36=>?_
  iterate 4 go_step
  exact bodyPost_ret (AL rfl (h36.known (2,ν 0) (by simp))) h36.defs ⟨rfl,HL4.out,HB4.out,HT4.out⟩
end
end Go.Proofs.YtpnknncmacjdkaaGreatDoor
