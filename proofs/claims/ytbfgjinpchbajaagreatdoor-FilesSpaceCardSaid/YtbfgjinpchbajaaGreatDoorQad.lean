/- Parts of the proof. -/
import Derived.Test.YtbfgjinpchbajaaGreatDoorQac
namespace Go.Proofs.YtbfgjinpchbajaaGreatDoor
open Go.RowKit
set_option linter.unusedSimpArgs false
set_option linter.unusedVariables false
set_option linter.unusedSectionVars false
set_option maxRecDepth 100000
set_option maxHeartbeats 8000000
section
theorem FI (x y:Operand) (v u:Int) (w:World) {b:Bool} (h:decide (u<v)=b):(do eqGuard .gtr 3 x y (ν v) (ν u);binOp .gtr 3 (ν v) (ν u):Sem Value).run Tryz.prog w=.ok (.bool b) w:=by
  have u3:=υ3
  have a3:=Tryz.isAgg3
  have z3:=Tryz.sizeOf3
  go_simp
theorem IL (x y:Operand) (v u:Int) (w:World) {b:Bool} (h:decide (v<u)=b):(do eqGuard .lss 3 x y (ν v) (ν u);binOp .lss 3 (ν v) (ν u):Sem Value).run Tryz.prog w=.ok (.bool b) w:=by
  have u3:=υ3
  have a3:=Tryz.isAgg3
  have z3:=Tryz.sizeOf3
  go_simp
theorem LN (x y:Operand) (j:Nat) (hj:j≤1000000) (w:World):(do eqGuard .add 3 x y (ν (j:Int)) (ν 1);binOp .add 3 (ν (j:Int)) (ν 1):Sem Value).run Tryz.prog w=.ok (ν ((j+1:Nat):Int)) w:=by
  have u3:=υ3
  have a3:=Tryz.isAgg3
  have z3:=Tryz.sizeOf3
  have e1:IntKind.i64.wrap ((j:Int)+1)=(j:Int)+1:=IntWalk.i64_in _ ω
  go_simp
theorem ixP (b off n c j:Nat) (hj:j<n) (w:World):(Instr.indexAt 68 (.slice (some ⟨b,off,none⟩) n c) (ν (j:Int))).run Tryz.prog w=.ok (.pointer (some ⟨b,off+j*2,none⟩)) w:=by
  have u3:=υ68
  have u9:=υ127
  have z3:=Tryz.sizeOf127
  have d0:(j:Int)<(n:Int):=ω
  have d1:0≤(j:Int):=ω
  go_simp
theorem Df {o:Oper} {x:Operand} (ho:o.op=.call { callee:=.builtin .len,args:=#[x],argTypes:=#[68] }) {ρ:Operand→Value} {a:Option Addr} {n c:Nat} (hx:ρ x=.slice a n c) (w:World):(execOp ρ o).run Tryz.prog w=.ok (.value (ν (n:Int))) w:=by
  unfold execOp;rw [ho]
  have u3:=υ68
  simp [resolve,invoke,builtin,hx]
  go_simp
theorem DO {o:Oper} {x:Operand} (ho:o.op=.call { callee:=.builtin .len,args:=#[x],argTypes:=#[74] }) {ρ:Operand→Value} {a:Option Addr} {n c:Nat} (hx:ρ x=.slice a n c) (w:World):(execOp ρ o).run Tryz.prog w=.ok (.value (ν (n:Int))) w:=by
  unfold execOp;rw [ho]
  have u3:=υ74
  simp [resolve,invoke,builtin,hx]
  go_simp
theorem BY {o:Oper} {x:Operand} (ho:o.op=.call { callee:=.builtin .len,args:=#[x],argTypes:=#[9] }) {ρ:Operand→Value} {s:List UInt8} (hx:ρ x=Aq s) (w:World):(execOp ρ o).run Tryz.prog w=.ok (.value (ν (s.length:Int))) w:=by
  unfold execOp;rw [ho]
  have u3:=υ9
  have hsz:=Cr s
  simp [resolve,invoke,builtin,hx,Aq]
  go_simp
theorem Un (n:Nat) (h:n<4294967296) (w:World):(convert 135 3 (.int .u32 (n:Int))).run Tryz.prog w=.ok (ν (n:Int)) w:=by
  have u3:=υ3
  have u4:=υ135
  have e1:IntKind.i64.wrap (n:Int)=(n:Int):=IntWalk.i64_in _ ω
  go_simp
theorem Fd {P:Program} {o:Oper} {ty:TypeId} {x:Operand} {w:World} (ho:o.op=.unOp .not ty x) {ρ:Operand→Value} {b:Bool} (hb:ρ x=.bool b):(execOp ρ o).run P w=.ok (.value (.bool (!b))) w:=by
  unfold execOp
  rw [ho]
  simp only [hb]
  go_simp
theorem FD {P:Program} {ops:Array Oper} {Q:Exit→Act→World→Prop} {rest:List Oper} {o:Oper} {a:Act} {w:World} {N:Nat} {l:List (Nat×Value)} (h:Kn N l a) (hw:o.guard=none) (hd:o.dst=none) {T:TypeId} {x y:Operand} (ho:o.op=.store T x y) (g off:Nat) (hx:a.eval x=.pointer (some ⟨g,off,none⟩)) (vs:List Value) (hy:a.eval y=.agg vs.toArray) (hn:(P.info? T).map (·.size)=some vs.length) (h1:∀ v∈vs,v.oneCell'=true) {e:TypeId} {L:List Value} (hb:Blk w g e L) (hL:off+vs.length≤L.length)
    (k:∀ a' w',Kn N l a'→Blk w' g e (splice L off vs)→w.grownBy w' (some g)→wpList P ops Q rest a' w'):wpList P ops Q (o::rest) a w:=by
  refine Js hw T x y ho g off hx vs hy hn h1 hb hL fun w' hb' hg=>?_
  rw [hd]
  exact k a w' h hb' hg
theorem Id (n:Nat) (hn:n≤1000000) (w:World):Calls Tryz.prog 89 #[ν (n:Int)] w fun e w'=>e=.returned (ν (Bz n:Int))∧w=w':=by
  have hu:upF (n:Int) 8=(n:Int)+(Bz n:Int):=by
    unfold upF
    have hr:DB (n:Int) 8=true:=MU.2 ⟨ω,ω,ω,ω⟩
    rw [if_pos hr]
    have:=YZ n
    omega
  have ez:IntKind.i64.wrap ((n:Int)+(Bz n:Int)-(n:Int))=(Bz n:Int):=by rw [show (n:Int)+(Bz n:Int)-(n:Int)=(Bz n:Int) by omega];exact IntWalk.i64_in _ (by unfold Bz;omega)
  have HU:=hid (fun w1=>Ae1 (n:Int) 8 w1)
  rw [hu] at HU
  clear hu
  go_enter Tryz.func89,Tryz.ntmps89
  go_wp2_with fail
  refine (HU.out _).mono ?_
  rintro e w1 ⟨rfl,rfl⟩
  go_wp2_with fail
  go_ret
  exact ⟨rfl,rfl⟩
theorem En (g:Nat) (w:World):(Instr.fieldAt 127 (π g) 0).run Tryz.prog w=.ok (π g) w:=rfl
theorem Eo (g:Nat) (w:World):(Instr.fieldAt 127 (π g) 1).run Tryz.prog w=.ok (.pointer (some ⟨g,1,none⟩)) w:=rfl
theorem Aeo {w W:World} {L:List PtM} {a:Act} (hb:Below w.heap.size w W) (hbad:CY L=false) (hd:a.defers=[]) (h2:a.tmps[2]? = some (.slice none 0 0)) (h3:a.tmps[3]? = some (ν 1)) :
    bodyPost Tryz.prog Tryz.f59 (fun e w'=>∃ ba bc,e=.returned (.tuple #[.slice ba (Ct L).length bc,ν (IK L)])∧Ca w' w.heap.size ba bc (Ct L)∧Below w.heap.size w w') .ret a W:=by
  refine bodyPost_ret (results_tmp2 rfl h2 h3) hd ?_
  have e1:Ct L=[]:=by unfold Ct;rw [if_neg (by rw [hbad];decide)]
  have e2:IK L=1:=by unfold IK;rw [if_neg (by rw [hbad];decide)]
  rw [e1,e2]
  exact ⟨none,0,rfl,Own.nil _ _ _ _,hb⟩
theorem Sr {w:World} {a:Option Addr} {c:Nat} {L:List PtM} (hL:Fl w a c L) (okP:IS L) (hl9:L.length≤9223372036854775807) :
    Calls Tryz.prog 59 #[.slice a L.length c] w fun e w'=>∃ ba bc,e=.returned (.tuple #[.slice ba (Ct L).length bc,ν (IK L)])∧Ca w' w.heap.size ba bc (Ct L)∧Below w.heap.size w w':=by
  have HL:=hid hL
  clear hL
  go_enter Tryz.func59,Tryz.ntmps59
  iterate 3 go_step
  refine AW (N:=53) (l:=[(0,.slice a L.length c)]) ⟨rfl,(by intro x hx;simp only [List.mem_cons,List.not_mem_nil,or_false] at hx;rcases hx with rfl<;>rfl),rfl⟩ fun a2 h1=>?_
  refine mv h1 rfl fun _ h3=>?_
  refine mv h3 rfl fun _ h5=>?_
  iterate 4 go_step
  by_cases hn:64<L.length
  · have hbig:decide ((64:Int)<(L.length:Int))=true:=decide_eq_true ω
    iterate 2 go_step
    refine mv h5 rfl fun _ h7=>?_
    refine wv h7 rfl rfl rfl rfl (ν (L.length:Int)) (Df rfl (h7.ev 7 rfl) _) fun a10 h9=>?_
    refine wv h9 rfl rfl rfl rfl (.bool true) (by unfold execOp;simp only [h9.ev 8 rfl];exact Ac (FI _ _ _ _ _ hbig)) fun a12 h11=>?_
    refine h11.sk [9,3,2,0] rfl fun h13=>?_
    iterate 3 go_step
    refine wp_cond (t:=true) (h13.ev 9 rfl) ?_
    simp only [if_true]
    refine h13.sk [3,2,0] rfl fun h14=>?_
    iterate 2 go_step
    refine h14.sk [3,0] rfl fun h15=>?_
    refine mv h15 rfl fun _ h16=>?_
    refine h16.sk [2,0] rfl fun h18=>?_
    refine mv h18 rfl fun _ h19=>?_
    iterate 4 go_step
    simp only [Exit.then,Exit.inBlock]
    exact Aeo (Below.refl _ _) (by unfold CY;rw [Bool.and_eq_false_iff];left;exact decide_eq_false ω) h19.defs (h19.known (2,.slice none 0 0) (by simp)) (h19.known (3,ν 1) (by simp))
  · have hbig:decide ((64:Int)<(L.length:Int))=false:=decide_eq_false ω
    iterate 2 go_step
    refine mv h5 rfl fun _ h21=>?_
    refine wv h21 rfl rfl rfl rfl (ν (L.length:Int)) (Df rfl (h21.ev 7 rfl) _) fun a24 h23=>?_
    refine wv h23 rfl rfl rfl rfl (.bool false) (by unfold execOp;simp only [h23.ev 8 rfl];exact Ac (FI _ _ _ _ _ hbig)) fun a26 h25=>?_
    refine h25.sk [9,3,2,0] rfl fun h27=>?_
    iterate 3 go_step
    refine wp_cond (t:=false) (h27.ev 9 rfl) ?_
    simp only [Bool.false_eq_true,if_false]
    refine h27.sk [3,2,0] rfl fun h28=>?_
    iterate 5 go_step
    refine mv h28 rfl fun _ h29=>?_
    refine wv h29 rfl rfl rfl rfl (ν (L.length:Int)) (Df rfl (h29.ev 10 rfl) _) fun a32 h31=>?_
    refine AN h31 (wn rfl) rfl (by decide) (fr rfl) (fun args=>cF Tryz.func87 (args:=args) (w:=_)) rfl #[.slice none 0 0,ν (L.length:Int),ν 2] (by simp only [List.map_toArray,List.map_cons,List.map_nil,h31.ev 11 rfl];rfl) (R:=fun v w'=>∃ a2 c2,v=.slice a2 (AC [] L.length 2).length c2∧Ca w' w.heap.size a2 c2 (AC [] L.length 2)∧Below w.heap.size w w') ((Da none 0 [] (L.length:Int) 2 w (Row.nil _ _) (by simp) ω).mono fun e w' q=>by obtain ⟨a2,c2,q1,q2,q3⟩:=q;exact ⟨_,q1,a2,c2,rfl,q2,q3⟩) fun a34 v0 w0 r0 h33=>?_
    obtain ⟨ba0,bc0,rfl,o0,b0⟩:=r0
    have HO0:=hid o0;have HB0:=hid b0;clear o0 b0
    refine mv h33 rfl fun _ h35=>?_
    refine h35.sk [4,3,2,0] rfl fun h37=>?_
    iterate 6 go_step
    refine mv h37 rfl fun _ h38=>?_
    refine wv h38 rfl rfl rfl rfl (ν (L.length:Int)) (Df rfl (h38.ev 13 rfl) _) fun a41 h40=>?_
    refine mv h40 rfl fun _ h42=>?_
    iterate 4 go_step
    refine h42.sk [4,15,14,13,3,2,0] rfl fun h44=>?_
    have hl0:(AC [] (L.length:Int) 2).length≤2+262*0:=by have h9:(AC [] (L.length:Int) 2).length≤([]:List UInt8).length+2:=Ce _ _ 2;simpa using h9
    refine wp_loop (I:=fun a' w'=>∃ (j:Nat) (eb:List UInt8) (ba:Option Addr) (bc:Nat),j≤L.length∧Kn 53 [(4,.slice ba eb.length bc),(15,ν (j:Int)),(14,ν (L.length:Int)),(13,.slice a L.length c),(3,ν 0),(2,.slice none 0 0),(0,.slice a L.length c)] a'∧eb=(L.take j).foldl Fo (AC [] L.length 2)∧(L.take j).all KF=true∧eb.length≤2+262*j∧Ca w' w.heap.size ba bc eb∧Below w.heap.size w w') (μ:=fun a' _=>L.length-(intOf (a'.eval (.tmp 15))).toNat) ⟨0,AC [] (L.length:Int) 2,ba0,bc0,ω,h44,(by rw [List.take_zero,List.foldl_nil]),(by rw [List.take_zero,List.all_nil]),hl0,HO0.out,HB0.out⟩ ?_
    clear HO0 HB0 h44
    rintro aL aw ⟨j,eb,ba,bc,hj,hK,heb,hall,hle,ho,hb⟩
    have HO:=hid ho;have HB:=hid hb;have HEB:=hid heb;have HAL:=hid hall;clear ho hb heb hall
    by_cases hlt:j<L.length
    · have hd0:decide ((j:Int)<(L.length:Int))=true:=decide_eq_true ω
      obtain ⟨pb,poff,ha0,hrg⟩:=MX (HL.out.mono HB.out) ω
      have hrg:=hrg j hlt
      have hsp:=okP L[j] (List.getElem_mem hlt)
      obtain ⟨p,hp⟩:∃ p,p=L[j]:=⟨_,rfl⟩
      rw [← hp] at hrg hsp
      unfold okI at hsp
      have HPJ:=hid hp;clear hp
      cases hfit:By p.at_ 4 with
      | false=>
        iterate 3 go_step
        refine wv hK rfl rfl rfl rfl (.bool true) (by unfold execOp;simp only [hK.ev 15 rfl,hK.ev 14 rfl];exact Ac (IL _ _ _ _ _ hd0)) fun a46 h45=>?_
        iterate 4 go_step
        refine wp_cond (t:=true) (h45.ev 16 rfl) ?_
        simp only [if_true]
        refine h45.sk [15,14,13,4,3,2,0] rfl fun h47=>?_
        iterate 7 go_step
        refine wv h47 rfl rfl rfl rfl (.pointer (some ⟨pb,poff+j*2,none⟩)) (by unfold execOp;simp only [h47.ev 13 rfl,h47.ev 15 rfl];exact Ac (by rw [ha0];exact ixP pb poff _ c j hlt _)) fun a49 h48=>?_
        refine wv h48 rfl rfl rfl rfl (ptV p) (by unfold execOp;simp only [h48.ev 17 rfl];exact Ac (run_loadAt_mid _ _ _ _ (ptC p) _ hrg υ127 rfl (by rw [Er];rfl))) fun a51 h50=>?_
        refine wv h50 rfl rfl rfl rfl (π aw.heap.size) (DN rfl _ aw) fun a53 h52=>?_
        obtain ⟨wp,hwp⟩:∃ x,x=aw.alloc (.cells (ptC ⟨0,[]⟩).toArray 127):=⟨_,rfl⟩
        obtain ⟨gp,hgp⟩:∃ x,x=aw.heap.size:=⟨_,rfl⟩
        have hk0:Blk wp gp 127 (ptC ⟨0,[]⟩):=by rw [hwp,hgp];exact AL rfl _ _
        have HOp:Hid (Ca wp w.heap.size ba bc eb):=hid (by rw [hwp];exact Own.alloc HO.out _)
        have HBp:Hid (Below w.heap.size w wp):=hid (by rw [hwp];exact DF HB.out _)
        have hgw:w.heap.size≤gp:=by rw [hgp];exact HB.out.size
        rw [← hgp] at h52;rw [← hwp];clear hwp hgp
        refine FD h52 rfl rfl rfl gp 0 (h52.ev 6 rfl) (ptC p) (h52.ev 18 rfl) (by rw [Er];rfl) (FP _) hk0 (by show 0+2≤2;omega) fun a55 wq h54 kq gq=>?_
        rw [CE (by rfl)] at kq
        have HP:=hid kq;have HOq:Hid (Ca wq w.heap.size ba bc eb):=hid (GR HOp.out hk0 (by decide) (Turns.of_grown gq rfl));have HBq:Hid (Below w.heap.size w wq):=hid (AH HBp.out gq hgw HBp.out.size)
        clear kq gq hk0 HOp HBp
        refine h54.sk [6,15,14,13,4,3,2,0] rfl fun h56=>?_
        iterate 6 go_step
        refine wv h56 rfl rfl rfl rfl (π gp) (by unfold execOp;simp only [h56.ev 6 rfl];exact Ac (En (gp) _)) fun a58 h57=>?_
        refine wv h57 rfl rfl rfl rfl (ν p.at_) (by unfold execOp;simp only [h57.ev 19 rfl];exact Ac (BN (HP.out.cell (i:=0) (by show 0<2;omega)))) fun a60 h59=>?_
        refine AN h59 (wn rfl) rfl (by decide) (fr rfl) (fun args=>cF Tryz.func88 (args:=args) (w:=_)) rfl #[ν p.at_,ν 4] (by simp only [List.map_toArray,List.map_cons,List.map_nil,h59.ev 20 rfl];rfl) (R:=fun v w'=>v=.bool (By p.at_ 4)∧wq=w') ((Ea p.at_ 4 wq).mono fun e w' q=>⟨_,q.1,rfl,q.2⟩) fun a62 vf wf rf h61=>?_
        obtain ⟨rfl,rfl⟩:=rf
        rw [hfit] at h61
        refine wv h61 rfl rfl rfl rfl (.bool true) (Fd rfl (h61.ev 21 rfl)) fun a64 h63=>?_
        refine mv h63 rfl fun _ h65=>?_
        refine AG h65 (by rw [Ab (g:=4) (want:=false) (b:=true) rfl (h65.yields (prev:=23) rfl (by simp))];rfl) rfl (by decide) (fr rfl) fun a68 h67=>?_
        refine AG h67 (by rw [Ab (g:=4) (want:=false) (b:=true) rfl (h67.yields (prev:=23) rfl (by simp))];rfl) rfl (by decide) (fr rfl) fun a70 h69=>?_
        refine AG h69 (by rw [Ab (g:=4) (want:=false) (b:=true) rfl (h69.yields (prev:=23) rfl (by simp))];rfl) rfl (by decide) (fr rfl) fun a72 h71=>?_
        refine AG h71 (by rw [Ab (g:=4) (want:=false) (b:=true) rfl (h71.yields (prev:=23) rfl (by simp))];rfl) rfl (by decide) (fr rfl) fun a74 h73=>?_
        refine wv h73 rfl rfl rfl rfl (.bool true) (Bf rfl (h73.ev 23 rfl) rfl) fun a76 h75=>?_
        refine h75.sk [28,6,15,14,13,4,3,2,0] rfl fun h77=>?_
        iterate 3 go_step
        refine wp_cond (t:=true) (h77.ev 28 rfl) ?_
        simp only [if_true]
        refine h77.sk [6,15,14,13,4,3,2,0] rfl fun h78=>?_
        iterate 2 go_step
        refine h78.sk [6,15,14,13,4,3,0] rfl fun h79=>?_
        refine mv h79 rfl fun _ h80=>?_
        refine h80.sk [2,6,15,14,13,4,0] rfl fun h82=>?_
        refine mv h82 rfl fun _ h83=>?_
        iterate 4 go_step
        simp only [Exit.then,Exit.inBlock]
        have hbad:CY L=false:=by unfold CY;rw [Bool.and_eq_false_iff];right;rw [List.all_eq_false];exact ⟨L[j],List.getElem_mem hlt,by rw [← HPJ.out];unfold KF;simp [hfit]⟩
        exact Aeo HBq.out hbad h83.defs (h83.known (2,.slice none 0 0) (by simp)) (h83.known (3,ν 1) (by simp))
      | true=>
        by_cases hl2:256<p.d.length
        · have hlong:decide ((256:Int)<(p.d.length:Int))=true:=decide_eq_true ω
          iterate 3 go_step
          refine wv hK rfl rfl rfl rfl (.bool true) (by unfold execOp;simp only [hK.ev 15 rfl,hK.ev 14 rfl];exact Ac (IL _ _ _ _ _ hd0)) fun a86 h85=>?_
          iterate 4 go_step
          refine wp_cond (t:=true) (h85.ev 16 rfl) ?_
          simp only [if_true]
          refine h85.sk [15,14,13,4,3,2,0] rfl fun h87=>?_
          iterate 7 go_step
          refine wv h87 rfl rfl rfl rfl (.pointer (some ⟨pb,poff+j*2,none⟩)) (by unfold execOp;simp only [h87.ev 13 rfl,h87.ev 15 rfl];exact Ac (by rw [ha0];exact ixP pb poff _ c j hlt _)) fun a89 h88=>?_
          refine wv h88 rfl rfl rfl rfl (ptV p) (by unfold execOp;simp only [h88.ev 17 rfl];exact Ac (run_loadAt_mid _ _ _ _ (ptC p) _ hrg υ127 rfl (by rw [Er];rfl))) fun a91 h90=>?_
          refine wv h90 rfl rfl rfl rfl (π aw.heap.size) (DN rfl _ aw) fun a93 h92=>?_
          obtain ⟨wp,hwp⟩:∃ x,x=aw.alloc (.cells (ptC ⟨0,[]⟩).toArray 127):=⟨_,rfl⟩
          obtain ⟨gp,hgp⟩:∃ x,x=aw.heap.size:=⟨_,rfl⟩
          have hk0:Blk wp gp 127 (ptC ⟨0,[]⟩):=by rw [hwp,hgp];exact AL rfl _ _
          have HOp:Hid (Ca wp w.heap.size ba bc eb):=hid (by rw [hwp];exact Own.alloc HO.out _)
          have HBp:Hid (Below w.heap.size w wp):=hid (by rw [hwp];exact DF HB.out _)
          have hgw:w.heap.size≤gp:=by rw [hgp];exact HB.out.size
          rw [← hgp] at h92;rw [← hwp];clear hwp hgp
          refine FD h92 rfl rfl rfl gp 0 (h92.ev 6 rfl) (ptC p) (h92.ev 18 rfl) (by rw [Er];rfl) (FP _) hk0 (by show 0+2≤2;omega) fun a95 wq h94 kq gq=>?_
          rw [CE (by rfl)] at kq
          have HP:=hid kq;have HOq:Hid (Ca wq w.heap.size ba bc eb):=hid (GR HOp.out hk0 (by decide) (Turns.of_grown gq rfl));have HBq:Hid (Below w.heap.size w wq):=hid (AH HBp.out gq hgw HBp.out.size)
          clear kq gq hk0 HOp HBp
          refine h94.sk [6,15,14,13,4,3,2,0] rfl fun h96=>?_
          iterate 6 go_step
          refine wv h96 rfl rfl rfl rfl (π gp) (by unfold execOp;simp only [h96.ev 6 rfl];exact Ac (En (gp) _)) fun a98 h97=>?_
          refine wv h97 rfl rfl rfl rfl (ν p.at_) (by unfold execOp;simp only [h97.ev 19 rfl];exact Ac (BN (HP.out.cell (i:=0) (by show 0<2;omega)))) fun a100 h99=>?_
          refine AN h99 (wn rfl) rfl (by decide) (fr rfl) (fun args=>cF Tryz.func88 (args:=args) (w:=_)) rfl #[ν p.at_,ν 4] (by simp only [List.map_toArray,List.map_cons,List.map_nil,h99.ev 20 rfl];rfl) (R:=fun v w'=>v=.bool (By p.at_ 4)∧wq=w') ((Ea p.at_ 4 wq).mono fun e w' q=>⟨_,q.1,rfl,q.2⟩) fun a102 vf wf rf h101=>?_
          obtain ⟨rfl,rfl⟩:=rf
          rw [hfit] at h101
          refine wv h101 rfl rfl rfl rfl (.bool false) (Fd rfl (h101.ev 21 rfl)) fun a104 h103=>?_
          refine mv h103 rfl fun _ h105=>?_
          refine Ak h105 (by rw [Ab (g:=4) (want:=false) (b:=false) rfl (h105.yields (prev:=23) rfl (by simp))];rfl) rfl (by decide) (fr rfl) (.pointer (some ⟨gp,1,none⟩)) (by unfold execOp;simp only [h105.ev 6 rfl];exact Ac (Eo (gp) _)) fun a108 h107=>?_
          refine Ak h107 (by rw [Ab (g:=4) (want:=false) (b:=false) rfl (h107.yields (prev:=23) rfl (by simp))];rfl) rfl (by decide) (fr rfl) (Aq p.d) (by unfold execOp;simp only [h107.ev 24 rfl];exact Ac (GK (HP.out.cell (i:=1) (by show 1<2;omega)))) fun a110 h109=>?_
          refine Ak h109 (by rw [Ab (g:=4) (want:=false) (b:=false) rfl (h109.yields (prev:=23) rfl (by simp))];rfl) rfl (by decide) (fr rfl) (ν (p.d.length:Int)) (BY rfl (h109.ev 25 rfl) _) fun a112 h111=>?_
          refine Ak h111 (by rw [Ab (g:=4) (want:=false) (b:=false) rfl (h111.yields (prev:=23) rfl (by simp))];rfl) rfl (by decide) (fr rfl) (.bool true) (by unfold execOp;simp only [h111.ev 26 rfl];exact Ac (FI _ _ _ _ _ hlong)) fun a114 h113=>?_
          refine wv h113 rfl rfl rfl rfl (.bool true) (Bf rfl (h113.ev 23 rfl) (by rw [if_neg (by simp)];exact h113.ev 27 rfl)) fun a116 h115=>?_
          refine h115.sk [28,6,15,14,13,4,3,2,0] rfl fun h117=>?_
          iterate 3 go_step
          refine wp_cond (t:=true) (h117.ev 28 rfl) ?_
          simp only [if_true]
          refine h117.sk [6,15,14,13,4,3,2,0] rfl fun h118=>?_
          iterate 2 go_step
          refine h118.sk [6,15,14,13,4,3,0] rfl fun h119=>?_
          refine mv h119 rfl fun _ h120=>?_
          refine h120.sk [2,6,15,14,13,4,0] rfl fun h122=>?_
          refine mv h122 rfl fun _ h123=>?_
          iterate 4 go_step
          simp only [Exit.then,Exit.inBlock]
          have hbad:CY L=false:=by unfold CY;rw [Bool.and_eq_false_iff];right;rw [List.all_eq_false];exact ⟨L[j],List.getElem_mem hlt,by rw [← HPJ.out];unfold KF;simp [hl2]⟩
          exact Aeo HBq.out hbad h123.defs (h123.known (2,.slice none 0 0) (by simp)) (h123.known (3,ν 1) (by simp))
        · have hlong:decide ((256:Int)<(p.d.length:Int))=false:=decide_eq_false ω
          iterate 3 go_step
          refine wv hK rfl rfl rfl rfl (.bool true) (by unfold execOp;simp only [hK.ev 15 rfl,hK.ev 14 rfl];exact Ac (IL _ _ _ _ _ hd0)) fun a126 h125=>?_
          iterate 4 go_step
          refine wp_cond (t:=true) (h125.ev 16 rfl) ?_
          simp only [if_true]
          refine h125.sk [15,14,13,4,3,2,0] rfl fun h127=>?_
          iterate 7 go_step
          refine wv h127 rfl rfl rfl rfl (.pointer (some ⟨pb,poff+j*2,none⟩)) (by unfold execOp;simp only [h127.ev 13 rfl,h127.ev 15 rfl];exact Ac (by rw [ha0];exact ixP pb poff _ c j hlt _)) fun a129 h128=>?_
          refine wv h128 rfl rfl rfl rfl (ptV p) (by unfold execOp;simp only [h128.ev 17 rfl];exact Ac (run_loadAt_mid _ _ _ _ (ptC p) _ hrg υ127 rfl (by rw [Er];rfl))) fun a131 h130=>?_
          refine wv h130 rfl rfl rfl rfl (π aw.heap.size) (DN rfl _ aw) fun a133 h132=>?_
          obtain ⟨wp,hwp⟩:∃ x,x=aw.alloc (.cells (ptC ⟨0,[]⟩).toArray 127):=⟨_,rfl⟩
          obtain ⟨gp,hgp⟩:∃ x,x=aw.heap.size:=⟨_,rfl⟩
          have hk0:Blk wp gp 127 (ptC ⟨0,[]⟩):=by rw [hwp,hgp];exact AL rfl _ _
          have HOp:Hid (Ca wp w.heap.size ba bc eb):=hid (by rw [hwp];exact Own.alloc HO.out _)
          have HBp:Hid (Below w.heap.size w wp):=hid (by rw [hwp];exact DF HB.out _)
          have hgw:w.heap.size≤gp:=by rw [hgp];exact HB.out.size
          rw [← hgp] at h132;rw [← hwp];clear hwp hgp
          refine FD h132 rfl rfl rfl gp 0 (h132.ev 6 rfl) (ptC p) (h132.ev 18 rfl) (by rw [Er];rfl) (FP _) hk0 (by show 0+2≤2;omega) fun a135 wq h134 kq gq=>?_
          rw [CE (by rfl)] at kq
          have HP:=hid kq;have HOq:Hid (Ca wq w.heap.size ba bc eb):=hid (GR HOp.out hk0 (by decide) (Turns.of_grown gq rfl));have HBq:Hid (Below w.heap.size w wq):=hid (AH HBp.out gq hgw HBp.out.size)
          clear kq gq hk0 HOp HBp
          refine h134.sk [6,15,14,13,4,3,2,0] rfl fun h136=>?_
          iterate 6 go_step
          refine wv h136 rfl rfl rfl rfl (π gp) (by unfold execOp;simp only [h136.ev 6 rfl];exact Ac (En (gp) _)) fun a138 h137=>?_
          refine wv h137 rfl rfl rfl rfl (ν p.at_) (by unfold execOp;simp only [h137.ev 19 rfl];exact Ac (BN (HP.out.cell (i:=0) (by show 0<2;omega)))) fun a140 h139=>?_
          refine AN h139 (wn rfl) rfl (by decide) (fr rfl) (fun args=>cF Tryz.func88 (args:=args) (w:=_)) rfl #[ν p.at_,ν 4] (by simp only [List.map_toArray,List.map_cons,List.map_nil,h139.ev 20 rfl];rfl) (R:=fun v w'=>v=.bool (By p.at_ 4)∧wq=w') ((Ea p.at_ 4 wq).mono fun e w' q=>⟨_,q.1,rfl,q.2⟩) fun a142 vf wf rf h141=>?_
          obtain ⟨rfl,rfl⟩:=rf
          rw [hfit] at h141
          refine wv h141 rfl rfl rfl rfl (.bool false) (Fd rfl (h141.ev 21 rfl)) fun a144 h143=>?_
          refine mv h143 rfl fun _ h145=>?_
          refine Ak h145 (by rw [Ab (g:=4) (want:=false) (b:=false) rfl (h145.yields (prev:=23) rfl (by simp))];rfl) rfl (by decide) (fr rfl) (.pointer (some ⟨gp,1,none⟩)) (by unfold execOp;simp only [h145.ev 6 rfl];exact Ac (Eo (gp) _)) fun a148 h147=>?_
          refine Ak h147 (by rw [Ab (g:=4) (want:=false) (b:=false) rfl (h147.yields (prev:=23) rfl (by simp))];rfl) rfl (by decide) (fr rfl) (Aq p.d) (by unfold execOp;simp only [h147.ev 24 rfl];exact Ac (GK (HP.out.cell (i:=1) (by show 1<2;omega)))) fun a150 h149=>?_
          refine Ak h149 (by rw [Ab (g:=4) (want:=false) (b:=false) rfl (h149.yields (prev:=23) rfl (by simp))];rfl) rfl (by decide) (fr rfl) (ν (p.d.length:Int)) (BY rfl (h149.ev 25 rfl) _) fun a152 h151=>?_
          refine Ak h151 (by rw [Ab (g:=4) (want:=false) (b:=false) rfl (h151.yields (prev:=23) rfl (by simp))];rfl) rfl (by decide) (fr rfl) (.bool false) (by unfold execOp;simp only [h151.ev 26 rfl];exact Ac (FI _ _ _ _ _ hlong)) fun a154 h153=>?_
          refine wv h153 rfl rfl rfl rfl (.bool false) (Bf rfl (h153.ev 23 rfl) (by rw [if_neg (by simp)];exact h153.ev 27 rfl)) fun a156 h155=>?_
          refine h155.sk [28,6,15,14,13,4,3,2,0] rfl fun h157=>?_
          iterate 3 go_step
          refine wp_cond (t:=false) (h157.ev 28 rfl) ?_
          simp only [Bool.false_eq_true,if_false]
          refine h157.sk [6,15,14,13,4,3,2,0] rfl fun h158=>?_
          iterate 5 go_step
          refine mv h158 rfl fun _ h159=>?_
          refine wv h159 rfl rfl rfl rfl (π gp) (by unfold execOp;simp only [h159.ev 6 rfl];exact Ac (En (gp) _)) fun a162 h161=>?_
          refine wv h161 rfl rfl rfl rfl (ν p.at_) (by unfold execOp;simp only [h161.ev 30 rfl];exact Ac (BN (HP.out.cell (i:=0) (by show 0<2;omega)))) fun a164 h163=>?_
          refine AN h163 (wn rfl) rfl (by decide) (fr rfl) (fun args=>cF Tryz.func87 (args:=args) (w:=_)) rfl #[.slice ba eb.length bc,ν p.at_,ν 4] (by simp only [List.map_toArray,List.map_cons,List.map_nil,h163.ev 29 rfl,h163.ev 31 rfl];rfl) (R:=fun v w'=>∃ a2 c2,v=.slice a2 (AC eb p.at_ 4).length c2∧Ca w' wq.heap.size a2 c2 (AC eb p.at_ 4)∧Below wq.heap.size wq w') ((Da ba bc eb p.at_ 4 wq HOq.out.row ω ω).mono fun e w' q=>by obtain ⟨a2,c2,q1,q2,q3⟩:=q;exact ⟨_,q1,a2,c2,rfl,q2,q3⟩) fun a166 v1 w1 r1 h165=>?_
          obtain ⟨ba1,bc1,rfl,o1,b1⟩:=r1
          obtain ⟨e1,he1⟩:∃ x,x=AC eb p.at_ 4:=⟨_,rfl⟩
          have le1:e1.length≤eb.length+4:=by rw [he1];exact Ce _ _ 4
          rw [← he1] at o1 h165
          have HO1:=hid (o1.low HBq.out.size);have HB1:=hid (Ae HBq.out b1);have HP1:=hid (HP.out.mono b1);have HE1:=hid he1;clear o1 b1 he1
          refine h165.sk [32,31,30,29,6,15,14,13,3,2,0] rfl fun h167=>?_
          refine mv h167 rfl fun _ h168=>?_
          refine h168.sk [4,6,15,14,13,3,2,0] rfl fun h170=>?_
          iterate 5 go_step
          refine mv h170 rfl fun _ h171=>?_
          refine wv h171 rfl rfl rfl rfl (.pointer (some ⟨gp,1,none⟩)) (by unfold execOp;simp only [h171.ev 6 rfl];exact Ac (Eo (gp) _)) fun a174 h173=>?_
          refine wv h173 rfl rfl rfl rfl (Aq p.d) (by unfold execOp;simp only [h173.ev 34 rfl];exact Ac (GK (HP1.out.cell (i:=1) (by show 1<2;omega)))) fun a176 h175=>?_
          refine wv h175 rfl rfl rfl rfl (ν (p.d.length:Int)) (BY rfl (h175.ev 35 rfl) _) fun a178 h177=>?_
          refine AN h177 (wn rfl) rfl (by decide) (fr rfl) (fun args=>cF Tryz.func87 (args:=args) (w:=_)) rfl #[.slice ba1 e1.length bc1,ν (p.d.length:Int),ν 2] (by simp only [List.map_toArray,List.map_cons,List.map_nil,h177.ev 33 rfl,h177.ev 36 rfl];rfl) (R:=fun v w'=>∃ a2 c2,v=.slice a2 (AC e1 p.d.length 2).length c2∧Ca w' w1.heap.size a2 c2 (AC e1 p.d.length 2)∧Below w1.heap.size w1 w') ((Da ba1 bc1 e1 (p.d.length:Int) 2 w1 HO1.out.row ω ω).mono fun e w' q=>by obtain ⟨a2,c2,q1,q2,q3⟩:=q;exact ⟨_,q1,a2,c2,rfl,q2,q3⟩) fun a180 v2 w2 r2 h179=>?_
          obtain ⟨ba2,bc2,rfl,o2,b2⟩:=r2
          obtain ⟨e2,he2⟩:∃ x,x=AC e1 p.d.length 2:=⟨_,rfl⟩
          have le2:e2.length≤e1.length+2:=by rw [he2];exact Ce _ _ 2
          rw [← he2] at o2 h179
          have HO2:=hid (o2.low HB1.out.size);have HB2:=hid (Ae HB1.out b2);have HP2:=hid (HP1.out.mono b2);have HE2:=hid he2;clear o2 b2 he2
          refine h179.sk [37,36,35,34,33,6,15,14,13,3,2,0] rfl fun h181=>?_
          refine mv h181 rfl fun _ h182=>?_
          refine h182.sk [4,6,15,14,13,3,2,0] rfl fun h184=>?_
          iterate 4 go_step
          refine mv h184 rfl fun _ h185=>?_
          refine wv h185 rfl rfl rfl rfl (.pointer (some ⟨gp,1,none⟩)) (by unfold execOp;simp only [h185.ev 6 rfl];exact Ac (Eo (gp) _)) fun a188 h187=>?_
          refine wv h187 rfl rfl rfl rfl (Aq p.d) (by unfold execOp;simp only [h187.ev 39 rfl];exact Ac (GK (HP2.out.cell (i:=1) (by show 1<2;omega)))) fun a190 h189=>?_
          refine Im rfl (.tmp 38) (.tmp 40) rfl υ74 υ9 κ w.heap.size (h189.ev 38 rfl) (h189.ev 40 rfl) HO2.out (by rw [Cr];omega) HB2.out.size ?_
          intro ba3 bc3 w3 o3 g3 b3
          rw [Cr,Gj] at o3
          rw [Cr]
          refine AW (h189.put (d:=41) (by decide) (fr rfl) (.slice ba3 (e2.length+p.d.length) bc3)) fun a192 h191=>?_
          have HO3:Hid (Ca w3 w.heap.size ba3 bc3 (e2++p.d)):=hid (by unfold Ca;rw [List.length_append,List.map_append];exact o3)
          have HB3:=hid (HB2.out.trans b3);clear o3 g3 b3
          refine h191.sk [41,40,39,38,6,15,14,13,3,2,0] rfl fun h193=>?_
          refine mv h193 rfl fun _ h194=>?_
          refine h194.sk [4,6,15,14,13,3,2,0] rfl fun h196=>?_
          iterate 4 go_step
          refine wv h196 rfl rfl rfl rfl (ν ((j+1:Nat):Int)) (by unfold execOp;simp only [h196.ev 15 rfl];exact Ac (LN _ _ j ω _)) fun a198 h197=>?_
          refine h197.sk [42,4,6,14,13,3,2,0] rfl fun h199=>?_
          refine mv h199 rfl fun _ h200=>?_
          refine h200.sk [15,4,6,14,13,3,2,0] rfl fun h202=>?_
          iterate 2 go_step
          refine ⟨⟨j+1,e2++p.d,ba3,bc3,ω,by rw [List.length_append];exact h202.subs rfl,?_,?_,?_,HO3.out,HB3.out⟩,?_⟩
          · rw [List.take_add_one,List.getElem?_eq_getElem hlt,Option.toList_some,List.foldl_append,← HEB.out,← HPJ.out];show _=Fo eb p;unfold Fo;rw [HE2.out,HE1.out]
          · rw [List.take_add_one,List.getElem?_eq_getElem hlt,Option.toList_some,List.all_append,HAL.out,← HPJ.out];simp [KF,hfit];omega
          · rw [List.length_append];omega
          · rw [h202.ev 15 rfl,hK.ev 15 rfl];simp [intOf];omega
    · have hd0:decide ((j:Int)<(L.length:Int))=false:=decide_eq_false ω
      obtain rfl:j=L.length:=ω
      iterate 3 go_step
      refine wv hK rfl rfl rfl rfl (.bool false) (by unfold execOp;simp only [hK.ev 15 rfl,hK.ev 14 rfl];exact Ac (IL _ _ _ _ _ hd0)) fun a204 h203=>?_
      iterate 4 go_step
      refine wp_cond (t:=false) (h203.ev 16 rfl) ?_
      simp only [Bool.false_eq_true,if_false]
      refine h203.sk [15,14,13,4,3,2,0] rfl fun h205=>?_
      iterate 7 go_step
      refine mv h205 rfl fun _ h206=>?_
      refine mv h206 rfl fun _ h208=>?_
      refine AN h208 (wn rfl) rfl (by decide) (fr rfl) (fun args=>cF Tryz.func70 (args:=args) (w:=_)) rfl #[.slice ba eb.length bc] (by simp only [List.map_toArray,List.map_cons,List.map_nil,h208.ev 44 rfl]) (R:=fun v w'=>v=.int .u32 (CO eb:Int)∧Below aw.heap.size aw w') ((Ke ba bc eb aw HO.out.row).mono fun e w' q=>⟨_,q.1,rfl,q.2⟩) fun a211 v4 w4 r4 h210=>?_
      obtain ⟨rfl,b4⟩:=r4
      have HO4:=hid (Own.mono HO.out b4);have HB4:=hid (Ae HB.out b4);clear b4
      refine wv h210 rfl rfl rfl rfl (ν (CO eb:Int)) (by unfold execOp;simp only [h210.ev 45 rfl];exact Ac (Un _ (EA eb) _)) fun a213 h212=>?_
      refine AN h212 (wn rfl) rfl (by decide) (fr rfl) (fun args=>cF Tryz.func87 (args:=args) (w:=_)) rfl #[.slice ba eb.length bc,ν (CO eb:Int),ν 4] (by simp only [List.map_toArray,List.map_cons,List.map_nil,h212.ev 43 rfl,h212.ev 46 rfl];rfl) (R:=fun v w'=>∃ a2 c2,v=.slice a2 (AC eb (CO eb:Int) 4).length c2∧Ca w' w4.heap.size a2 c2 (AC eb (CO eb:Int) 4)∧Below w4.heap.size w4 w') ((Da ba bc eb (CO eb:Int) 4 w4 HO4.out.row ω (by have:=EA eb;omega)).mono fun e w' q=>by obtain ⟨a2,c2,q1,q2,q3⟩:=q;exact ⟨_,q1,a2,c2,rfl,q2,q3⟩) fun a215 v5 w5 r5 h214=>?_
      obtain ⟨ba5,bc5,rfl,o5,b5⟩:=r5
      obtain ⟨e5,he5⟩:∃ x,x=AC eb (CO eb:Int) 4:=⟨_,rfl⟩
      have le5:e5.length≤eb.length+4:=by rw [he5];exact Ce _ _ 4
      rw [← he5] at o5 h214
      have HO5:=hid (o5.low HB4.out.size);have HB5:=hid (Ae HB4.out b5);have HE5:=hid he5;clear o5 b5 he5
      refine h214.sk [47,46,45,44,43,15,14,13,3,2,0] rfl fun h216=>?_
      refine mv h216 rfl fun _ h217=>?_
      refine h217.sk [4,15,14,13,3,2,0] rfl fun h219=>?_
      iterate 5 go_step
      refine mv h219 rfl fun _ h220=>?_
      refine mv h220 rfl fun _ h222=>?_
      refine wv h222 rfl rfl rfl rfl (ν (e5.length:Int)) (DO rfl (h222.ev 49 rfl) _) fun a225 h224=>?_
      refine AN h224 (wn rfl) rfl (by decide) (fr rfl) (fun args=>cF Tryz.func89 (args:=args) (w:=_)) rfl #[ν (e5.length:Int)] (by simp only [List.map_toArray,List.map_cons,List.map_nil,h224.ev 50 rfl]) (R:=fun v w'=>v=ν (Bz e5.length:Int)∧w5=w') ((Id e5.length ω w5).mono fun e w' q=>⟨_,q.1,rfl,q.2⟩) fun a227 v6 w6 r6 h226=>?_
      obtain ⟨rfl,rfl⟩:=r6
      refine CN (bytes:=1) (z:=.int .u8 0) rfl (.tmp 48) (.tmp 51) rfl υ74 υ3 κ rfl rfl w.heap.size (h226.ev 48 rfl) (h226.ev 51 rfl) rfl HO5.out (by unfold Bz;omega) (by unfold Bz;omega) HB5.out.size ?_
      intro ba7 bc7 w7 o7 g7 b7
      refine AW (h226.put (d:=52) (by decide) (fr rfl) (.slice ba7 (e5.length+Bz e5.length) bc7)) fun a229 h228=>?_
      have HB7:=hid (HB5.out.trans b7);have HO7:=hid o7;clear o7 g7 b7
      refine h228.sk [52,51,50,49,48,4,15,14,13,3,0] rfl fun h230=>?_
      refine mv h230 rfl fun _ h231=>?_
      refine h231.sk [2,52,51,50,49,48,4,15,14,13,0] rfl fun h233=>?_
      refine mv h233 rfl fun _ h234=>?_
      refine h234.sk [3,2,4,15,14,13,0] rfl fun h236=>?_
      iterate 4 go_step
      refine bodyPost_ret (results_tmp2 rfl (h236.known (2,.slice ba7 (e5.length+Bz e5.length) bc7) (by simp)) (h236.known (3,ν 0) (by simp))) h236.defs ?_
      rw [List.take_length] at HEB HAL
      have hok:CY L=true:=by unfold CY;rw [HAL.out,decide_eq_true ω];rfl
      have e1:Ct L=e5++List.replicate (Bz e5.length) 0:=by unfold Ct;rw [if_pos hok];unfold Rn Ln DD;rw [← HEB.out,← HE5.out]
      have e2:IK L=0:=by unfold IK;rw [if_pos hok]
      rw [e1,e2]
      refine ⟨ba7,bc7,by rw [List.length_append,List.length_replicate],?_,HB7.out⟩
      unfold Ca;rw [List.length_append,List.length_replicate,List.map_append,List.map_replicate];exact HO7.out
end
section
theorem UU {w:World} {a:Option Addr} {c:Nat} {xs:List UInt8} (r:Bp w a c xs) (lo hi:Nat) (h1:lo≤hi) (h2:hi≤xs.length) :
    ∃ dp,sliced a lo hi c 1=.slice dp (hi-lo) (c-lo)∧Bp w dp (c-lo) ((xs.drop lo).take (hi-lo)):=by
  have hc:=r.2.1
  have hm:=r.2.2.1
  have hl:((xs.drop lo).take (hi-lo)).length=hi-lo:=by simp;omega
  cases a with
  | none=>
    have h0:c=0:=r.2.2.2.1 rfl
    subst h0
    have:lo=0:=ω
    subst this
    have:hi=0:=ω
    subst this
    refine ⟨none,?_,?_⟩
    · unfold sliced;simp
    · exact ⟨by simp,by simp,ω,fun _=>rfl,fun q=>absurd q (by simp)⟩
  | some ad=>
    by_cases hcl:c=lo
    · subst hcl
      have:hi=c:=ω
      subst this
      refine ⟨some ad,?_,?_⟩
      · unfold sliced;simp
      · exact ⟨by simp,by simp,ω,(fun q=>by cases q),fun q=>absurd q (by rw [hl];omega)⟩
    · by_cases hn:0<xs.length
      · obtain ⟨b,off,e,_⟩:=r.bytes hn
        cases e
        refine ⟨some ⟨b,off+lo,none⟩,?_,?_⟩
        · unfold sliced;rw [if_neg ω];simp [Addr.add_mid]
        · have:=MW r lo (hi-lo) ω
          exact this
      · have:lo=0:=ω
        subst this
        have:hi=0:=ω
        subst this
        refine ⟨some ad,?_,?_⟩
        · unfold sliced
          rw [if_neg ω]
          simp [Addr.add]
        · exact ⟨by simp,by simp,ω,(fun q=>by cases q),fun q=>absurd q (by simp)⟩
theorem szB (w:World):(sizeOf 5).run Tryz.prog w=.ok 1 w:=κ
theorem elB:Tryz.prog.elem 74=5:=κ
theorem unB:Tryz.prog.underlying 74=some (.slice (Tryz.prog.elem 74)):=by rw [elB];exact υ74
theorem Aca {w:World} {a:Option Addr} {c:Nat} {xs:List UInt8} (r:Bp w a c xs) (lo hi:Nat) (h1:lo≤hi) (h2:hi≤xs.length) :
    ∃ dp,(∀ W,(Instr.sliceAt 74 (.slice a xs.length c) (some (ν (lo:Int))) (some (ν (hi:Int))) none).run Tryz.prog W=.ok (.slice dp (hi-lo) (c-lo)) W)∧Bp w dp (c-lo) ((xs.drop lo).take (hi-lo)):=by
  obtain ⟨dp,e,rr⟩:=UU r lo hi h1 h2
  have hc:=r.2.1
  refine ⟨dp,fun W=>?_,rr⟩
  rw [run_sliceAt_slice W _ _ _ _ _ unB,run_slice_lh W _ _ _ _ unB _ _ _ _ ω ω ω,elB,szB]
  show Result.ok (sliced _ _ _ _ _) W=_
  rw [Int.toNat_natCast,Int.toNat_natCast,e]
theorem Aez {w:World} {a:Option Addr} {c:Nat} {xs:List UInt8} (r:Bp w a c xs) (lo:Nat) (h1:lo≤xs.length) :
    ∃ dp,(∀ W,(Instr.sliceAt 74 (.slice a xs.length c) (some (ν (lo:Int))) none none).run Tryz.prog W=.ok (.slice dp (xs.length-lo) (c-lo)) W)∧Bp w dp (c-lo) (xs.drop lo):=by
  obtain ⟨dp,e,rr⟩:=UU r lo xs.length h1 (Nat.le_refl _)
  refine ⟨dp,fun W=>?_,by rw [List.take_of_length_le (by rw [List.length_drop];omega)] at rr;exact rr⟩
  rw [run_sliceAt_slice W _ _ _ _ _ unB,run_slice_l W _ _ _ _ unB _ _ ω ω,elB,szB]
  show Result.ok (sliced _ _ _ _ _) W=_
  rw [Int.toNat_natCast,e]
theorem Aey {w:World} {a:Option Addr} {c:Nat} {xs:List UInt8} (r:Bp w a c xs) (hi:Nat) (h2:hi≤xs.length) :
    (∀ W,(Instr.sliceAt 74 (.slice a xs.length c) none (some (ν (hi:Int))) none).run Tryz.prog W=.ok (.slice a hi c) W)∧Bp w a c (xs.take hi):=by
  have hc:=r.2.1
  refine ⟨fun W=>?_,IC r hi⟩
  rw [run_sliceAt_slice W _ _ _ _ _ unB,run_slice_h W _ _ _ _ unB _ _ ω ω,elB,szB]
  show Result.ok (sliced _ _ _ _ _) W=_
  rw [Int.toNat_natCast]
  unfold sliced
  simp only [Nat.sub_zero,Nat.zero_mul]
  split
  · rfl
  · cases a with
    | none=>rfl
    | some p=>simp [Addr.add]
structure DS where
  at_:Nat
  no:Bool
def Bu (xs:List UInt8) (s:DS) (n:Nat):List UInt8×DS:=if s.no=true∨xs.length<s.at_+n then ([],⟨s.at_,true⟩) else ((xs.drop s.at_).take n,⟨s.at_+n,false⟩)
def Br (xs:List UInt8) (s:DS) (k:Nat):Nat×DS:=((AX (Bu xs s k).1 0 k).getD 0,(Bu xs s k).2)
structure DIn (w:World) (Bb Ba Bs:Nat) (a:Option Addr) (c:Nat) (xs:List UInt8) (s:DS):Prop where
  b:Blk w Bb 74 [.slice a xs.length c]
  p:Blk w Ba 3 [ν (s.at_:Int)]
  f:Blk w Bs 4 [.bool s.no]
  at_:s.at_≤xs.length
theorem DIn.nbs {w:World} {Bb Ba Bs:Nat} {a:Option Addr} {c:Nat} {xs:List UInt8} {s:DS} (h:DIn w Bb Ba Bs a c xs s):Bb≠Bs:=Dr h.b h.f (by decide)
theorem DIn.nba {w:World} {Bb Ba Bs:Nat} {a:Option Addr} {c:Nat} {xs:List UInt8} {s:DS} (h:DIn w Bb Ba Bs a c xs s):Bb≠Ba:=Dr h.b h.p (by decide)
theorem DIn.nas {w:World} {Bb Ba Bs:Nat} {a:Option Addr} {c:Nat} {xs:List UInt8} {s:DS} (h:DIn w Bb Ba Bs a c xs s):Ba≠Bs:=Dr h.p h.f (by decide)
theorem GW (w:World) (g i:Nat) (v:Value):Turns (fun k=>k=g) w (w.setCell ⟨g,i,none⟩ v):=(Turns.refl (fun k=>k=g) w).setCell (p:=⟨g,i,none⟩) rfl v
theorem DIn.setS {w:World} {Bb Ba Bs:Nat} {a:Option Addr} {c:Nat} {xs:List UInt8} {s:DS} (h:DIn w Bb Ba Bs a c xs s) (b:Bool):DIn (w.setCell ⟨Bs,0,none⟩ (.bool b)) Bb Ba Bs a c xs ⟨s.at_,b⟩:=
  ⟨(GW w Bs 0 _).blk h.b h.nbs,(GW w Bs 0 _).blk h.p h.nas,Blk.set h.f 0 _,h.at_⟩
theorem DIn.setA {w:World} {Bb Ba Bs:Nat} {a:Option Addr} {c:Nat} {xs:List UInt8} {s:DS} (h:DIn w Bb Ba Bs a c xs s) (n:Nat) (hn:n≤xs.length):DIn (w.setCell ⟨Ba,0,none⟩ (ν (n:Int))) Bb Ba Bs a c xs ⟨n,s.no⟩:=
  ⟨(GW w Ba 0 _).blk h.b h.nba,Blk.set h.p 0 _,(GW w Ba 0 _).blk h.f (fun q=>h.nas q.symm),hn⟩
theorem DIn.mono {w w':World} {Bb Ba Bs:Nat} {a:Option Addr} {c:Nat} {xs:List UInt8} {s:DS} (h:DIn w Bb Ba Bs a c xs s) (b:Below w.heap.size w w'):DIn w' Bb Ba Bs a c xs s:=⟨h.b.mono b,h.p.mono b,h.f.mono b,h.at_⟩
theorem Es {w:World} {g off:Nat} {b:Bool} (h:w.cell? ⟨g,off,none⟩=some (.bool b)):(Instr.loadAt 4 (.pointer (some ⟨g,off,none⟩))).run Tryz.prog w=.ok (.bool b) w:=by
  have u3:=υ4
  have a3:=Tryz.isAgg4
  have z3:=Tryz.sizeOf4
  go_simp
theorem Pp {w:World} {g off:Nat} {a:Option Addr} {n c:Nat} (h:w.cell? ⟨g,off,none⟩=some (.slice a n c)):(Instr.loadAt 74 (.pointer (some ⟨g,off,none⟩))).run Tryz.prog w=.ok (.slice a n c) w:=by
  have u3:=υ74
  have a3:=Tryz.isAgg74
  have z3:=Tryz.sizeOf74
  go_simp
theorem LK {w:World} {g off:Nat} {u:Value} (h:w.cell? ⟨g,off,none⟩=some u) (hz:w.frozen? ⟨g,off,none⟩=false) (b:Bool):(Instr.storeAt 4 (.pointer (some ⟨g,off,none⟩)) (.bool b)).run Tryz.prog w=.ok () (w.setCell ⟨g,off,none⟩ (.bool b)):=by
  have u3:=υ4
  have a3:=Tryz.isAgg4
  have z3:=Tryz.sizeOf4
  go_simp
theorem UW {w:World} {g off:Nat} {u:Value} (h:w.cell? ⟨g,off,none⟩=some u) (hz:w.frozen? ⟨g,off,none⟩=false) (n:Int):(Instr.storeAt 3 (.pointer (some ⟨g,off,none⟩)) (ν n)).run Tryz.prog w=.ok () (w.setCell ⟨g,off,none⟩ (ν n)):=by
  have u3:=υ3
  have a3:=Tryz.isAgg3
  have z3:=Tryz.sizeOf3
  go_simp
theorem Gf {P:Program} {s:Sem Unit} {w w':World} (h:s.run P w=.ok () w'):(do s;pure Next.skip:Sem Next).run P w=.ok .skip w':=by
  rw [Sem.run_bind,h];rfl
theorem DG {P:Program} {ops:Array Oper} {Q:Exit→Act→World→Prop} {rest:List Oper} {o:Oper} {a:Act} {w w':World} {N:Nat} {l:List (Nat×Value)} (h:Kn N l a) (hw:Region.wanted o (yielded ops a.tmps)=true) (hd:o.dst=none)
    (hr:(execOp a.eval o).run P w=.ok .skip w') (k:∀ a',Kn N l a'→wpList P ops Q rest a' w'):wpList P ops Q (o::rest) a w:=by
  refine wpList_step fun K hK=>?_
  rw [if_pos hw]
  unfold Oper.wp
  rw [hr,Oper.upon_skip,hd]
  exact hK _ _ (k _ h)
theorem EX (x y:Operand) (i j k:Int) (hk:i-j=k) (h1:-9223372036854775808≤k) (h2:k≤9223372036854775807) (w:World):(do eqGuard .sub 3 x y (ν i) (ν j);binOp .sub 3 (ν i) (ν j):Sem Value).run Tryz.prog w=.ok (ν k) w:=by
  have u3:=υ3
  have a3:=Tryz.isAgg3
  have z3:=Tryz.sizeOf3
  subst hk
  have e1:IntKind.i64.wrap (i-j)=i-j:=IntWalk.i64_in _ ω
  go_simp
theorem NM (x y:Operand) (i j k:Int) (hk:i+j=k) (h1:-9223372036854775808≤k) (h2:k≤9223372036854775807) (w:World):(do eqGuard .add 3 x y (ν i) (ν j);binOp .add 3 (ν i) (ν j):Sem Value).run Tryz.prog w=.ok (ν k) w:=by
  have u3:=υ3
  have a3:=Tryz.isAgg3
  have z3:=Tryz.sizeOf3
  subst hk
  have e1:IntKind.i64.wrap (i+j)=i+j:=IntWalk.i64_in _ ω
  go_simp
theorem Lv (s:ByteArray) (cap:Nat):bytesRow s cap=((s.data.toList.map Af)++List.replicate (cap-s.size) (Value.int .u8 0)).toArray:=by
  apply Array.ext'
  simp [bytesRow,Af]
theorem MZ (w:World) (s:ByteArray) (hs:s.size≤1000000) :
    Bp (w.alloc (.cells (bytesRow s (grownCap w s.size 0 5)) 5 ((bytesRow s (grownCap w s.size 0 5)).size,(bytesRow s (grownCap w s.size 0 5)).size+1))).drew (some ⟨w.heap.size,0,none⟩) (grownCap w s.size 0 5) s.data.toList:=by
  have hlen:s.data.toList.length=s.size:=by simp
  have hge:=grownCap_ge w s.size 0 5
  have hcm:grownCap w s.size 0 5≤maxLen:=grownCap_le_maxLen w s.size 0 5 (by unfold maxLen;omega)
  refine Row.drew (w:=w.alloc _) ⟨by simp,ω,hcm,(fun h=>by cases h),fun _=>⟨w.heap.size,0,rfl,by simp,fun j u hu=>?_⟩⟩
  have hh:=heap_alloc_new w (.cells (bytesRow s (grownCap w s.size 0 5)) 5 ((bytesRow s (grownCap w s.size 0 5)).size,(bytesRow s (grownCap w s.size 0 5)).size+1))
  unfold World.cell?
  rw [show (⟨w.heap.size,0+j,none⟩:Addr).block=w.heap.size from rfl,hh]
  have hj:=(List.getElem?_eq_some_iff.1 hu).1
  simp only [Nat.zero_add,Option.isSome_none,Bool.false_eq_true,if_false]
  rw [Lv]
  rw [List.getElem?_toArray,List.getElem?_append_left hj]
  exact hu
theorem GD (W:World) (l:List UInt8) (hl:l.length≤1000000):∃ c W',(convert 9 74 (Aq l)).run Tryz.prog W=.ok (.slice (some ⟨W.heap.size,0,none⟩) l.length c) W'∧Bp W' (some ⟨W.heap.size,0,none⟩) c l∧Below W.heap.size W W':=by
  have h1:=run_bytes_of_string (P:=Tryz.prog) W 9 74 5 (bsB l) υ9 υ74 υ5
  have h2:=MZ W (bsB l) (by rw [Cr];exact hl)
  rw [Gj] at h2
  rw [Cr] at h1
  exact ⟨_,_,h1,h2,((Below.refl _ W).alloc (Nat.le_refl _) _).drew⟩
theorem Fk {P:Program} {ops:Array Oper} {Q:Exit→Act→World→Prop} {rest:List Oper} {o:Oper} {a:Act} {w:World} {N:Nat} {l:List (Nat×Value)} (h:Kn N l a) (hw:Region.wanted o (yielded ops a.tmps)=true) {d:Nat} (hd:o.dst=some d) (hdN:d<N) (hf:∀ x∈l,x.1≠d)
    {fn:FuncId} (hcf:∀ args,(callFunc fn args).run P w=.ok (.enter fn args) w) {y:Operand} {xs:Array Operand} {ts:Array TypeId} (p:o.op=.call { callee:=.value y,args:=xs,argTypes:=ts }) (vs caps:Array Value) (hy:a.eval y=.func (.func fn) #[] caps) (hx:xs.map a.eval=vs)
    {R:Value→World→Prop} (HC:Calls P fn (vs++caps) w fun e w'=>∃ v,e=.returned v∧R v w') (k:∀ a' v w',R v w'→Kn N ((d,v)::l) a'→wpList P ops Q rest a' w'):wpList P ops Q (o::rest) a w:=by
  refine wpList_step fun K hK=>?_
  rw [if_pos hw]
  have hrun:(execOp a.eval o).run P w=.ok (.enter fn (vs++caps)) w:=by
    unfold execOp;rw [p]
    simp [resolve,invoke,Deferred.ofValue,hx,hy,hcf]
  unfold Oper.wp
  rw [hrun,Oper.upon_enter]
  refine HC.mono ?_
  rintro e w' ⟨v,rfl,hv⟩
  simp only
  refine hK _ _ ?_
  rw [hd]
  exact k _ v w' hv (h.put hdN hf v)
theorem Pn {w:World} {g off:Nat} {f:Fn} {x y:Array Value} (h:w.cell? ⟨g,off,none⟩=some (.func f x y)):(Instr.loadAt 193 (.pointer (some ⟨g,off,none⟩))).run Tryz.prog w=.ok (.func f x y) w:=by
  have u3:=υ193
  have a3:=Tryz.isAgg193
  have z3:=Tryz.sizeOf193
  go_simp
end
section
theorem OE {w:World} {Bb Ba Bs:Nat} {a:Option Addr} {c:Nat} {xs:List UInt8} {s:DS} (h0:DIn w Bb Ba Bs a c xs s) (hR:∀ W,Turns (fun k=>k=Ba∨k=Bs) w W→Bp W a c xs) (hl:xs.length≤1000000) (n:Nat) (hn:n≤1000000) :
    Calls Tryz.prog 124 #[ν (n:Int),π Bs,π Bb,π Ba] w fun e w'=>∃ v,e=.returned v∧v=Aq (Bu xs s n).1∧DIn w' Bb Ba Bs a c xs (Bu xs s n).2∧Turns (fun k=>k=Ba∨k=Bs) w w':=by
  have hat:=h0.at_
  have H0:=hid h0
  have HR:=hid hR
  clear h0 hR
  go_enter Tryz.func124,Tryz.ntmps124
  iterate 3 go_step
  refine AW (N:=26) (l:=[(0,ν (n:Int)),(1,π Bs),(2,π Bb),(3,π Ba)]) ⟨rfl,(by intro x hx;simp only [List.mem_cons,List.not_mem_nil,or_false] at hx;rcases hx with rfl | rfl | rfl | rfl<;>rfl),rfl⟩ fun a2 h1=>?_
  refine wv h1 rfl rfl rfl rfl (Aq []) (by unfold execOp;rfl) fun a4 h3=>?_
  iterate 3 go_step
  cases hno:s.no with
  | true=>
    have hbad:Bu xs s n=([],⟨s.at_,true⟩):=by unfold Bu;rw [if_pos (Or.inl hno)]
    iterate 3 go_step
    refine wv h3 rfl rfl rfl rfl (.bool true) (by unfold execOp;simp only [h3.ev 1 rfl];exact Ac (Es (by have z:=H0.out.f.cell (i:=0) (by simp);rw [hno] at z;exact z))) fun a6 h5=>?_
    refine mv h5 rfl fun _ h7=>?_
    refine AG h7 (by rw [Ab (g:=1) (want:=false) (b:=true) rfl (h7.yields (prev:=7) rfl (by simp))];rfl) rfl (by decide) (fr rfl) fun a10 h9=>?_
    refine AG h9 (by rw [Ab (g:=1) (want:=false) (b:=true) rfl (h9.yields (prev:=7) rfl (by simp))];rfl) rfl (by decide) (fr rfl) fun a12 h11=>?_
    refine AG h11 (by rw [Ab (g:=1) (want:=false) (b:=true) rfl (h11.yields (prev:=7) rfl (by simp))];rfl) rfl (by decide) (fr rfl) fun a14 h13=>?_
    refine AG h13 (by rw [Ab (g:=1) (want:=false) (b:=true) rfl (h13.yields (prev:=7) rfl (by simp))];rfl) rfl (by decide) (fr rfl) fun a16 h15=>?_
    refine AG h15 (by rw [Ab (g:=1) (want:=false) (b:=true) rfl (h15.yields (prev:=7) rfl (by simp))];rfl) rfl (by decide) (fr rfl) fun a18 h17=>?_
    refine AG h17 (by rw [Ab (g:=1) (want:=false) (b:=true) rfl (h17.yields (prev:=7) rfl (by simp))];rfl) rfl (by decide) (fr rfl) fun a20 h19=>?_
    refine wv h19 rfl rfl rfl rfl (.bool true) (Bf rfl (h19.ev 7 rfl) rfl) fun a22 h21=>?_
    obtain ⟨w1,hw1⟩:∃ x,x=w.setCell ⟨Bs,0,none⟩ (.bool true):=⟨_,rfl⟩
    have H1:Hid (DIn w1 Bb Ba Bs a c xs ⟨s.at_,true⟩):=hid (by rw [hw1];exact H0.out.setS _)
    have T1:Hid (Turns (fun k=>k=Ba∨k=Bs) w w1):=hid (by rw [hw1];exact (GW w Bs 0 _).mono (fun _ q=>.inr q))
    refine DG h21 (wn rfl) rfl (w':=w1) (by rw [hw1];unfold execOp;simp only [h21.ev 1 rfl,h21.ev 14 rfl];exact Gf (LK (H0.out.f.cell (i:=0) (by simp)) (H0.out.f.frozen 0) _)) fun a24 h23=>?_
    refine h23.sk [5,0,1,2,3] rfl fun h25=>?_
    iterate 5 go_step
    refine wv h25 rfl rfl rfl rfl (.bool true) (by unfold execOp;simp only [h25.ev 1 rfl];exact Ac (Es (by have z:=H1.out.f.cell (i:=0) (by simp);rw [show (⟨s.at_,true⟩:DS).no=true from rfl] at z;exact z))) fun a27 h26=>?_
    iterate 3 go_step
    refine wp_cond (t:=true) (h26.ev 15 rfl) ?_
    simp only [if_true]
    refine h26.sk [5,0,1,2,3] rfl fun h28=>?_
    iterate 2 go_step
    refine h28.sk [0,1,2,3] rfl fun h29=>?_
    refine wv h29 rfl rfl rfl rfl (Aq []) (by unfold execOp;rfl) fun a31 h30=>?_
    iterate 4 go_step
    simp only [Exit.then,Exit.inBlock]
    show bodyPost _ _ _ Exit.ret _ _
    refine bodyPost_ret (AK rfl (h30.known (5,Aq []) (by simp))) h30.defs ?_
    refine ⟨_,rfl,?_,?_,T1.out⟩
    · rw [hbad]
    · rw [hbad];exact H1.out
  | false=>
    by_cases hlt:xs.length<s.at_+n
    · have hgt:decide (((xs.length-s.at_:Nat):Int)<(n:Int))=true:=decide_eq_true ω
      have hbad:Bu xs s n=([],⟨s.at_,true⟩):=by unfold Bu;rw [if_pos (Or.inr hlt)]
      iterate 3 go_step
      refine wv h3 rfl rfl rfl rfl (.bool false) (by unfold execOp;simp only [h3.ev 1 rfl];exact Ac (Es (by have z:=H0.out.f.cell (i:=0) (by simp);rw [hno] at z;exact z))) fun a33 h32=>?_
      refine mv h32 rfl fun _ h34=>?_
      refine Ak h34 (by rw [Ab (g:=1) (want:=false) (b:=false) rfl (h34.yields (prev:=7) rfl (by simp))];rfl) rfl (by decide) (fr rfl) (ν (n:Int)) (by unfold execOp;simp only [h34.ev 0 rfl];rfl) fun a37 h36=>?_
      refine Ak h36 (by rw [Ab (g:=1) (want:=false) (b:=false) rfl (h36.yields (prev:=7) rfl (by simp))];rfl) rfl (by decide) (fr rfl) (.slice a xs.length c) (by unfold execOp;simp only [h36.ev 2 rfl];exact Ac (Pp (H0.out.b.cell (i:=0) (by simp)))) fun a39 h38=>?_
      refine Ak h38 (by rw [Ab (g:=1) (want:=false) (b:=false) rfl (h38.yields (prev:=7) rfl (by simp))];rfl) rfl (by decide) (fr rfl) (ν (xs.length:Int)) (DO rfl (h38.ev 9 rfl) _) fun a41 h40=>?_
      refine Ak h40 (by rw [Ab (g:=1) (want:=false) (b:=false) rfl (h40.yields (prev:=7) rfl (by simp))];rfl) rfl (by decide) (fr rfl) (ν (s.at_:Int)) (by unfold execOp;simp only [h40.ev 3 rfl];exact Ac (BN (H0.out.p.cell (i:=0) (by simp)))) fun a43 h42=>?_
      refine Ak h42 (by rw [Ab (g:=1) (want:=false) (b:=false) rfl (h42.yields (prev:=7) rfl (by simp))];rfl) rfl (by decide) (fr rfl) (ν ((xs.length-s.at_:Nat):Int)) (by unfold execOp;simp only [h42.ev 10 rfl,h42.ev 11 rfl];exact Ac (EX _ _ _ _ _ ω ω ω _)) fun a45 h44=>?_
      refine Ak h44 (by rw [Ab (g:=1) (want:=false) (b:=false) rfl (h44.yields (prev:=7) rfl (by simp))];rfl) rfl (by decide) (fr rfl) (.bool true) (by unfold execOp;simp only [h44.ev 8 rfl,h44.ev 12 rfl];exact Ac (FI _ _ _ _ _ hgt)) fun a47 h46=>?_
      refine wv h46 rfl rfl rfl rfl (.bool true) (Bf rfl (h46.ev 7 rfl) (by rw [if_neg (by simp)];exact h46.ev 13 rfl)) fun a49 h48=>?_
      obtain ⟨w1,hw1⟩:∃ x,x=w.setCell ⟨Bs,0,none⟩ (.bool true):=⟨_,rfl⟩
      have H1:Hid (DIn w1 Bb Ba Bs a c xs ⟨s.at_,true⟩):=hid (by rw [hw1];exact H0.out.setS _)
      have T1:Hid (Turns (fun k=>k=Ba∨k=Bs) w w1):=hid (by rw [hw1];exact (GW w Bs 0 _).mono (fun _ q=>.inr q))
      refine DG h48 (wn rfl) rfl (w':=w1) (by rw [hw1];unfold execOp;simp only [h48.ev 1 rfl,h48.ev 14 rfl];exact Gf (LK (H0.out.f.cell (i:=0) (by simp)) (H0.out.f.frozen 0) _)) fun a51 h50=>?_
      refine h50.sk [5,0,1,2,3] rfl fun h52=>?_
      iterate 5 go_step
      refine wv h52 rfl rfl rfl rfl (.bool true) (by unfold execOp;simp only [h52.ev 1 rfl];exact Ac (Es (by have z:=H1.out.f.cell (i:=0) (by simp);rw [show (⟨s.at_,true⟩:DS).no=true from rfl] at z;exact z))) fun a54 h53=>?_
      iterate 3 go_step
      refine wp_cond (t:=true) (h53.ev 15 rfl) ?_
      simp only [if_true]
      refine h53.sk [5,0,1,2,3] rfl fun h55=>?_
      iterate 2 go_step
      refine h55.sk [0,1,2,3] rfl fun h56=>?_
      refine wv h56 rfl rfl rfl rfl (Aq []) (by unfold execOp;rfl) fun a58 h57=>?_
      iterate 4 go_step
      simp only [Exit.then,Exit.inBlock]
      show bodyPost _ _ _ Exit.ret _ _
      refine bodyPost_ret (AK rfl (h57.known (5,Aq []) (by simp))) h57.defs ?_
      refine ⟨_,rfl,?_,?_,T1.out⟩
      · rw [hbad]
      · rw [hbad];exact H1.out
    · have hgt:decide (((xs.length-s.at_:Nat):Int)<(n:Int))=false:=decide_eq_false ω
      have hok:Bu xs s n=((xs.drop s.at_).take n,⟨s.at_+n,false⟩):=by unfold Bu;rw [if_neg (fun q=>q.elim (fun q=>by rw [hno] at q;cases q) hlt)]
      iterate 3 go_step
      refine wv h3 rfl rfl rfl rfl (.bool false) (by unfold execOp;simp only [h3.ev 1 rfl];exact Ac (Es (by have z:=H0.out.f.cell (i:=0) (by simp);rw [hno] at z;exact z))) fun a60 h59=>?_
      refine mv h59 rfl fun _ h61=>?_
      refine Ak h61 (by rw [Ab (g:=1) (want:=false) (b:=false) rfl (h61.yields (prev:=7) rfl (by simp))];rfl) rfl (by decide) (fr rfl) (ν (n:Int)) (by unfold execOp;simp only [h61.ev 0 rfl];rfl) fun a64 h63=>?_
      refine Ak h63 (by rw [Ab (g:=1) (want:=false) (b:=false) rfl (h63.yields (prev:=7) rfl (by simp))];rfl) rfl (by decide) (fr rfl) (.slice a xs.length c) (by unfold execOp;simp only [h63.ev 2 rfl];exact Ac (Pp (H0.out.b.cell (i:=0) (by simp)))) fun a66 h65=>?_
      refine Ak h65 (by rw [Ab (g:=1) (want:=false) (b:=false) rfl (h65.yields (prev:=7) rfl (by simp))];rfl) rfl (by decide) (fr rfl) (ν (xs.length:Int)) (DO rfl (h65.ev 9 rfl) _) fun a68 h67=>?_
      refine Ak h67 (by rw [Ab (g:=1) (want:=false) (b:=false) rfl (h67.yields (prev:=7) rfl (by simp))];rfl) rfl (by decide) (fr rfl) (ν (s.at_:Int)) (by unfold execOp;simp only [h67.ev 3 rfl];exact Ac (BN (H0.out.p.cell (i:=0) (by simp)))) fun a70 h69=>?_
      refine Ak h69 (by rw [Ab (g:=1) (want:=false) (b:=false) rfl (h69.yields (prev:=7) rfl (by simp))];rfl) rfl (by decide) (fr rfl) (ν ((xs.length-s.at_:Nat):Int)) (by unfold execOp;simp only [h69.ev 10 rfl,h69.ev 11 rfl];exact Ac (EX _ _ _ _ _ ω ω ω _)) fun a72 h71=>?_
      refine Ak h71 (by rw [Ab (g:=1) (want:=false) (b:=false) rfl (h71.yields (prev:=7) rfl (by simp))];rfl) rfl (by decide) (fr rfl) (.bool false) (by unfold execOp;simp only [h71.ev 8 rfl,h71.ev 12 rfl];exact Ac (FI _ _ _ _ _ hgt)) fun a74 h73=>?_
      refine wv h73 rfl rfl rfl rfl (.bool false) (Bf rfl (h73.ev 7 rfl) (by rw [if_neg (by simp)];exact h73.ev 13 rfl)) fun a76 h75=>?_
      obtain ⟨w1,hw1⟩:∃ x,x=w.setCell ⟨Bs,0,none⟩ (.bool false):=⟨_,rfl⟩
      have H1:Hid (DIn w1 Bb Ba Bs a c xs ⟨s.at_,false⟩):=hid (by rw [hw1];exact H0.out.setS _)
      have T1:Hid (Turns (fun k=>k=Ba∨k=Bs) w w1):=hid (by rw [hw1];exact (GW w Bs 0 _).mono (fun _ q=>.inr q))
      refine DG h75 (wn rfl) rfl (w':=w1) (by rw [hw1];unfold execOp;simp only [h75.ev 1 rfl,h75.ev 14 rfl];exact Gf (LK (H0.out.f.cell (i:=0) (by simp)) (H0.out.f.frozen 0) _)) fun a78 h77=>?_
      refine h77.sk [5,0,1,2,3] rfl fun h79=>?_
      iterate 5 go_step
      refine wv h79 rfl rfl rfl rfl (.bool false) (by unfold execOp;simp only [h79.ev 1 rfl];exact Ac (Es (by have z:=H1.out.f.cell (i:=0) (by simp);rw [show (⟨s.at_,false⟩:DS).no=false from rfl] at z;exact z))) fun a81 h80=>?_
      iterate 3 go_step
      refine wp_cond (t:=false) (h80.ev 15 rfl) ?_
      simp only [Bool.false_eq_true,if_false]
      refine h80.sk [5,0,1,2,3] rfl fun h82=>?_
      iterate 5 go_step
      refine wv h82 rfl rfl rfl rfl (ν (s.at_:Int)) (by unfold execOp;simp only [h82.ev 3 rfl];exact Ac (BN (H1.out.p.cell (i:=0) (by simp)))) fun a84 h83=>?_
      refine mv h83 rfl fun _ h85=>?_
      refine wv h85 rfl rfl rfl rfl (ν ((s.at_+n:Nat):Int)) (by unfold execOp;simp only [h85.ev 16 rfl,h85.ev 17 rfl];exact Ac (NM _ _ _ _ _ ω ω ω _)) fun a88 h87=>?_
      obtain ⟨w2,hw2⟩:∃ x,x=w1.setCell ⟨Ba,0,none⟩ (ν ((s.at_+n:Nat):Int)):=⟨_,rfl⟩
      have H2:Hid (DIn w2 Bb Ba Bs a c xs ⟨s.at_+n,false⟩):=hid (by rw [hw2];exact H1.out.setA _ ω)
      have T2:Hid (Turns (fun k=>k=Ba∨k=Bs) w w2):=hid (by rw [hw2];exact T1.out.trans ((GW w1 Ba 0 _).mono (fun _ q=>.inl q)))
      refine DG h87 (wn rfl) rfl (w':=w2) (by rw [hw2];unfold execOp;simp only [h87.ev 3 rfl,h87.ev 18 rfl];exact Gf (UW (H1.out.p.cell (i:=0) (by simp)) (H1.out.p.frozen 0) _)) fun a90 h89=>?_
      refine h89.sk [5,0,1,2,3] rfl fun h91=>?_
      iterate 5 go_step
      refine wv h91 rfl rfl rfl rfl (.slice a xs.length c) (by unfold execOp;simp only [h91.ev 2 rfl];exact Ac (Pp (H2.out.b.cell (i:=0) (by simp)))) fun a93 h92=>?_
      refine wv h92 rfl rfl rfl rfl (ν ((s.at_+n:Nat):Int)) (by unfold execOp;simp only [h92.ev 3 rfl];exact Ac (BN (H2.out.p.cell (i:=0) (by simp)))) fun a95 h94=>?_
      refine mv h94 rfl fun _ h96=>?_
      refine wv h96 rfl rfl rfl rfl (ν (s.at_:Int)) (by unfold execOp;simp only [h96.ev 20 rfl,h96.ev 21 rfl];exact Ac (EX _ _ _ _ _ ω ω ω _)) fun a99 h98=>?_
      refine wv h98 rfl rfl rfl rfl (ν ((s.at_+n:Nat):Int)) (by unfold execOp;simp only [h98.ev 3 rfl];exact Ac (BN (H2.out.p.cell (i:=0) (by simp)))) fun a101 h100=>?_
      obtain ⟨dp,hsl,hrow⟩:=Aca (HR.out w2 T2.out) s.at_ (s.at_+n) ω ω
      rw [show s.at_+n-s.at_=n by omega] at hsl hrow
      have hyl:((xs.drop s.at_).take n).length=n:=by simp;omega
      refine wv h100 rfl rfl rfl rfl (.slice dp n (c-s.at_)) (by unfold execOp;simp only [Option.map_some,Option.map_none,h100.ev 19 rfl,h100.ev 22 rfl,h100.ev 23 rfl];exact Ac (hsl _)) fun a103 h102=>?_
      refine wv h102 rfl rfl rfl rfl (Aq ((xs.drop s.at_).take n)) (by unfold execOp;simp only [h102.ev 24 rfl];exact Ac (by have z:=GT hrow;rw [hyl] at z;exact z)) fun a105 h104=>?_
      refine h104.sk [25,24,23,22,21,20,19,0,1,2,3] rfl fun h106=>?_
      refine mv h106 rfl fun _ h107=>?_
      refine h107.sk [5,0,1,2,3] rfl fun h109=>?_
      iterate 4 go_step
      refine bodyPost_ret (AK rfl (h109.known (5,Aq ((xs.drop s.at_).take n)) (by simp))) h109.defs ?_
      refine ⟨_,rfl,?_,?_,T2.out⟩
      · rw [hok]
      · rw [hok];exact H2.out
def Nr (Bs Bb Ba:Nat):Value:=.func (.func 124) #[] #[π Bs,π Bb,π Ba]
theorem Ti {w:World} {Bb Ba Bs Bt:Nat} {a:Option Addr} {c:Nat} {xs:List UInt8} {s:DS} (h0:DIn w Bb Ba Bs a c xs s) (ht:Blk w Bt 193 [Nr Bs Bb Ba]) (hR:∀ W,Turns (fun k=>k=Ba∨k=Bs) w W→Bp W a c xs) (hl:xs.length≤1000000) (n:Nat) (hn:n≤8) :
    Calls Tryz.prog 125 #[ν (n:Int),π Bt] w fun e w'=>∃ v,e=.returned v∧v=ν ((Br xs s n).1:Int)∧DIn w' Bb Ba Bs a c xs (Br xs s n).2∧Turns (fun k=>k=Ba∨k=Bs) w w':=by
  have HT:=hid (OE h0 hR hl n ω)
  have ct:=ht.cell (i:=0) (by simp)
  simp only [List.getElem_cons_zero] at ct
  unfold Nr at ct
  have hyl:(Bu xs s n).1.length≤1000000:=by
    unfold Bu;split
    · exact Nat.zero_le _
    · show ((xs.drop s.at_).take n).length≤_;rw [List.length_take];omega
  unfold Br
  obtain ⟨ys,hys⟩:∃ ys,ys=(Bu xs s n).1:=⟨_,rfl⟩
  obtain ⟨s2,hs2⟩:∃ s2,s2=(Bu xs s n).2:=⟨_,rfl⟩
  rw [← hys,← hs2] at HT ⊢
  rw [← hys] at hyl
  clear h0 ht hR hys hs2
  go_enter Tryz.func125,Tryz.ntmps125
  iterate 3 go_step
  refine AW (N:=16) (l:=[(0,ν (n:Int)),(1,π Bt)]) ⟨rfl,(by intro x hx;simp only [List.mem_cons,List.not_mem_nil,or_false] at hx;rcases hx with rfl | rfl<;>rfl),rfl⟩ fun a2 h1=>?_
  refine mv h1 rfl fun _ h3=>?_
  iterate 5 go_step
  refine wv h3 rfl rfl rfl rfl (.func (.func 124) #[] #[π Bs,π Bb,π Ba]) (by unfold execOp;simp only [h3.ev 1 rfl];exact Ac (Pn ct)) fun a6 h5=>?_
  refine mv h5 rfl fun _ h7=>?_
  refine Fk h7 (wn rfl) rfl (by decide) (fr rfl) (fun args=>cF Tryz.func124 (args:=args) (w:=_)) rfl #[ν (n:Int)] #[π Bs,π Bb,π Ba] (h7.ev 7 rfl) (by simp only [List.map_toArray,List.map_cons,List.map_nil,h7.ev 8 rfl]) (R:=fun v w'=>v=Aq ys∧DIn w' Bb Ba Bs a c xs s2∧Turns (fun k=>k=Ba∨k=Bs) w w') HT.out fun a10 v1 w1 r1 h9=>?_
  obtain ⟨rfl,q1,q2⟩:=r1
  have HD:=hid q1;have TN:=hid q2;clear q1 q2
  obtain ⟨yc,w2,hcv,hrow,b2⟩:=GD w1 ys hyl
  refine wv h9 rfl rfl rfl rfl (.slice (some ⟨w1.heap.size,0,none⟩) ys.length yc) (by unfold execOp;simp only [h9.ev 9 rfl];exact Ac hcv) fun a12 h11=>?_
  have HD2:=hid (HD.out.mono b2);have TN2:=hid (TN.out.trans (Turns.of_below b2));have HRW:=hid hrow;clear b2 hrow hcv
  refine mv h11 rfl fun _ h13=>?_
  refine AN h13 (wn rfl) rfl (by decide) (fr rfl) (fun args=>cF Tryz.func69 (args:=args) (w:=_)) rfl #[.slice (some ⟨w1.heap.size,0,none⟩) ys.length yc,ν 0,ν (n:Int)] (by simp only [List.map_toArray,List.map_cons,List.map_nil,h13.ev 10 rfl,h13.ev 11 rfl];rfl) (R:=fun v w'=>v=Lt (AX ys 0 n)∧w2=w') ((Eb (some ⟨w1.heap.size,0,none⟩) yc ys 0 (n:Int) w2 HRW.out ω).mono fun e w' q=>⟨_,q.1,rfl,q.2⟩) fun a16 v3 w3 r3 h15=>?_
  obtain ⟨rfl,rfl⟩:=r3
  refine mv h15 rfl fun _ h17=>?_
  refine wv h17 rfl rfl rfl rfl (ν (((AX ys 0 n).getD 0:Nat):Int)) (by unfold execOp;simp only [h17.ev 6 rfl];exact rfl) fun a20 h19=>?_
  refine wv h19 rfl rfl rfl rfl (.bool (AX ys 0 n).isSome) (by unfold execOp;simp only [h19.ev 6 rfl];exact rfl) fun a22 h21=>?_
  refine mv h21 rfl fun _ h23=>?_
  refine mv h23 rfl fun _ h25=>?_
  refine h25.sk [4,3,0,1] rfl fun h27=>?_
  iterate 5 go_step
  refine mv h27 rfl fun _ h28=>?_
  refine h28.sk [15,4,0,1] rfl fun h30=>?_
  refine mv h30 rfl fun _ h31=>?_
  refine h31.sk [3,4,0,1] rfl fun h33=>?_
  iterate 4 go_step
  refine bodyPost_ret (AK rfl (h33.known (3,ν (((AX ys 0 n).getD 0:Nat):Int)) (by simp))) h33.defs ?_
  exact ⟨_,rfl,rfl,HD2.out,TN2.out⟩
end
end Go.Proofs.YtbfgjinpchbajaaGreatDoor
