/- Parts of the proof. -/
import Derived.Test.YtbfgjinpchbajaaGreatDoorQac
namespace Go.Proofs.YtbfgjinpchbajaaGreatDoor
open Go.RowKit
open _root_.Go.Proofs.Tryz
set_option linter.unusedSimpArgs false
set_option linter.unusedVariables false
set_option linter.unusedSectionVars false
set_option maxRecDepth 100000
set_option maxHeartbeats 8000000
section
theorem FL (x y:Operand) (v u:Int) (w:World) {b:Bool} (h:decide (u<v)=b):(do eqGuard .gtr 3 x y (ν v) (ν u);binOp .gtr 3 (ν v) (ν u):Sem Value).run prog w=.ok (.bool b) w:=by
  have u3:=υ3
  have a3:=Tryz.isAgg3
  have z3:=Tryz.sizeOf3
  go_simp
theorem IN (x y:Operand) (v u:Int) (w:World) {b:Bool} (h:decide (v<u)=b):(do eqGuard .lss 3 x y (ν v) (ν u);binOp .lss 3 (ν v) (ν u):Sem Value).run prog w=.ok (.bool b) w:=by
  have u3:=υ3
  have a3:=Tryz.isAgg3
  have z3:=Tryz.sizeOf3
  go_simp
theorem LU (x y:Operand) (j:Nat) (hj:j≤1000000) (w:World):(do eqGuard .add 3 x y (ν (j:Int)) (ν 1);binOp .add 3 (ν (j:Int)) (ν 1):Sem Value).run prog w=.ok (ν ((j+1:Nat):Int)) w:=by
  have u3:=υ3
  have a3:=Tryz.isAgg3
  have z3:=Tryz.sizeOf3
  have e1:IntKind.i64.wrap ((j:Int)+1)=(j:Int)+1:=IntWalk.i64_in _ ω
  go_simp
theorem ixP (b off n c j:Nat) (hj:j<n) (w:World):(Instr.indexAt 68 (.slice (some ⟨b,off,none⟩) n c) (ν (j:Int))).run prog w=.ok (.pointer (some ⟨b,off+j*2,none⟩)) w:=by
  have u3:=υ68
  have u9:=υ127
  have z3:=Tryz.sizeOf127
  have d0:(j:Int)<(n:Int):=ω
  have d1:0≤(j:Int):=ω
  go_simp
theorem Dg {o:Oper} {x:Operand} (ho:o.op=.call { callee:=.builtin .len,args:=#[x],argTypes:=#[68] }) {ρ:Operand→Value} {a:Ω} {n c:Nat} (hx:ρ x=.slice a n c) (w:World):(execOp ρ o).run prog w=.ok (.value (ν (n:Int))) w:=by
  unfold execOp;rw [ho]
  have u3:=υ68
  simp [resolve,invoke,builtin,hx]
  go_simp
theorem DQ {o:Oper} {x:Operand} (ho:o.op=.call { callee:=.builtin .len,args:=#[x],argTypes:=#[74] }) {ρ:Operand→Value} {a:Ω} {n c:Nat} (hx:ρ x=.slice a n c) (w:World):(execOp ρ o).run prog w=.ok (.value (ν (n:Int))) w:=by
  unfold execOp;rw [ho]
  have u3:=υ74
  simp [resolve,invoke,builtin,hx]
  go_simp
theorem Ca {o:Oper} {x:Operand} (ho:o.op=.call { callee:=.builtin .len,args:=#[x],argTypes:=#[9] }) {ρ:Operand→Value} {s:Λ} (hx:ρ x=Ap s) (w:World):(execOp ρ o).run prog w=.ok (.value (ν (s.length:Int))) w:=by
  unfold execOp;rw [ho]
  have u3:=υ9
  have hsz:=Cr s
  simp [resolve,invoke,builtin,hx,Ap]
  go_simp
theorem UB (n:Nat) (h:n<4294967296) (w:World):(convert 135 3 (.int .u32 (n:Int))).run prog w=.ok (ν (n:Int)) w:=by
  have u3:=υ3
  have u4:=υ135
  have e1:IntKind.i64.wrap (n:Int)=(n:Int):=IntWalk.i64_in _ ω
  go_simp
theorem Ff {P:Program} {o:Oper} {ty:TypeId} {x:Operand} {w:World} (ho:o.op=.unOp .not ty x) {ρ:Operand→Value} {b:Bool} (hb:ρ x=.bool b):(execOp ρ o).run P w=.ok (.value (.bool (!b))) w:=by
  unfold execOp
  rw [ho]
  simp only [hb]
  go_simp
theorem FF {P:Program} {ops:Array Oper} {Q:Exit→Act→World→Prop} {rest:List Oper} {o:Oper} {a:Act} {w:World} {N:Nat} {l:List (Nat×Value)} (h:Kn N l a) (hw:o.guard=none) (hd:o.dst=none) {T:TypeId} {x y:Operand} (ho:o.op=.store T x y) (g off:Nat) (hx:a.eval x=.pointer (some ⟨g,off,none⟩)) (vs:List Value) (hy:a.eval y=.agg vs.toArray) (hn:(P.info? T).map (·.size)=some vs.length) (h1:∀ v∈vs,v.oneCell'=true) {e:TypeId} {L:List Value} (hb:Blk w g e L) (hL:off+vs.length≤L.length)
    (k:∀ a' w',Kn N l a'→Blk w' g e (splice L off vs)→w.grownBy w' (some g)→wpList P ops Q rest a' w'):wpList P ops Q (o::rest) a w:=by
  refine Jt hw T x y ho g off hx vs hy hn h1 hb hL fun w' hb' hg=>?_
  rw [hd]
  exact k a w' h hb' hg
theorem If (n:Nat) (hn:n≤1000000) (w:World):Calls prog 89 #[ν (n:Int)] w fun e w'=>e=.returned (ν (BD n:Int))∧w=w':=by
  have hu:upF (n:Int) 8=(n:Int)+(BD n:Int):=by
    unfold upF
    have hr:DE (n:Int) 8=true:=Nb.2 ⟨ω,ω,ω,ω⟩
    rw [if_pos hr]
    have:=Zt n
    omega
  have ez:IntKind.i64.wrap ((n:Int)+(BD n:Int)-(n:Int))=(BD n:Int):=by rw [show (n:Int)+(BD n:Int)-(n:Int)=(BD n:Int) by omega];exact IntWalk.i64_in _ (by unfold BD;omega)
  have HU:=hid (fun w1=>Aft (n:Int) 8 w1)
  rw [hu] at HU
  clear hu
  go_enter func89,ntmps89
  go_wp2_with fail
  refine (HU.out _).mono ?_
  rintro e w1 ⟨rfl,rfl⟩
  go_wp2_with fail
  go_ret
  exact ⟨rfl,rfl⟩
theorem Er (g:Nat) (w:World):(Instr.fieldAt 127 (π g) 0).run prog w=.ok (π g) w:=rfl
theorem Es (g:Nat) (w:World):(Instr.fieldAt 127 (π g) 1).run prog w=.ok (.pointer (some ⟨g,1,none⟩)) w:=rfl
theorem Afd {w W:World} {L:List PtM} {a:Act} (hb:Below w.heap.size w W) (hbad:CX L=false) (hd:a.defers=[]) (h2:a.tmps[2]? = some (.slice none 0 0)) (h3:a.tmps[3]? = some (ν 1)) :
    bodyPost prog Tryz.f59 (fun e w'=>∃ ba bc,e=.returned (.tuple #[.slice ba (Ct L).length bc,ν (IL L)])∧Cb w' w.heap.size ba bc (Ct L)∧Below w.heap.size w w') .ret a W:=by
  refine bodyPost_ret (results_tmp2 rfl h2 h3) hd ?_
  have e1:Ct L=[]:=by unfold Ct;rw [if_neg (by rw [hbad];decide)]
  have e2:IL L=1:=by unfold IL;rw [if_neg (by rw [hbad];decide)]
  rw [e1,e2]
  exact ⟨none,0,rfl,Own.nil _ _ _ _,hb⟩
theorem Sz {w:World} {a:Ω} {c:Nat} {L:List PtM} (hL:Fo w a c L) (okP:IS L) (hl9:L.length≤9223372036854775807) :
    Calls prog 59 #[.slice a L.length c] w fun e w'=>∃ ba bc,e=.returned (.tuple #[.slice ba (Ct L).length bc,ν (IL L)])∧Cb w' w.heap.size ba bc (Ct L)∧Below w.heap.size w w':=by
  have HL:=hid hL
  clear hL
  go_enter func59,ntmps59
  iterate 3 go_step
  refine AU (N:=53) (l:=[(0,.slice a L.length c)]) ⟨rfl,(by intro x hx;simp only [List.mem_cons,List.not_mem_nil,or_false] at hx;rcases hx with rfl<;>rfl),rfl⟩ fun a2 h1=>mv h1 rfl fun _ h3=>mv h3 rfl fun _ h5=>?_
  iterate 4 go_step
  by_cases hn:64<L.length
  · have hbig:decide ((64:Int)<(L.length:Int))=true:=decide_eq_true ω
    iterate 2 go_step
    refine mv h5 rfl fun _ h7=>wv h7 rfl rfl rfl rfl (ν (L.length:Int)) (Dg rfl (h7.ev 7 rfl) _) fun a1 h9=>wv h9 rfl rfl rfl rfl (.bool true) (by unfold execOp;simp only [h9.ev 8 rfl];exact Ad (FL _ _ _ _ _ hbig)) fun a3 h2=>h2.sk [9,3,2,0] rfl fun h4=>?_
    iterate 3 go_step
    refine wp_cond (t:=true) (h4.ev 9 rfl) ?_
    simp only [if_true]
    refine h4.sk [3,2,0] rfl fun h6=>?_
    iterate 2 go_step
    refine h6.sk [3,0] rfl fun h8=>mv h8 rfl fun _ h10=>h10.sk [2,0] rfl fun h11=>mv h11 rfl fun _ h12=>?_
    iterate 4 go_step
    simp only [Exit.then,Exit.inBlock]
    exact Afd (Below.refl _ _) (by unfold CX;rw [Bool.and_eq_false_iff];left;exact decide_eq_false ω) h12.defs (h12.known (2,.slice none 0 0) (by simp)) (h12.known (3,ν 1) (by simp))
  · have hbig:decide ((64:Int)<(L.length:Int))=false:=decide_eq_false ω
    iterate 2 go_step
    refine mv h5 rfl fun _ h13=>wv h13 rfl rfl rfl rfl (ν (L.length:Int)) (Dg rfl (h13.ev 7 rfl) _) fun a4 h14=>wv h14 rfl rfl rfl rfl (.bool false) (by unfold execOp;simp only [h14.ev 8 rfl];exact Ad (FL _ _ _ _ _ hbig)) fun a5 h15=>h15.sk [9,3,2,0] rfl fun h16=>?_
    iterate 3 go_step
    refine wp_cond (t:=false) (h16.ev 9 rfl) ?_
    simp only [Bool.false_eq_true,if_false]
    refine h16.sk [3,2,0] rfl fun h17=>?_
    iterate 5 go_step
    refine mv h17 rfl fun _ h18=>wv h18 rfl rfl rfl rfl (ν (L.length:Int)) (Dg rfl (h18.ev 10 rfl) _) fun a6 h19=>AO h19 (wn rfl) rfl (by decide) (fr rfl) (fun args=>cF func87 (args:=args) (w:=_)) rfl #[.slice none 0 0,ν (L.length:Int),ν 2] (by simp only [List.map_toArray,List.map_cons,List.map_nil,h19.ev 11 rfl];rfl) (R:=fun v w'=>∃ a2 c2,v=.slice a2 (AB [] L.length 2).length c2∧Cb w' w.heap.size a2 c2 (AB [] L.length 2)∧Below w.heap.size w w') ((CZ none 0 [] (L.length:Int) 2 w (Row.nil _ _) (by simp) ω).mono fun e w' q=>by obtain ⟨a2,c2,q1,q2,q3⟩:=q;exact ⟨_,q1,a2,c2,rfl,q2,q3⟩) fun a7 v0 w0 r0 h20=>?_
    obtain ⟨ba0,bc0,rfl,o0,b0⟩:=r0
    have HO0:=hid o0;have HB0:=hid b0;clear o0 b0
    refine mv h20 rfl fun _ h21=>h21.sk [4,3,2,0] rfl fun h22=>?_
    iterate 6 go_step
    refine mv h22 rfl fun _ h23=>wv h23 rfl rfl rfl rfl (ν (L.length:Int)) (Dg rfl (h23.ev 13 rfl) _) fun a8 h24=>mv h24 rfl fun _ h25=>?_
    iterate 4 go_step
    refine h25.sk [4,15,14,13,3,2,0] rfl fun h26=>?_
    have hl0:(AB [] (L.length:Int) 2).length≤2+262*0:=by have h9:(AB [] (L.length:Int) 2).length≤([]:Λ).length+2:=Cg _ _ 2;simpa using h9
    refine wp_loop (I:=fun a' w'=>∃ (j:Nat) (eb:Λ) (ba:Ω) (bc:Nat),j≤L.length∧Kn 53 [(4,.slice ba eb.length bc),(15,ν (j:Int)),(14,ν (L.length:Int)),(13,.slice a L.length c),(3,ν 0),(2,.slice none 0 0),(0,.slice a L.length c)] a'∧eb=(L.take j).foldl Fq (AB [] L.length 2)∧(L.take j).all KJ=true∧eb.length≤2+262*j∧Cb w' w.heap.size ba bc eb∧Below w.heap.size w w') (μ:=fun a' _=>L.length-(intOf (a'.eval (.tmp 15))).toNat) ⟨0,AB [] (L.length:Int) 2,ba0,bc0,ω,h26,(by rw [List.take_zero,List.foldl_nil]),(by rw [List.take_zero,List.all_nil]),hl0,HO0.out,HB0.out⟩ ?_
    clear HO0 HB0 h26
    rintro aL aw ⟨j,eb,ba,bc,hj,hK,heb,hall,hle,ho,hb⟩
    have HO:=hid ho;have HB:=hid hb;have HEB:=hid heb;have HAL:=hid hall;clear ho hb heb hall
    by_cases hlt:j<L.length
    · have hd0:decide ((j:Int)<(L.length:Int))=true:=decide_eq_true ω
      obtain ⟨pb,poff,ha0,hrg⟩:=Ne (HL.out.mono HB.out) ω
      have hrg:=hrg j hlt
      have hsp:=okP L[j] (List.getElem_mem hlt)
      obtain ⟨p,hp⟩:∃ p,p=L[j]:=⟨_,rfl⟩
      rw [← hp] at hrg hsp
      unfold okI at hsp
      have HPJ:=hid hp;clear hp
      cases hfit:BC p.at_ 4 with
      | false=>
        iterate 3 go_step
        refine wv hK rfl rfl rfl rfl (.bool true) (by unfold execOp;simp only [hK.ev 15 rfl,hK.ev 14 rfl];exact Ad (IN _ _ _ _ _ hd0)) fun a9 h27=>?_
        iterate 4 go_step
        refine wp_cond (t:=true) (h27.ev 16 rfl) ?_
        simp only [if_true]
        refine h27.sk [15,14,13,4,3,2,0] rfl fun h28=>?_
        iterate 7 go_step
        refine wv h28 rfl rfl rfl rfl (.pointer (some ⟨pb,poff+j*2,none⟩)) (by unfold execOp;simp only [h28.ev 13 rfl,h28.ev 15 rfl];exact Ad (by rw [ha0];exact ixP pb poff _ c j hlt _)) fun a10 h29=>wv h29 rfl rfl rfl rfl (ptV p) (by unfold execOp;simp only [h29.ev 17 rfl];exact Ad (run_loadAt_mid _ _ _ _ (ptC p) _ hrg υ127 rfl (by rw [Ev];rfl))) fun a11 h30=>wv h30 rfl rfl rfl rfl (π aw.heap.size) (DP rfl _ aw) fun a12 h31=>?_
        obtain ⟨wp,hwp⟩:∃ x,x=aw.alloc (.cells (ptC ⟨0,[]⟩).toArray 127):=⟨_,rfl⟩
        obtain ⟨gp,hgp⟩:∃ x,x=aw.heap.size:=⟨_,rfl⟩
        have hk0:Blk wp gp 127 (ptC ⟨0,[]⟩):=by rw [hwp,hgp];exact AK rfl _ _
        have HOp:Hid (Cb wp w.heap.size ba bc eb):=hid (by rw [hwp];exact Own.alloc HO.out _)
        have HBp:Hid (Below w.heap.size w wp):=hid (by rw [hwp];exact DH HB.out _)
        have hgw:w.heap.size≤gp:=by rw [hgp];exact HB.out.size
        rw [← hgp] at h31;rw [← hwp];clear hwp hgp
        refine FF h31 rfl rfl rfl gp 0 (h31.ev 6 rfl) (ptC p) (h31.ev 18 rfl) (by rw [Ev];rfl) (FW _) hk0 (by show 0+2≤2;omega) fun a13 wq h32 kq gq=>?_
        rw [CC (by rfl)] at kq
        have HP:=hid kq;have HOq:Hid (Cb wq w.heap.size ba bc eb):=hid (GV HOp.out hk0 (by decide) (Turns.of_grown gq rfl));have HBq:Hid (Below w.heap.size w wq):=hid (AH HBp.out gq hgw HBp.out.size)
        clear kq gq hk0 HOp HBp
        refine h32.sk [6,15,14,13,4,3,2,0] rfl fun h33=>?_
        iterate 6 go_step
        refine wv h33 rfl rfl rfl rfl (π gp) (by unfold execOp;simp only [h33.ev 6 rfl];exact Ad (Er (gp) _)) fun a14 h34=>wv h34 rfl rfl rfl rfl (ν p.at_) (by unfold execOp;simp only [h34.ev 19 rfl];exact Ad (BP (HP.out.cell (i:=0) (by show 0<2;omega)))) fun a15 h35=>AO h35 (wn rfl) rfl (by decide) (fr rfl) (fun args=>cF func88 (args:=args) (w:=_)) rfl #[ν p.at_,ν 4] (by simp only [List.map_toArray,List.map_cons,List.map_nil,h35.ev 20 rfl];rfl) (R:=fun v w'=>v=.bool (BC p.at_ 4)∧wq=w') ((Ee p.at_ 4 wq).mono fun e w' q=>⟨_,q.1,rfl,q.2⟩) fun a16 vf wf rf h36=>?_
        obtain ⟨rfl,rfl⟩:=rf
        rw [hfit] at h36
        refine wv h36 rfl rfl rfl rfl (.bool true) (Ff rfl (h36.ev 21 rfl)) fun a17 h37=>mv h37 rfl fun _ h38=>AG h38 (by rw [Ac (g:=4) (want:=false) (b:=true) rfl (h38.yields (prev:=23) rfl (by simp))];rfl) rfl (by decide) (fr rfl) fun a18 h39=>AG h39 (by rw [Ac (g:=4) (want:=false) (b:=true) rfl (h39.yields (prev:=23) rfl (by simp))];rfl) rfl (by decide) (fr rfl) fun a19 h40=>AG h40 (by rw [Ac (g:=4) (want:=false) (b:=true) rfl (h40.yields (prev:=23) rfl (by simp))];rfl) rfl (by decide) (fr rfl) fun a20 h41=>AG h41 (by rw [Ac (g:=4) (want:=false) (b:=true) rfl (h41.yields (prev:=23) rfl (by simp))];rfl) rfl (by decide) (fr rfl) fun a21 h42=>wv h42 rfl rfl rfl rfl (.bool true) (Bf rfl (h42.ev 23 rfl) rfl) fun a22 h43=>h43.sk [28,6,15,14,13,4,3,2,0] rfl fun h44=>?_
        iterate 3 go_step
        refine wp_cond (t:=true) (h44.ev 28 rfl) ?_
        simp only [if_true]
        refine h44.sk [6,15,14,13,4,3,2,0] rfl fun h45=>?_
        iterate 2 go_step
        refine h45.sk [6,15,14,13,4,3,0] rfl fun h46=>mv h46 rfl fun _ h47=>h47.sk [2,6,15,14,13,4,0] rfl fun h48=>mv h48 rfl fun _ h49=>?_
        iterate 4 go_step
        simp only [Exit.then,Exit.inBlock]
        have hbad:CX L=false:=by unfold CX;rw [Bool.and_eq_false_iff];right;rw [List.all_eq_false];exact ⟨L[j],List.getElem_mem hlt,by rw [← HPJ.out];unfold KJ;simp [hfit]⟩
        exact Afd HBq.out hbad h49.defs (h49.known (2,.slice none 0 0) (by simp)) (h49.known (3,ν 1) (by simp))
      | true=>
        by_cases hl2:256<p.d.length
        · have hlong:decide ((256:Int)<(p.d.length:Int))=true:=decide_eq_true ω
          iterate 3 go_step
          refine wv hK rfl rfl rfl rfl (.bool true) (by unfold execOp;simp only [hK.ev 15 rfl,hK.ev 14 rfl];exact Ad (IN _ _ _ _ _ hd0)) fun a23 h50=>?_
          iterate 4 go_step
          refine wp_cond (t:=true) (h50.ev 16 rfl) ?_
          simp only [if_true]
          refine h50.sk [15,14,13,4,3,2,0] rfl fun h51=>?_
          iterate 7 go_step
          refine wv h51 rfl rfl rfl rfl (.pointer (some ⟨pb,poff+j*2,none⟩)) (by unfold execOp;simp only [h51.ev 13 rfl,h51.ev 15 rfl];exact Ad (by rw [ha0];exact ixP pb poff _ c j hlt _)) fun a24 h52=>wv h52 rfl rfl rfl rfl (ptV p) (by unfold execOp;simp only [h52.ev 17 rfl];exact Ad (run_loadAt_mid _ _ _ _ (ptC p) _ hrg υ127 rfl (by rw [Ev];rfl))) fun a25 h53=>wv h53 rfl rfl rfl rfl (π aw.heap.size) (DP rfl _ aw) fun a26 h54=>?_
          obtain ⟨wp,hwp⟩:∃ x,x=aw.alloc (.cells (ptC ⟨0,[]⟩).toArray 127):=⟨_,rfl⟩
          obtain ⟨gp,hgp⟩:∃ x,x=aw.heap.size:=⟨_,rfl⟩
          have hk0:Blk wp gp 127 (ptC ⟨0,[]⟩):=by rw [hwp,hgp];exact AK rfl _ _
          have HOp:Hid (Cb wp w.heap.size ba bc eb):=hid (by rw [hwp];exact Own.alloc HO.out _)
          have HBp:Hid (Below w.heap.size w wp):=hid (by rw [hwp];exact DH HB.out _)
          have hgw:w.heap.size≤gp:=by rw [hgp];exact HB.out.size
          rw [← hgp] at h54;rw [← hwp];clear hwp hgp
          refine FF h54 rfl rfl rfl gp 0 (h54.ev 6 rfl) (ptC p) (h54.ev 18 rfl) (by rw [Ev];rfl) (FW _) hk0 (by show 0+2≤2;omega) fun a27 wq h55 kq gq=>?_
          rw [CC (by rfl)] at kq
          have HP:=hid kq;have HOq:Hid (Cb wq w.heap.size ba bc eb):=hid (GV HOp.out hk0 (by decide) (Turns.of_grown gq rfl));have HBq:Hid (Below w.heap.size w wq):=hid (AH HBp.out gq hgw HBp.out.size)
          clear kq gq hk0 HOp HBp
          refine h55.sk [6,15,14,13,4,3,2,0] rfl fun h56=>?_
          iterate 6 go_step
          refine wv h56 rfl rfl rfl rfl (π gp) (by unfold execOp;simp only [h56.ev 6 rfl];exact Ad (Er (gp) _)) fun a28 h57=>wv h57 rfl rfl rfl rfl (ν p.at_) (by unfold execOp;simp only [h57.ev 19 rfl];exact Ad (BP (HP.out.cell (i:=0) (by show 0<2;omega)))) fun a29 h58=>AO h58 (wn rfl) rfl (by decide) (fr rfl) (fun args=>cF func88 (args:=args) (w:=_)) rfl #[ν p.at_,ν 4] (by simp only [List.map_toArray,List.map_cons,List.map_nil,h58.ev 20 rfl];rfl) (R:=fun v w'=>v=.bool (BC p.at_ 4)∧wq=w') ((Ee p.at_ 4 wq).mono fun e w' q=>⟨_,q.1,rfl,q.2⟩) fun a30 vf wf rf h59=>?_
          obtain ⟨rfl,rfl⟩:=rf
          rw [hfit] at h59
          refine wv h59 rfl rfl rfl rfl (.bool false) (Ff rfl (h59.ev 21 rfl)) fun a31 h60=>mv h60 rfl fun _ h61=>Ak h61 (by rw [Ac (g:=4) (want:=false) (b:=false) rfl (h61.yields (prev:=23) rfl (by simp))];rfl) rfl (by decide) (fr rfl) (.pointer (some ⟨gp,1,none⟩)) (by unfold execOp;simp only [h61.ev 6 rfl];exact Ad (Es (gp) _)) fun a32 h62=>Ak h62 (by rw [Ac (g:=4) (want:=false) (b:=false) rfl (h62.yields (prev:=23) rfl (by simp))];rfl) rfl (by decide) (fr rfl) (Ap p.d) (by unfold execOp;simp only [h62.ev 24 rfl];exact Ad (GP (HP.out.cell (i:=1) (by show 1<2;omega)))) fun a33 h63=>Ak h63 (by rw [Ac (g:=4) (want:=false) (b:=false) rfl (h63.yields (prev:=23) rfl (by simp))];rfl) rfl (by decide) (fr rfl) (ν (p.d.length:Int)) (Ca rfl (h63.ev 25 rfl) _) fun a34 h64=>Ak h64 (by rw [Ac (g:=4) (want:=false) (b:=false) rfl (h64.yields (prev:=23) rfl (by simp))];rfl) rfl (by decide) (fr rfl) (.bool true) (by unfold execOp;simp only [h64.ev 26 rfl];exact Ad (FL _ _ _ _ _ hlong)) fun a35 h65=>wv h65 rfl rfl rfl rfl (.bool true) (Bf rfl (h65.ev 23 rfl) (by rw [if_neg (by simp)];exact h65.ev 27 rfl)) fun a36 h66=>h66.sk [28,6,15,14,13,4,3,2,0] rfl fun h67=>?_
          iterate 3 go_step
          refine wp_cond (t:=true) (h67.ev 28 rfl) ?_
          simp only [if_true]
          refine h67.sk [6,15,14,13,4,3,2,0] rfl fun h68=>?_
          iterate 2 go_step
          refine h68.sk [6,15,14,13,4,3,0] rfl fun h69=>mv h69 rfl fun _ h70=>h70.sk [2,6,15,14,13,4,0] rfl fun h71=>mv h71 rfl fun _ h72=>?_
          iterate 4 go_step
          simp only [Exit.then,Exit.inBlock]
          have hbad:CX L=false:=by unfold CX;rw [Bool.and_eq_false_iff];right;rw [List.all_eq_false];exact ⟨L[j],List.getElem_mem hlt,by rw [← HPJ.out];unfold KJ;simp [hl2]⟩
          exact Afd HBq.out hbad h72.defs (h72.known (2,.slice none 0 0) (by simp)) (h72.known (3,ν 1) (by simp))
        · have hlong:decide ((256:Int)<(p.d.length:Int))=false:=decide_eq_false ω
          iterate 3 go_step
          refine wv hK rfl rfl rfl rfl (.bool true) (by unfold execOp;simp only [hK.ev 15 rfl,hK.ev 14 rfl];exact Ad (IN _ _ _ _ _ hd0)) fun a37 h73=>?_
          iterate 4 go_step
          refine wp_cond (t:=true) (h73.ev 16 rfl) ?_
          simp only [if_true]
          refine h73.sk [15,14,13,4,3,2,0] rfl fun h74=>?_
          iterate 7 go_step
          refine wv h74 rfl rfl rfl rfl (.pointer (some ⟨pb,poff+j*2,none⟩)) (by unfold execOp;simp only [h74.ev 13 rfl,h74.ev 15 rfl];exact Ad (by rw [ha0];exact ixP pb poff _ c j hlt _)) fun a38 h75=>wv h75 rfl rfl rfl rfl (ptV p) (by unfold execOp;simp only [h75.ev 17 rfl];exact Ad (run_loadAt_mid _ _ _ _ (ptC p) _ hrg υ127 rfl (by rw [Ev];rfl))) fun a39 h76=>wv h76 rfl rfl rfl rfl (π aw.heap.size) (DP rfl _ aw) fun a40 h77=>?_
          obtain ⟨wp,hwp⟩:∃ x,x=aw.alloc (.cells (ptC ⟨0,[]⟩).toArray 127):=⟨_,rfl⟩
          obtain ⟨gp,hgp⟩:∃ x,x=aw.heap.size:=⟨_,rfl⟩
          have hk0:Blk wp gp 127 (ptC ⟨0,[]⟩):=by rw [hwp,hgp];exact AK rfl _ _
          have HOp:Hid (Cb wp w.heap.size ba bc eb):=hid (by rw [hwp];exact Own.alloc HO.out _)
          have HBp:Hid (Below w.heap.size w wp):=hid (by rw [hwp];exact DH HB.out _)
          have hgw:w.heap.size≤gp:=by rw [hgp];exact HB.out.size
          rw [← hgp] at h77;rw [← hwp];clear hwp hgp
          refine FF h77 rfl rfl rfl gp 0 (h77.ev 6 rfl) (ptC p) (h77.ev 18 rfl) (by rw [Ev];rfl) (FW _) hk0 (by show 0+2≤2;omega) fun a41 wq h78 kq gq=>?_
          rw [CC (by rfl)] at kq
          have HP:=hid kq;have HOq:Hid (Cb wq w.heap.size ba bc eb):=hid (GV HOp.out hk0 (by decide) (Turns.of_grown gq rfl));have HBq:Hid (Below w.heap.size w wq):=hid (AH HBp.out gq hgw HBp.out.size)
          clear kq gq hk0 HOp HBp
          refine h78.sk [6,15,14,13,4,3,2,0] rfl fun h79=>?_
          iterate 6 go_step
          refine wv h79 rfl rfl rfl rfl (π gp) (by unfold execOp;simp only [h79.ev 6 rfl];exact Ad (Er (gp) _)) fun a42 h80=>wv h80 rfl rfl rfl rfl (ν p.at_) (by unfold execOp;simp only [h80.ev 19 rfl];exact Ad (BP (HP.out.cell (i:=0) (by show 0<2;omega)))) fun a43 h81=>AO h81 (wn rfl) rfl (by decide) (fr rfl) (fun args=>cF func88 (args:=args) (w:=_)) rfl #[ν p.at_,ν 4] (by simp only [List.map_toArray,List.map_cons,List.map_nil,h81.ev 20 rfl];rfl) (R:=fun v w'=>v=.bool (BC p.at_ 4)∧wq=w') ((Ee p.at_ 4 wq).mono fun e w' q=>⟨_,q.1,rfl,q.2⟩) fun a44 vf wf rf h82=>?_
          obtain ⟨rfl,rfl⟩:=rf
          rw [hfit] at h82
          refine wv h82 rfl rfl rfl rfl (.bool false) (Ff rfl (h82.ev 21 rfl)) fun a45 h83=>mv h83 rfl fun _ h84=>Ak h84 (by rw [Ac (g:=4) (want:=false) (b:=false) rfl (h84.yields (prev:=23) rfl (by simp))];rfl) rfl (by decide) (fr rfl) (.pointer (some ⟨gp,1,none⟩)) (by unfold execOp;simp only [h84.ev 6 rfl];exact Ad (Es (gp) _)) fun a46 h85=>Ak h85 (by rw [Ac (g:=4) (want:=false) (b:=false) rfl (h85.yields (prev:=23) rfl (by simp))];rfl) rfl (by decide) (fr rfl) (Ap p.d) (by unfold execOp;simp only [h85.ev 24 rfl];exact Ad (GP (HP.out.cell (i:=1) (by show 1<2;omega)))) fun a47 h86=>Ak h86 (by rw [Ac (g:=4) (want:=false) (b:=false) rfl (h86.yields (prev:=23) rfl (by simp))];rfl) rfl (by decide) (fr rfl) (ν (p.d.length:Int)) (Ca rfl (h86.ev 25 rfl) _) fun a48 h87=>Ak h87 (by rw [Ac (g:=4) (want:=false) (b:=false) rfl (h87.yields (prev:=23) rfl (by simp))];rfl) rfl (by decide) (fr rfl) (.bool false) (by unfold execOp;simp only [h87.ev 26 rfl];exact Ad (FL _ _ _ _ _ hlong)) fun a49 h88=>wv h88 rfl rfl rfl rfl (.bool false) (Bf rfl (h88.ev 23 rfl) (by rw [if_neg (by simp)];exact h88.ev 27 rfl)) fun a50 h89=>h89.sk [28,6,15,14,13,4,3,2,0] rfl fun h90=>?_
          iterate 3 go_step
          refine wp_cond (t:=false) (h90.ev 28 rfl) ?_
          simp only [Bool.false_eq_true,if_false]
          refine h90.sk [6,15,14,13,4,3,2,0] rfl fun h91=>?_
          iterate 5 go_step
          refine mv h91 rfl fun _ h92=>wv h92 rfl rfl rfl rfl (π gp) (by unfold execOp;simp only [h92.ev 6 rfl];exact Ad (Er (gp) _)) fun a51 h93=>wv h93 rfl rfl rfl rfl (ν p.at_) (by unfold execOp;simp only [h93.ev 30 rfl];exact Ad (BP (HP.out.cell (i:=0) (by show 0<2;omega)))) fun a52 h94=>AO h94 (wn rfl) rfl (by decide) (fr rfl) (fun args=>cF func87 (args:=args) (w:=_)) rfl #[.slice ba eb.length bc,ν p.at_,ν 4] (by simp only [List.map_toArray,List.map_cons,List.map_nil,h94.ev 29 rfl,h94.ev 31 rfl];rfl) (R:=fun v w'=>∃ a2 c2,v=.slice a2 (AB eb p.at_ 4).length c2∧Cb w' wq.heap.size a2 c2 (AB eb p.at_ 4)∧Below wq.heap.size wq w') ((CZ ba bc eb p.at_ 4 wq HOq.out.row ω ω).mono fun e w' q=>by obtain ⟨a2,c2,q1,q2,q3⟩:=q;exact ⟨_,q1,a2,c2,rfl,q2,q3⟩) fun a53 v1 w1 r1 h95=>?_
          obtain ⟨ba1,bc1,rfl,o1,b1⟩:=r1
          obtain ⟨e1,he1⟩:∃ x,x=AB eb p.at_ 4:=⟨_,rfl⟩
          have le1:e1.length≤eb.length+4:=by rw [he1];exact Cg _ _ 4
          rw [← he1] at o1 h95
          have HO1:=hid (o1.low HBq.out.size);have HB1:=hid (Ae HBq.out b1);have HP1:=hid (HP.out.mono b1);have HE1:=hid he1;clear o1 b1 he1
          refine h95.sk [32,31,30,29,6,15,14,13,3,2,0] rfl fun h96=>mv h96 rfl fun _ h97=>h97.sk [4,6,15,14,13,3,2,0] rfl fun h98=>?_
          iterate 5 go_step
          refine mv h98 rfl fun _ h99=>wv h99 rfl rfl rfl rfl (.pointer (some ⟨gp,1,none⟩)) (by unfold execOp;simp only [h99.ev 6 rfl];exact Ad (Es (gp) _)) fun a54 h100=>wv h100 rfl rfl rfl rfl (Ap p.d) (by unfold execOp;simp only [h100.ev 34 rfl];exact Ad (GP (HP1.out.cell (i:=1) (by show 1<2;omega)))) fun a55 h101=>wv h101 rfl rfl rfl rfl (ν (p.d.length:Int)) (Ca rfl (h101.ev 35 rfl) _) fun a56 h102=>AO h102 (wn rfl) rfl (by decide) (fr rfl) (fun args=>cF func87 (args:=args) (w:=_)) rfl #[.slice ba1 e1.length bc1,ν (p.d.length:Int),ν 2] (by simp only [List.map_toArray,List.map_cons,List.map_nil,h102.ev 33 rfl,h102.ev 36 rfl];rfl) (R:=fun v w'=>∃ a2 c2,v=.slice a2 (AB e1 p.d.length 2).length c2∧Cb w' w1.heap.size a2 c2 (AB e1 p.d.length 2)∧Below w1.heap.size w1 w') ((CZ ba1 bc1 e1 (p.d.length:Int) 2 w1 HO1.out.row ω ω).mono fun e w' q=>by obtain ⟨a2,c2,q1,q2,q3⟩:=q;exact ⟨_,q1,a2,c2,rfl,q2,q3⟩) fun a57 v2 w2 r2 h103=>?_
          obtain ⟨ba2,bc2,rfl,o2,b2⟩:=r2
          obtain ⟨e2,he2⟩:∃ x,x=AB e1 p.d.length 2:=⟨_,rfl⟩
          have le2:e2.length≤e1.length+2:=by rw [he2];exact Cg _ _ 2
          rw [← he2] at o2 h103
          have HO2:=hid (o2.low HB1.out.size);have HB2:=hid (Ae HB1.out b2);have HP2:=hid (HP1.out.mono b2);have HE2:=hid he2;clear o2 b2 he2
          refine h103.sk [37,36,35,34,33,6,15,14,13,3,2,0] rfl fun h104=>mv h104 rfl fun _ h105=>h105.sk [4,6,15,14,13,3,2,0] rfl fun h106=>?_
          iterate 4 go_step
          refine mv h106 rfl fun _ h107=>wv h107 rfl rfl rfl rfl (.pointer (some ⟨gp,1,none⟩)) (by unfold execOp;simp only [h107.ev 6 rfl];exact Ad (Es (gp) _)) fun a58 h108=>wv h108 rfl rfl rfl rfl (Ap p.d) (by unfold execOp;simp only [h108.ev 39 rfl];exact Ad (GP (HP2.out.cell (i:=1) (by show 1<2;omega)))) fun a59 h109=>Ip rfl (.tmp 38) (.tmp 40) rfl υ74 υ9 κ w.heap.size (h109.ev 38 rfl) (h109.ev 40 rfl) HO2.out (by rw [Cr];omega) HB2.out.size ?_
          intro ba3 bc3 w3 o3 g3 b3
          rw [Cr,Gs] at o3
          rw [Cr]
          refine AU (h109.put (d:=41) (by decide) (fr rfl) (.slice ba3 (e2.length+p.d.length) bc3)) fun a60 h110=>?_
          have HO3:Hid (Cb w3 w.heap.size ba3 bc3 (e2++p.d)):=hid (by unfold Cb;rw [List.length_append,List.map_append];exact o3)
          have HB3:=hid (HB2.out.trans b3);clear o3 g3 b3
          refine h110.sk [41,40,39,38,6,15,14,13,3,2,0] rfl fun h111=>mv h111 rfl fun _ h112=>h112.sk [4,6,15,14,13,3,2,0] rfl fun h113=>?_
          iterate 4 go_step
          refine wv h113 rfl rfl rfl rfl (ν ((j+1:Nat):Int)) (by unfold execOp;simp only [h113.ev 15 rfl];exact Ad (LU _ _ j ω _)) fun a61 h114=>h114.sk [42,4,6,14,13,3,2,0] rfl fun h115=>mv h115 rfl fun _ h116=>h116.sk [15,4,6,14,13,3,2,0] rfl fun h117=>?_
          iterate 2 go_step
          refine ⟨⟨j+1,e2++p.d,ba3,bc3,ω,by rw [List.length_append];exact h117.subs rfl,?_,?_,?_,HO3.out,HB3.out⟩,?_⟩
          · rw [List.take_add_one,List.getElem?_eq_getElem hlt,Option.toList_some,List.foldl_append,← HEB.out,← HPJ.out];show _=Fq eb p;unfold Fq;rw [HE2.out,HE1.out]
          · rw [List.take_add_one,List.getElem?_eq_getElem hlt,Option.toList_some,List.all_append,HAL.out,← HPJ.out];simp [KJ,hfit];omega
          · rw [List.length_append];omega
          · rw [h117.ev 15 rfl,hK.ev 15 rfl];simp [intOf];omega
    · have hd0:decide ((j:Int)<(L.length:Int))=false:=decide_eq_false ω
      obtain rfl:j=L.length:=ω
      iterate 3 go_step
      refine wv hK rfl rfl rfl rfl (.bool false) (by unfold execOp;simp only [hK.ev 15 rfl,hK.ev 14 rfl];exact Ad (IN _ _ _ _ _ hd0)) fun a62 h118=>?_
      iterate 4 go_step
      refine wp_cond (t:=false) (h118.ev 16 rfl) ?_
      simp only [Bool.false_eq_true,if_false]
      refine h118.sk [15,14,13,4,3,2,0] rfl fun h119=>?_
      iterate 7 go_step
      refine mv h119 rfl fun _ h120=>mv h120 rfl fun _ h121=>AO h121 (wn rfl) rfl (by decide) (fr rfl) (fun args=>cF func70 (args:=args) (w:=_)) rfl #[.slice ba eb.length bc] (by simp only [List.map_toArray,List.map_cons,List.map_nil,h121.ev 44 rfl]) (R:=fun v w'=>v=.int .u32 (CN eb:Int)∧Below aw.heap.size aw w') ((Kh ba bc eb aw HO.out.row).mono fun e w' q=>⟨_,q.1,rfl,q.2⟩) fun a63 v4 w4 r4 h122=>?_
      obtain ⟨rfl,b4⟩:=r4
      have HO4:=hid (Own.mono HO.out b4);have HB4:=hid (Ae HB.out b4);clear b4
      refine wv h122 rfl rfl rfl rfl (ν (CN eb:Int)) (by unfold execOp;simp only [h122.ev 45 rfl];exact Ad (UB _ (EE eb) _)) fun a64 h123=>AO h123 (wn rfl) rfl (by decide) (fr rfl) (fun args=>cF func87 (args:=args) (w:=_)) rfl #[.slice ba eb.length bc,ν (CN eb:Int),ν 4] (by simp only [List.map_toArray,List.map_cons,List.map_nil,h123.ev 43 rfl,h123.ev 46 rfl];rfl) (R:=fun v w'=>∃ a2 c2,v=.slice a2 (AB eb (CN eb:Int) 4).length c2∧Cb w' w4.heap.size a2 c2 (AB eb (CN eb:Int) 4)∧Below w4.heap.size w4 w') ((CZ ba bc eb (CN eb:Int) 4 w4 HO4.out.row ω (by have:=EE eb;omega)).mono fun e w' q=>by obtain ⟨a2,c2,q1,q2,q3⟩:=q;exact ⟨_,q1,a2,c2,rfl,q2,q3⟩) fun a65 v5 w5 r5 h124=>?_
      obtain ⟨ba5,bc5,rfl,o5,b5⟩:=r5
      obtain ⟨e5,he5⟩:∃ x,x=AB eb (CN eb:Int) 4:=⟨_,rfl⟩
      have le5:e5.length≤eb.length+4:=by rw [he5];exact Cg _ _ 4
      rw [← he5] at o5 h124
      have HO5:=hid (o5.low HB4.out.size);have HB5:=hid (Ae HB4.out b5);have HE5:=hid he5;clear o5 b5 he5
      refine h124.sk [47,46,45,44,43,15,14,13,3,2,0] rfl fun h125=>mv h125 rfl fun _ h126=>h126.sk [4,15,14,13,3,2,0] rfl fun h127=>?_
      iterate 5 go_step
      refine mv h127 rfl fun _ h128=>mv h128 rfl fun _ h129=>wv h129 rfl rfl rfl rfl (ν (e5.length:Int)) (DQ rfl (h129.ev 49 rfl) _) fun a66 h130=>AO h130 (wn rfl) rfl (by decide) (fr rfl) (fun args=>cF func89 (args:=args) (w:=_)) rfl #[ν (e5.length:Int)] (by simp only [List.map_toArray,List.map_cons,List.map_nil,h130.ev 50 rfl]) (R:=fun v w'=>v=ν (BD e5.length:Int)∧w5=w') ((If e5.length ω w5).mono fun e w' q=>⟨_,q.1,rfl,q.2⟩) fun a67 v6 w6 r6 h131=>?_
      obtain ⟨rfl,rfl⟩:=r6
      refine CM (bytes:=1) (z:=.int .u8 0) rfl (.tmp 48) (.tmp 51) rfl υ74 υ3 κ rfl rfl w.heap.size (h131.ev 48 rfl) (h131.ev 51 rfl) rfl HO5.out (by unfold BD;omega) (by unfold BD;omega) HB5.out.size ?_
      intro ba7 bc7 w7 o7 g7 b7
      refine AU (h131.put (d:=52) (by decide) (fr rfl) (.slice ba7 (e5.length+BD e5.length) bc7)) fun a68 h132=>?_
      have HB7:=hid (HB5.out.trans b7);have HO7:=hid o7;clear o7 g7 b7
      refine h132.sk [52,51,50,49,48,4,15,14,13,3,0] rfl fun h133=>mv h133 rfl fun _ h134=>h134.sk [2,52,51,50,49,48,4,15,14,13,0] rfl fun h135=>mv h135 rfl fun _ h136=>h136.sk [3,2,4,15,14,13,0] rfl fun h137=>?_
      iterate 4 go_step
      refine bodyPost_ret (results_tmp2 rfl (h137.known (2,.slice ba7 (e5.length+BD e5.length) bc7) (by simp)) (h137.known (3,ν 0) (by simp))) h137.defs ?_
      rw [List.take_length] at HEB HAL
      have hok:CX L=true:=by unfold CX;rw [HAL.out,decide_eq_true ω];rfl
      have e1:Ct L=e5++List.replicate (BD e5.length) 0:=by unfold Ct;rw [if_pos hok];unfold Rv Lo DF;rw [← HEB.out,← HE5.out]
      have e2:IL L=0:=by unfold IL;rw [if_pos hok]
      rw [e1,e2]
      refine ⟨ba7,bc7,by rw [List.length_append,List.length_replicate],?_,HB7.out⟩
      unfold Cb;rw [List.length_append,List.length_replicate,List.map_append,List.map_replicate];exact HO7.out
end
section
theorem Vi {w:World} {a:Ω} {c:Nat} {xs:Λ} (r:Bo w a c xs) (lo hi:Nat) (h1:lo≤hi) (h2:hi≤xs.length) :
    ∃ dp,sliced a lo hi c 1=.slice dp (hi-lo) (c-lo)∧Bo w dp (c-lo) ((xs.drop lo).take (hi-lo)):=by
  have hc:=r.2.1
  have hm:=r.2.2.1
  have hl:((xs.drop lo).take (hi-lo)).length=hi-lo:=by simp;omega
  cases a with
  | none=>
    have h0:c=0:=r.2.2.2.1 rfl
    subst h0
    have:lo=0:=ω
    subst this
    have:hi=0:=ω
    subst this
    refine ⟨none,?_,?_⟩
    · unfold sliced;simp
    · exact ⟨by simp,by simp,ω,fun _=>rfl,fun q=>absurd q (by simp)⟩
  | some ad=>
    by_cases hcl:c=lo
    · subst hcl
      have:hi=c:=ω
      subst this
      refine ⟨some ad,?_,?_⟩
      · unfold sliced;simp
      · exact ⟨by simp,by simp,ω,(fun q=>by cases q),fun q=>absurd q (by rw [hl];omega)⟩
    · by_cases hn:0<xs.length
      · obtain ⟨b,off,e,_⟩:=r.bytes hn
        cases e
        refine ⟨some ⟨b,off+lo,none⟩,?_,?_⟩
        · unfold sliced;rw [if_neg ω];simp [Addr.add_mid]
        · have:=Nd r lo (hi-lo) ω
          exact this
      · have:lo=0:=ω
        subst this
        have:hi=0:=ω
        subst this
        refine ⟨some ad,?_,?_⟩
        · unfold sliced
          rw [if_neg ω]
          simp [Addr.add]
        · exact ⟨by simp,by simp,ω,(fun q=>by cases q),fun q=>absurd q (by simp)⟩
theorem szB (w:World):(sizeOf 5).run prog w=.ok 1 w:=κ
theorem elB:prog.elem 74=5:=κ
theorem unB:prog.underlying 74=some (.slice (prog.elem 74)):=by rw [elB];exact υ74
theorem Acz {w:World} {a:Ω} {c:Nat} {xs:Λ} (r:Bo w a c xs) (lo hi:Nat) (h1:lo≤hi) (h2:hi≤xs.length) :
    ∃ dp,(∀ W,(Instr.sliceAt 74 (.slice a xs.length c) (some (ν (lo:Int))) (some (ν (hi:Int))) none).run prog W=.ok (.slice dp (hi-lo) (c-lo)) W)∧Bo w dp (c-lo) ((xs.drop lo).take (hi-lo)):=by
  obtain ⟨dp,e,rr⟩:=Vi r lo hi h1 h2
  have hc:=r.2.1
  refine ⟨dp,fun W=>?_,rr⟩
  rw [run_sliceAt_slice W _ _ _ _ _ unB,run_slice_lh W _ _ _ _ unB _ _ _ _ ω ω ω,elB,szB]
  show Result.ok (sliced _ _ _ _ _) W=_
  rw [Int.toNat_natCast,Int.toNat_natCast,e]
theorem Afr {w:World} {a:Ω} {c:Nat} {xs:Λ} (r:Bo w a c xs) (lo:Nat) (h1:lo≤xs.length) :
    ∃ dp,(∀ W,(Instr.sliceAt 74 (.slice a xs.length c) (some (ν (lo:Int))) none none).run prog W=.ok (.slice dp (xs.length-lo) (c-lo)) W)∧Bo w dp (c-lo) (xs.drop lo):=by
  obtain ⟨dp,e,rr⟩:=Vi r lo xs.length h1 (Nat.le_refl _)
  refine ⟨dp,fun W=>?_,by rw [List.take_of_length_le (by rw [List.length_drop];omega)] at rr;exact rr⟩
  rw [run_sliceAt_slice W _ _ _ _ _ unB,run_slice_l W _ _ _ _ unB _ _ ω ω,elB,szB]
  show Result.ok (sliced _ _ _ _ _) W=_
  rw [Int.toNat_natCast,e]
theorem Afq {w:World} {a:Ω} {c:Nat} {xs:Λ} (r:Bo w a c xs) (hi:Nat) (h2:hi≤xs.length) :
    (∀ W,(Instr.sliceAt 74 (.slice a xs.length c) none (some (ν (hi:Int))) none).run prog W=.ok (.slice a hi c) W)∧Bo w a c (xs.take hi):=by
  have hc:=r.2.1
  refine ⟨fun W=>?_,IF r hi⟩
  rw [run_sliceAt_slice W _ _ _ _ _ unB,run_slice_h W _ _ _ _ unB _ _ ω ω,elB,szB]
  show Result.ok (sliced _ _ _ _ _) W=_
  rw [Int.toNat_natCast]
  unfold sliced
  simp only [Nat.sub_zero,Nat.zero_mul]
  split
  · rfl
  · cases a with
    | none=>rfl
    | some p=>simp [Addr.add]
structure DS where
  at_:Nat
  no:Bool
def Br (xs:Λ) (s:DS) (n:Nat):Λ×DS:=if s.no=true∨xs.length<s.at_+n then ([],⟨s.at_,true⟩) else ((xs.drop s.at_).take n,⟨s.at_+n,false⟩)
def Bq (xs:Λ) (s:DS) (k:Nat):Nat×DS:=((AW (Br xs s k).1 0 k).getD 0,(Br xs s k).2)
structure DIn (w:World) (Bb Ba Bs:Nat) (a:Ω) (c:Nat) (xs:Λ) (s:DS):Prop where
  b:Blk w Bb 74 [.slice a xs.length c]
  p:Blk w Ba 3 [ν (s.at_:Int)]
  f:Blk w Bs 4 [.bool s.no]
  at_:s.at_≤xs.length
theorem DIn.nbs {w:World} {Bb Ba Bs:Nat} {a:Ω} {c:Nat} {xs:Λ} {s:DS} (h:DIn w Bb Ba Bs a c xs s):Bb≠Bs:=Ds h.b h.f (by decide)
theorem DIn.nba {w:World} {Bb Ba Bs:Nat} {a:Ω} {c:Nat} {xs:Λ} {s:DS} (h:DIn w Bb Ba Bs a c xs s):Bb≠Ba:=Ds h.b h.p (by decide)
theorem DIn.nas {w:World} {Bb Ba Bs:Nat} {a:Ω} {c:Nat} {xs:Λ} {s:DS} (h:DIn w Bb Ba Bs a c xs s):Ba≠Bs:=Ds h.p h.f (by decide)
theorem GZ (w:World) (g i:Nat) (v:Value):Turns (fun k=>k=g) w (w.setCell ⟨g,i,none⟩ v):=(Turns.refl (fun k=>k=g) w).setCell (p:=⟨g,i,none⟩) rfl v
theorem DIn.setS {w:World} {Bb Ba Bs:Nat} {a:Ω} {c:Nat} {xs:Λ} {s:DS} (h:DIn w Bb Ba Bs a c xs s) (b:Bool):DIn (w.setCell ⟨Bs,0,none⟩ (.bool b)) Bb Ba Bs a c xs ⟨s.at_,b⟩:=
  ⟨(GZ w Bs 0 _).blk h.b h.nbs,(GZ w Bs 0 _).blk h.p h.nas,Blk.set h.f 0 _,h.at_⟩
theorem DIn.setA {w:World} {Bb Ba Bs:Nat} {a:Ω} {c:Nat} {xs:Λ} {s:DS} (h:DIn w Bb Ba Bs a c xs s) (n:Nat) (hn:n≤xs.length):DIn (w.setCell ⟨Ba,0,none⟩ (ν (n:Int))) Bb Ba Bs a c xs ⟨n,s.no⟩:=
  ⟨(GZ w Ba 0 _).blk h.b h.nba,Blk.set h.p 0 _,(GZ w Ba 0 _).blk h.f (fun q=>h.nas q.symm),hn⟩
theorem DIn.mono {w w':World} {Bb Ba Bs:Nat} {a:Ω} {c:Nat} {xs:Λ} {s:DS} (h:DIn w Bb Ba Bs a c xs s) (b:Below w.heap.size w w'):DIn w' Bb Ba Bs a c xs s:=⟨h.b.mono b,h.p.mono b,h.f.mono b,h.at_⟩
theorem Ew {w:World} {g off:Nat} {b:Bool} (h:w.cell? ⟨g,off,none⟩=some (.bool b)):(Instr.loadAt 4 (.pointer (some ⟨g,off,none⟩))).run prog w=.ok (.bool b) w:=by
  have u3:=υ4
  have a3:=Tryz.isAgg4
  have z3:=Tryz.sizeOf4
  go_simp
theorem Pu {w:World} {g off:Nat} {a:Ω} {n c:Nat} (h:w.cell? ⟨g,off,none⟩=some (.slice a n c)):(Instr.loadAt 74 (.pointer (some ⟨g,off,none⟩))).run prog w=.ok (.slice a n c) w:=by
  have u3:=υ74
  have a3:=Tryz.isAgg74
  have z3:=Tryz.sizeOf74
  go_simp
theorem LQ {w:World} {g off:Nat} {u:Value} (h:w.cell? ⟨g,off,none⟩=some u) (hz:w.frozen? ⟨g,off,none⟩=false) (b:Bool):(Instr.storeAt 4 (.pointer (some ⟨g,off,none⟩)) (.bool b)).run prog w=.ok () (w.setCell ⟨g,off,none⟩ (.bool b)):=by
  have u3:=υ4
  have a3:=Tryz.isAgg4
  have z3:=Tryz.sizeOf4
  go_simp
theorem Vk {w:World} {g off:Nat} {u:Value} (h:w.cell? ⟨g,off,none⟩=some u) (hz:w.frozen? ⟨g,off,none⟩=false) (n:Int):(Instr.storeAt 3 (.pointer (some ⟨g,off,none⟩)) (ν n)).run prog w=.ok () (w.setCell ⟨g,off,none⟩ (ν n)):=by
  have u3:=υ3
  have a3:=Tryz.isAgg3
  have z3:=Tryz.sizeOf3
  go_simp
theorem Gn {P:Program} {s:Sem Unit} {w w':World} (h:s.run P w=.ok () w'):(do s;pure Next.skip:Sem Next).run P w=.ok .skip w':=by
  rw [Sem.run_bind,h];rfl
theorem DJ {P:Program} {ops:Array Oper} {Q:Exit→Act→World→Prop} {rest:List Oper} {o:Oper} {a:Act} {w w':World} {N:Nat} {l:List (Nat×Value)} (h:Kn N l a) (hw:Region.wanted o (yielded ops a.tmps)=true) (hd:o.dst=none)
    (hr:(execOp a.eval o).run P w=.ok .skip w') (k:∀ a',Kn N l a'→wpList P ops Q rest a' w'):wpList P ops Q (o::rest) a w:=by
  refine wpList_step fun K hK=>?_
  rw [if_pos hw]
  unfold Oper.wp
  rw [hr,Oper.upon_skip,hd]
  exact hK _ _ (k _ h)
theorem Fb (x y:Operand) (i j k:Int) (hk:i-j=k) (h1:-9223372036854775808≤k) (h2:k≤9223372036854775807) (w:World):(do eqGuard .sub 3 x y (ν i) (ν j);binOp .sub 3 (ν i) (ν j):Sem Value).run prog w=.ok (ν k) w:=by
  have u3:=υ3
  have a3:=Tryz.isAgg3
  have z3:=Tryz.sizeOf3
  subst hk
  have e1:IntKind.i64.wrap (i-j)=i-j:=IntWalk.i64_in _ ω
  go_simp
theorem NU (x y:Operand) (i j k:Int) (hk:i+j=k) (h1:-9223372036854775808≤k) (h2:k≤9223372036854775807) (w:World):(do eqGuard .add 3 x y (ν i) (ν j);binOp .add 3 (ν i) (ν j):Sem Value).run prog w=.ok (ν k) w:=by
  have u3:=υ3
  have a3:=Tryz.isAgg3
  have z3:=Tryz.sizeOf3
  subst hk
  have e1:IntKind.i64.wrap (i+j)=i+j:=IntWalk.i64_in _ ω
  go_simp
theorem Lw (s:ByteArray) (cap:Nat):bytesRow s cap=((s.data.toList.map Ag)++List.replicate (cap-s.size) (Value.int .u8 0)).toArray:=by
  apply Array.ext'
  simp [bytesRow,Ag]
theorem Ng (w:World) (s:ByteArray) (hs:s.size≤1000000) :
    Bo (w.alloc (.cells (bytesRow s (grownCap w s.size 0 5)) 5 ((bytesRow s (grownCap w s.size 0 5)).size,(bytesRow s (grownCap w s.size 0 5)).size+1))).drew (some ⟨w.heap.size,0,none⟩) (grownCap w s.size 0 5) s.data.toList:=by
  have hlen:s.data.toList.length=s.size:=by simp
  have hge:=grownCap_ge w s.size 0 5
  have hcm:grownCap w s.size 0 5≤maxLen:=grownCap_le_maxLen w s.size 0 5 (by unfold maxLen;omega)
  refine Row.drew (w:=w.alloc _) ⟨by simp,ω,hcm,(fun h=>by cases h),fun _=>⟨w.heap.size,0,rfl,by simp,fun j u hu=>?_⟩⟩
  have hh:=heap_alloc_new w (.cells (bytesRow s (grownCap w s.size 0 5)) 5 ((bytesRow s (grownCap w s.size 0 5)).size,(bytesRow s (grownCap w s.size 0 5)).size+1))
  unfold World.cell?
  rw [show (⟨w.heap.size,0+j,none⟩:Addr).block=w.heap.size from rfl,hh]
  have hj:=(List.getElem?_eq_some_iff.1 hu).1
  simp only [Nat.zero_add,Option.isSome_none,Bool.false_eq_true,if_false]
  rw [Lw]
  rw [List.getElem?_toArray,List.getElem?_append_left hj]
  exact hu
theorem GK (W:World) (l:Λ) (hl:l.length≤1000000):∃ c W',(convert 9 74 (Ap l)).run prog W=.ok (.slice (some ⟨W.heap.size,0,none⟩) l.length c) W'∧Bo W' (some ⟨W.heap.size,0,none⟩) c l∧Below W.heap.size W W':=by
  have h1:=run_bytes_of_string (P:=prog) W 9 74 5 (bsB l) υ9 υ74 υ5
  have h2:=Ng W (bsB l) (by rw [Cr];exact hl)
  rw [Gs] at h2
  rw [Cr] at h1
  exact ⟨_,_,h1,h2,((Below.refl _ W).alloc (Nat.le_refl _) _).drew⟩
theorem Fm {P:Program} {ops:Array Oper} {Q:Exit→Act→World→Prop} {rest:List Oper} {o:Oper} {a:Act} {w:World} {N:Nat} {l:List (Nat×Value)} (h:Kn N l a) (hw:Region.wanted o (yielded ops a.tmps)=true) {d:Nat} (hd:o.dst=some d) (hdN:d<N) (hf:∀ x∈l,x.1≠d)
    {fn:FuncId} (hcf:∀ args,(callFunc fn args).run P w=.ok (.enter fn args) w) {y:Operand} {xs:Array Operand} {ts:Array TypeId} (p:o.op=.call { callee:=.value y,args:=xs,argTypes:=ts }) (vs caps:Array Value) (hy:a.eval y=.func (.func fn) #[] caps) (hx:xs.map a.eval=vs)
    {R:Value→World→Prop} (HC:Calls P fn (vs++caps) w fun e w'=>∃ v,e=.returned v∧R v w') (k:∀ a' v w',R v w'→Kn N ((d,v)::l) a'→wpList P ops Q rest a' w'):wpList P ops Q (o::rest) a w:=by
  refine wpList_step fun K hK=>?_
  rw [if_pos hw]
  have hrun:(execOp a.eval o).run P w=.ok (.enter fn (vs++caps)) w:=by
    unfold execOp;rw [p]
    simp [resolve,invoke,Deferred.ofValue,hx,hy,hcf]
  unfold Oper.wp
  rw [hrun,Oper.upon_enter]
  refine HC.mono ?_
  rintro e w' ⟨v,rfl,hv⟩
  simp only
  refine hK _ _ ?_
  rw [hd]
  exact k _ v w' hv (h.put hdN hf v)
theorem Ps {w:World} {g off:Nat} {f:Fn} {x y:Array Value} (h:w.cell? ⟨g,off,none⟩=some (.func f x y)):(Instr.loadAt 193 (.pointer (some ⟨g,off,none⟩))).run prog w=.ok (.func f x y) w:=by
  have u3:=υ193
  have a3:=Tryz.isAgg193
  have z3:=Tryz.sizeOf193
  go_simp
end
section
theorem OM {w:World} {Bb Ba Bs:Nat} {a:Ω} {c:Nat} {xs:Λ} {s:DS} (h0:DIn w Bb Ba Bs a c xs s) (hR:∀ W,Turns (fun k=>k=Ba∨k=Bs) w W→Bo W a c xs) (hl:xs.length≤1000000) (n:Nat) (hn:n≤1000000) :
    Calls prog 124 #[ν (n:Int),π Bs,π Bb,π Ba] w fun e w'=>∃ v,e=.returned v∧v=Ap (Br xs s n).1∧DIn w' Bb Ba Bs a c xs (Br xs s n).2∧Turns (fun k=>k=Ba∨k=Bs) w w':=by
  have hat:=h0.at_
  have H0:=hid h0
  have HR:=hid hR
  clear h0 hR
  go_enter func124,ntmps124
  iterate 3 go_step
  refine AU (N:=26) (l:=[(0,ν (n:Int)),(1,π Bs),(2,π Bb),(3,π Ba)]) ⟨rfl,(by intro x hx;simp only [List.mem_cons,List.not_mem_nil,or_false] at hx;rcases hx with rfl | rfl | rfl | rfl<;>rfl),rfl⟩ fun a2 h1=>wv h1 rfl rfl rfl rfl (Ap []) (by unfold execOp;rfl) fun a4 h3=>?_
  iterate 3 go_step
  cases hno:s.no with
  | true=>
    have hbad:Br xs s n=([],⟨s.at_,true⟩):=by unfold Br;rw [if_pos (Or.inl hno)]
    iterate 3 go_step
    refine wv h3 rfl rfl rfl rfl (.bool true) (by unfold execOp;simp only [h3.ev 1 rfl];exact Ad (Ew (by have z:=H0.out.f.cell (i:=0) (by simp);rw [hno] at z;exact z))) fun a6 h5=>mv h5 rfl fun _ h7=>AG h7 (by rw [Ac (g:=1) (want:=false) (b:=true) rfl (h7.yields (prev:=7) rfl (by simp))];rfl) rfl (by decide) (fr rfl) fun a1 h9=>AG h9 (by rw [Ac (g:=1) (want:=false) (b:=true) rfl (h9.yields (prev:=7) rfl (by simp))];rfl) rfl (by decide) (fr rfl) fun a3 h2=>AG h2 (by rw [Ac (g:=1) (want:=false) (b:=true) rfl (h2.yields (prev:=7) rfl (by simp))];rfl) rfl (by decide) (fr rfl) fun a5 h4=>AG h4 (by rw [Ac (g:=1) (want:=false) (b:=true) rfl (h4.yields (prev:=7) rfl (by simp))];rfl) rfl (by decide) (fr rfl) fun a7 h6=>AG h6 (by rw [Ac (g:=1) (want:=false) (b:=true) rfl (h6.yields (prev:=7) rfl (by simp))];rfl) rfl (by decide) (fr rfl) fun a8 h8=>AG h8 (by rw [Ac (g:=1) (want:=false) (b:=true) rfl (h8.yields (prev:=7) rfl (by simp))];rfl) rfl (by decide) (fr rfl) fun a9 h10=>wv h10 rfl rfl rfl rfl (.bool true) (Bf rfl (h10.ev 7 rfl) rfl) fun a10 h11=>?_
    obtain ⟨w1,hw1⟩:∃ x,x=w.setCell ⟨Bs,0,none⟩ (.bool true):=⟨_,rfl⟩
    have H1:Hid (DIn w1 Bb Ba Bs a c xs ⟨s.at_,true⟩):=hid (by rw [hw1];exact H0.out.setS _)
    have T1:Hid (Turns (fun k=>k=Ba∨k=Bs) w w1):=hid (by rw [hw1];exact (GZ w Bs 0 _).mono (fun _ q=>.inr q))
    refine DJ h11 (wn rfl) rfl (w':=w1) (by rw [hw1];unfold execOp;simp only [h11.ev 1 rfl,h11.ev 14 rfl];exact Gn (LQ (H0.out.f.cell (i:=0) (by simp)) (H0.out.f.frozen 0) _)) fun a11 h12=>h12.sk [5,0,1,2,3] rfl fun h13=>?_
    iterate 5 go_step
    refine wv h13 rfl rfl rfl rfl (.bool true) (by unfold execOp;simp only [h13.ev 1 rfl];exact Ad (Ew (by have z:=H1.out.f.cell (i:=0) (by simp);rw [show (⟨s.at_,true⟩:DS).no=true from rfl] at z;exact z))) fun a12 h14=>?_
    iterate 3 go_step
    refine wp_cond (t:=true) (h14.ev 15 rfl) ?_
    simp only [if_true]
    refine h14.sk [5,0,1,2,3] rfl fun h15=>?_
    iterate 2 go_step
    refine h15.sk [0,1,2,3] rfl fun h16=>wv h16 rfl rfl rfl rfl (Ap []) (by unfold execOp;rfl) fun a13 h17=>?_
    iterate 4 go_step
    simp only [Exit.then,Exit.inBlock]
    show bodyPost _ _ _ Exit.ret _ _
    refine bodyPost_ret (AJ rfl (h17.known (5,Ap []) (by simp))) h17.defs ?_
    refine ⟨_,rfl,?_,?_,T1.out⟩
    · rw [hbad]
    · rw [hbad];exact H1.out
  | false=>
    by_cases hlt:xs.length<s.at_+n
    · have hgt:decide (((xs.length-s.at_:Nat):Int)<(n:Int))=true:=decide_eq_true ω
      have hbad:Br xs s n=([],⟨s.at_,true⟩):=by unfold Br;rw [if_pos (Or.inr hlt)]
      iterate 3 go_step
      refine wv h3 rfl rfl rfl rfl (.bool false) (by unfold execOp;simp only [h3.ev 1 rfl];exact Ad (Ew (by have z:=H0.out.f.cell (i:=0) (by simp);rw [hno] at z;exact z))) fun a14 h18=>mv h18 rfl fun _ h19=>Ak h19 (by rw [Ac (g:=1) (want:=false) (b:=false) rfl (h19.yields (prev:=7) rfl (by simp))];rfl) rfl (by decide) (fr rfl) (ν (n:Int)) (by unfold execOp;simp only [h19.ev 0 rfl];rfl) fun a15 h20=>Ak h20 (by rw [Ac (g:=1) (want:=false) (b:=false) rfl (h20.yields (prev:=7) rfl (by simp))];rfl) rfl (by decide) (fr rfl) (.slice a xs.length c) (by unfold execOp;simp only [h20.ev 2 rfl];exact Ad (Pu (H0.out.b.cell (i:=0) (by simp)))) fun a16 h21=>Ak h21 (by rw [Ac (g:=1) (want:=false) (b:=false) rfl (h21.yields (prev:=7) rfl (by simp))];rfl) rfl (by decide) (fr rfl) (ν (xs.length:Int)) (DQ rfl (h21.ev 9 rfl) _) fun a17 h22=>Ak h22 (by rw [Ac (g:=1) (want:=false) (b:=false) rfl (h22.yields (prev:=7) rfl (by simp))];rfl) rfl (by decide) (fr rfl) (ν (s.at_:Int)) (by unfold execOp;simp only [h22.ev 3 rfl];exact Ad (BP (H0.out.p.cell (i:=0) (by simp)))) fun a18 h23=>Ak h23 (by rw [Ac (g:=1) (want:=false) (b:=false) rfl (h23.yields (prev:=7) rfl (by simp))];rfl) rfl (by decide) (fr rfl) (ν ((xs.length-s.at_:Nat):Int)) (by unfold execOp;simp only [h23.ev 10 rfl,h23.ev 11 rfl];exact Ad (Fb _ _ _ _ _ ω ω ω _)) fun a19 h24=>Ak h24 (by rw [Ac (g:=1) (want:=false) (b:=false) rfl (h24.yields (prev:=7) rfl (by simp))];rfl) rfl (by decide) (fr rfl) (.bool true) (by unfold execOp;simp only [h24.ev 8 rfl,h24.ev 12 rfl];exact Ad (FL _ _ _ _ _ hgt)) fun a20 h25=>wv h25 rfl rfl rfl rfl (.bool true) (Bf rfl (h25.ev 7 rfl) (by rw [if_neg (by simp)];exact h25.ev 13 rfl)) fun a21 h26=>?_
      obtain ⟨w1,hw1⟩:∃ x,x=w.setCell ⟨Bs,0,none⟩ (.bool true):=⟨_,rfl⟩
      have H1:Hid (DIn w1 Bb Ba Bs a c xs ⟨s.at_,true⟩):=hid (by rw [hw1];exact H0.out.setS _)
      have T1:Hid (Turns (fun k=>k=Ba∨k=Bs) w w1):=hid (by rw [hw1];exact (GZ w Bs 0 _).mono (fun _ q=>.inr q))
      refine DJ h26 (wn rfl) rfl (w':=w1) (by rw [hw1];unfold execOp;simp only [h26.ev 1 rfl,h26.ev 14 rfl];exact Gn (LQ (H0.out.f.cell (i:=0) (by simp)) (H0.out.f.frozen 0) _)) fun a22 h27=>h27.sk [5,0,1,2,3] rfl fun h28=>?_
      iterate 5 go_step
      refine wv h28 rfl rfl rfl rfl (.bool true) (by unfold execOp;simp only [h28.ev 1 rfl];exact Ad (Ew (by have z:=H1.out.f.cell (i:=0) (by simp);rw [show (⟨s.at_,true⟩:DS).no=true from rfl] at z;exact z))) fun a23 h29=>?_
      iterate 3 go_step
      refine wp_cond (t:=true) (h29.ev 15 rfl) ?_
      simp only [if_true]
      refine h29.sk [5,0,1,2,3] rfl fun h30=>?_
      iterate 2 go_step
      refine h30.sk [0,1,2,3] rfl fun h31=>wv h31 rfl rfl rfl rfl (Ap []) (by unfold execOp;rfl) fun a24 h32=>?_
      iterate 4 go_step
      simp only [Exit.then,Exit.inBlock]
      show bodyPost _ _ _ Exit.ret _ _
      refine bodyPost_ret (AJ rfl (h32.known (5,Ap []) (by simp))) h32.defs ?_
      refine ⟨_,rfl,?_,?_,T1.out⟩
      · rw [hbad]
      · rw [hbad];exact H1.out
    · have hgt:decide (((xs.length-s.at_:Nat):Int)<(n:Int))=false:=decide_eq_false ω
      have hok:Br xs s n=((xs.drop s.at_).take n,⟨s.at_+n,false⟩):=by unfold Br;rw [if_neg (fun q=>q.elim (fun q=>by rw [hno] at q;cases q) hlt)]
      iterate 3 go_step
      refine wv h3 rfl rfl rfl rfl (.bool false) (by unfold execOp;simp only [h3.ev 1 rfl];exact Ad (Ew (by have z:=H0.out.f.cell (i:=0) (by simp);rw [hno] at z;exact z))) fun a25 h33=>mv h33 rfl fun _ h34=>Ak h34 (by rw [Ac (g:=1) (want:=false) (b:=false) rfl (h34.yields (prev:=7) rfl (by simp))];rfl) rfl (by decide) (fr rfl) (ν (n:Int)) (by unfold execOp;simp only [h34.ev 0 rfl];rfl) fun a26 h35=>Ak h35 (by rw [Ac (g:=1) (want:=false) (b:=false) rfl (h35.yields (prev:=7) rfl (by simp))];rfl) rfl (by decide) (fr rfl) (.slice a xs.length c) (by unfold execOp;simp only [h35.ev 2 rfl];exact Ad (Pu (H0.out.b.cell (i:=0) (by simp)))) fun a27 h36=>Ak h36 (by rw [Ac (g:=1) (want:=false) (b:=false) rfl (h36.yields (prev:=7) rfl (by simp))];rfl) rfl (by decide) (fr rfl) (ν (xs.length:Int)) (DQ rfl (h36.ev 9 rfl) _) fun a28 h37=>Ak h37 (by rw [Ac (g:=1) (want:=false) (b:=false) rfl (h37.yields (prev:=7) rfl (by simp))];rfl) rfl (by decide) (fr rfl) (ν (s.at_:Int)) (by unfold execOp;simp only [h37.ev 3 rfl];exact Ad (BP (H0.out.p.cell (i:=0) (by simp)))) fun a29 h38=>Ak h38 (by rw [Ac (g:=1) (want:=false) (b:=false) rfl (h38.yields (prev:=7) rfl (by simp))];rfl) rfl (by decide) (fr rfl) (ν ((xs.length-s.at_:Nat):Int)) (by unfold execOp;simp only [h38.ev 10 rfl,h38.ev 11 rfl];exact Ad (Fb _ _ _ _ _ ω ω ω _)) fun a30 h39=>Ak h39 (by rw [Ac (g:=1) (want:=false) (b:=false) rfl (h39.yields (prev:=7) rfl (by simp))];rfl) rfl (by decide) (fr rfl) (.bool false) (by unfold execOp;simp only [h39.ev 8 rfl,h39.ev 12 rfl];exact Ad (FL _ _ _ _ _ hgt)) fun a31 h40=>wv h40 rfl rfl rfl rfl (.bool false) (Bf rfl (h40.ev 7 rfl) (by rw [if_neg (by simp)];exact h40.ev 13 rfl)) fun a32 h41=>?_
      obtain ⟨w1,hw1⟩:∃ x,x=w.setCell ⟨Bs,0,none⟩ (.bool false):=⟨_,rfl⟩
      have H1:Hid (DIn w1 Bb Ba Bs a c xs ⟨s.at_,false⟩):=hid (by rw [hw1];exact H0.out.setS _)
      have T1:Hid (Turns (fun k=>k=Ba∨k=Bs) w w1):=hid (by rw [hw1];exact (GZ w Bs 0 _).mono (fun _ q=>.inr q))
      refine DJ h41 (wn rfl) rfl (w':=w1) (by rw [hw1];unfold execOp;simp only [h41.ev 1 rfl,h41.ev 14 rfl];exact Gn (LQ (H0.out.f.cell (i:=0) (by simp)) (H0.out.f.frozen 0) _)) fun a33 h42=>h42.sk [5,0,1,2,3] rfl fun h43=>?_
      iterate 5 go_step
      refine wv h43 rfl rfl rfl rfl (.bool false) (by unfold execOp;simp only [h43.ev 1 rfl];exact Ad (Ew (by have z:=H1.out.f.cell (i:=0) (by simp);rw [show (⟨s.at_,false⟩:DS).no=false from rfl] at z;exact z))) fun a34 h44=>?_
      iterate 3 go_step
      refine wp_cond (t:=false) (h44.ev 15 rfl) ?_
      simp only [Bool.false_eq_true,if_false]
      refine h44.sk [5,0,1,2,3] rfl fun h45=>?_
      iterate 5 go_step
      refine wv h45 rfl rfl rfl rfl (ν (s.at_:Int)) (by unfold execOp;simp only [h45.ev 3 rfl];exact Ad (BP (H1.out.p.cell (i:=0) (by simp)))) fun a35 h46=>mv h46 rfl fun _ h47=>wv h47 rfl rfl rfl rfl (ν ((s.at_+n:Nat):Int)) (by unfold execOp;simp only [h47.ev 16 rfl,h47.ev 17 rfl];exact Ad (NU _ _ _ _ _ ω ω ω _)) fun a36 h48=>?_
      obtain ⟨w2,hw2⟩:∃ x,x=w1.setCell ⟨Ba,0,none⟩ (ν ((s.at_+n:Nat):Int)):=⟨_,rfl⟩
      have H2:Hid (DIn w2 Bb Ba Bs a c xs ⟨s.at_+n,false⟩):=hid (by rw [hw2];exact H1.out.setA _ ω)
      have T2:Hid (Turns (fun k=>k=Ba∨k=Bs) w w2):=hid (by rw [hw2];exact T1.out.trans ((GZ w1 Ba 0 _).mono (fun _ q=>.inl q)))
      refine DJ h48 (wn rfl) rfl (w':=w2) (by rw [hw2];unfold execOp;simp only [h48.ev 3 rfl,h48.ev 18 rfl];exact Gn (Vk (H1.out.p.cell (i:=0) (by simp)) (H1.out.p.frozen 0) _)) fun a37 h49=>h49.sk [5,0,1,2,3] rfl fun h50=>?_
      iterate 5 go_step
      refine wv h50 rfl rfl rfl rfl (.slice a xs.length c) (by unfold execOp;simp only [h50.ev 2 rfl];exact Ad (Pu (H2.out.b.cell (i:=0) (by simp)))) fun a38 h51=>wv h51 rfl rfl rfl rfl (ν ((s.at_+n:Nat):Int)) (by unfold execOp;simp only [h51.ev 3 rfl];exact Ad (BP (H2.out.p.cell (i:=0) (by simp)))) fun a39 h52=>mv h52 rfl fun _ h53=>wv h53 rfl rfl rfl rfl (ν (s.at_:Int)) (by unfold execOp;simp only [h53.ev 20 rfl,h53.ev 21 rfl];exact Ad (Fb _ _ _ _ _ ω ω ω _)) fun a40 h54=>wv h54 rfl rfl rfl rfl (ν ((s.at_+n:Nat):Int)) (by unfold execOp;simp only [h54.ev 3 rfl];exact Ad (BP (H2.out.p.cell (i:=0) (by simp)))) fun a41 h55=>?_
      obtain ⟨dp,hsl,hrow⟩:=Acz (HR.out w2 T2.out) s.at_ (s.at_+n) ω ω
      rw [show s.at_+n-s.at_=n by omega] at hsl hrow
      have hyl:((xs.drop s.at_).take n).length=n:=by simp;omega
      refine wv h55 rfl rfl rfl rfl (.slice dp n (c-s.at_)) (by unfold execOp;simp only [Option.map_some,Option.map_none,h55.ev 19 rfl,h55.ev 22 rfl,h55.ev 23 rfl];exact Ad (hsl _)) fun a42 h56=>wv h56 rfl rfl rfl rfl (Ap ((xs.drop s.at_).take n)) (by unfold execOp;simp only [h56.ev 24 rfl];exact Ad (by have z:=GX hrow;rw [hyl] at z;exact z)) fun a43 h57=>h57.sk [25,24,23,22,21,20,19,0,1,2,3] rfl fun h58=>mv h58 rfl fun _ h59=>h59.sk [5,0,1,2,3] rfl fun h60=>?_
      iterate 4 go_step
      refine bodyPost_ret (AJ rfl (h60.known (5,Ap ((xs.drop s.at_).take n)) (by simp))) h60.defs ?_
      refine ⟨_,rfl,?_,?_,T2.out⟩
      · rw [hok]
      · rw [hok];exact H2.out
def Ny (Bs Bb Ba:Nat):Value:=.func (.func 124) #[] #[π Bs,π Bb,π Ba]
theorem Ts {w:World} {Bb Ba Bs Bt:Nat} {a:Ω} {c:Nat} {xs:Λ} {s:DS} (h0:DIn w Bb Ba Bs a c xs s) (ht:Blk w Bt 193 [Ny Bs Bb Ba]) (hR:∀ W,Turns (fun k=>k=Ba∨k=Bs) w W→Bo W a c xs) (hl:xs.length≤1000000) (n:Nat) (hn:n≤8) :
    Calls prog 125 #[ν (n:Int),π Bt] w fun e w'=>∃ v,e=.returned v∧v=ν ((Bq xs s n).1:Int)∧DIn w' Bb Ba Bs a c xs (Bq xs s n).2∧Turns (fun k=>k=Ba∨k=Bs) w w':=by
  have HT:=hid (OM h0 hR hl n ω)
  have ct:=ht.cell (i:=0) (by simp)
  simp only [List.getElem_cons_zero] at ct
  unfold Ny at ct
  have hyl:(Br xs s n).1.length≤1000000:=by
    unfold Br;split
    · exact Nat.zero_le _
    · show ((xs.drop s.at_).take n).length≤_;rw [List.length_take];omega
  unfold Bq
  obtain ⟨ys,hys⟩:∃ ys,ys=(Br xs s n).1:=⟨_,rfl⟩
  obtain ⟨s2,hs2⟩:∃ s2,s2=(Br xs s n).2:=⟨_,rfl⟩
  rw [← hys,← hs2] at HT ⊢
  rw [← hys] at hyl
  clear h0 ht hR hys hs2
  go_enter func125,ntmps125
  iterate 3 go_step
  refine AU (N:=16) (l:=[(0,ν (n:Int)),(1,π Bt)]) ⟨rfl,(by intro x hx;simp only [List.mem_cons,List.not_mem_nil,or_false] at hx;rcases hx with rfl | rfl<;>rfl),rfl⟩ fun a2 h1=>mv h1 rfl fun _ h3=>?_
  iterate 5 go_step
  refine wv h3 rfl rfl rfl rfl (.func (.func 124) #[] #[π Bs,π Bb,π Ba]) (by unfold execOp;simp only [h3.ev 1 rfl];exact Ad (Ps ct)) fun a6 h5=>mv h5 rfl fun _ h7=>Fm h7 (wn rfl) rfl (by decide) (fr rfl) (fun args=>cF func124 (args:=args) (w:=_)) rfl #[ν (n:Int)] #[π Bs,π Bb,π Ba] (h7.ev 7 rfl) (by simp only [List.map_toArray,List.map_cons,List.map_nil,h7.ev 8 rfl]) (R:=fun v w'=>v=Ap ys∧DIn w' Bb Ba Bs a c xs s2∧Turns (fun k=>k=Ba∨k=Bs) w w') HT.out fun a1 v1 w1 r1 h9=>?_
  obtain ⟨rfl,q1,q2⟩:=r1
  have HD:=hid q1;have TN:=hid q2;clear q1 q2
  obtain ⟨yc,w2,hcv,hrow,b2⟩:=GK w1 ys hyl
  refine wv h9 rfl rfl rfl rfl (.slice (some ⟨w1.heap.size,0,none⟩) ys.length yc) (by unfold execOp;simp only [h9.ev 9 rfl];exact Ad hcv) fun a3 h2=>?_
  have HD2:=hid (HD.out.mono b2);have TN2:=hid (TN.out.trans (Turns.of_below b2));have HRW:=hid hrow;clear b2 hrow hcv
  refine mv h2 rfl fun _ h4=>AO h4 (wn rfl) rfl (by decide) (fr rfl) (fun args=>cF func69 (args:=args) (w:=_)) rfl #[.slice (some ⟨w1.heap.size,0,none⟩) ys.length yc,ν 0,ν (n:Int)] (by simp only [List.map_toArray,List.map_cons,List.map_nil,h4.ev 10 rfl,h4.ev 11 rfl];rfl) (R:=fun v w'=>v=Lu (AW ys 0 n)∧w2=w') ((Ef (some ⟨w1.heap.size,0,none⟩) yc ys 0 (n:Int) w2 HRW.out ω).mono fun e w' q=>⟨_,q.1,rfl,q.2⟩) fun a4 v3 w3 r3 h6=>?_
  obtain ⟨rfl,rfl⟩:=r3
  refine mv h6 rfl fun _ h8=>wv h8 rfl rfl rfl rfl (ν (((AW ys 0 n).getD 0:Nat):Int)) (by unfold execOp;simp only [h8.ev 6 rfl];exact rfl) fun a5 h10=>wv h10 rfl rfl rfl rfl (.bool (AW ys 0 n).isSome) (by unfold execOp;simp only [h10.ev 6 rfl];exact rfl) fun a7 h11=>mv h11 rfl fun _ h12=>mv h12 rfl fun _ h13=>h13.sk [4,3,0,1] rfl fun h14=>?_
  iterate 5 go_step
  refine mv h14 rfl fun _ h15=>h15.sk [15,4,0,1] rfl fun h16=>mv h16 rfl fun _ h17=>h17.sk [3,4,0,1] rfl fun h18=>?_
  iterate 4 go_step
  refine bodyPost_ret (AJ rfl (h18.known (3,ν (((AW ys 0 n).getD 0:Nat):Int)) (by simp))) h18.defs ?_
  exact ⟨_,rfl,rfl,HD2.out,TN2.out⟩
end
end Go.Proofs.YtbfgjinpchbajaaGreatDoor
