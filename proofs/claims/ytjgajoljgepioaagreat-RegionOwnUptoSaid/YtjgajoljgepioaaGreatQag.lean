/- Parts of the proof. -/
import Derived.Laws.StructEq
import Derived.RowKit
import Derived.Test.YtjgajoljgepioaaGreatQaf
namespace Go.Proofs.YtjgajoljgepioaaGreat
open Go.RowKit
set_option linter.unusedSimpArgs false
set_option linter.unusedVariables false
set_option linter.unusedSectionVars false
set_option maxRecDepth 100000
set_option maxHeartbeats 8000000
section
theorem OI {W0 w:World} {g pk:Nat} {a:Option Addr} {c:Nat} {xs:List UInt8} {s:RM} (h:RdP W0 w g pk a c xs none 0 0 s) (hE:Cx s) (r0:BB W0 a c xs) (hg:W0.heap.size≤g) (hpk:W0.heap.size≤pk) (hl:xs.length≤1000000) :
    Calls Tryz.prog 49 #[π g,π pk] w fun e w'=>e=.returned (.tuple #[])∧NmP W0 w' g pk a c xs (Bm xs s)∧Turns (fun x=>x=g∨x=pk) w w':=by
  by_cases k1:(BT xs s).P.I 0=1
  · exact So h hE r0 hg hpk hl k1
  by_cases k2:(BT xs s).P.I 0=2
  · exact Sq h hE r0 hg hpk hl k2
  by_cases k3:(BT xs s).P.I 0=3
  · exact Sr h hE r0 hg hpk hl k3
  by_cases k4:(BT xs s).P.I 0=4
  · exact Ss h hE r0 hg hpk hl k4
  by_cases k5:(BT xs s).P.I 0=5
  · exact St h hE r0 hg hpk hl k5
  exact No h hE r0 hg hpk hl (by unfold Fo;rw [if_neg k1,if_neg k2,if_neg k3,if_neg k4,if_neg k5])
theorem Bq:(Tryz.prog.info? 39).map (·.size)=some 43:=κ
def CI:Array Value:=#[ν 0,ν 0,ν 0,ν 0,ν 0,ν 0,ν 0,.string ⟨#[]⟩,ν 0,ν 0,ν 0,.string ⟨#[]⟩,.string ⟨#[]⟩,
   ν 0,ν 0,ν 0,ν 0,.string ⟨#[]⟩,ν 0,ν 0,ν 0,ν 0,.string ⟨#[]⟩,.slice none 0 0,ν 0,ν 0,ν 0,
   ν 0,ν 0,ν 0,ν 0,ν 0,ν 0,ν 0,ν 0,ν 0,ν 0,ν 0,ν 0,ν 0,ν 0,ν 0,ν 0]
theorem EE:CI=(pkC P0z none 0 0).toArray:=rfl
theorem Hc (P:PkM) (a:Option Addr) (n c:Nat):∀ v∈pkC P a n c,v.oneCell'=true:=by
  intro v hv
  have:((pkC P a n c).all fun v=>v.oneCell')=true:=rfl
  exact List.all_eq_true.1 this v hv
theorem Dj {o:Oper} (ho:o.op=.alloc 39) (ρ:Operand→Value) (w:World):(execOp ρ o).run Tryz.prog w=.ok (.value (π w.heap.size)) (w.alloc (.cells CI 39)):=by
  unfold execOp;rw [ho];kernel_rfl
theorem Pi {o:Oper} (ho:o.op=.build 39 #[]) (ρ:Operand→Value) (w:World):(execOp ρ o).run Tryz.prog w=.ok (.value (.agg CI)) w:=by
  unfold execOp;rw [ho];kernel_rfl
theorem DU {w:World} {ops:Array Oper} {rest:List Oper} {o:Oper} {act:Act} {Q:Exit→Act→World→Prop} (hgd:o.guard=none) (ho:o.op=.alloc 39)
    (h:∀ w',Blk w' w.heap.size 39 (pkC P0z none 0 0)→Below w.heap.size w w'→w'.heap.size=w.heap.size+1→wpList Tryz.prog ops Q rest (act.put o.dst (π w.heap.size)) w'):wpList Tryz.prog ops Q (o::rest) act w:=by
  refine Kk hgd _ _ (Dj ho _ w) ?_
  exact h _ (by rw [EE];exact AP rfl _ _) (CQ _ _) (by simp)
theorem PA {w:World} {ops:Array Oper} {rest:List Oper} {o:Oper} {act:Act} {Q:Exit→Act→World→Prop} (hgd:o.guard=none) (ho:o.op=.build 39 #[])
    (h:wpList Tryz.prog ops Q rest (act.put o.dst (.agg (pkC P0z none 0 0).toArray)) w):wpList Tryz.prog ops Q (o::rest) act w:=by
  refine Kk hgd _ _ (Pi ho _ w) ?_
  rw [EE];exact h
theorem Jj {w:World} {ops:Array Oper} {rest:List Oper} {o:Oper} {act:Act} {Q:Exit→Act→World→Prop} (hgd:o.guard=none) (x:Operand)
    (ho:o.op=.load 39 x) (g:Nat) (hx:act.eval x=π g) {e:TypeId} {P:PkM} {a:Option Addr} {n c:Nat} (hb:Blk w g e (pkC P a n c))
    (h:wpList Tryz.prog ops Q rest (act.put o.dst (.agg (pkC P a n c).toArray)) w):wpList Tryz.prog ops Q (o::rest) act w:=
  wpList_load_mid hgd 39 x ho g 0 hx (pkC P a n c) _ hb.range υ39 rfl (by rw [Bq];rfl) h
theorem FT {w:World} {ops:Array Oper} {rest:List Oper} {o:Oper} {act:Act} {Q:Exit→Act→World→Prop} (hgd:o.guard=none) (x y:Operand)
    (ho:o.op=.store 39 x y) (g:Nat) (hx:act.eval x=π g) {e:TypeId} (P:PkM) (a:Option Addr) (n c:Nat) (hy:act.eval y=.agg (pkC P a n c).toArray) {L:List Value} (hb:Blk w g e L) (hL:L.length=43)
    (h:∀ w',Blk w' g e (pkC P a n c)→w.grownBy w' (some g)→wpList Tryz.prog ops Q rest (act.put o.dst undef) w'):wpList Tryz.prog ops Q (o::rest) act w:=
  QP hgd 39 x y ho g hx (pkC P a n c) hy (by rw [Bq];rfl) (Hc _ _ _ _) hb (by rw [hL];rfl) h
theorem Jz {w w':World} {B g:Nat} {e t:TypeId} {sz:Nat} {a:Option Addr} {n c:Nat} {cs L:List Value} (h:Own w B e sz a n c cs) (hb:Blk w g t L) (G:w.grownBy w' (some g)) (hne:e≠t:=by decide):Own w' B e sz a n c cs:=by
  rcases h.2 with ⟨hv,hn⟩ | ⟨k,cap,cur,hv,_,hk,_⟩
  · cases hv
    obtain rfl:cs=[]:=List.eq_nil_of_length_eq_zero (by simpa using h.1)
    exact Own.nil _ _ _ _
  · cases hv
    refine h.staysO G (Or.inr ?_)
    intro q
    simp only [Value.ownBlock,Option.some.injEq] at q
    subst q
    unfold Blk at hb
    rw [hb] at hk
    simp only [Option.some.injEq,Obj.cells.injEq] at hk
    exact hne hk.2.1.symm
def dP (xs:List UInt8):PkM:=(RN xs).getD P0z
def dE (xs:List UInt8):Int:=if (RN xs).isSome then 0 else 2
def PkO (w w':World) (P:PkM) (na:Option Addr) (nc:Nat):Prop:=Own w' w.heap.size 9 1 na P.N.length nc (P.N.map AS)∧Below w.heap.size w w'
theorem PJ {w:World} {a:Option Addr} {c:Nat} {xs:List UInt8} (r0:BB w a c xs) (hl:xs.length≤1000000) :
    Calls Tryz.prog 50 #[.slice a xs.length c] w fun e w'=>∃ na nc,e=.returned (.tuple #[.agg (pkC (dP xs) na (dP xs).N.length nc).toArray,ν (dE xs)])∧PkO w w' (dP xs) na nc:=by
  have hd:=UP xs
  have hE0:Cx ⟨0,false,P0z⟩:=⟨rfl,fun _=>rfl⟩
  have HG:=fun (w3:World) (cg pp:Nat) (h:RdP w w3 cg pp a c xs none 0 0 ⟨0,false,P0z⟩) h1 h2=>OI h hE0 r0 h1 h2 hl
  unfold VW at hd
  generalize Bm xs ⟨0,false,P0z⟩=s at *
  obtain ⟨okb,hok⟩:∃ okb,decide (s.at_=xs.length)=okb:=⟨_,rfl⟩
  rw [hok] at hd
  have HGG:=hid HG;have R0:=hid r0
  clear r0 HG
  obtain ⟨sat,sno,sP⟩:=s
  simp only at hd hok
  have hne:((sat:Int) != (xs.length:Int))=!okb:=by
    rw [← hok]
    by_cases e:sat=xs.length
    · rw [decide_eq_true e,e];simp
    · rw [decide_eq_false e];simp;omega
  clear hok
  have t1:True:=trivial
  have t2:True:=trivial
  cases hb:(!sno&&okb) with
  | true=>
    obtain ⟨rfl,rfl⟩:sno=false∧okb=true:=by cases sno<;>cases okb<;>simp at hb ⊢
    simp only [Bool.not_false,Bool.true_and,if_true] at hd
    have e1:dP xs=sP:=by unfold dP;rw [hd];rfl
    have e2:dE xs=0:=by unfold dE;rw [hd];rfl
    rw [e1,e2]
    clear hd hb e1 e2
    go_enter Tryz.func50,Tryz.ntmps50
    go_wp2_with (first
      | (have _t:=t1;(with_reducible refine DU rfl rfl ?_);clear t1;intro w1 k1 b1 s1;have K1:=hid k1;have B1:=hid b1;clear k1 b1)
      | (have _t:=t2;(with_reducible refine DU rfl rfl ?_);clear t2;intro w2 k2 b2 s2;have K2:=hid k2;have B2:=hid b2;clear k2 b2))
    have kc:Blk w2 w1.heap.size 107 [.bool false,.slice a xs.length c,ν 0,.bool false]:=(AP rfl _ _:Blk (w1.alloc (.cells _ 107)) w1.heap.size 107 [.bool false,.slice a xs.length c,ν 0,.bool false]).mono B2.out
    have bw:Below w.heap.size w w2:=(AT B1.out _).trans (B2.out.mono (AT B1.out _).size)
    have hsz:(w1.alloc (.cells #[.bool false,.slice a xs.length c,ν 0,.bool false] 107)).heap.size=w.heap.size+1+1:=by simp;omega
    rw [hsz] at K2
    rw [s1] at kc
    have BW:=hid bw
    have z0:Blk w2 w.heap.size 39 (pkC P0z none 0 0):=(K1.out.mono (CQ w1 _)).mono B2.out
    have Z0:=hid z0
    refine (HGG.out w2 _ _ ⟨kc,⟨Nat.zero_le _,fun _=>Nat.zero_le _⟩,K2.out,bw⟩ ω ω).mono ?_
    rintro e w3 ⟨rfl,⟨na,nc,⟨q1,q2,q3,q4⟩,q5⟩,t3⟩
    have x2:=(show Blk w3 (w.heap.size+1) 107 _ from q1).cell (i:=2) (by simp)
    have x3:=(show Blk w3 (w.heap.size+1) 107 _ from q1).cell (i:=3) (by simp)
    simp only [List.getElem_cons_zero,List.getElem_cons_succ] at x2 x3
    have Z3:=hid (t3.blk Z0.out ω);have Q3:=hid q3;have Q4:=hid q4;have Q5:=hid q5
    clear kc bw z0 q1 q2 q3 q4 q5 t3 s2 hsz
    go_wp2_with (first
      | (with_reducible refine Jj rfl _ rfl _ rfl Q3.out ?_)
      | ((with_reducible refine FT rfl _ _ rfl w.heap.size rfl sP na sP.N.length nc rfl Z3.out rfl ?_);intro w4 k4 g4;have K4:=hid k4;have G4:=hid g4;clear k4 g4))
    refine bodyPost_ret (Gd rfl rfl K4.out υ39 rfl (by rw [Bq];rfl)) rfl ?_
    refine ⟨na,nc,rfl,Jz Q5.out Z3.out G4.out,Aq Q4.out G4.out (Nat.le_refl _) Q4.out.size⟩
  | false=>
    rw [hb,if_neg (by simp)] at hd
    have e1:dP xs=P0z:=by unfold dP;rw [hd];rfl
    have e2:dE xs=2:=by unfold dE;rw [hd];rfl
    rw [e1,e2]
    have hor:sno=true∨(sno=false∧okb=false):=by cases sno<;>cases okb<;>simp at hb ⊢
    clear hd e1 e2
    clear hb
    rcases hor with rfl | ⟨rfl,rfl⟩
    all_goals
      go_enter Tryz.func50,Tryz.ntmps50
      go_wp2_with (first
        | (have _t:=t1;(with_reducible refine DU rfl rfl ?_);clear t1;intro w1 k1 b1 s1;have K1:=hid k1;have B1:=hid b1;clear k1 b1)
        | (have _t:=t2;(with_reducible refine DU rfl rfl ?_);clear t2;intro w2 k2 b2 s2;have K2:=hid k2;have B2:=hid b2;clear k2 b2))
      have kc:Blk w2 w1.heap.size 107 [.bool false,.slice a xs.length c,ν 0,.bool false]:=(AP rfl _ _:Blk (w1.alloc (.cells _ 107)) w1.heap.size 107 [.bool false,.slice a xs.length c,ν 0,.bool false]).mono B2.out
      have bw:Below w.heap.size w w2:=(AT B1.out _).trans (B2.out.mono (AT B1.out _).size)
      have hsz:(w1.alloc (.cells #[.bool false,.slice a xs.length c,ν 0,.bool false] 107)).heap.size=w.heap.size+1+1:=by simp;omega
      rw [hsz] at K2
      rw [s1] at kc
      have BW:=hid bw
      have z0:Blk w2 w.heap.size 39 (pkC P0z none 0 0):=(K1.out.mono (CQ w1 _)).mono B2.out
      have Z0:=hid z0
      refine (HGG.out w2 _ _ ⟨kc,⟨Nat.zero_le _,fun _=>Nat.zero_le _⟩,K2.out,bw⟩ ω ω).mono ?_
      rintro e w3 ⟨rfl,⟨na,nc,⟨q1,q2,q3,q4⟩,q5⟩,t3⟩
      have x2:=(show Blk w3 (w.heap.size+1) 107 _ from q1).cell (i:=2) (by simp)
      have x3:=(show Blk w3 (w.heap.size+1) 107 _ from q1).cell (i:=3) (by simp)
      simp only [List.getElem_cons_zero,List.getElem_cons_succ] at x2 x3
      have Z3:=hid (t3.blk Z0.out ω);have Q3:=hid q3;have Q4:=hid q4;have Q5:=hid q5
      clear kc bw z0 q1 q2 q3 q4 q5 t3 s2 hsz
      go_wp2_with (first
        | (with_reducible refine PA rfl rfl ?_)
        | ((with_reducible refine FT rfl _ _ rfl w.heap.size rfl P0z none 0 0 rfl Z3.out rfl ?_);intro w4 k4 g4;have K4:=hid k4;have G4:=hid g4;clear k4 g4))
      refine bodyPost_ret (Gd rfl rfl K4.out υ39 rfl (by rw [Bq];rfl)) rfl ?_
      refine ⟨none,0,rfl,Own.nil _ _ _ _,Aq Q4.out G4.out (Nat.le_refl _) Q4.out.size⟩
end
section
open Go.RowKit Go.WideShapes
theorem Xy (x0 x1 x2 x3 y0 y1 y2 y3:Int) (w:World):(Op.equalIn 9999 34 (.agg #[ν x0,ν x1,ν x2,ν x3]) (.agg #[ν y0,ν y1,ν y2,ν y3])).run Tryz.prog w=.ok (decide ([x0,x1,x2,x3]=[y0,y1,y2,y3])) w:=by
  have u3:=υ3
  have a3:=Tryz.isAgg3
  have z3:=Tryz.sizeOf3
  rw [show (9999:Nat)=9998+1 from rfl,Op.equalIn]
  simp only [Sem.run_bind,run_underlying υ34,Result.andThen_ok]
  simp only [Std.Legacy.Range.forIn_eq_forIn_range',Std.Legacy.Range.size,Nat.sub_zero,Nat.add_sub_cancel,Nat.div_one,List.range'_succ,List.range'_zero,List.forIn_cons,List.forIn_nil]
  go_simp
  by_cases h0:x0=y0
  case neg=>simp [h0]
  by_cases h1:x1=y1
  case neg=>simp [h0,h1]
  by_cases h2:x2=y2
  case neg=>simp [h0,h1,h2]
  by_cases h3:x3=y3
  case neg=>simp [h0,h1,h2,h3]
  simp [h0,h1,h2,h3]
theorem Xz (x0 x1 x2 x3 x4 x5 x6 x7 y0 y1 y2 y3 y4 y5 y6 y7:Int) (w:World):(Op.equalIn 9999 35 (.agg #[ν x0,ν x1,ν x2,ν x3,ν x4,ν x5,ν x6,ν x7]) (.agg #[ν y0,ν y1,ν y2,ν y3,ν y4,ν y5,ν y6,ν y7])).run Tryz.prog w=.ok (decide ([x0,x1,x2,x3,x4,x5,x6,x7]=[y0,y1,y2,y3,y4,y5,y6,y7])) w:=by
  have u3:=υ3
  have a3:=Tryz.isAgg3
  have z3:=Tryz.sizeOf3
  rw [show (9999:Nat)=9998+1 from rfl,Op.equalIn]
  simp only [Sem.run_bind,run_underlying υ35,Result.andThen_ok]
  simp only [Std.Legacy.Range.forIn_eq_forIn_range',Std.Legacy.Range.size,Nat.sub_zero,Nat.add_sub_cancel,Nat.div_one,List.range'_succ,List.range'_zero,List.forIn_cons,List.forIn_nil]
  go_simp
  by_cases h0:x0=y0
  case neg=>simp [h0]
  by_cases h1:x1=y1
  case neg=>simp [h0,h1]
  by_cases h2:x2=y2
  case neg=>simp [h0,h1,h2]
  by_cases h3:x3=y3
  case neg=>simp [h0,h1,h2,h3]
  by_cases h4:x4=y4
  case neg=>simp [h0,h1,h2,h3,h4]
  by_cases h5:x5=y5
  case neg=>simp [h0,h1,h2,h3,h4,h5]
  by_cases h6:x6=y6
  case neg=>simp [h0,h1,h2,h3,h4,h5,h6]
  by_cases h7:x7=y7
  case neg=>simp [h0,h1,h2,h3,h4,h5,h6,h7]
  simp [h0,h1,h2,h3,h4,h5,h6,h7]
theorem WK (x0 x1 x2 x3 x4 x5 x6 x7 x8 x9 x10 x11 x12 x13 x14 y0 y1 y2 y3 y4 y5 y6 y7 y8 y9 y10 y11 y12 y13 y14:Int) (w:World):(Op.equalIn 10000 37 (.agg #[ν x0,ν x1,ν x2,ν x3,ν x4,ν x5,ν x6,ν x7,ν x8,ν x9,ν x10,ν x11,ν x12,ν x13,ν x14]) (.agg #[ν y0,ν y1,ν y2,ν y3,ν y4,ν y5,ν y6,ν y7,ν y8,ν y9,ν y10,ν y11,ν y12,ν y13,ν y14])).run Tryz.prog w=.ok (decide ([x0,x1,x2,x3,x4,x5,x6,x7,x8,x9,x10,x11,x12,x13,x14]=[y0,y1,y2,y3,y4,y5,y6,y7,y8,y9,y10,y11,y12,y13,y14])) w:=by
  have u3:=υ3
  have a3:=Tryz.isAgg3
  have z3:=Tryz.sizeOf3
  have u4:=υ34
  have a4:=Tryz.isAgg34
  have z4:=Tryz.sizeOf34
  have u8:=υ35
  have a8:=Tryz.isAgg35
  have z8:=Tryz.sizeOf35
  have E4:=Xy
  have E8:=Xz
  have hS:Tryz.prog.underlying 37=some (.struct (Tryz.prog.fieldsOf 37)):=κ
  have hp:Tryz.prog.stoodInHeld 37=false:=κ
  rw [show (10000:Nat)=9999+1 from rfl,run_equalIn_agg w 9999 37 _ _ hS hp]
  simp only [Program.fieldsOf,υ37]
  go_simp
  by_cases h0:x0=y0
  case neg=>simp [h0]
  by_cases h1:x1=y1
  case neg=>simp [h0,h1]
  by_cases h2:x2=y2
  case neg=>simp [h0,h1,h2]
  by_cases h3:x3=y3
  case neg=>simp [h0,h1,h2,h3]
  by_cases h4:x4=y4
  case neg=>simp [h0,h1,h2,h3,h4]
  by_cases h5:x5=y5
  case neg=>simp [h0,h1,h2,h3,h4,h5]
  by_cases h6:x6=y6
  case neg=>simp [h0,h1,h2,h3,h4,h5,h6]
  by_cases h7:x7=y7
  case neg=>simp [h0,h1,h2,h3,h4,h5,h6,h7]
  by_cases h8:x8=y8
  case neg=>simp [h0,h1,h2,h3,h4,h5,h6,h7,h8]
  by_cases h9:x9=y9
  case neg=>simp [h0,h1,h2,h3,h4,h5,h6,h7,h8,h9]
  by_cases h10:x10=y10
  case neg=>simp [h0,h1,h2,h3,h4,h5,h6,h7,h8,h9,h10]
  by_cases h11:x11=y11
  case neg=>simp [h0,h1,h2,h3,h4,h5,h6,h7,h8,h9,h10,h11]
  by_cases h12:x12=y12
  case neg=>simp [h0,h1,h2,h3,h4,h5,h6,h7,h8,h9,h10,h11,h12]
  by_cases h13:x13=y13
  case neg=>simp [h0,h1,h2,h3,h4,h5,h6,h7,h8,h9,h10,h11,h12,h13]
  by_cases h14:x14=y14
  case neg=>simp [h0,h1,h2,h3,h4,h5,h6,h7,h8,h9,h10,h11,h12,h13,h14]
  simp [h0,h1,h2,h3,h4,h5,h6,h7,h8,h9,h10,h11,h12,h13,h14]
theorem Ij (a b:ByteArray):(a.toList == b.toList)=decide (a=b):=by
  by_cases h:a=b
  · subst h;simp
  · rw [decide_eq_false h]
    exact beq_eq_false_iff_ne.2 (fun q=>h (by rw [ByteArray.toList_eq,ByteArray.toList_eq] at q;exact ByteArray.ext (Array.toList_inj.1 q)))
theorem UT (x0:Int) (x1:ByteArray) (x2:ByteArray) (x3:Int) (x4:Int) (x5:Int) (x6:Int) (x7:ByteArray) (y0:Int) (y1:ByteArray) (y2:ByteArray) (y3:Int) (y4:Int) (y5:Int) (y6:Int) (y7:ByteArray) (w:World):(Op.equalIn 10000 27 (.agg #[ν x0,.string x1,.string x2,ν x3,ν x4,ν x5,ν x6,.string x7]) (.agg #[ν y0,.string y1,.string y2,ν y3,ν y4,ν y5,ν y6,.string y7])).run Tryz.prog w=.ok (decide (x0=y0∧x1=y1∧x2=y2∧x3=y3∧x4=y4∧x5=y5∧x6=y6∧x7=y7)) w:=by
  have u3:=υ3
  have a3:=Tryz.isAgg3
  have z3:=Tryz.sizeOf3
  have u9:=υ9
  have a9:=Tryz.isAgg9
  have z9:=Tryz.sizeOf9
  have hS:Tryz.prog.underlying 27=some (.struct (Tryz.prog.fieldsOf 27)):=κ
  have hp:Tryz.prog.stoodInHeld 27=false:=κ
  rw [show (10000:Nat)=9999+1 from rfl,run_equalIn_agg w 9999 27 _ _ hS hp]
  simp only [Program.fieldsOf,υ27]
  have e1:=Ij x1 y1
  have e2:=Ij x2 y2
  have e7:=Ij x7 y7
  go_simp
  try simp only [e1,e2,e7]
  by_cases h0:x0=y0
  case neg=>simp [h0]
  by_cases h1:x1=y1
  case neg=>simp [h0,h1]
  by_cases h2:x2=y2
  case neg=>simp [h0,h1,h2]
  by_cases h3:x3=y3
  case neg=>simp [h0,h1,h2,h3]
  by_cases h4:x4=y4
  case neg=>simp [h0,h1,h2,h3,h4]
  by_cases h5:x5=y5
  case neg=>simp [h0,h1,h2,h3,h4,h5]
  by_cases h6:x6=y6
  case neg=>simp [h0,h1,h2,h3,h4,h5,h6]
  by_cases h7:x7=y7
  case neg=>simp [h0,h1,h2,h3,h4,h5,h6,h7]
  simp [h0,h1,h2,h3,h4,h5,h6,h7]
theorem UU (x0:Int) (x1:Int) (x2:Int) (y0:Int) (y1:Int) (y2:Int) (w:World):(Op.equalIn 10000 31 (.agg #[ν x0,ν x1,ν x2]) (.agg #[ν y0,ν y1,ν y2])).run Tryz.prog w=.ok (decide (x0=y0∧x1=y1∧x2=y2)) w:=by
  have u3:=υ3
  have a3:=Tryz.isAgg3
  have z3:=Tryz.sizeOf3
  have hS:Tryz.prog.underlying 31=some (.struct (Tryz.prog.fieldsOf 31)):=κ
  have hp:Tryz.prog.stoodInHeld 31=false:=κ
  rw [show (10000:Nat)=9999+1 from rfl,run_equalIn_agg w 9999 31 _ _ hS hp]
  simp only [Program.fieldsOf,υ31]
  go_simp
  by_cases h0:x0=y0
  case neg=>simp [h0]
  by_cases h1:x1=y1
  case neg=>simp [h0,h1]
  by_cases h2:x2=y2
  case neg=>simp [h0,h1,h2]
  simp [h0,h1,h2]
end
section
def bsW (s:List UInt8):ByteArray:=⟨s.toArray⟩
theorem VD (s:List UInt8):AS s=.string (bsW s):=rfl
theorem KE {s t:List UInt8}:bsW s=bsW t↔s=t:=by
  constructor
  · intro h
    have:(bsW s).data.toList=(bsW t).data.toList:=by rw [h]
    exact this
  · rintro rfl;rfl
theorem JC {w:World} {a:Option Addr} {c:Nat} {N:List (List UInt8)} (h:Row w 1 a N.length c (N.map AS)):N.length≤9223372036854775807:=by
  have h1:=h.2.1;have h2:=h.2.2.1;unfold maxLen at h2;omega
theorem Fp {w:World} {a:Option Addr} {c:Nat} {N:List (List UInt8)} (h:Row w 1 a N.length c (N.map AS)) (hn:0<N.length) :
    ∃ b off,a=some ⟨b,off,none⟩∧b<w.heap.size∧∀ i (hi:i<N.length),w.cell? ⟨b,off+i,none⟩=some (.string (bsW N[i])):=by
  obtain ⟨b,off,e,hlt,hc⟩:=h.at hn
  exact ⟨b,off,e,hlt,fun i hi=>hc i _ (by simp [hi,VD])⟩
theorem OD {N M:List (List UInt8)} {k:Nat} (h1:k<N.length) (h2:k<M.length) (h:bsW N[k]≠bsW M[k]):N≠M:=by
  rintro rfl;exact h rfl
theorem Mt {N M:List (List UInt8)} (hl:N.length=M.length) (h:∀ j (h1:j<N.length) (h2:j<M.length),bsW N[j]=bsW M[j]):N=M:=
  List.ext_getElem hl (fun i h1 h2=>KE.1 (h i h1 h2))
theorem SB (N M:List (List UInt8)) (a b:Option Addr) (c d:Nat) (w:World) (ha:Row w 1 a N.length c (N.map AS)) (hb:Row w 1 b M.length d (M.map AS)) :
    Calls Tryz.prog 34 #[.slice a N.length c,.slice b M.length d] w fun e w'=>e=.returned (.bool (decide (N=M)))∧Below w.heap.size w w':=by
  have hl:=JC ha
  have hm:=JC hb
  by_cases hne:N.length=M.length
  · have HA:=hid ha;have HB:=hid hb;have HN:=hid hne
    rw [hne]
    clear ha hb hne hl
    go_enter Tryz.func34,Tryz.ntmps34
    go_wp2_with fail
    go_loopw [5] (fun i wr=>∃ k:Nat,k≤M.length∧i=ν k∧(∀ j (h:j<k) (h1:j<N.length) (h2:j<M.length),bsW N[j]=bsW M[j])∧Below w.heap.size w wr) (fun i _=>M.length-(intOf i).toNat)
    case atStart=>exact ⟨0,ω,rfl,(fun j h=>absurd h ω),Below.refl _ _⟩
    case round=>
      obtain ⟨k,hk,rfl,heq,hbl⟩:=hrel
      have HEQ:=hid heq
      clear heq
      by_cases hk16:k<M.length
      · have hkn:k<N.length:=by rw [HN.out];exact hk16
        obtain ⟨ba,oa,rfl,hba,hca⟩:=Fp (HA.out.mono hbl) ω
        obtain ⟨bb,ob,rfl,hbb,hcb⟩:=Fp (HB.out.mono hbl) ω
        have a0:=hca k hkn
        have b0:=hcb k hk16
        have dk:decide ((k:Int)<(M.length:Int))=true:=decide_eq_true ω
        have hno:=fun (h:bsW N[k]≠bsW M[k])=>OD hkn hk16 h
        have hst:=Ij (bsW N[k]) (bsW M[k])
        have hxe:bsW N[k]=bsW M[k]→∀ j (h:j<k+1) (h1:j<N.length) (h2:j<M.length),bsW N[j]=bsW M[j]:=fun he j h h1 h2=>by
          rcases (ω:j<k∨j=k) with g | rfl
          · exact HEQ.out j g h1 h2
          · exact he
        have HNE:=hid hno;have HXE:=hid hxe
        clear hca hcb hno hxe
        generalize bsW N[k]=x at *
        generalize bsW M[k]=y at *
        have HBL:=hid hbl
        clear hbl
        by_cases hxy:x=y
        · rw [decide_eq_true hxy] at hst
          have HX:=hid (HXE.out hxy)
          clear hxy
          go_wp2
          go_quiet (fail)
          go_wp2
          go_roundw
          case rel=>exact ⟨k+1,ω,by go_num,HX.out,Av HBL.out _⟩
          case measure=>simp [intOf];omega
        · rw [decide_eq_false hxy] at hst
          have HNo:=hid (HNE.out hxy)
          clear hxy
          go_wp2
          go_quiet (fail)
          go_wp2
          go_ret
          exact ⟨Bd (decide_eq_false HNo.out).symm,Av HBL.out _⟩
      · obtain rfl:k=M.length:=ω
        have dk:decide ((M.length:Int)<(M.length:Int))=false:=decide_eq_false ω
        have HT:=hid (Mt HN.out (fun j h1 h2=>HEQ.out j h2 h1 h2))
        go_wp2_with fail
        go_ret
        exact ⟨Bd (decide_eq_true HT.out).symm,hbl⟩
  · have hb':((N.length:Int) != (M.length:Int))=true:=by simp;omega
    have HNE:=hid hne
    clear hne ha hb
    go_enter Tryz.func34,Tryz.ntmps34
    go_wp2_with fail
    go_ret
    exact ⟨Bd (decide_eq_false (fun e=>HNE.out (by rw [e]))).symm,Below.refl _ _⟩
theorem PO (N M:List (List UInt8)) (a b:Option Addr) (c d:Nat) (w:World) (ha:Row w 1 a N.length c (N.map AS)) (hb:Row w 1 b M.length d (M.map AS)) :
    Calls Tryz.prog 96 #[.slice a N.length c,.slice b M.length d] w fun e w'=>e=.returned (.bool (decide (N=M)))∧Below w.heap.size w w':=by
  have hl:=JC ha
  have hm:=JC hb
  by_cases hne:N.length=M.length
  · have HA:=hid ha;have HB:=hid hb;have HN:=hid hne
    rw [hne]
    clear ha hb hne hl
    go_enter Tryz.func96,Tryz.ntmps96
    go_wp2_with fail
    go_loopw [13] (fun i wr=>∃ k:Nat,k≤M.length∧i=ν k∧(∀ j (h:j<k) (h1:j<N.length) (h2:j<M.length),bsW N[j]=bsW M[j])∧Below w.heap.size w wr) (fun i _=>M.length-(intOf i).toNat)
    case atStart=>exact ⟨0,ω,rfl,(fun j h=>absurd h ω),Below.refl _ _⟩
    case round=>
      obtain ⟨k,hk,rfl,heq,hbl⟩:=hrel
      have HEQ:=hid heq
      clear heq
      by_cases hk16:k<M.length
      · have hkn:k<N.length:=by rw [HN.out];exact hk16
        obtain ⟨ba,oa,rfl,hba,hca⟩:=Fp (HA.out.mono hbl) ω
        obtain ⟨bb,ob,rfl,hbb,hcb⟩:=Fp (HB.out.mono hbl) ω
        have a0:=hca k hkn
        have b0:=hcb k hk16
        have dk:decide ((k:Int)<(M.length:Int))=true:=decide_eq_true ω
        have hno:=fun (h:bsW N[k]≠bsW M[k])=>OD hkn hk16 h
        have hst:=Ij (bsW N[k]) (bsW M[k])
        have hxe:bsW N[k]=bsW M[k]→∀ j (h:j<k+1) (h1:j<N.length) (h2:j<M.length),bsW N[j]=bsW M[j]:=fun he j h h1 h2=>by
          rcases (ω:j<k∨j=k) with g | rfl
          · exact HEQ.out j g h1 h2
          · exact he
        have HNE:=hid hno;have HXE:=hid hxe
        clear hca hcb hno hxe
        generalize bsW N[k]=x at *
        generalize bsW M[k]=y at *
        have HBL:=hid hbl
        clear hbl
        by_cases hxy:x=y
        · rw [decide_eq_true hxy] at hst
          have HX:=hid (HXE.out hxy)
          clear hxy
          go_wp2
          go_quiet (fail)
          go_wp2
          go_roundw
          case rel=>exact ⟨k+1,ω,by go_num,HX.out,Av HBL.out _⟩
          case measure=>simp [intOf];omega
        · rw [decide_eq_false hxy] at hst
          have HNo:=hid (HNE.out hxy)
          clear hxy
          go_wp2
          go_quiet (fail)
          go_wp2
          go_ret
          exact ⟨Bd (decide_eq_false HNo.out).symm,Av HBL.out _⟩
      · obtain rfl:k=M.length:=ω
        have dk:decide ((M.length:Int)<(M.length:Int))=false:=decide_eq_false ω
        have HT:=hid (Mt HN.out (fun j h1 h2=>HEQ.out j h2 h1 h2))
        go_wp2_with fail
        go_ret
        exact ⟨Bd (decide_eq_true HT.out).symm,hbl⟩
  · have hb':((N.length:Int) != (M.length:Int))=true:=by simp;omega
    have HNE:=hid hne
    clear hne ha hb
    go_enter Tryz.func96,Tryz.ntmps96
    go_wp2_with fail
    go_ret
    exact ⟨Bd (decide_eq_false (fun e=>HNE.out (by rw [e]))).symm,Below.refl _ _⟩
end
section
theorem Ph {T:TypeId} {o:Oper} {x:Operand} (ho:o.op=.box T x) (ρ:Operand→Value) (w:World) (L:List Value) (hx:ρ x=.agg L.toArray):(execOp ρ o).run Tryz.prog w=.ok (.value (π w.heap.size)) (w.alloc (.cells L.toArray T)):=by
  unfold execOp;rw [ho];simp only;rw [hx];rfl
theorem Bg {w:World} {ops:Array Oper} {rest:List Oper} {o:Oper} {act:Act} {Q:Exit→Act→World→Prop} (hgd:o.guard=none) (T:TypeId) (x:Operand) (ho:o.op=.box T x) (L:List Value) (hx:act.eval x=.agg L.toArray)
    (h:∀ w',Blk w' w.heap.size T L→Below w.heap.size w w'→w'.heap.size=w.heap.size+1→wpList Tryz.prog ops Q rest (act.put o.dst (π w.heap.size)) w'):wpList Tryz.prog ops Q (o::rest) act w:=by
  refine Kk hgd _ _ (Ph ho _ w _ hx) ?_
  exact h _ (AP rfl _ _) (CQ _ _) (by simp)
theorem Blk.part {w:World} {g:Nat} {e:TypeId} {L:List Value} (h:Blk w g e L) (o n:Nat) (cs:List Value) (hc:(L.drop o).take n=cs):w.rangeAt g o cs:=fun j v hv=>by
  subst hc
  rw [List.getElem?_take] at hv
  split at hv
  · rw [List.getElem?_drop] at hv
    obtain ⟨h1,h2⟩:=List.getElem?_eq_some_iff.1 hv
    rw [h.cell h1,h2]
  · cases hv
theorem Ev {P:Program} {w:World} {ops:Array Oper} {rest:List Oper} {o:Oper} {act:Act} {Q:Exit→Act→World→Prop} (hw:Region.wanted o (yielded ops act.tmps)=true) (T:TypeId) (x:Operand)
    (ho:o.op=.load T x) (g off:Nat) (hx:act.eval x=.pointer (some ⟨g,off,none⟩)) (cs:List Value) {k:TypeDesc} (hc:w.rangeAt g off cs) (hu:P.underlying T=some k) (hk:k.isRow=true) (hn:(P.info? T).map (·.size)=some cs.length)
    (h:wpList P ops Q rest (act.put o.dst (.agg cs.toArray)) w):wpList P ops Q (o::rest) act w:=
  wpList_step fun K hK=>by
    rw [if_pos hw]
    exact wp_load_mid T x ho g off hx cs k hc hu hk hn (hK _ _ h)
theorem Js:(Tryz.prog.info? 31).map (·.size)=some 3:=κ
theorem Jr:(Tryz.prog.info? 27).map (·.size)=some 8:=κ
theorem Jt:(Tryz.prog.info? 37).map (·.size)=some 15:=κ
theorem Ng:(Tryz.prog.info? 33).map (·.size)=some 7:=κ
def eqS (s t:List UInt8):Bool:=(bsW s).toList == (bsW t).toList
theorem QY {s t:List UInt8}:eqS s t=true↔s=t:=by unfold eqS;rw [Ij,decide_eq_true_iff,KE]
def FI (P:PkM):List Value:=[ν (P.I 10),.string (bsW (P.S 11)),.string (bsW (P.S 12)),ν (P.I 13),ν (P.I 14),ν (P.I 15),ν (P.I 16),.string (bsW (P.S 17))]
def FN (P:PkM):List Value:=[ν (P.I 28),ν (P.I 29),ν (P.I 30),ν (P.I 31),ν (P.I 32),ν (P.I 33),ν (P.I 34),ν (P.I 35),ν (P.I 36),ν (P.I 37),ν (P.I 38),ν (P.I 39),ν (P.I 40),ν (P.I 41),ν (P.I 42)]
def Gr (P:PkM):List Value:=[ν (P.I 24),ν (P.I 25),ν (P.I 26)]
def OZ (P:PkM) (a:Option Addr) (n c:Nat):List Value:=[ν (P.I 20),ν (P.I 21),.string (bsW (P.S 22)),.slice a n c,ν (P.I 24),ν (P.I 25),ν (P.I 26)]
def Ht (P Q:PkM):Bool:=decide (P.I 10=Q.I 10∧bsW (P.S 11)=bsW (Q.S 11)∧bsW (P.S 12)=bsW (Q.S 12)∧P.I 13=Q.I 13∧P.I 14=Q.I 14∧P.I 15=Q.I 15∧P.I 16=Q.I 16∧bsW (P.S 17)=bsW (Q.S 17))
def Rh (P:PkM):List Int:=[P.I 28,P.I 29,P.I 30,P.I 31,P.I 32,P.I 33,P.I 34,P.I 35,P.I 36,P.I 37,P.I 38,P.I 39,P.I 40,P.I 41,P.I 42]
def Hv (P Q:PkM):Bool:=decide (Rh P=Rh Q)
def Hu (P Q:PkM):Bool:=decide (P.I 24=Q.I 24∧P.I 25=Q.I 25∧P.I 26=Q.I 26)
def eqN (P Q:PkM):Bool:=decide (P.N=Q.N)
theorem LI (P Q:PkM) (w:World):(Op.equalIn 10000 27 (.agg (FI P).toArray) (.agg (FI Q).toArray)).run Tryz.prog w=.ok (Ht P Q) w:=UT _ _ _ _ _ _ _ _ _ _ _ _ _ _ _ _ w
theorem LK (P Q:PkM) (w:World):(Op.equalIn 10000 37 (.agg (FN P).toArray) (.agg (FN Q).toArray)).run Tryz.prog w=.ok (Hv P Q) w:=WK _ _ _ _ _ _ _ _ _ _ _ _ _ _ _ _ _ _ _ _ _ _ _ _ _ _ _ _ _ _ w
theorem LJ (P Q:PkM) (w:World):(Op.equalIn 10000 31 (.agg (Gr P).toArray) (.agg (Gr Q).toArray)).run Tryz.prog w=.ok (Hu P Q) w:=UU _ _ _ _ _ _ w
def Ms (P Q:PkM):Bool:=(P.I 20 == Q.I 20)&&((P.I 21 == Q.I 21)&&(eqS (P.S 22) (Q.S 22)&&(Hu P Q&&eqN P Q)))
def BS (P Q:PkM):Bool:=(P.I 0 == Q.I 0)&&((P.I 1 == Q.I 1)&&((P.I 2 == Q.I 2)&&((P.I 3 == Q.I 3)&&((P.I 4 == Q.I 4)&&((P.I 5 == Q.I 5)&&((P.I 6 == Q.I 6)&&(eqS (P.S 7) (Q.S 7)&&((P.I 8 == Q.I 8)&&((P.I 9 == Q.I 9)&&(Ht P Q&&((P.I 18 == Q.I 18)&&((P.I 19 == Q.I 19)&&((P.I 27 == Q.I 27)&&(Hv P Q&&Ms P Q))))))))))))))
theorem Nc (P Q:PkM) (a b:Option Addr) (c d:Nat) (w:World) (ha:Row w 1 a P.N.length c (P.N.map AS)) (hb:Row w 1 b Q.N.length d (Q.N.map AS)) :
    Calls Tryz.prog 70 #[.agg (OZ P a P.N.length c).toArray,.agg (OZ Q b Q.N.length d).toArray] w fun e w'=>e=.returned (.bool (Ms P Q))∧Below w.heap.size w w':=by
  unfold Ms eqS
  have t1:True:=trivial
  have t2:True:=trivial
  have E:=LJ P Q
  have HN:=hid (fun (W:World) (hW:Below w.heap.size w W)=>PO P.N Q.N a b c d W (ha.mono hW) (hb.mono hW))
  have HEN:Hid (eqN P Q=decide (P.N=Q.N)):=hid rfl
  clear ha hb
  obtain ⟨c0,hc0⟩:∃ c,(P.I 20 == Q.I 20)=c:=⟨_,rfl⟩
  obtain ⟨c1,hc1⟩:∃ c,(P.I 21 == Q.I 21)=c:=⟨_,rfl⟩
  obtain ⟨c2,hc2⟩:∃ c,((bsW (P.S 22)).toList == (bsW (Q.S 22)).toList)=c:=⟨_,rfl⟩
  obtain ⟨c3,hc3⟩:∃ c,Hu P Q=c:=⟨_,rfl⟩
  rw [hc0,hc1,hc2,hc3]
  rw [hc3] at E
  clear hc3
  cases c0;rotate_left 1;cases c1;rotate_left 1;cases c2;rotate_left 1;cases c3
  all_goals
    go_enter Tryz.func70,Tryz.ntmps70
    go_wp2_with (first
      | (have _t:=t1;(with_reducible refine Bg rfl 33 _ rfl (OZ P a P.N.length c) rfl ?_);clear t1;intro w1 k1 b1 s1;have K1:=hid k1;have B1:=hid b1;clear k1 b1)
      | (have _t:=t2;(with_reducible refine Bg rfl 33 _ rfl (OZ Q b Q.N.length d) rfl ?_);clear t2;intro w2 k2 b2 s2;rw [s1] at k2;have B2:=hid (Am B1.out b2);have KP:=hid (K1.out.mono b2);have KQ:=hid k2;clear K1 b2 k2 s2;have p0:w2.cell? ⟨w.heap.size,0,none⟩=some (.int .i64 (P.I 20)):=KP.out.cell (i:=0) (by show 0<7;omega);have q0:w2.cell? ⟨w.heap.size+1,0,none⟩=some (.int .i64 (Q.I 20)):=KQ.out.cell (i:=0) (by show 0<7;omega);have p1:w2.cell? ⟨w.heap.size,1,none⟩=some (.int .i64 (P.I 21)):=KP.out.cell (i:=1) (by show 1<7;omega);have q1:w2.cell? ⟨w.heap.size+1,1,none⟩=some (.int .i64 (Q.I 21)):=KQ.out.cell (i:=1) (by show 1<7;omega);have p2:w2.cell? ⟨w.heap.size,2,none⟩=some (.string (bsW (P.S 22))):=KP.out.cell (i:=2) (by show 2<7;omega);have q2:w2.cell? ⟨w.heap.size+1,2,none⟩=some (.string (bsW (Q.S 22))):=KQ.out.cell (i:=2) (by show 2<7;omega);have p3:w2.cell? ⟨w.heap.size,3,none⟩=some (.slice a P.N.length c):=KP.out.cell (i:=3) (by show 3<7;omega);have q3:w2.cell? ⟨w.heap.size+1,3,none⟩=some (.slice b Q.N.length d):=KQ.out.cell (i:=3) (by show 3<7;omega))
      | ((refine Ev ?hw 31 _ rfl w.heap.size 4 rfl (Gr P) (KP.out.part 4 3 (Gr P) rfl) υ31 rfl Js ?_);(case hw=>exact (Eq.refl true)))
      | ((refine Ev ?hw 31 _ rfl (w.heap.size+1) 4 rfl (Gr Q) (KQ.out.part 4 3 (Gr Q) rfl) υ31 rfl Js ?_);(case hw=>exact (Eq.refl true)))
      | (go_at_call 96;refine (HN.out _ B2.out).mono ?_;rintro e w3 ⟨rfl,b3⟩;have B3:=hid (Am B2.out b3);clear b3))
    go_ret
    first
      | exact ⟨rfl,B2.out⟩
      | exact ⟨by rw [HEN.out];rfl,B3.out⟩
end
section
theorem Ae {w:World} {g off:Nat} {x:Int} (h:w.cell? ⟨g,off,none⟩=some (ν x)):(Instr.loadAt 3 (.pointer (some ⟨g,off,none⟩))).run Tryz.prog w=.ok (ν x) w:=by
  have u3:=υ3
  have a3:=Tryz.isAgg3
  have z3:=Tryz.sizeOf3
  go_simp
theorem IE {w:World} {g off:Nat} {x:Int} (h:w.cell? ⟨g,off,none⟩=some (ν x)):(Instr.loadAt 28 (.pointer (some ⟨g,off,none⟩))).run Tryz.prog w=.ok (ν x) w:=by
  have u3:=υ28
  have a3:=Tryz.isAgg28
  have z3:=Tryz.sizeOf28
  go_simp
theorem Fl {w:World} {g off:Nat} {x:ByteArray} (h:w.cell? ⟨g,off,none⟩=some (.string x)):(Instr.loadAt 9 (.pointer (some ⟨g,off,none⟩))).run Tryz.prog w=.ok (.string x) w:=by
  have u3:=υ9
  have a3:=Tryz.isAgg9
  have z3:=Tryz.sizeOf9
  go_simp
theorem eqI (x y:Operand) (v u:Int) (w:World):(do eqGuard .eql 3 x y (ν v) (ν u);binOp .eql 3 (ν v) (ν u):Sem Value).run Tryz.prog w=.ok (.bool (v == u)) w:=by
  have u3:=υ3
  have a3:=Tryz.isAgg3
  have z3:=Tryz.sizeOf3
  go_simp
theorem eqE (x y:Operand) (v u:Int) (w:World):(do eqGuard .eql 28 x y (ν v) (ν u);binOp .eql 28 (ν v) (ν u):Sem Value).run Tryz.prog w=.ok (.bool (v == u)) w:=by
  have u3:=υ28
  have a3:=Tryz.isAgg28
  have z3:=Tryz.sizeOf28
  go_simp
theorem WL (x y:Operand) (v u:ByteArray) (w:World):(do eqGuard .eql 9 x y (.string v) (.string u);binOp .eql 9 (.string v) (.string u):Sem Value).run Tryz.prog w=.ok (.bool (v.toList == u.toList)) w:=by
  have u3:=υ9
  have a3:=Tryz.isAgg9
  have z3:=Tryz.sizeOf9
  go_simp
theorem neI (x y:Operand) (v u:Int) (w:World):(do eqGuard .neq 3 x y (ν v) (ν u);binOp .neq 3 (ν v) (ν u):Sem Value).run Tryz.prog w=.ok (.bool (v != u)) w:=by
  have u3:=υ3
  have a3:=Tryz.isAgg3
  have z3:=Tryz.sizeOf3
  go_simp
theorem XD (x y:Operand) (v u:ByteArray) (w:World):(do eqGuard .neq 9 x y (.string v) (.string u);binOp .neq 9 (.string v) (.string u):Sem Value).run Tryz.prog w=.ok (.bool (v.toList != u.toList)) w:=by
  have u3:=υ9
  have a3:=Tryz.isAgg9
  have z3:=Tryz.sizeOf9
  go_simp
  cases h:(v.toList == u.toList)<;>simp [bne,h]
theorem eqR {T:TypeId} (hT:T=27∨T=37∨T=31) {C D:Array Value} {c:Bool} (h:∀ w,(Op.equalIn 10000 T (.agg C) (.agg D)).run Tryz.prog w=.ok c w) (x y:Operand) (w:World):(do eqGuard .eql T x y (.agg C) (.agg D);binOp .eql T (.agg C) (.agg D):Sem Value).run Tryz.prog w=.ok (.bool c) w:=by
  have u1:=υ27
  have u2:=υ37
  have u3:=υ31
  have a1:=Tryz.isAgg27
  have a2:=Tryz.isAgg37
  have a3:=Tryz.isAgg31
  rcases hT with rfl | rfl | rfl<;>go_simp
theorem Ag (f off:Nat) (h:(f,off)∈[(0,0),(1,1),(2,2),(3,3),(4,4),(5,5),(6,6),(7,7),(8,8),(9,9),(10,10),(11,18),(12,19),(13,20),(14,27),(15,28)]) (g:Nat) (w:World):(Instr.fieldAt 39 (π g) f).run Tryz.prog w=.ok (.pointer (some ⟨g,off,none⟩)) w:=by
  simp only [List.mem_cons,Prod.mk.injEq,List.not_mem_nil,or_false] at h
  rcases h with ⟨rfl,rfl⟩ | ⟨rfl,rfl⟩ | ⟨rfl,rfl⟩ | ⟨rfl,rfl⟩ | ⟨rfl,rfl⟩ | ⟨rfl,rfl⟩ | ⟨rfl,rfl⟩ | ⟨rfl,rfl⟩ | ⟨rfl,rfl⟩ | ⟨rfl,rfl⟩ | ⟨rfl,rfl⟩ | ⟨rfl,rfl⟩ | ⟨rfl,rfl⟩ | ⟨rfl,rfl⟩ | ⟨rfl,rfl⟩ | ⟨rfl,rfl⟩<;>rfl
end
section
theorem UN (args:Array Value) (w:World):(callFunc 70 args).run Tryz.prog w=.ok (.enter 70 args) w:=by
  have h:=Tryz.func70
  go_simp
theorem Ol (P Q:PkM) (a b:Option Addr) (c d:Nat) (w:World) (ha:Row w 1 a P.N.length c (P.N.map AS)) (hb:Row w 1 b Q.N.length d (Q.N.map AS)) :
    Calls Tryz.prog 51 #[.agg (pkC P a P.N.length c).toArray,.agg (pkC Q b Q.N.length d).toArray] w fun e w'=>e=.returned (.bool (BS P Q))∧Below w.heap.size w w':=by
  have HN:=hid (fun (W:World) (hW:Below w.heap.size w W)=>Nc P Q a b c d W (ha.mono hW) (hb.mono hW))
  clear ha hb
  go_enter Tryz.func51,Tryz.ntmps51
  go_step
  go_step
  go_step
  refine Bg rfl 39 _ rfl (pkC P a P.N.length c) rfl ?_
  intro w1 k1 b1 s1
  refine Bg rfl 39 _ rfl (pkC Q b Q.N.length d) rfl ?_
  intro w2 k2 b2 s2
  have B1:=hid b1;have S1:=hid s1
  have B2:=hid (Am B1.out b2);have KP:=hid (k1.mono b2);have KQ:=hid k2
  clear k1 b1 s1 k2 b2 s2
  go_step
  go_step
  go_step
  go_step
  go_step
  go_step
  go_step
  go_step
  refine MU (⟨fun g=>Ag 0 0 (by decide) g _,Ae (KP.out.cell (i:=0) (by show 0<43;omega)),Ae (KQ.out.cell (i:=0) (by show 0<43;omega)),fun x y=>eqI x y _ _ _⟩:Cmp Tryz.prog _ 39 0 3 .eql w.heap.size w1.heap.size (P.I 0 == Q.I 0) 0 (ν (P.I 0)) (ν (Q.I 0))) (N:=115) ⟨rfl,(by intro x hx;simp only [List.mem_cons,List.not_mem_nil,or_false] at hx;rcases hx with rfl | rfl<;>rfl),rfl⟩ (by decide) (by decide) (by decide) 3 rfl rfl rfl rfl rfl rfl rfl rfl rfl rfl rfl rfl rfl rfl rfl rfl rfl rfl fun a0 h0=>?_
  refine AU (⟨fun g=>Ag 1 1 (by decide) g _,Ae (KP.out.cell (i:=1) (by show 1<43;omega)),Ae (KQ.out.cell (i:=1) (by show 1<43;omega)),fun x y=>eqI x y _ _ _⟩:Cmp Tryz.prog _ 39 1 3 .eql w.heap.size w1.heap.size (P.I 1 == Q.I 1) 1 (ν (P.I 1)) (ν (Q.I 1))) true h0 rfl (by decide) (by decide) (by decide) (by decide) 3 rfl rfl rfl rfl rfl rfl rfl rfl rfl rfl rfl rfl rfl rfl rfl rfl rfl rfl rfl rfl rfl fun a1 h1=>?_
  refine AU (⟨fun g=>Ag 2 2 (by decide) g _,Ae (KP.out.cell (i:=2) (by show 2<43;omega)),Ae (KQ.out.cell (i:=2) (by show 2<43;omega)),fun x y=>eqI x y _ _ _⟩:Cmp Tryz.prog _ 39 2 3 .eql w.heap.size w1.heap.size (P.I 2 == Q.I 2) 2 (ν (P.I 2)) (ν (Q.I 2))) true h1 rfl (by decide) (by decide) (by decide) (by decide) 3 rfl rfl rfl rfl rfl rfl rfl rfl rfl rfl rfl rfl rfl rfl rfl rfl rfl rfl rfl rfl rfl fun a2 h2=>?_
  refine AU (⟨fun g=>Ag 3 3 (by decide) g _,Ae (KP.out.cell (i:=3) (by show 3<43;omega)),Ae (KQ.out.cell (i:=3) (by show 3<43;omega)),fun x y=>eqI x y _ _ _⟩:Cmp Tryz.prog _ 39 3 3 .eql w.heap.size w1.heap.size (P.I 3 == Q.I 3) 3 (ν (P.I 3)) (ν (Q.I 3))) true h2 rfl (by decide) (by decide) (by decide) (by decide) 3 rfl rfl rfl rfl rfl rfl rfl rfl rfl rfl rfl rfl rfl rfl rfl rfl rfl rfl rfl rfl rfl fun a3 h3=>?_
  refine AU (⟨fun g=>Ag 4 4 (by decide) g _,Ae (KP.out.cell (i:=4) (by show 4<43;omega)),Ae (KQ.out.cell (i:=4) (by show 4<43;omega)),fun x y=>eqI x y _ _ _⟩:Cmp Tryz.prog _ 39 4 3 .eql w.heap.size w1.heap.size (P.I 4 == Q.I 4) 4 (ν (P.I 4)) (ν (Q.I 4))) true h3 rfl (by decide) (by decide) (by decide) (by decide) 3 rfl rfl rfl rfl rfl rfl rfl rfl rfl rfl rfl rfl rfl rfl rfl rfl rfl rfl rfl rfl rfl fun a4 h4=>?_
  refine AU (⟨fun g=>Ag 5 5 (by decide) g _,Ae (KP.out.cell (i:=5) (by show 5<43;omega)),Ae (KQ.out.cell (i:=5) (by show 5<43;omega)),fun x y=>eqI x y _ _ _⟩:Cmp Tryz.prog _ 39 5 3 .eql w.heap.size w1.heap.size (P.I 5 == Q.I 5) 5 (ν (P.I 5)) (ν (Q.I 5))) true h4 rfl (by decide) (by decide) (by decide) (by decide) 3 rfl rfl rfl rfl rfl rfl rfl rfl rfl rfl rfl rfl rfl rfl rfl rfl rfl rfl rfl rfl rfl fun a5 h5=>?_
  refine AU (⟨fun g=>Ag 6 6 (by decide) g _,Ae (KP.out.cell (i:=6) (by show 6<43;omega)),Ae (KQ.out.cell (i:=6) (by show 6<43;omega)),fun x y=>eqI x y _ _ _⟩:Cmp Tryz.prog _ 39 6 3 .eql w.heap.size w1.heap.size (P.I 6 == Q.I 6) 6 (ν (P.I 6)) (ν (Q.I 6))) true h5 rfl (by decide) (by decide) (by decide) (by decide) 3 rfl rfl rfl rfl rfl rfl rfl rfl rfl rfl rfl rfl rfl rfl rfl rfl rfl rfl rfl rfl rfl fun a6 h6=>?_
  refine AU (⟨fun g=>Ag 7 7 (by decide) g _,Fl (KP.out.cell (i:=7) (by show 7<43;omega)),Fl (KQ.out.cell (i:=7) (by show 7<43;omega)),fun x y=>WL x y _ _ _⟩:Cmp Tryz.prog _ 39 7 9 .eql w.heap.size w1.heap.size ((bsW (P.S 7)).toList == (bsW (Q.S 7)).toList) 7 (.string (bsW (P.S 7))) (.string (bsW (Q.S 7)))) true h6 rfl (by decide) (by decide) (by decide) (by decide) 9 rfl rfl rfl rfl rfl rfl rfl rfl rfl rfl rfl rfl rfl rfl rfl rfl rfl rfl rfl rfl rfl fun a7 h7=>?_
  refine AU (⟨fun g=>Ag 8 8 (by decide) g _,Ae (KP.out.cell (i:=8) (by show 8<43;omega)),Ae (KQ.out.cell (i:=8) (by show 8<43;omega)),fun x y=>eqI x y _ _ _⟩:Cmp Tryz.prog _ 39 8 3 .eql w.heap.size w1.heap.size (P.I 8 == Q.I 8) 8 (ν (P.I 8)) (ν (Q.I 8))) true h7 rfl (by decide) (by decide) (by decide) (by decide) 3 rfl rfl rfl rfl rfl rfl rfl rfl rfl rfl rfl rfl rfl rfl rfl rfl rfl rfl rfl rfl rfl fun a8 h8=>?_
  refine AU (⟨fun g=>Ag 9 9 (by decide) g _,Ae (KP.out.cell (i:=9) (by show 9<43;omega)),Ae (KQ.out.cell (i:=9) (by show 9<43;omega)),fun x y=>eqI x y _ _ _⟩:Cmp Tryz.prog _ 39 9 3 .eql w.heap.size w1.heap.size (P.I 9 == Q.I 9) 9 (ν (P.I 9)) (ν (Q.I 9))) true h8 rfl (by decide) (by decide) (by decide) (by decide) 3 rfl rfl rfl rfl rfl rfl rfl rfl rfl rfl rfl rfl rfl rfl rfl rfl rfl rfl rfl rfl rfl fun a9 h9=>?_
  refine AU (⟨fun g=>Ag 10 10 (by decide) g _,run_loadAt_mid _ _ _ _ (FI P) _ (KP.out.part 10 8 (FI P) rfl) υ27 rfl Jr,run_loadAt_mid _ _ _ _ (FI Q) _ (KQ.out.part 10 8 (FI Q) rfl) υ27 rfl Jr,fun x y=>eqR (by simp) (LI P Q) x y _⟩:Cmp Tryz.prog _ 39 10 27 .eql w.heap.size w1.heap.size (Ht P Q) 10 (.agg (FI P).toArray) (.agg (FI Q).toArray)) true h9 rfl (by decide) (by decide) (by decide) (by decide) 27 rfl rfl rfl rfl rfl rfl rfl rfl rfl rfl rfl rfl rfl rfl rfl rfl rfl rfl rfl rfl rfl fun a10 h10=>?_
  refine AU (⟨fun g=>Ag 11 18 (by decide) g _,Ae (KP.out.cell (i:=18) (by show 18<43;omega)),Ae (KQ.out.cell (i:=18) (by show 18<43;omega)),fun x y=>eqI x y _ _ _⟩:Cmp Tryz.prog _ 39 11 3 .eql w.heap.size w1.heap.size (P.I 18 == Q.I 18) 18 (ν (P.I 18)) (ν (Q.I 18))) true h10 rfl (by decide) (by decide) (by decide) (by decide) 3 rfl rfl rfl rfl rfl rfl rfl rfl rfl rfl rfl rfl rfl rfl rfl rfl rfl rfl rfl rfl rfl fun a11 h11=>?_
  refine AU (⟨fun g=>Ag 12 19 (by decide) g _,IE (KP.out.cell (i:=19) (by show 19<43;omega)),IE (KQ.out.cell (i:=19) (by show 19<43;omega)),fun x y=>eqE x y _ _ _⟩:Cmp Tryz.prog _ 39 12 28 .eql w.heap.size w1.heap.size (P.I 19 == Q.I 19) 19 (ν (P.I 19)) (ν (Q.I 19))) true h11 rfl (by decide) (by decide) (by decide) (by decide) 28 rfl rfl rfl rfl rfl rfl rfl rfl rfl rfl rfl rfl rfl rfl rfl rfl rfl rfl rfl rfl rfl fun a12 h12=>?_
  refine AU (⟨fun g=>Ag 14 27 (by decide) g _,Ae (KP.out.cell (i:=27) (by show 27<43;omega)),Ae (KQ.out.cell (i:=27) (by show 27<43;omega)),fun x y=>eqI x y _ _ _⟩:Cmp Tryz.prog _ 39 14 3 .eql w.heap.size w1.heap.size (P.I 27 == Q.I 27) 27 (ν (P.I 27)) (ν (Q.I 27))) true h12 rfl (by decide) (by decide) (by decide) (by decide) 3 rfl rfl rfl rfl rfl rfl rfl rfl rfl rfl rfl rfl rfl rfl rfl rfl rfl rfl rfl rfl rfl fun a13 h13=>?_
  refine AU (⟨fun g=>Ag 15 28 (by decide) g _,run_loadAt_mid _ _ _ _ (FN P) _ (KP.out.part 28 15 (FN P) rfl) υ37 rfl Jt,run_loadAt_mid _ _ _ _ (FN Q) _ (KQ.out.part 28 15 (FN Q) rfl) υ37 rfl Jt,fun x y=>eqR (by simp) (LK P Q) x y _⟩:Cmp Tryz.prog _ 39 15 37 .eql w.heap.size w1.heap.size (Hv P Q) 28 (.agg (FN P).toArray) (.agg (FN Q).toArray)) true h13 rfl (by decide) (by decide) (by decide) (by decide) 37 rfl rfl rfl rfl rfl rfl rfl rfl rfl rfl rfl rfl rfl rfl rfl rfl rfl rfl rfl rfl rfl fun a14 h14=>?_
  refine NS (fun g=>Ag 13 20 (by decide) g _) (run_loadAt_mid _ _ _ _ (OZ P a P.N.length c) _ (KP.out.part 20 7 (OZ P a P.N.length c) rfl) υ33 rfl Ng) (run_loadAt_mid _ _ _ _ (OZ Q b Q.N.length d) _ (KQ.out.part 20 7 (OZ Q b Q.N.length d) rfl) υ33 rfl Ng) (fun args=>UN args _) (S:=fun w'=>Below w.heap.size w w') B2.out ((HN.out _ B2.out).mono fun e w' q=>⟨q.1,Am B2.out q.2⟩) h14 rfl (by decide) (by decide) (by decide) (by decide) #[33,33] rfl rfl rfl rfl rfl rfl rfl rfl rfl rfl rfl rfl rfl rfl rfl rfl rfl rfl fun a9 w9 s9 h9=>?_
  refine Ar h9 (wn rfl) rfl (by decide) (by intro x hx;simp only [List.mem_cons,List.not_mem_nil,or_false] at hx;rcases hx with rfl;show ¬ (109+5=4);decide) _ (by unfold execOp;simp only [h9.eval (List.mem_cons_self ..)];rfl) fun a10 h10=>?_
  go_step
  go_step
  go_step
  go_step
  refine bodyPost_ret (BV rfl (h10.known _ (List.mem_cons_self ..))) h10.defs ?_
  refine ⟨Bd ?_,s9⟩
  unfold BS eqS
  simp only [if_true,Bool.and_assoc]
end
section
def BU (q:Nat):Nat:=if q % 2=1 then (q / 2) ^^^ 3988292384 else q / 2
def By:Nat→Nat→Nat
  | 0,q=>q
  | k+1,q=>BU (By k q)
def GP (r:Nat) (x:UInt8):Nat:=By 8 (r ^^^ x.toNat)
def Dt (r:Nat) (xs:List UInt8):Nat:=xs.foldl GP r
def Jo (xs:List UInt8):Nat:=4294967295-Dt 4294967295 xs
theorem If {a b:Nat} (ha:a<4294967296) (hb:b<4294967296):a ^^^ b<4294967296:=by
  have:=Nat.xor_lt_two_pow (n:=32) (x:=a) (y:=b) ω ω
  omega
theorem PG {q:Nat} (h:q<4294967296):BU q<4294967296:=by
  unfold BU
  split
  · exact If ω ω
  · omega
theorem Kl {q:Nat} (h:q<4294967296) (k:Nat):By k q<4294967296:=by
  induction k with
  | zero=>exact h
  | succ k ih=>exact PG ih
theorem PF {r:Nat} (h:r<4294967296) (x:UInt8):GP r x<4294967296:=
  Kl (If h (by have:=x.toNat_lt;omega)) 8
theorem Ih {r:Nat} (h:r<4294967296) (xs:List UInt8):Dt r xs<4294967296:=by
  induction xs generalizing r with
  | nil=>exact h
  | cons x xs ih=>unfold Dt;rw [List.foldl_cons];exact ih (PF h x)
theorem QU (xs:List UInt8):Jo xs<4294967296:=by unfold Jo;omega
theorem Ob (r:Nat) (xs:List UInt8) (x:UInt8):Dt r (xs++[x])=GP (Dt r xs) x:=by
  unfold Dt;rw [List.foldl_append,List.foldl_cons,List.foldl_nil]
theorem NT (a b:Nat):(a ^^^ b) % 2=1↔a % 2≠b % 2:=by
  rw [Nat.xor_mod_two_eq_one];omega
def FZ (r c:Nat):Nat:=if r % 2≠c % 2 then (r / 2) ^^^ 3988292384 else r / 2
theorem RJ (r c:Nat):FZ r c ^^^ (c / 2)=BU (r ^^^ c):=by
  unfold FZ BU
  rw [Nat.xor_div_two]
  by_cases h:r % 2≠c % 2
  · rw [if_pos h,if_pos ((NT r c).2 h),Nat.xor_assoc,Nat.xor_comm 3988292384,Nat.xor_assoc]
  · rw [if_neg h,if_neg (fun h2=>h ((NT r c).1 h2))]
theorem Lh (q:Nat):By 0 q=q:=rfl
theorem Ew (k q:Nat):By (k+1) q=BU (By k q):=rfl
theorem IH (r:Nat) (x:UInt8):GP r x=By 8 (r ^^^ x.toNat):=rfl
theorem Lg (r:Nat):Dt r []=r:=List.foldl_nil
attribute [irreducible] BU By GP Dt
def XP (l:List UInt8) (k:Nat):List UInt8:=l.set (k / 8) ((l.getD (k / 8) 0) ^^^ UInt8.ofNat (2 ^ (k % 8)))
end
section
def Reg (w:World) (h r:Nat):Prop:=Blk w h 145 [.int .u32 (r:Int)]
theorem Reg.cell {w:World} {h r:Nat} (H:Reg w h r):w.cell? ⟨h,0,none⟩=some (.int .u32 (r:Int)):=Blk.cell (L:=[.int .u32 (r:Int)]) H (i:=0) (by simp)
theorem Reg.frozen {w:World} {h r:Nat} (H:Reg w h r):w.frozen? ⟨h,0,none⟩=false:=Blk.frozen H 0
theorem Reg.set {w:World} {h r:Nat} (H:Reg w h r) (q:Nat):Reg (w.setCell ⟨h,0,none⟩ (.int .u32 (q:Int))) h q:=Blk.set H 0 _
theorem Reg.lt {w:World} {h r:Nat} (H:Reg w h r):h<w.heap.size:=Blk.lt H
theorem Reg.mono {w w':World} {h r:Nat} (H:Reg w h r) (hb:Below w.heap.size w w'):Reg w' h r:=Blk.mono H hb
theorem DS {w w':World} {h:Nat} (g:w.grownBy w' (some h)) (i:Nat) (v:Value):w.grownBy (w'.setCell ⟨h,i,none⟩ v) (some h):=
  ⟨g.os,g.tape,g.output,by simp [World.setCell];exact g.size,fun k hk hne=>by
    rw [Below.heap_setCell _ _ _ _ (by rintro rfl;exact hne rfl)];exact g.block k hk hne⟩
theorem Jb (w:World) (r:Option Nat):w.grownBy w r:=⟨rfl,rfl,rfl,Nat.le_refl _,fun _ _ _=>rfl⟩
theorem Oy {w w1 w2:World} {r:Option Nat} (a:w.grownBy w1 r) (b:w1.grownBy w2 r):w.grownBy w2 r:=
  ⟨b.os.trans a.os,b.tape.trans a.tape,b.output.trans a.output,Nat.le_trans a.size b.size,fun k hk hne=>(b.block k (Nat.lt_of_lt_of_le hk a.size) hne).trans (a.block k hk hne)⟩
theorem RC (h r:Nat) (w:World) (H:Reg w h r) :
    Calls Tryz.prog 97 #[π h] w fun e w'=>e=.returned (.tuple #[])∧Reg w' h 4294967295∧w.grownBy w' (some h):=by
  have hc:=H.cell
  have hf:=H.frozen
  have hs:=H.set 4294967295
  have HS:=hid hs;clear hs
  go_enter Tryz.func97,Tryz.ntmps97
  go_wp2
  go_end0
  exact ⟨rfl,HS.out,DS (Jb _ _) _ _⟩
theorem TW {r:Nat} (h:r<4294967296):4294967295 ^^^ r=4294967295-r:=by
  have e:=congrArg BitVec.toNat (BitVec.allOnes_xor (x:=BitVec.ofNat 32 r))
  rw [BitVec.toNat_xor,BitVec.toNat_not,BitVec.toNat_allOnes,BitVec.toNat_ofNat,Nat.mod_eq_of_lt ω] at e
  exact e
theorem We {r:Nat} (h:r<4294967296):bits BinOp.xor IntKind.u32 IntKind.u32.max (r:Int)=((4294967295-r:Nat):Int):=by
  rw [← TW h,← u32_xor_nat 4294967295 r ω h];rfl
theorem Ni (h r:Nat) (w:World) (H:Reg w h r) (hr:r<4294967296) :
    Calls Tryz.prog 99 #[π h] w fun e w'=>e=.returned (.int .u32 ((4294967295-r:Nat):Int))∧w=w':=by
  have hc:=H.cell
  go_enter Tryz.func99,Tryz.ntmps99
  go_wp2
  go_ret
  exact ⟨KT (We hr),rfl⟩
theorem WE {q:Nat} (h:q<4294967296):bits .and .u32 (q:Int) 1=((q % 2:Nat):Int):=by
  have:=u32_and_nat q 1 h ω
  rw [nat_mask1] at this;exact this
theorem Rw {q:Nat} (h:q<4294967296):bits .xor .u32 ((q:Int) / 2) 3988292384=((q / 2 ^^^ 3988292384:Nat):Int):=by
  have:=u32_xor_nat (q / 2) 3988292384 ω ω
  rw [← this];rfl
theorem Ps {q:Nat} (h:q % 2=1):BU q=(q / 2) ^^^ 3988292384:=by unfold BU;rw [if_pos h]
theorem ML {q:Nat} (h:¬ q % 2=1):BU q=q / 2:=by unfold BU;rw [if_neg h]
theorem Eo (q:Nat):((q / 2:Nat):Int)=(q:Int) / 2:=by simp
theorem Tw (h r:Nat) (x:UInt8) (w:World) (H:Reg w h r) (hr:r<4294967296) :
    Calls Tryz.prog 98 #[π h,.int .u8 (x.toNat:Int)] w fun e w'=>e=.returned (.tuple #[])∧Reg w' h (GP r x)∧w.grownBy w' (some h):=by
  have hx:=x.toNat_lt
  have hc:=H.cell
  have hf:=H.frozen
  have hxor:=u32_xor_nat r x.toNat hr ω
  have hq0:=If hr (b:=x.toNat) ω
  go_enter Tryz.func98,Tryz.ntmps98
  go_wp2
  refine wp_scope_jumps 0 (fun a' w'=>∃ (m:Nat),1≤m∧m≤8∧(∃ (u5 u6 u7 u8 u9 u10 u11 u12 u13 u14 u15 u16 u17 u18 u19 u20 u21 u22 u23 u24 u25 u26 u27 u28 u29 u30 u31 u32 u33 u34 u35 u36 u37 u38 u39:Value),a'={ tmps:=#[π h,.int .u8 (x.toNat:Int),undef,undef,ν m,u5,u6,u7,u8,u9,u10,u11,u12,u13,u14,u15,u16,u17,u18,u19,u20,u21,u22,u23,u24,u25,u26,u27,u28,u29,u30,u31,u32,u33,u34,u35,u36,u37,u38,u39],defers:=[] })∧Reg w' h (By (8-m) (r ^^^ x.toNat))∧w.grownBy w' (some h)) (fun a' _=>(intOf (a'.tmps.getD 4 undef)).toNat) rfl ?_ ?_
  · go_wp2
    have Hr:=H.set (r ^^^ x.toNat)
    have hgr:=DS (Jb w (some h)) 0 (.int .u32 ((r ^^^ x.toNat:Nat):Int))
    have HE:Hid (By (8-7) (r ^^^ x.toNat)=BU (r ^^^ x.toNat)):=by
      show By (0+1) _=_;rw [Ew,Lh]
    clear hc hf hxor
    generalize w.setCell ⟨h,0,none⟩ (.int .u32 ((r ^^^ x.toNat:Nat):Int))=wr at *
    generalize hqe:r ^^^ x.toNat=q at *
    have HQ:=hid hqe;clear hqe
    have hq:=hq0
    clear hq0
    go_step3
    have hc:=Hr.cell
    have hf:=Hr.frozen
    have hand:=WE hq
    have hxp:=Rw hq
    by_cases hodd:q % 2=1
    · rw [hodd] at hand
      have hst:=Ps hodd
      have h1:=(Hr.set (q / 2)).set (q / 2 ^^^ 3988292384)
      have g1:=DS (DS hgr 0 (.int .u32 ((q / 2:Nat):Int))) 0 (.int .u32 ((q / 2 ^^^ 3988292384:Nat):Int))
      rw [Eo] at h1 g1
      rw [← hst] at h1 g1 hxp
      have H1:=hid h1;have G1:=hid g1
      clear h1 g1 hodd hst
      go_wp2
      go_step3
      exact ⟨rfl,7,ω,ω,⟨_,_,_,_,_,_,_,_,_,_,_,_,_,_,_,_,_,_,_,_,_,_,_,_,_,_,_,_,_,_,_,_,_,_,_,rfl⟩,by rw [HQ.out,HE.out];exact H1.out,G1.out⟩
    · have h0:q % 2=0:=ω
      rw [h0] at hand
      have hst:=ML hodd
      have h1:=Hr.set (q / 2)
      have g1:=DS hgr 0 (.int .u32 ((q / 2:Nat):Int))
      rw [Eo] at g1
      have h1':Reg (wr.setCell ⟨h,0,none⟩ (.int .u32 ((q:Int) / 2))) h (BU q):=by rw [hst];rw [Eo] at h1;exact h1
      have H1:=hid h1';have G1:=hid g1
      clear h1 h1' g1 hodd h0 hst hxp
      go_wp2
      go_step3
      exact ⟨rfl,7,ω,ω,⟨_,_,_,_,_,_,_,_,_,_,_,_,_,_,_,_,_,_,_,_,_,_,_,_,_,_,_,_,_,_,_,_,_,_,_,rfl⟩,by rw [HQ.out,HE.out];exact H1.out,G1.out⟩
  · rintro a' wr ⟨m,hm1,hm8,⟨u5,u6,u7,u8,u9,u10,u11,u12,u13,u14,u15,u16,u17,u18,u19,u20,u21,u22,u23,u24,u25,u26,u27,u28,u29,u30,u31,u32,u33,u34,u35,u36,u37,u38,u39,rfl⟩,Hr,hgr⟩
    have hq:=Kl hq0 (8-m)
    have HE:Hid (2≤m→By (8-(m-1)) (r ^^^ x.toNat)=BU (By (8-m) (r ^^^ x.toNat))):=fun h2=>by
      rw [← Ew];congr 1;omega
    have HE8:Hid (m=1→By 8 (r ^^^ x.toNat)=BU (By (8-m) (r ^^^ x.toNat))):=fun h2=>by
      subst h2;rw [← Ew]
    have HM:Hid (2≤m→((m-1:Nat):Int)=(m:Int)-1):=fun h2=>ω
    generalize By (8-m) (r ^^^ x.toNat)=q at *
    clear hc hf hxor hq0
    have hc:=Hr.cell
    have hf:=Hr.frozen
    have hand:=WE hq
    have hxp:=Rw hq
    by_cases hodd:q % 2=1
    · rw [hodd] at hand
      have hst:=Ps hodd
      have h1:=(Hr.set (q / 2)).set (q / 2 ^^^ 3988292384)
      have g1:=DS (DS hgr 0 (.int .u32 ((q / 2:Nat):Int))) 0 (.int .u32 ((q / 2 ^^^ 3988292384:Nat):Int))
      rw [Eo] at h1 g1
      rw [← hst] at h1 g1 hxp
      have H1:=hid h1;have G1:=hid g1
      clear h1 g1 hodd hst
      by_cases hm1:m=1
      · subst hm1
        go_wp2
        simp only [Exit.jump]
        go_end0
        exact ⟨rfl,by rw [IH,show By 8 (r ^^^ x.toNat)=BU q from (by first | exact HE8.out trivial | exact HE8.out rfl)];exact H1.out,G1.out⟩
      · have hm2:(0:Int)<(m:Int)-1:=ω
        go_wp2
        go_step3
        exact ⟨rfl,⟨m-1,ω,ω,⟨_,_,_,_,_,_,_,_,_,_,_,_,_,_,_,_,_,_,_,_,_,_,_,_,_,_,_,_,_,_,_,_,_,_,_,by rw [HM.out ω]⟩,by rw [HE.out ω];exact H1.out,G1.out⟩,by simp [intOf];omega⟩
    · have h0:q % 2=0:=ω
      rw [h0] at hand
      have hst:=ML hodd
      have h1:=Hr.set (q / 2)
      have g1:=DS hgr 0 (.int .u32 ((q / 2:Nat):Int))
      have e2:((BU q:Nat):Int)=(q:Int) / 2:=by rw [hst,Eo]
      rw [Eo] at g1
      have h1':Reg (wr.setCell ⟨h,0,none⟩ (.int .u32 ((q:Int) / 2))) h (BU q):=by rw [hst];rw [Eo] at h1;exact h1
      have H1:=hid h1';have G1:=hid g1
      clear h1 h1' g1 hodd h0 hst e2 hxp
      by_cases hm1:m=1
      · subst hm1
        go_wp2
        simp only [Exit.jump]
        go_end0
        exact ⟨rfl,by rw [IH,show By 8 (r ^^^ x.toNat)=BU q from (by first | exact HE8.out trivial | exact HE8.out rfl)];exact H1.out,G1.out⟩
      · have hm2:(0:Int)<(m:Int)-1:=ω
        go_wp2
        go_step3
        exact ⟨rfl,⟨m-1,ω,ω,⟨_,_,_,_,_,_,_,_,_,_,_,_,_,_,_,_,_,_,_,_,_,_,_,_,_,_,_,_,_,_,_,_,_,_,_,by rw [HM.out ω]⟩,by rw [HE.out ω];exact H1.out,G1.out⟩,by simp [intOf];omega⟩
theorem TH (h r:Nat) (w:World) (H:Reg w h r) (hr:r<4294967296) :
    Calls Tryz.prog 75 #[π h] w fun e w'=>e=.returned (.int .u32 ((4294967295-r:Nat):Int))∧w=w':=by
  go_enter Tryz.func75,Tryz.ntmps75
  go_wp2_with fail
  refine (Ni h r _ H hr).mono ?_
  rintro e w' ⟨rfl,rfl⟩
  go_wp2_with fail
  go_ret
  exact ⟨rfl,rfl⟩
theorem Vm (w:World) :
    Calls Tryz.prog 73 #[] w fun e w'=>e=.returned (π w.heap.size)∧Reg w' w.heap.size 4294967295∧Below w.heap.size w w':=by
  have H0:Reg (w.alloc (.cells #[.int .u32 0] 145)) w.heap.size 0:=heap_alloc_new w _
  go_enter Tryz.func73,Tryz.ntmps73
  go_wp2_with fail
  refine (RC w.heap.size 0 _ H0).mono ?_
  rintro e w' ⟨rfl,H1,G1⟩
  go_wp2_with fail
  go_ret
  exact ⟨rfl,H1,((Below.refl _ w).alloc (Nat.le_refl _) _).grown G1 (by simp) (fun k hk=>by cases hk;exact Nat.le_refl _)⟩
theorem Ro {r:Nat} {xs:List UInt8} {j:Nat} (h:j<xs.length):Dt r (xs.take (j+1))=GP (Dt r (xs.take j)) xs[j]:=by
  rw [List.take_succ_eq_append_getElem h,Ob]
theorem UJ (h r:Nat) (a:Option Addr) (c:Nat) (xs:List UInt8) (w:World) (H:Reg w h r) (hr:r<4294967296) (ha:BB w a c xs)
    (hap:∀ b off,a=some ⟨b,off,none⟩→b≠h∨xs=[]) :
    Calls Tryz.prog 74 #[π h,.slice a xs.length c] w fun e w'=>e=.returned (.tuple #[])∧Reg w' h (Dt r xs)∧w.grownBy w' (some h):=by
  have hl:=JB ha
  go_enter Tryz.func74,Tryz.ntmps74
  go_wp2
  go_loopw [5,8] (fun _ i wr=>∃ j:Nat,j≤xs.length∧i=ν j∧Reg wr h (Dt r (xs.take j))∧w.grownBy wr (some h)) (fun _ i _=>xs.length-(intOf i).toNat)
  case atStart=>exact ⟨0,Nat.zero_le _,rfl,by rw [List.take_zero,Lg];exact H,Jb _ _⟩
  case round=>
    obtain ⟨j,hj,rfl,hR,hG⟩:=hrel
    by_cases hlt:j<xs.length
    · obtain ⟨b,off,rfl,hb,hc⟩:=ha.bytes ω
      have hne:b≠h:=by
        rcases hap b off rfl with h1 | h1
        · exact h1
        · subst h1;simp at hlt
      have hcj:=(World.cell?_of_block (a:=⟨b,off+j,none⟩) (hG.block b hb (by simpa using hne))).trans (hc j hlt)
      rw [FU hlt] at hcj
      have hst:=Ro (r:=r) hlt
      have HS:=hid hst;clear hst hc
      have hq:=Ih hr (xs.take j)
      clear ha hap
      go_wp2_with fail
      refine (Tw h (Dt r (xs.take j)) xs[j] wr hR hq).mono ?_
      rintro e w2 ⟨rfl,H2,G2⟩
      go_wp2_with fail
      go_roundw
      case rel=>exact ⟨j+1,ω,by go_num,by rw [HS.out];exact H2,Oy hG G2⟩
      case measure=>simp [intOf];omega
    · obtain rfl:j=xs.length:=ω
      go_wp2_with fail
      go_end0
      exact ⟨rfl,by rw [List.take_length] at hR;exact hR,hG⟩
theorem VE (a:Option Addr) (c:Nat) (xs:List UInt8) (w:World) (ha:BB w a c xs) :
    Calls Tryz.prog 53 #[.slice a xs.length c] w fun e w'=>e=.returned (.int .u32 (Jo xs:Int))∧Below w.heap.size w w':=by
  go_enter Tryz.func53,Tryz.ntmps53
  go_wp2_with fail
  refine (Vm w).mono ?_
  rintro e w1 ⟨rfl,H1,b1⟩
  go_wp2_with fail
  refine (UJ w.heap.size 4294967295 a c xs w1 H1 ω (ha.mono b1) ?_).mono ?_
  · intro b off e
    by_cases hn:0<xs.length
    · obtain ⟨b',off',e',hlt,_⟩:=ha.at hn
      rw [e] at e';cases e'
      exact .inl ω
    · exact .inr (List.eq_nil_of_length_eq_zero ω)
  rintro e w2 ⟨rfl,H2,G2⟩
  go_wp2_with fail
  refine (TH w.heap.size _ w2 H2 (Ih ω xs)).mono ?_
  rintro e w' ⟨rfl,rfl⟩
  go_wp2_with fail
  go_ret
  exact ⟨rfl,b1.grown G2 b1.size (fun k hk=>by cases hk;exact Nat.le_refl _)⟩
end
section
theorem NU (a b i:Nat):(a ^^^ b) % 2 ^ (i+1)=(a ^^^ b) % 2 ^ i+(if (a / 2 ^ i) % 2≠(b / 2 ^ i) % 2 then 2 ^ i else 0):=by
  have e:((a ^^^ b) / 2 ^ i) % 2=if (a / 2 ^ i) % 2≠(b / 2 ^ i) % 2 then 1 else 0:=by
    have h:=NT (a / 2 ^ i) (b / 2 ^ i)
    rw [← Nat.shiftRight_eq_div_pow,← Nat.shiftRight_eq_div_pow,← Nat.shiftRight_xor_distrib] at h
    rw [← Nat.shiftRight_eq_div_pow,← Nat.shiftRight_eq_div_pow,← Nat.shiftRight_eq_div_pow]
    by_cases hc:(a >>> i) % 2≠(b >>> i) % 2
    · rw [if_pos hc];exact h.2 hc
    · rw [if_neg hc]
      have:=fun h2=>hc (h.1 h2)
      omega
  rw [Nat.pow_succ,Nat.mod_mul,e]
  split<;>simp
theorem GS (a i:Nat):a / 2 ^ (i+1)=a / 2 ^ i / 2:=by rw [Nat.pow_succ,Nat.div_div_eq_div_mul]
theorem Xh {i:Nat} (h:i<32):2 ^ i≤2147483648:=by
  have:=Nat.pow_le_pow_right (n:=2) ω (ω:i≤31)
  simpa using this
theorem Uf (a b:Nat) (w:World) (ha:a<4294967296) (hb:b<4294967296) :
    Calls Tryz.prog 112 #[ν a,ν b] w fun e w'=>e=.returned (ν ((a ^^^ b:Nat):Int))∧w=w':=by
  go_enter Tryz.func112,Tryz.ntmps112
  go_wp2
  go_loop [0,1,5,6,7] (fun x y n p i=>∃ j:Nat,j≤32∧i=ν j∧x=ν (a / 2 ^ j:Nat)∧y=ν (b / 2 ^ j:Nat)∧n=ν ((a ^^^ b) % 2 ^ j:Nat)∧p=ν (2 ^ j:Nat)) (fun _ _ _ _ i=>32-(intOf i).toNat)
  case atStart=>exact ⟨0,ω,rfl,by simp,by simp,by simp [Nat.mod_one],by simp⟩
  case round=>
    obtain ⟨j,hj,rfl,rfl,rfl,rfl,rfl⟩:=hrel
    by_cases hlt:j<32
    · have s1:=GS a j
      have s2:=GS b j
      have s3:=NU a b j
      have s4:2 ^ (j+1)=2 ^ j*2:=Nat.pow_succ ..
      have b1:=Xh hlt
      have b2:(a ^^^ b) % 2 ^ j<2 ^ j:=Nat.mod_lt _ (Nat.two_pow_pos _)
      have b3:a / 2 ^ j≤a:=Nat.div_le_self _ _
      have b4:b / 2 ^ j≤b:=Nat.div_le_self _ _
      have S1:=hid s1;have S2:=hid s2;have S3:=hid s3;have S4:=hid s4
      clear s1 s2 s3 s4
      generalize a / 2 ^ j=A at *
      generalize b / 2 ^ j=B at *
      generalize (a ^^^ b) % 2 ^ j=n at *
      generalize 2 ^ j=p at *
      by_cases hne:A % 2≠B % 2
      · have hb1:((A:Int) % 2 != (B:Int) % 2)=true:=by simp;omega
        rw [if_pos hne] at S3
        clear hne
        go_wp2
        go_round
        case rel=>exact ⟨j+1,ω,by go_num,by rw [S1.out];go_num,by rw [S2.out];go_num,by rw [S3.out];go_num,by rw [S4.out];go_num⟩
        case measure=>simp [intOf];omega
      · have hb1:((A:Int) % 2 != (B:Int) % 2)=false:=by simp;omega
        rw [if_neg hne] at S3
        clear hne
        go_wp2
        go_round
        case rel=>exact ⟨j+1,ω,by go_num,by rw [S1.out];go_num,by rw [S2.out];go_num,by rw [S3.out];go_num,by rw [S4.out];go_num⟩
        case measure=>simp [intOf];omega
    · obtain rfl:j=32:=ω
      have e:(a ^^^ b) % 2 ^ 32=a ^^^ b:=Nat.mod_eq_of_lt (by have:=If ha hb;omega)
      have E:=hid e;clear e
      go_wp2
      go_ret
      exact ⟨KT (by rw [← E.out];simp),rfl⟩
theorem RK {r c:Nat} (h:r<4294967296):FZ r c<4294967296:=by
  unfold FZ;split
  · exact If ω ω
  · omega
theorem Vl {r c:Nat} (h:r % 2≠c % 2):FZ r c=(r / 2) ^^^ 3988292384:=by unfold FZ;rw [if_pos h]
theorem Wo {r c:Nat} (h:¬ r % 2≠c % 2):FZ r c=r / 2:=by unfold FZ;rw [if_neg h]
theorem TQ (r:Nat) (a:Option Addr) (c:Nat) (xs:List UInt8) (w:World) (hr:r<4294967296) (ha:BB w a c xs) :
    Calls Tryz.prog 105 #[ν r,.slice a xs.length c] w fun e w'=>e=.returned (ν (Dt r xs:Nat))∧w=w':=by
  have hl:=JB ha
  go_enter Tryz.func105,Tryz.ntmps105
  go_wp2
  go_loop [0,5,6,7,8] (fun q i _ _ _=>∃ j:Nat,j≤xs.length∧i=ν j∧q=ν (Dt r (xs.take j):Nat)) (fun _ i _ _ _=>xs.length-(intOf i).toNat)
  case atStart=>exact ⟨0,Nat.zero_le _,rfl,by rw [List.take_zero,Lg]⟩
  case round=>
    obtain ⟨j,hj,rfl,rfl⟩:=hrel
    by_cases hlt:j<xs.length
    · obtain ⟨b,off,rfl,hb,hc⟩:=ha.bytes ω
      have hcj:=hc j hlt
      have hst:=Ro (r:=r) hlt
      rw [IH,← FU hlt] at hst
      have hq:=Ih hr (xs.take j)
      have hx:=KW xs j
      have HS:=hid hst;clear hst hc ha
      generalize Dt r (xs.take j)=q0 at *
      generalize bAt xs j=x at *
      go_wp2
      go_loop [0,6,7,8] (fun q c' k _=>∃ n R:Nat,n≤8∧k=ν n∧q=ν R∧c'=ν (x / 2 ^ n:Nat)∧R<4294967296∧By n (q0 ^^^ x)=R ^^^ (x / 2 ^ n)) (fun _ _ k _=>8-(intOf k).toNat)
      case atStart=>exact ⟨0,q0,ω,rfl,rfl,by simp,hq,by simp [Lh]⟩
      case round=>
        obtain ⟨n,R,hn,rfl,rfl,rfl,hR,he⟩:=hrel
        by_cases hn8:n<8
        · have s1:=GS x n
          have hC:x / 2 ^ n≤x:=Nat.div_le_self _ _
          have hm:=RJ R (x / 2 ^ n)
          rw [← he,← Ew,← s1] at hm
          have hml:=RK (c:=x / 2 ^ n) hR
          have S1:=hid s1;have HM:=hid hm
          clear s1 hm he
          generalize x / 2 ^ n=C at *
          by_cases hne:R % 2≠C % 2
          · have hb1:((R:Int) % 2 != (C:Int) % 2)=true:=by simp;omega
            have hy:=Vl hne
            have HY:=hid hy;clear hy hne
            have hp:=Uf (R / 2) 3988292384
            have HP:=hid hp;clear hp
            go_wp2_with fail
            refine (HP.out _ ω ω).mono ?_
            rintro e w' ⟨rfl,rfl⟩
            go_wp2_with fail
            go_round
            case rel=>exact ⟨n+1,FZ R C,ω,by go_num,by rw [HY.out],by rw [S1.out];go_num,hml,HM.out.symm⟩
            case measure=>simp [intOf];omega
          · have hb1:((R:Int) % 2 != (C:Int) % 2)=false:=by simp;omega
            have hy:=Wo hne
            have HY:=hid hy;clear hy hne
            go_wp2
            go_round
            case rel=>exact ⟨n+1,FZ R C,ω,by go_num,by rw [HY.out];go_num,by rw [S1.out];go_num,hml,HM.out.symm⟩
            case measure=>simp [intOf];omega
        · obtain rfl:n=8:=ω
          have e0:x / 2 ^ 8=0:=ω
          rw [e0,Nat.xor_zero] at he
          have HE:=hid he
          clear he e0
          go_wp2
          go_round
          case rel=>exact ⟨j+1,ω,by go_num,by rw [HS.out,HE.out]⟩
          case measure=>simp [intOf];omega
    · obtain rfl:j=xs.length:=ω
      go_wp2
      go_ret
      first | exact ⟨rfl,rfl⟩ | exact ⟨KT (by rw [List.take_length]),rfl⟩
theorem QK (a:Option Addr) (c:Nat) (xs:List UInt8) (w:World) (ha:BB w a c xs) :
    Calls Tryz.prog 86 #[.slice a xs.length c] w fun e w'=>e=.returned (ν (Jo xs:Nat))∧w=w':=by
  have hq:=Ih (r:=4294967295) ω xs
  go_enter Tryz.func86,Tryz.ntmps86
  go_wp2_with fail
  refine (TQ 4294967295 a c xs w ω ha).mono ?_
  rintro e w' ⟨rfl,rfl⟩
  go_wp2_with fail
  go_ret
  exact ⟨KT (by unfold Jo;omega),rfl⟩
end
section
theorem Kp (P:PkM) (fs gs:List Fld):encL P (fs++gs)=(encL P fs).bind fun a=>(encL P gs).map fun b=>a++b:=by
  induction fs with
  | nil=>simp [encL]
  | cons f fs ih=>
    show (Fy P f).bind (fun a=>(encL P (fs++gs)).map fun b=>a++b)=((Fy P f).bind fun a=>(encL P fs).map fun b=>a++b).bind _
    rw [ih]
    cases Fy P f with
    | none=>rfl
    | some a=>
      cases encL P fs with
      | none=>rfl
      | some b=>cases encL P gs<;>simp
theorem Pk (P Q:PkM) (fs gs:List Fld):Au P Q (fs++gs)=Au P (Au P Q fs) gs:=by
  induction fs generalizing Q with
  | nil=>rfl
  | cons f fs ih=>exact ih _
def Hl (P:PkM):PkM:=Au P P0z (Ah++Al (P.I 0))
theorem PI {P:PkM} (hP:Be P) {e:List UInt8} (h:Fz P=some e):RN e=some (Hl P):=by
  unfold Fz at h
  rw [Kp] at h
  cases h1:encL P Ah with
  | none=>rw [h1] at h;cases h
  | some e1=>
    cases h2:encL P (Al (P.I 0)) with
    | none=>rw [h1,h2] at h;cases h
    | some e2=>
      rw [h1,h2] at h
      simp only [Option.bind_some,Option.map_some,Option.some.injEq] at h
      subst h
      have d1:=Og (Q:=P0z) hP Ln h1 e2
      have hk:(Au P P0z Ah).I 0=P.I 0:=rfl
      have d2:=Og (Q:=Au P P0z Ah) hP (Om (P.I 0)) h2 []
      rw [List.append_nil] at d2
      unfold RN Tg
      rw [d1,Option.bind_some]
      simp only [hk]
      rw [d2]
      simp only [Hl,Pk]
def SameP (P Q:PkM):Prop:=(∀ o,DT o=true→P.I o=Q.I o)∧(∀ o,Hg o=true→P.S o=Q.S o)∧P.N=Q.N
theorem Oz {o:Nat} (h:DT o=true):o∈[0,1,2,3,4,5,6,8,9,10,13,14,15,16,18,19,20,21,24,25,26,27,28,29,30,31,32,33,34,35,36,37,38,39,40,41,42]:=by
  have ho:o<43:=VU h
  have:∀ k:Fin 43,DT k.1=true→k.1∈[0,1,2,3,4,5,6,8,9,10,13,14,15,16,18,19,20,21,24,25,26,27,28,29,30,31,32,33,34,35,36,37,38,39,40,41,42]:=by decide
  exact this ⟨o,ho⟩ h
theorem OA {o:Nat} (h:Hg o=true):o∈[7,11,12,17,22]:=by
  simp [Hg] at h;simp;omega
theorem Tu (P Q:PkM):BS P Q=true↔SameP P Q:=by
  constructor
  · intro h
    unfold BS Ms Ht Hv Hu eqN Rh at h
    simp only [Bool.and_eq_true,beq_iff_eq,QY,decide_eq_true_eq,KE,List.cons.injEq,and_true] at h
    refine ⟨fun o ho=>?_,fun o ho=>?_,h.2.2.2.2.2.2.2.2.2.2.2.2.2.2.2.2.2.2.2⟩
    · have:=Oz ho
      simp only [List.mem_cons,List.not_mem_nil,or_false] at this
      rcases this with rfl | rfl | rfl | rfl | rfl | rfl | rfl | rfl | rfl | rfl | rfl | rfl | rfl | rfl | rfl | rfl | rfl | rfl | rfl | rfl | rfl | rfl | rfl | rfl | rfl | rfl | rfl | rfl | rfl | rfl | rfl | rfl | rfl | rfl | rfl | rfl | rfl<;>simp only [h]
    · have:=OA ho
      simp only [List.mem_cons,List.not_mem_nil,or_false] at this
      rcases this with rfl | rfl | rfl | rfl | rfl<;>simp only [h]
  · rintro ⟨h1,h2,h3⟩
    unfold BS Ms Ht Hv Hu eqN Rh
    simp only [Bool.and_eq_true,beq_iff_eq,QY,decide_eq_true_eq,KE,List.cons.injEq,and_true]
    simp only [h1 0 rfl,h1 1 rfl,h1 2 rfl,h1 3 rfl,h1 4 rfl,h1 5 rfl,h1 6 rfl,h1 8 rfl,h1 9 rfl,h1 10 rfl,h1 13 rfl,h1 14 rfl,h1 15 rfl,h1 16 rfl,h1 18 rfl,h1 19 rfl,h1 20 rfl,h1 21 rfl,h1 24 rfl,h1 25 rfl,h1 26 rfl,h1 27 rfl,h1 28 rfl,h1 29 rfl,h1 30 rfl,h1 31 rfl,h1 32 rfl,h1 33 rfl,h1 34 rfl,h1 35 rfl,h1 36 rfl,h1 37 rfl,h1 38 rfl,h1 39 rfl,h1 40 rfl,h1 41 rfl,h1 42 rfl,h2 7 rfl,h2 11 rfl,h2 12 rfl,h2 17 rfl,h2 22 rfl,h3,and_self]
theorem SameP.symm {P Q:PkM} (h:SameP P Q):SameP Q P:=⟨fun o k=>(h.1 o k).symm,fun o k=>(h.2.1 o k).symm,h.2.2.symm⟩
theorem SameP.trans {P Q R:PkM} (h:SameP P Q) (k:SameP Q R):SameP P R:=⟨fun o j=>(h.1 o j).trans (k.1 o j),fun o j=>(h.2.1 o j).trans (k.2.1 o j),h.2.2.trans k.2.2⟩
theorem SameP.refl (P:PkM):SameP P P:=⟨fun _ _=>rfl,fun _ _=>rfl,rfl⟩
theorem Vp:∀ k:Int,∀ f∈Ah++Al k,(match f with | .num _ o _ _=>DT o | .text _ _ o=>Hg o | .names=>true)=true:=by
  intro k
  unfold Al
  repeat' split
  all_goals decide
theorem SameP.encL {P Q:PkM} (h:SameP P Q) (fs:List Fld) (hf:∀ f∈fs,(match f with | .num _ o _ _=>DT o | .text _ _ o=>Hg o | .names=>true)=true):encL P fs=encL Q fs:=by
  induction fs with
  | nil=>rfl
  | cons f fs ih=>
    unfold Go.Proofs.YtjgajoljgepioaaGreat.encL
    rw [ih (fun g hg=>hf g (List.mem_cons_of_mem _ hg))]
    have hf0:=hf f (List.mem_cons_self ..)
    have:Fy P f=Fy Q f:=by
      cases f with
      | num w o lo hi=>show Em w lo hi (P.I o)=Em w lo hi (Q.I o);rw [h.1 o hf0]
      | text w m o=>show Fb w m (P.S o)=Fb w m (Q.S o);rw [h.2.1 o hf0]
      | names=>unfold Fy;rw [h.2.2]
    rw [this]
theorem SameP.enc {P Q:PkM} (h:SameP P Q):Fz P=Fz Q:=by
  unfold Fz
  rw [h.1 0 rfl]
  exact h.encL _ (Vp _)
def Nv (P:PkM):Option (List UInt8):=match Fz P with
  | some e=>if BS P (Hl P)=true then some (DK e (Jo e:Int) 4) else none
  | none=>none
def Jd (P:PkM):List UInt8:=(Nv P).getD []
def CV (P:PkM):Int:=if (Nv P).isSome then 0 else 1
end
section
theorem Nq {w:World} {g B pk:Nat} {P:PkM} {na:Option Addr} {nc:Nat} {m:WM} (h:WrP w g B pk P na P.N.length nc m) (o:PutOk w g B pk P na nc) (hm:m.b.length≤900) (hne:Fo (P.I 0)≠none) :
    Calls Tryz.prog 49 #[π g,π pk] w fun e w'=>e=.returned (.tuple #[])∧WrP w' g B pk P na P.N.length nc (Ez m P)∧Turns (fun x=>x=g∨x=pk∨B≤x) w w':=by
  unfold Ez My Mf
  have hP:=o.hP
  obtain ⟨m1,hm1⟩:∃ m1,m1=[P.I 0,P.I 1].foldl (AD 1) m:=⟨_,rfl⟩
  have l1:m1.b.length≤916:=by rw [hm1];have:=CH 1 [P.I 0,P.I 1] m;simp at this;simp;omega
  obtain ⟨m2,hm2⟩:∃ m2,m2=AD 4 m1 (P.I 2):=⟨_,rfl⟩
  have l2:m2.b.length≤924:=by rw [hm2];have:=AY (k:=4) (by decide) m1 (P.I 2);omega
  obtain ⟨m3,hm3⟩:∃ m3,m3=AD 8 m2 (P.I 3):=⟨_,rfl⟩
  have l3:m3.b.length≤932:=by rw [hm3];have:=AY (k:=8) (by decide) m2 (P.I 3);omega
  rw [← hm1,← hm2,← hm3]
  obtain ⟨v,hv⟩:∃ v,v=P.I 1:=⟨_,rfl⟩
  obtain ⟨k,hk⟩:∃ k,k=P.I 0:=⟨_,rfl⟩
  rw [← hv]
  rw [← hk] at hne
  obtain ⟨b1,hb1⟩:∃ b1,decide (1≤v)=b1:=⟨_,rfl⟩
  obtain ⟨b2,hb2⟩:∃ b2,decide (v≤8)=b2:=⟨_,rfl⟩
  rw [hb1,hb2]
  have HM1:=hid hm1;have HM2:=hid hm2;have HM3:=hid hm3;have HV:=hid hv;have HK:=hid hk
  have H0:=hid h;have O0:=hid o
  have HZ:=hid ((h.drewN 1).nums hP 1 (by decide) [0,1] (by decide) (by decide) ω m1 hm1.symm)
  clear h o hm1 hm2 hm3 hv hk
  cases hf:Fo k with
  | some f=>
    have hrv:FQ g k=.func (.func f) #[π g] #[]:=by unfold FQ;rw [hf]
    have hq:∀ W:World,(binOp BinOp.eql 108 (Value.func (Fn.func f) #[Value.pointer (some { block:=g,off:=0 })] #[]) Value.nilFunc).run Tryz.prog W=.ok (.bool false) W:=fun W=>rfl
    have HF:=hid hf;have HRV:=hid hrv
    clear hf hrv
    have hfs:f=91∨f=92∨f=93∨f=94∨f=95:=by
      have e:=HF.out
      unfold Fo at e
      repeat' split at e
      all_goals first | (cases e;simp) | cases e
    clear hne
    rcases hfs with rfl | rfl | rfl | rfl | rfl<;>cases b1<;>cases b2
    all_goals
      go_enter Tryz.func49,Tryz.ntmps49
      go_wp2_with fail
      go_region_with (go_at_call 67;refine HZ.out.mono ?_;rintro e w1 ⟨rfl,h1,t1⟩;have H1:=hid h1;have T1:=hid ((Turns.of_below (X:=fun x=>x=g∨x=pk∨B≤x) (Av (Below.refl w.heap.size w) 1)).trans t1);clear h1 t1)
      all_goals
        go_wp2_with fail
        refine (H1.out.nums hP 4 (by decide) [2] (by decide) (by decide) ω m2 HM2.out.symm).mono ?_
        rintro e w2 ⟨rfl,h2,t2⟩
        have H2:=hid h2;have T2:=hid (T1.out.trans t2);clear h2 t2
        go_wp2_with fail
        refine (H2.out.nums hP 8 (by decide) [3] (by decide) (by decide) ω m3 HM3.out.symm).mono ?_
        rintro e w3 ⟨rfl,h3,t3⟩
        have c1:=Bw h3.2.2.1 (o:=1) rfl
        rw [← HV.out] at c1
        have H3:=hid h3;have T3:=hid (T2.out.trans t3);clear h3 t3
        go_wp2_with fail
        refine (H3.out.chk _).mono ?_
        rintro e w4 ⟨rfl,h4,t4⟩
        have c0:=Bw h4.2.2.1 (o:=0) rfl
        rw [← HK.out] at c0
        have H4:=hid h4;have T4:=hid (T3.out.trans t4);clear h4 t4 c1
        go_wp2_with fail
        refine (EH g k w4).mono ?_
        rintro e w5 ⟨rfl,rfl⟩
        rw [HRV.out]
        go_wp2_with (first | (go_at_call 91;refine (Hn H4.out (O0.out.turns T4.out) (by show m3.b.length≤1000;omega) _ (by rw [← HK.out];exact HF.out)).mono ?_;rintro e w6 ⟨rfl,h6,t6⟩;have H6:=hid h6;have T6:=hid (T4.out.trans t6);clear h6 t6) | (go_at_call 92;refine (Hn H4.out (O0.out.turns T4.out) (by show m3.b.length≤1000;omega) _ (by rw [← HK.out];exact HF.out)).mono ?_;rintro e w6 ⟨rfl,h6,t6⟩;have H6:=hid h6;have T6:=hid (T4.out.trans t6);clear h6 t6) | (go_at_call 93;refine (Hn H4.out (O0.out.turns T4.out) (by show m3.b.length≤1000;omega) _ (by rw [← HK.out];exact HF.out)).mono ?_;rintro e w6 ⟨rfl,h6,t6⟩;have H6:=hid h6;have T6:=hid (T4.out.trans t6);clear h6 t6) | (go_at_call 94;refine (Hn H4.out (O0.out.turns T4.out) (by show m3.b.length≤1000;omega) _ (by rw [← HK.out];exact HF.out)).mono ?_;rintro e w6 ⟨rfl,h6,t6⟩;have H6:=hid h6;have T6:=hid (T4.out.trans t6);clear h6 t6) | (go_at_call 95;refine (Hn H4.out (O0.out.turns T4.out) (by show m3.b.length≤1000;omega) _ (by rw [← HK.out];exact HF.out)).mono ?_;rintro e w6 ⟨rfl,h6,t6⟩;have H6:=hid h6;have T6:=hid (T4.out.trans t6);clear h6 t6))
        go_end0
        exact ⟨rfl,H6.out,T6.out⟩
  | none=>exact absurd hf hne
end
section
theorem Np {w:World} {g B pk:Nat} {P:PkM} {na:Option Addr} {nc:Nat} {m:WM} (h:WrP w g B pk P na P.N.length nc m) (o:PutOk w g B pk P na nc) (hm:m.b.length≤900) (hne:Fo (P.I 0)=none) :
    Calls Tryz.prog 49 #[π g,π pk] w fun e w'=>e=.returned (.tuple #[])∧WrP w' g B pk P na P.N.length nc (Ez m P)∧Turns (fun x=>x=g∨x=pk∨B≤x) w w':=by
  unfold Ez My Mf
  have hP:=o.hP
  obtain ⟨m1,hm1⟩:∃ m1,m1=[P.I 0,P.I 1].foldl (AD 1) m:=⟨_,rfl⟩
  have l1:m1.b.length≤916:=by rw [hm1];have:=CH 1 [P.I 0,P.I 1] m;simp at this;simp;omega
  obtain ⟨m2,hm2⟩:∃ m2,m2=AD 4 m1 (P.I 2):=⟨_,rfl⟩
  have l2:m2.b.length≤924:=by rw [hm2];have:=AY (k:=4) (by decide) m1 (P.I 2);omega
  obtain ⟨m3,hm3⟩:∃ m3,m3=AD 8 m2 (P.I 3):=⟨_,rfl⟩
  have l3:m3.b.length≤932:=by rw [hm3];have:=AY (k:=8) (by decide) m2 (P.I 3);omega
  rw [← hm1,← hm2,← hm3]
  obtain ⟨v,hv⟩:∃ v,v=P.I 1:=⟨_,rfl⟩
  obtain ⟨k,hk⟩:∃ k,k=P.I 0:=⟨_,rfl⟩
  rw [← hv]
  rw [← hk] at hne
  have hrb:∀ t,EA t P=⟨t.b,true⟩:=by
    intro t
    unfold EA
    unfold Fo at hne
    rw [← hk]
    repeat' split at hne
    all_goals first | cases hne | skip
    rw [if_neg (by assumption),if_neg (by assumption),if_neg (by assumption),if_neg (by assumption),if_neg (by assumption)]
  rw [hrb]
  have hrv:FQ g k=.nilFunc:=by unfold FQ;rw [hne]
  obtain ⟨b1,hb1⟩:∃ b1,decide (1≤v)=b1:=⟨_,rfl⟩
  obtain ⟨b2,hb2⟩:∃ b2,decide (v≤8)=b2:=⟨_,rfl⟩
  rw [hb1,hb2]
  have HM1:=hid hm1;have HM2:=hid hm2;have HM3:=hid hm3;have HV:=hid hv;have HK:=hid hk;have HRV:=hid hrv
  have H0:=hid h;have O0:=hid o
  have HZ:=hid ((h.drewN 1).nums hP 1 (by decide) [0,1] (by decide) (by decide) ω m1 hm1.symm)
  have hq:∀ W:World,(binOp BinOp.eql 108 Value.nilFunc Value.nilFunc).run Tryz.prog W=.ok (.bool true) W:=fun W=>rfl
  clear h o hm1 hm2 hm3 hv hk hne hrb hrv
  cases b1<;>cases b2
  all_goals
    go_enter Tryz.func49,Tryz.ntmps49
    go_wp2_with fail
    go_region_with (go_at_call 67;refine HZ.out.mono ?_;rintro e w1 ⟨rfl,h1,t1⟩;have H1:=hid h1;have T1:=hid ((Turns.of_below (X:=fun x=>x=g∨x=pk∨B≤x) (Av (Below.refl w.heap.size w) 1)).trans t1);clear h1 t1)
    all_goals
      go_wp2_with fail
      refine (H1.out.nums hP 4 (by decide) [2] (by decide) (by decide) ω m2 HM2.out.symm).mono ?_
      rintro e w2 ⟨rfl,h2,t2⟩
      have H2:=hid h2;have T2:=hid (T1.out.trans t2);clear h2 t2
      go_wp2_with fail
      refine (H2.out.nums hP 8 (by decide) [3] (by decide) (by decide) ω m3 HM3.out.symm).mono ?_
      rintro e w3 ⟨rfl,h3,t3⟩
      have c1:=Bw h3.2.2.1 (o:=1) rfl
      rw [← HV.out] at c1
      have H3:=hid h3;have T3:=hid (T2.out.trans t3);clear h3 t3
      go_wp2_with fail
      refine (H3.out.chk _).mono ?_
      rintro e w4 ⟨rfl,h4,t4⟩
      have c0:=Bw h4.2.2.1 (o:=0) rfl
      rw [← HK.out] at c0
      have H4:=hid h4;have T4:=hid (T3.out.trans t4);clear h4 t4 c1
      go_wp2_with fail
      refine (EH g _ w4).mono ?_
      rintro e w5 ⟨rfl,rfl⟩
      rw [HRV.out]
      obtain ⟨ca,cc,hcb,hco⟩:=H4.out.1
      have x3:=hcb.cell (i:=3) (by simp)
      have f3:=hcb.frozen 3
      simp only [List.getElem_cons_zero,List.getElem_cons_succ] at x3
      have HCB:=hid hcb;have HCO:=hid hco
      clear hcb hco
      go_wp2_with fail
      refine bodyPost_ret (results_none rfl _ _ _) rfl ?_
      have ts:Turns (fun x=>x=g) w4 (w4.setCell ⟨g,3,none⟩ (.bool true)):=AG g 3 _
      refine ⟨rfl,H4.out.of ⟨ca,cc,Blk.set HCB.out 3 _,Di HCO.out HCB.out (by decide) 3 _⟩ (ts.mono (fun _ q=>.inl q)) (H4.out.2.2.2.2),T4.out.trans (ts.mono (fun _ q=>.inl q))⟩
theorem OJ {w:World} {g B pk:Nat} {P:PkM} {na:Option Addr} {nc:Nat} {m:WM} (h:WrP w g B pk P na P.N.length nc m) (o:PutOk w g B pk P na nc) (hm:m.b.length≤900) :
    Calls Tryz.prog 49 #[π g,π pk] w fun e w'=>e=.returned (.tuple #[])∧WrP w' g B pk P na P.N.length nc (Ez m P)∧Turns (fun x=>x=g∨x=pk∨B≤x) w w':=by
  by_cases hne:Fo (P.I 0)=none
  · exact Np h o hm hne
  · exact Nq h o hm hne
end
section
theorem WH {P:PkM} (hP:Be P) {e:List UInt8} (h:Fz P=some e):dP e=Hl P∧dE e=0:=by
  unfold dP dE;rw [PI hP h];exact ⟨rfl,rfl⟩
theorem Py {w:World} {P:PkM} {a:Option Addr} {c:Nat} (hP:Be P) (hS:shortP P) (hN:∀ s∈P.N,s.length≤1100000) (hn9:P.N.length≤1100000) (ha:Row w 1 a P.N.length c (P.N.map AS)) :
    Calls Tryz.prog 32 #[.agg (pkC P a P.N.length c).toArray] w fun e w'=>∃ ba bc,e=.returned (.tuple #[.slice ba (Jd P).length bc,ν (CV P)])∧Ek w' w.heap.size ba bc (Jd P)∧Below w.heap.size w w':=by
  have henc:=OK P hP
  have hdp:=fun e (h:Fz P=some e)=>WH hP h
  have HPK:=hid (fun (W:World) (g B pk nc:Nat) (h:WrP W g B pk P a P.N.length nc ⟨[],false⟩) o=>OJ h o (by show 0≤900;omega))
  obtain ⟨m,hm⟩:∃ m,m=Ez ⟨[],false⟩ P:=⟨_,rfl⟩
  rw [← hm] at henc HPK
  clear hm
  obtain ⟨mb,mno⟩:=m
  simp only at henc
  have HA:=hid ha
  have hrow:0<P.N.length→∀ b,(∃ off,a=some ⟨b,off,none⟩)→b<w.heap.size:=fun hn b hb=>by
    obtain ⟨off,e⟩:=hb
    obtain ⟨b',off',e',hlt,_⟩:=ha.at hn
    rw [e] at e';cases e';exact hlt
  have HROW:=hid hrow
  clear ha hrow
  have t1:True:=trivial
  have t2:True:=trivial
  cases mno with
  | true=>
    have e0:Nv P=none:=by unfold Nv;rw [henc.2 rfl]
    have e1:Jd P=[]:=by unfold Jd;rw [e0];rfl
    have e2:CV P=1:=by unfold CV;rw [e0];rfl
    rw [e1,e2]
    clear e0 e1 e2 henc hdp
    go_enter Tryz.func32,Tryz.ntmps32
    go_wp2_with (have _t:=t1;(with_reducible refine Bg rfl 39 _ rfl (pkC P a P.N.length c) rfl ?_);clear t1;intro w1 k1 b1 s1;have K1:=hid k1;have B1:=hid b1;clear k1 b1)
    obtain ⟨w2,hw2⟩:∃ w2,w2=w1.alloc (.cells #[.bool true,.slice none 0 0,ν 0,.bool false] 107):=⟨_,rfl⟩
    rw [← hw2]
    have s2:w2.heap.size=w.heap.size+2:=by rw [hw2];simp;omega
    have kc:Blk w2 (w.heap.size+1) 107 [.bool true,.slice none 0 0,ν 0,.bool false]:=by rw [hw2,← s1];exact AP rfl _ _
    have bw:Below w.heap.size w w2:=by rw [hw2];exact AT B1.out _
    have kp:Blk w2 w.heap.size 39 (pkC P a P.N.length c):=by rw [hw2];exact K1.out.mono (CQ w1 _)
    clear hw2
    refine (HPK.out w2 (w.heap.size+1) w2.heap.size w.heap.size c ⟨⟨none,0,kc,Own.nil _ _ _ _⟩,Nat.le_refl _,kp,ω,by show 0≤100000;omega⟩ ⟨hP,hS,hN,hn9,HA.out.mono bw,fun hn b hb=>by have:=HROW.out hn b hb;omega⟩).mono ?_
    rintro e w3 ⟨rfl,⟨⟨ca,cc,hcb,hco⟩,_,_,_,_⟩,t3⟩
    have x3:=hcb.cell (i:=3) (by simp)
    simp only [List.getElem_cons_zero,List.getElem_cons_succ] at x3
    have B3:=hid (bw.trans (t3.below ω (fun x hx=>by rcases hx with e | e | e<;>omega)))
    clear kc bw kp hcb hco t3
    go_wp2_with fail
    go_ret2
    exact ⟨none,0,rfl,Own.nil _ _ _ _,B3.out⟩
  | false=>
    have he:=henc.1 rfl
    obtain ⟨hd1,hd2⟩:=hdp mb he
    have e0:Nv P=if BS P (Hl P)=true then some (DK mb (Jo mb:Int) 4) else none:=by unfold Nv;rw [he]
    have HDC:=hid (fun (W:World) (ba:Option Addr) (bc:Nat) (r:BB W ba bc mb) (hl:mb.length≤1000000)=>PJ r hl)
    rw [hd1,hd2] at HDC
    have HEQ:=hid (fun (W:World) (na:Option Addr) (nc:Nat) (ra:Row W 1 a P.N.length c (P.N.map AS)) (rb:Row W 1 na (Hl P).N.length nc ((Hl P).N.map AS))=>Ol P (Hl P) a na c nc W ra rb)
    clear henc hdp he hd1 hd2
    obtain ⟨Q,hQ⟩:∃ Q,Q=Hl P:=⟨_,rfl⟩
    rw [← hQ] at HDC HEQ e0
    clear hQ
    cases hq:BS P Q with
    | false=>
      rw [hq] at HEQ e0
      simp only [Bool.false_eq_true,if_false] at e0
      have e1:Jd P=[]:=by unfold Jd;rw [e0];rfl
      have e2:CV P=1:=by unfold CV;rw [e0];rfl
      rw [e1,e2]
      clear e0 e1 e2 hq
      go_enter Tryz.func32,Tryz.ntmps32
      go_wp2_with (have _t:=t1;(with_reducible refine Bg rfl 39 _ rfl (pkC P a P.N.length c) rfl ?_);clear t1;intro w1 k1 b1 s1;have K1:=hid k1;have B1:=hid b1;clear k1 b1)
      obtain ⟨w2,hw2⟩:∃ w2,w2=w1.alloc (.cells #[.bool true,.slice none 0 0,ν 0,.bool false] 107):=⟨_,rfl⟩
      rw [← hw2]
      have s2:w2.heap.size=w.heap.size+2:=by rw [hw2];simp;omega
      have kc:Blk w2 (w.heap.size+1) 107 [.bool true,.slice none 0 0,ν 0,.bool false]:=by rw [hw2,← s1];exact AP rfl _ _
      have bw:Below w.heap.size w w2:=by rw [hw2];exact AT B1.out _
      have kp:Blk w2 w.heap.size 39 (pkC P a P.N.length c):=by rw [hw2];exact K1.out.mono (CQ w1 _)
      clear hw2
      refine (HPK.out w2 (w.heap.size+1) w2.heap.size w.heap.size c ⟨⟨none,0,kc,Own.nil _ _ _ _⟩,Nat.le_refl _,kp,ω,by show 0≤100000;omega⟩ ⟨hP,hS,hN,hn9,HA.out.mono bw,fun hn b hb=>by have:=HROW.out hn b hb;omega⟩).mono ?_
      rintro e w3 ⟨rfl,⟨⟨ca,cc,hcb,hco⟩,hB3,hp3,_,hl3⟩,t3⟩
      have x3:=hcb.cell (i:=3) (by simp)
      have x1:=hcb.cell (i:=1) (by simp)
      simp only [List.getElem_cons_zero,List.getElem_cons_succ] at x3 x1
      have hl3':mb.length≤100000:=hl3
      have B3:=hid (bw.trans (t3.below ω (fun x hx=>by rcases hx with e | e | e<;>omega)))
      have HCO:=hid hco;have KP3:=hid hp3
      clear kc bw kp hcb hco t3 hp3 hl3
      go_wp2_with fail
      refine (HDC.out w3 ca cc HCO.out.row ω).mono ?_
      rintro e w4 ⟨na,nc,rfl,ho4,b4⟩
      have B4:=hid (Am B3.out b4);have KP4:=hid (KP3.out.mono b4);have HO4:=hid ho4
      clear b4 ho4 x3 x1
      go_wp2_with (first
        | (have _t:=t2;(with_reducible refine DU rfl rfl ?_);clear t2;intro w5 k5 b5 s5;have K5:=hid k5;have B5:=hid (Am B4.out b5);have KP5:=hid (KP4.out.mono b5);have HO5:=hid (HO4.out.mono b5);have N5:=hid (Nat.ne_of_lt KP4.out.lt);clear k5 b5 s5)
        | ((with_reducible refine FT rfl _ _ rfl w4.heap.size rfl Q na Q.N.length nc rfl K5.out rfl ?_);intro w6 k6 g6;have K6:=hid k6;have B6:=hid (Aq B5.out g6 B4.out.size B5.out.size);have KP6:=hid (KP5.out.grownS g6 N5.out);have HO6:=hid (Jz HO5.out K5.out g6);clear k6 g6)
        | ((refine Ev ?hw 39 _ rfl w.heap.size 0 rfl (pkC P a P.N.length c) KP6.out.range υ39 rfl (by rw [Bq];rfl) ?_);(case hw=>exact (Eq.refl true)))
        | ((refine Ev ?hw 39 _ rfl w4.heap.size 0 rfl (pkC Q na Q.N.length nc) K6.out.range υ39 rfl (by rw [Bq];rfl) ?_);(case hw=>exact (Eq.refl true)))
        | (go_at_call 51;refine (HEQ.out w6 na nc (HA.out.mono B6.out) HO6.out.row).mono ?_;rintro e w7 ⟨rfl,b7⟩;have B7:=hid (Am B6.out b7);clear b7))
      go_ret2
      exact ⟨none,0,rfl,Own.nil _ _ _ _,B7.out⟩
    | true=>
      rw [hq] at HEQ e0
      simp only [if_true] at e0
      have e1:Jd P=DK mb (Jo mb:Int) 4:=by unfold Jd;rw [e0,Option.getD_some]
      have e2:CV P=0:=by unfold CV;rw [e0];rfl
      rw [e1,e2]
      have HSum:=hid (fun (W:World) (ba:Option Addr) (bc:Nat) (r:BB W ba bc mb)=>VE ba bc mb W r)
      have hcl:=QU mb
      have HPut:=hid (fun (W:World) (ba:Option Addr) (bc:Nat) (r:BB W ba bc mb) (hl:mb.length≤70368744177664)=>Rk ba bc mb (Jo mb:Int) 4 W r hl ω)
      generalize Jo mb=z at *
      generalize DK mb (z:Int) 4=pb at *
      have ez:IntKind.i64.wrap (z:Int)=z:=IntWalk.i64_in _ ω
      clear e0 e1 e2 hq
      go_enter Tryz.func32,Tryz.ntmps32
      go_wp2_with (have _t:=t1;(with_reducible refine Bg rfl 39 _ rfl (pkC P a P.N.length c) rfl ?_);clear t1;intro w1 k1 b1 s1;have K1:=hid k1;have B1:=hid b1;clear k1 b1)
      obtain ⟨w2,hw2⟩:∃ w2,w2=w1.alloc (.cells #[.bool true,.slice none 0 0,ν 0,.bool false] 107):=⟨_,rfl⟩
      rw [← hw2]
      have s2:w2.heap.size=w.heap.size+2:=by rw [hw2];simp;omega
      have kc:Blk w2 (w.heap.size+1) 107 [.bool true,.slice none 0 0,ν 0,.bool false]:=by rw [hw2,← s1];exact AP rfl _ _
      have bw:Below w.heap.size w w2:=by rw [hw2];exact AT B1.out _
      have kp:Blk w2 w.heap.size 39 (pkC P a P.N.length c):=by rw [hw2];exact K1.out.mono (CQ w1 _)
      clear hw2
      refine (HPK.out w2 (w.heap.size+1) w2.heap.size w.heap.size c ⟨⟨none,0,kc,Own.nil _ _ _ _⟩,Nat.le_refl _,kp,ω,by show 0≤100000;omega⟩ ⟨hP,hS,hN,hn9,HA.out.mono bw,fun hn b hb=>by have:=HROW.out hn b hb;omega⟩).mono ?_
      rintro e w3 ⟨rfl,⟨⟨ca,cc,hcb,hco⟩,hB3,hp3,_,hl3⟩,t3⟩
      have x3:=hcb.cell (i:=3) (by simp)
      have x1:=hcb.cell (i:=1) (by simp)
      simp only [List.getElem_cons_zero,List.getElem_cons_succ] at x3 x1
      have hl3':mb.length≤100000:=hl3
      have B3:=hid (bw.trans (t3.below ω (fun x hx=>by rcases hx with e | e | e<;>omega)))
      have HCO:=hid hco;have HCB:=hid hcb;have KP3:=hid hp3
      clear kc bw kp hcb hco t3 hp3 hl3
      go_wp2_with fail
      refine (HDC.out w3 ca cc HCO.out.row ω).mono ?_
      rintro e w4 ⟨na,nc,rfl,ho4,b4⟩
      have B4:=hid (Am B3.out b4);have KP4:=hid (KP3.out.mono b4);have HO4:=hid ho4;have HCO4:=hid (HCO.out.mono b4);have HCB4:=hid (HCB.out.mono b4);have hng:=Nat.ne_of_lt HCB4.out.lt
      clear b4 ho4 x3 x1
      go_wp2_with (first
        | (have _t:=t2;(with_reducible refine DU rfl rfl ?_);clear t2;intro w5 k5 b5 s5;have K5:=hid k5;have B5:=hid (Am B4.out b5);have KP5:=hid (KP4.out.mono b5);have HO5:=hid (HO4.out.mono b5);have HCO5:=hid (HCO4.out.mono b5);have HCB5:=hid (HCB4.out.mono b5);have N5:=hid (Nat.ne_of_lt KP4.out.lt);clear k5 b5 s5)
        | ((with_reducible refine FT rfl _ _ rfl w4.heap.size rfl Q na Q.N.length nc rfl K5.out rfl ?_);intro w6 k6 g6;have K6:=hid k6;have B6:=hid (Aq B5.out g6 B4.out.size B5.out.size);have KP6:=hid (KP5.out.grownS g6 N5.out);have HO6:=hid (Jz HO5.out K5.out g6);have HCO6:=hid (Jz HCO5.out K5.out g6);have HCB6:=hid (HCB5.out.grownS g6 hng);clear k6 g6)
        | ((refine Ev ?hw 39 _ rfl w.heap.size 0 rfl (pkC P a P.N.length c) KP6.out.range υ39 rfl (by rw [Bq];rfl) ?_);(case hw=>exact (Eq.refl true)))
        | ((refine Ev ?hw 39 _ rfl w4.heap.size 0 rfl (pkC Q na Q.N.length nc) K6.out.range υ39 rfl (by rw [Bq];rfl) ?_);(case hw=>exact (Eq.refl true)))
        | (go_at_call 51;refine (HEQ.out w6 na nc (HA.out.mono B6.out) HO6.out.row).mono ?_;rintro e w7 ⟨rfl,b7⟩;have B7:=hid (Am B6.out b7);have HCO7:=hid (HCO6.out.mono b7);have HCB7:=hid (HCB6.out.mono b7);have z1:=HCB7.out.cell (i:=1) (by simp);simp only [List.getElem_cons_zero,List.getElem_cons_succ] at z1;clear b7))
      go_region_with (first
        | (go_at_call 53;refine (HSum.out _ ca cc (HCO7.out.mono (Av (Below.refl _ _) 1)).row).mono ?_;rintro e w8 ⟨rfl,b8⟩;have B8:=hid (Am (Am B7.out (Av (Below.refl _ _) 1)) b8);have HCO8:=hid ((HCO7.out.mono (Av (Below.refl _ _) 1)).mono b8);have z8:=((HCB7.out.mono (Av (Below.refl _ _) 1)).mono b8).cell (i:=1) (by simp);simp only [List.getElem_cons_zero,List.getElem_cons_succ] at z8;clear b8)
        | (go_at_call 52;refine (HPut.out _ ca cc HCO8.out.row ω).mono ?_;rintro e w9 ⟨a9,c9,rfl,o9,b9⟩;have B9:=hid (Am B8.out b9);have O9:=hid (o9.low B8.out.size);clear o9 b9))
      all_goals
        go_wp2_with fail
        go_ret2
        exact ⟨a9,c9,rfl,O9.out,B9.out⟩
end
section
def CD (P:PkM) (M:MemM):MemM×Int×List UInt8×Int:=if P.I 4=1 then Ki P M else if P.I 4=2 then LW P M else if P.I 4=3 then Fr P M else FR P M
def doC (C:CardM) (P:PkM):CardM×PkM×Bool:=
 if CV P≠0∨P.I 0≠1 then (⟨C.M,C.S,false⟩,P0z,false)
 else if P.I 2≠(C.S.getD (P.I 1-1).toNat (Ac 0)).ep then (⟨C.M,C.S,false⟩,Ai P 31 [] 0,true)
 else if P.I 3=(C.S.getD (P.I 1-1).toNat (Ac 0)).last then (⟨C.M,C.S,false⟩,(C.S.getD (P.I 1-1).toNat (Ac 0)).told,(C.S.getD (P.I 1-1).toNat (Ac 0)).had)
 else if P.I 3-1≠(C.S.getD (P.I 1-1).toNat (Ac 0)).last then (⟨C.M,C.S,false⟩,P0z,false)
 else match CD P C.M with
  | (M',er,d,ol)=>(⟨M',C.S.set (P.I 1-1).toNat ⟨(C.S.getD (P.I 1-1).toNat (Ac 0)).ep,P.I 3,Ai P er d ol,true⟩,decide (er=0)⟩,Ai P er d ol,true)
structure VerbOk (P:PkM):Prop where
 c:1≤P.I 1∧P.I 1≤8
 op:1≤P.I 4∧P.I 4≤4
 n3:0≤P.I 3
 n5:0≤P.I 5
 n6:0≤P.I 6
 n8:0≤P.I 8
 n9:0≤P.I 9
 d:(P.S 7).length≤128
 u5:P.I 5<4294967296
 u6:P.I 6<65536
theorem VerbOk.d2 {P:PkM} (h:VerbOk P):(P.S 7).length≤1000:=Nat.le_trans h.d (by decide)
theorem Oi {P:PkM}:∀ {fs:List Fld} {e:List UInt8},encL P fs=some e→∀ f∈fs,∃ b,Fy P f=some b
 | [],_,_,f,hf=>by cases hf
 | g::gs,e,h,f,hf=>by
  unfold encL at h
  cases h1:Fy P g with
  | none=>rw [h1] at h;cases h
  | some a=>
   rw [h1,Option.bind_some] at h
   cases h2:encL P gs with
   | none=>rw [h2] at h;cases h
   | some c=>
    rcases List.mem_cons.1 hf with rfl | hf
    ·exact ⟨a,h1⟩
    ·exact Oi h2 f hf
theorem UR {w:Nat} {lo hi v:Int} {b:List UInt8} (h:Em w lo hi v=some b):lo≤v∧v≤hi:=by
 unfold Em at h
 split at h
 ·rename_i q;exact q.2
 ·cases h
theorem Oj {w:Nat} {lo hi v:Int} {b:List UInt8} (h:Em w lo hi v=some b):AX v w=true:=by
 unfold Em at h
 split at h
 ·rename_i q;exact q.1
 ·cases h
theorem LX {P:PkM} (h0:CV P=0) (h1:P.I 0=1):VerbOk P:=by
 have h2:∃ e,Fz P=some e:=by
  unfold CV Nv at h0
  cases h:Fz P with
  | none=>rw [h] at h0;simp at h0
  | some e=>exact ⟨e,rfl⟩
 obtain ⟨e,he⟩:=h2
 unfold Fz at he
 rw [h1] at he
 have m:=Oi he
 have g:=fun w o lo hi (hm:Fld.num w o lo hi∈Ah++Al 1)=>(m _ hm).elim fun b hb=>UR (show Em w lo hi (P.I o)=some b from hb)
 have t:(P.S 7).length≤128:=(m (.text 2 128 7) (by simp [Ah,Al])).elim fun b hb=>by
  have hb:Fb 2 128 (P.S 7)=some b:=hb
  unfold Fb at hb
  split at hb
  ·assumption
  ·cases hb
 exact ⟨g 1 1 1 8 (by simp [Ah,Al]),g 1 4 1 4 (by simp [Ah,Al]),(g 8 3 0 BJ (by simp [Ah,Al])).1,(g 4 5 0 BJ (by simp [Ah,Al])).1,(g 2 6 0 BJ (by simp [Ah,Al])).1,(g 8 8 0 BJ (by simp [Ah,Al])).1,(g 8 9 0 BJ (by simp [Ah,Al])).1,t,
  by
   obtain ⟨b,hb⟩:=m (.num 4 5 0 BJ) (by simp [Ah,Al])
   have z:=Oj (show Em 4 0 BJ (P.I 5)=some b from hb)
   unfold AX at z
   have z:(decide (0≤P.I 5)&&decide (P.I 5<4294967296))=true:=z
   exact dT (Bool.and_eq_true _ _ ▸ z).2,
  by
   obtain ⟨b,hb⟩:=m (.num 2 6 0 BJ) (by simp [Ah,Al])
   have z:=Oj (show Em 2 0 BJ (P.I 6)=some b from hb)
   unfold AX at z
   have z:(decide (0≤P.I 6)&&decide (P.I 6<65536))=true:=z
   exact dT (Bool.and_eq_true _ _ ▸ z).2⟩
theorem Mm {m:Nat} {S:List SideM} {fr:Bool} {s1 s':SideM} (h8:S.length=8) {j k o:Nat} {vs:List Value} (hj:j<8) (hk:k+vs.length≤46) (ho:1+j*46+k=o) (hs:splice (AM s1) k vs=AM s'):splice (An m (S.set j s1) fr) o vs=An m (S.set j s') fr:=by
 rw [KZ (by rw [List.length_set];exact h8) hj hk ho (s':=s') (by rw [show (S.set j s1).getD j (Ac 0)=s1 from by rw [List.getD_eq_getElem?_getD,List.getElem?_set_self ω];rfl];exact hs),List.set_set]
theorem Row.mono_of {W w:World} {B sz n c:Nat} {a:Option Addr} {cs:List Value} (h:Row W sz a n c cs) (b:Below B W w∧B≤W.heap.size) (hB:B=W.heap.size):Row w sz a n c cs:=by subst hB;exact h.mono b.1
theorem Xk {w:World} {R:List Ch} {P:PkM} {a:Option Addr} {c:Nat} (hS:Sep w R) (hP:Be P) (hS7:shortP P) (hN:∀ s∈P.N,s.length≤1100000) (hn9:P.N.length≤1100000) (ha:Row w 1 a P.N.length c (P.N.map AS)) :
  CallsR Tryz.prog 32 #[.agg (pkC P a P.N.length c).toArray] w (fun v w'=>∃ ba bc,v=.tuple #[.slice ba (Jd P).length bc,ν (CV P)]∧Sep w' R):=
 Calls.mono (Py hP hS7 hN hn9 ha) fun e w' ⟨ba,bc,e1,_,b⟩=>⟨_,e1,ba,bc,rfl,hS.mono b⟩
theorem IR (g off:Nat) (w:World):(Instr.fieldAt 39 (.pointer (some ⟨g,off,none⟩)) 4).run Tryz.prog w=.ok (.pointer (some ⟨g,off+4,none⟩)) w:=rfl
theorem Hj (args:Array Value) (w:World):(callFunc 54 args).run Tryz.prog w=.ok (.enter 54 args) w:=by
 have h:=Tryz.func54
 go_simp
theorem CF (g off:Nat) (w:World):(Instr.fieldAt 39 (.pointer (some ⟨g,off,none⟩)) 12).run Tryz.prog w=.ok (.pointer (some ⟨g,off+19,none⟩)) w:=rfl
theorem Hi (args:Array Value) (w:World):(callFunc 55 args).run Tryz.prog w=.ok (.enter 55 args) w:=by
 have h:=Tryz.func55
 go_simp
theorem Gp (args:Array Value) (w:World):(callFunc 56 args).run Tryz.prog w=.ok (.enter 56 args) w:=by
 have h:=Tryz.func56
 go_simp
theorem GN (args:Array Value) (w:World):(callFunc 57 args).run Tryz.prog w=.ok (.enter 57 args) w:=by
 have h:=Tryz.func57
 go_simp
theorem EQ (g off:Nat) (w:World):(Instr.fieldAt 83 (.pointer (some ⟨g,off,none⟩)) 2).run Tryz.prog w=.ok (.pointer (some ⟨g,off+369,none⟩)) w:=rfl
theorem Lf (args:Array Value) (w:World):(callFunc 32 args).run Tryz.prog w=.ok (.enter 32 args) w:=by
 have h:=Tryz.func32
 go_simp
theorem IS (g off:Nat) (w:World):(Instr.fieldAt 39 (.pointer (some ⟨g,off,none⟩)) 0).run Tryz.prog w=.ok (.pointer (some ⟨g,off+0,none⟩)) w:=rfl
theorem Fd (g off:Nat) (w:World):(Instr.fieldAt 39 (.pointer (some ⟨g,off,none⟩)) 1).run Tryz.prog w=.ok (.pointer (some ⟨g,off+1,none⟩)) w:=rfl
theorem Fe (g off:Nat) (w:World):(Instr.fieldAt 39 (.pointer (some ⟨g,off,none⟩)) 2).run Tryz.prog w=.ok (.pointer (some ⟨g,off+2,none⟩)) w:=rfl
theorem CS (g off:Nat) (w:World):(Instr.fieldAt 39 (.pointer (some ⟨g,off,none⟩)) 3).run Tryz.prog w=.ok (.pointer (some ⟨g,off+3,none⟩)) w:=rfl
theorem IT (g off:Nat) (w:World):(Instr.fieldAt 39 (.pointer (some ⟨g,off,none⟩)) 4).run Tryz.prog w=.ok (.pointer (some ⟨g,off+4,none⟩)) w:=rfl
theorem Fu (args:Array Value) (w:World):(callFunc 27 args).run Tryz.prog w=.ok (.enter 27 args) w:=by
 have h:=Tryz.func27
 go_simp
theorem GW (g off:Nat) (w:World):(Instr.fieldAt 79 (.pointer (some ⟨g,off,none⟩)) 0).run Tryz.prog w=.ok (.pointer (some ⟨g,off+0,none⟩)) w:=rfl
theorem EM (g off:Nat) (w:World):(Instr.fieldAt 39 (.pointer (some ⟨g,off,none⟩)) 12).run Tryz.prog w=.ok (.pointer (some ⟨g,off+19,none⟩)) w:=rfl
theorem CU (g off:Nat) (w:World):(Instr.fieldAt 79 (.pointer (some ⟨g,off,none⟩)) 1).run Tryz.prog w=.ok (.pointer (some ⟨g,off+1,none⟩)) w:=rfl
theorem DZ (g off:Nat) (w:World):(Instr.fieldAt 79 (.pointer (some ⟨g,off,none⟩)) 2).run Tryz.prog w=.ok (.pointer (some ⟨g,off+2,none⟩)) w:=rfl
theorem Ea (g off:Nat) (w:World):(Instr.fieldAt 79 (.pointer (some ⟨g,off,none⟩)) 3).run Tryz.prog w=.ok (.pointer (some ⟨g,off+45,none⟩)) w:=rfl
theorem Ft (args:Array Value) (w:World):(callFunc 33 args).run Tryz.prog w=.ok (.enter 33 args) w:=by
 have h:=Tryz.func33
 go_simp
theorem RT {w:World} {R:List Ch} {P:PkM} {pa:Option Addr} {pc:Nat} {cg mg mb md mp ga:Nat} {S:List SideM} {fr:Bool} {M:MemM} (hS0:Sep w ([Ab cg 83 (An mg S fr),AJ mg mb md mp M,Ab ga 39 (pk0 (Ai P 0 [] 0))]++R)) (h8:S.length=8) (hM:M.V.length=23168) (hc:1≤P.I 1∧P.I 1≤8) (wP:wfP P) (h7:(P.S 7).length≤1000) (h9:0≤P.I 9) :
  CallsR Tryz.prog 33 #[π cg,.agg (pkC P pa P.N.length pc).toArray,π ga] w (fun v w'=>∃ M' er d ol,v=.tuple #[]∧Sep w' ([Ab cg 83 (An mg S fr),AJ mg mb md mp M',Ab ga 39 (pk0 (Ai P er d ol))]++R)∧CD P M=(M',er,d,ol)):=by
 have hS:Sep w [Ab cg 83 (An mg S fr),AJ mg mb md mp M,Ab ga 39 (pk0 (Ai P 0 [] 0)),Ch.many R]:=Sep.tail_many (xs:=[_,_,_]) hS0;clear hS0
 refine Cd Tryz.func33 rfl (N:=30) Tryz.ntmps33 (by show 3≤30;decide) [(0,π cg),(1,.agg (pkC P pa P.N.length pc).toArray),(2,π ga)] rfl fun _ h1=>sqr fun _ hK3=>so (wn rfl) fun _ hK1=>Jk h1 rfl rfl rfl rfl rfl (z:=(pkC P pa P.N.length pc)) rfl hS fun _ g4 w7 h5 s8 _ _=>hK1 _ _ ?_
 refine wpList_nil<|hK3 _ _<|sqr fun _ hK2=>mv h5 rfl fun _ h2=>wpList_nil<|hK2 _ _<|sq fun _ hK4=>sqr fun _ hK5=>fav h2 rfl (IR _ _) fun _ h3=>ldv h3 s8 0 υ3 rfl rfl rfl rfl fun _ h4=>h4.sn [8,6,4,0,1,2] rfl fun h6=>hK5 _ _<|wp_block ?_
 refine sqr fun _ hK6=>bv h6 (z:=.bool (decide ((P.I 4)=1))) rfl (cEq _ _ _ _ rfl) fun _ h10=>mv h10 rfl fun _ h11=>h11.sn [11,8,6,4,0,1,2] rfl fun h12=>hK6 _ _ ?_
 rcases bC (decide ((P.I 4)=1)) with hc1 | hc1
 ·skip
  have hp1:(P.I 4)=1:=(dT hc1)
  refine wcT h12 rfl hc1<|h12.sk [8,6,4,0,1,2] rfl fun h13=>wp_region_lit<|mv h13 rfl fun _ h14=>sv1 h14 rfl (v:=.func (.func 54) #[π cg] #[]) (Rp h14 (xs:=[.tmp 13]) (ys:=[]) rfl (vs:=[π cg]) (us:=[]) rfl rfl) fun _ h15=>h15.sk [14,13,8,4,0,1,2] rfl fun h16=>mv h16 rfl fun _ h17=>h17.sn [6,8,4,0,1,2] rfl fun h18=>hK4 _ _<|wp_region_lit ?_
  refine mvs 2 h18 rfl fun _ h19=>sw1 h19 rfl (v:=.agg (pkC P pa P.N.length pc).toArray) (rld h19 rfl rfl (ldA υ39 rfl (n:=43) κ (s8.get 0 rfl:Blk _ _ _ _) rfl rfl)) fun _ h20=>mv h20 rfl fun _ h21=>cl h21 rfl Hj (Xj (P:=P) (pa:=pa) (pc:=pc) (s8.pk [1,2,3,0,4] rfl) h8 hM hc wP h7) fun _ v1 w1 r1 h22=>?_
  obtain ⟨Mx47,erx48,dx49,olx50,rfl,s1,hv55⟩:=r1
  refine mv h22 rfl fun _ h23=>fav h23 rfl (CF _ _) fun _ h24=>st1 h24 s1 2 rfl rfl κ rfl rfl rfl rfl fun _ w2 h25 s2 _=>h25.sk [6,8,4,0,1,2] rfl fun h26=>wpList_nil ?_
  refine RR (v:=.tuple #[]) (fun _=>Sz rfl _) h26.defs ?_
  exact ⟨Mx47,erx48,dx49,olx50,rfl,Sep.tail_un (xs:=[_,_,_]) (s2.pk [0,1,2,4] rfl),(by unfold CD;simp only [if_pos (dT hc1)];exact hv55)⟩
 ·skip
  have hp2:¬ ((P.I 4)=1):=(dF hc1)
  refine wcF h12 rfl hc1<|h12.sk [8,6,4,0,1,2] rfl fun h27=>sqr fun _ hK7=>bv h27 (z:=.bool (decide ((P.I 4)=2))) rfl (cEq _ _ _ _ rfl) fun _ h28=>mv h28 rfl fun _ h29=>h29.sn [15,8,6,4,0,1,2] rfl fun h30=>hK7 _ _ ?_
  rcases bC (decide ((P.I 4)=2)) with hc2 | hc2
  ·skip
   have hp3:(P.I 4)=2:=(dT hc2)
   refine wcT h30 rfl hc2<|h30.sk [8,6,4,0,1,2] rfl fun h31=>wp_region_lit<|mv h31 rfl fun _ h32=>sv1 h32 rfl (v:=.func (.func 55) #[π cg] #[]) (Rp h32 (xs:=[.tmp 17]) (ys:=[]) rfl (vs:=[π cg]) (us:=[]) rfl rfl) fun _ h33=>h33.sk [18,17,8,4,0,1,2] rfl fun h34=>mv h34 rfl fun _ h35=>h35.sn [6,8,4,0,1,2] rfl fun h36=>hK4 _ _<|wp_region_lit ?_
   refine mvs 2 h36 rfl fun _ h37=>sw1 h37 rfl (v:=.agg (pkC P pa P.N.length pc).toArray) (rld h37 rfl rfl (ldA υ39 rfl (n:=43) κ (s8.get 0 rfl:Blk _ _ _ _) rfl rfl)) fun _ h38=>mv h38 rfl fun _ h39=>cl h39 rfl Hi (WN (P:=P) (pa:=pa) (pc:=pc) (s8.pk [1,2,3,0,4] rfl) h8 hM hc wP) fun _ v2 w3 r2 h40=>?_
   obtain ⟨Mx96,erx97,dx98,olx99,rfl,s3,hv104⟩:=r2
   refine mv h40 rfl fun _ h41=>fav h41 rfl (CF _ _) fun _ h42=>st1 h42 s3 2 rfl rfl κ rfl rfl rfl rfl fun _ w4 h43 s4 _=>h43.sk [6,8,4,0,1,2] rfl fun h44=>wpList_nil ?_
   refine RR (v:=.tuple #[]) (fun _=>Sz rfl _) h44.defs ?_
   exact ⟨Mx96,erx97,dx98,olx99,rfl,Sep.tail_un (xs:=[_,_,_]) (s4.pk [0,1,2,4] rfl),(by unfold CD;simp only [if_neg (dF hc1),if_pos (dT hc2)];exact hv104)⟩
  ·skip
   have hp4:¬ ((P.I 4)=2):=(dF hc2)
   refine wcF h30 rfl hc2<|h30.sk [8,6,4,0,1,2] rfl fun h45=>sqr fun _ hK8=>bv h45 (z:=.bool (decide ((P.I 4)=3))) rfl (cEq _ _ _ _ rfl) fun _ h46=>mv h46 rfl fun _ h47=>h47.sn [19,8,6,4,0,1,2] rfl fun h48=>hK8 _ _ ?_
   rcases bC (decide ((P.I 4)=3)) with hc3 | hc3
   ·skip
    have hp5:(P.I 4)=3:=(dT hc3)
    refine wcT h48 rfl hc3<|h48.sk [8,6,4,0,1,2] rfl fun h49=>wp_region_lit<|mv h49 rfl fun _ h50=>sv1 h50 rfl (v:=.func (.func 56) #[π cg] #[]) (Rp h50 (xs:=[.tmp 21]) (ys:=[]) rfl (vs:=[π cg]) (us:=[]) rfl rfl) fun _ h51=>h51.sk [22,21,8,4,0,1,2] rfl fun h52=>mv h52 rfl fun _ h53=>h53.sn [6,8,4,0,1,2] rfl fun h54=>hK4 _ _<|wp_region_lit ?_
    refine mvs 2 h54 rfl fun _ h55=>sw1 h55 rfl (v:=.agg (pkC P pa P.N.length pc).toArray) (rld h55 rfl rfl (ldA υ39 rfl (n:=43) κ (s8.get 0 rfl:Blk _ _ _ _) rfl rfl)) fun _ h56=>mv h56 rfl fun _ h57=>cl h57 rfl Gp (TB (P:=P) (pa:=pa) (pc:=pc) (s8.pk [1,2,3,0,4] rfl) h8 hM hc wP) fun _ v3 w5 r3 h58=>?_
    obtain ⟨Mx145,erx146,dx147,olx148,rfl,s5,hv153⟩:=r3
    refine mv h58 rfl fun _ h59=>fav h59 rfl (CF _ _) fun _ h60=>st1 h60 s5 2 rfl rfl κ rfl rfl rfl rfl fun _ w6 h61 s6 _=>h61.sk [6,8,4,0,1,2] rfl fun h62=>wpList_nil ?_
    refine RR (v:=.tuple #[]) (fun _=>Sz rfl _) h62.defs ?_
    exact ⟨Mx145,erx146,dx147,olx148,rfl,Sep.tail_un (xs:=[_,_,_]) (s6.pk [0,1,2,4] rfl),(by unfold CD;simp only [if_neg (dF hc1),if_neg (dF hc2),if_pos (dT hc3)];exact hv153)⟩
   ·skip
    have hp6:¬ ((P.I 4)=3):=(dF hc3)
    refine wcF h48 rfl hc3<|h48.sk [8,6,4,0,1,2] rfl fun h63=>wp_region_lit<|mv h63 rfl fun _ h64=>sv1 h64 rfl (v:=.func (.func 57) #[π cg] #[]) (Rp h64 (xs:=[.tmp 9]) (ys:=[]) rfl (vs:=[π cg]) (us:=[]) rfl rfl) fun _ h65=>h65.sk [10,9,8,4,0,1,2] rfl fun h66=>mv h66 rfl fun _ h67=>h67.sn [6,8,4,0,1,2] rfl fun h68=>hK4 _ _<|wp_region_lit ?_
    refine mvs 2 h68 rfl fun _ h69=>sw1 h69 rfl (v:=.agg (pkC P pa P.N.length pc).toArray) (rld h69 rfl rfl (ldA υ39 rfl (n:=43) κ (s8.get 0 rfl:Blk _ _ _ _) rfl rfl)) fun _ h70=>mv h70 rfl fun _ h71=>cl h71 rfl GN (WB (P:=P) (pa:=pa) (pc:=pc) (s8.pk [1,2,3,0,4] rfl) h8 hM hc wP h9) fun _ v4 w8 r4 h72=>?_
    obtain ⟨Mx185,erx186,dx187,olx188,rfl,s7,hv193⟩:=r4
    refine mv h72 rfl fun _ h73=>fav h73 rfl (CF _ _) fun _ h74=>st1 h74 s7 2 rfl rfl κ rfl rfl rfl rfl fun _ w9 h75 s9 _=>h75.sk [6,8,4,0,1,2] rfl fun h76=>wpList_nil ?_
    refine RR (v:=.tuple #[]) (fun _=>Sz rfl _) h76.defs ?_
    exact ⟨Mx185,erx186,dx187,olx188,rfl,Sep.tail_un (xs:=[_,_,_]) (s9.pk [0,1,2,4] rfl),(by unfold CD;simp only [if_neg (dF hc1),if_neg (dF hc2),if_neg (dF hc3)];exact hv193)⟩
theorem PM {w:World} {R:List Ch} {P:PkM} {pa:Option Addr} {pc:Nat} {cg mg mb md mp B:Nat} {S:List SideM} {fr:Bool} {M:MemM} {W:World} (hS0:Sep w ([Ab cg 83 (An mg S fr),AJ mg mb md mp M,AO W B]++R)) (h8:S.length=8) (hM:M.V.length=23168) (hB:B=W.heap.size) (wP:wfP P) (hP:Be P) (hS7:shortP P) (hN:∀ s∈P.N,s.length≤1100000) (hn9:P.N.length≤1100000) (hNm:Row W 1 pa P.N.length pc (P.N.map AS)) :
  CallsR Tryz.prog 17 #[π cg,.agg (pkC P pa P.N.length pc).toArray] w (fun v w'=>∃ M' S' fr' Q b,v=.tuple #[.agg (pk0 Q).toArray,.bool b]∧Sep w' ([Ab cg 83 (An mg S' fr'),AJ mg mb md mp M',AO W B]++R)∧doC ⟨M,S,fr⟩ P=(⟨M',S',fr'⟩,Q,b)):=by
 have hS:Sep w [Ab cg 83 (An mg S fr),AJ mg mb md mp M,AO W B,Ch.many R]:=Sep.tail_many (xs:=[_,_,_]) hS0;clear hS0
 refine Cd Tryz.func17 rfl (N:=97) Tryz.ntmps17 (by show 2≤97;decide) [(0,π cg),(1,.agg (pkC P pa P.N.length pc).toArray)] rfl fun _ h1=>sqr fun _ hK3=>so (wn rfl) fun _ hK1=>Jk h1 rfl rfl rfl rfl rfl (z:=(pkC P pa P.N.length pc)) rfl hS fun _ g4 w7 h5 s8 _ _=>hK1 _ _ ?_
 refine so (wn rfl) fun _ hK2=>Cj h5 rfl rfl rfl rfl (z:=[ν 0,ν 0,ν 0,ν 0,ν 0,ν 0,ν 0,σ [],ν 0,ν 0,ν 0,σ [],σ [],ν 0,ν 0,ν 0,ν 0,σ [],ν 0,ν 0,ν 0,ν 0,σ [],.slice none 0 0,ν 0,ν 0,ν 0,ν 0,ν 0,ν 0,ν 0,ν 0,ν 0,ν 0,ν 0,ν 0,ν 0,ν 0,ν 0,ν 0,ν 0,ν 0,ν 0]) (fun _=>rfl) s8 fun _ g1 w2 h2 s1 _ _=>hK2 _ _ ?_
 refine mv h2 rfl fun _ h4=>wpList_nil<|hK3 _ _<|sqr fun _ hK4=>mvs 2 h4 rfl fun _ h6=>fav h6 rfl (EQ _ _) fun _ h7=>so (wn rfl) fun _ hK5=>BE h7 rfl rfl s1 2 rfl rfl rfl [.bool false] rfl κ (by first | rfl | exact Gv _) (by rw [CY h8];exact Nat.le_refl 370) (L':=An mg S false) (La h8 _) (cs':=[Ab g1 39 (pk0 P0z),Ab g4 39 (pkC P pa P.N.length pc),Ab cg 83 (An mg S false),AJ mg mb md mp M,AO W B,Ch.many R]) rfl fun _ w3 h9 s2 _=>hK5 _ _ ?_
 refine h9.sn [5,4,3,0,1] rfl fun h10=>hK4 _ _<|sq fun _ hK6=>sqr fun _ hK7=>sw1 h10 rfl (v:=.agg (pkC P pa P.N.length pc).toArray) (rld h10 rfl rfl (ldA υ39 rfl (n:=43) κ (s2.get 1 rfl:Blk _ _ _ _) rfl rfl)) fun _ h11=>cl h11 rfl Lf (Xk s2 hP hS7 hN hn9 (hNm.mono_of (s2.get 4 rfl:Below _ _ _∧_) hB)) fun _ v1 w4 r1 h12=>?_
 obtain ⟨bax40,bcx41,rfl,s3⟩:=r1
 refine mvs 5 h12 rfl fun _ h13=>h13.sn [7,5,4,3,0,1] rfl fun h14=>hK7 _ _<|sqr fun _ hK8=>mv h14 rfl fun _ h15=>bv h15 (z:=.bool (decide (CV P≠0))) rfl (cNe _ _ _ _ rfl) fun _ h16=>mv h16 rfl fun _ h17=>sg h17 (wF h17 rfl rfl rfl) rfl rfl rfl (v:=π g4) (fun hC1=>by have hq:=(dF (CE hC1));exact rfa h17 rfl rfl (fun w=>IS g4 0 w) _) fun _ h18=>sg h18 (wF h18 rfl rfl rfl) rfl rfl rfl (v:=ν (P.I 0)) (fun hC2=>by have hq:=(dF (CE hC2));exact (rld h18 rfl (opg rfl hC2) (ldB υ3 rfl (s3.get 1 rfl:Blk _ _ _ _) rfl))) fun _ h19=>sg h19 (wF h19 rfl rfl rfl) rfl rfl rfl (v:=.bool (decide ((P.I 0)≠1))) (fun hC3=>by have hq:=(dF (CE hC3));exact Cy h19 rfl (opg rfl hC3) rfl (cNe _ _ _ _ rfl) _) fun _ h20=>?_
 refine sv1 h20 rfl (v:=.bool ((decide (CV P≠0))||(decide ((P.I 0)≠1)))) (Jf h20 rfl (E:=(decide (CV P≠0))) (F:=(decide ((P.I 0)≠1))) rfl rfl rfl (fun e=>if_pos (by rw [e];try rfl))) fun _ h21=>h21.sn [24,7,5,4,3,0,1] rfl fun h22=>hK8 _ _ ?_
 rcases bC ((decide (CV P≠0))||(decide ((P.I 0)≠1))) with hc1 | hc1
 ·skip
  have hp1:(CV P≠0)∨((P.I 0)≠1):=((orT hc1).imp (fun q=>(dT q)) (fun q=>(dT q)))
  refine wcT h22 rfl hc1<|h22.sk [7,5,4,3,0,1] rfl fun h23=>sqr fun _ hK9=>bu h23 (v:=.agg (pk0 P0z).toArray) rfl (fun w=>κ) fun _ h24=>stA h24 s3 0 rfl rfl rfl κ rfl rfl rfl rfl fun _ w5 h25 s4 _=>h25.sk [25,7,4,3,0,1] rfl fun h26=>mv h26 rfl fun _ h27=>h27.sn [5,7,4,3,0,1] rfl fun h28=>hK9 _ _<|wp_ret ?_
  try simp only [Exit.then,Exit.inBlock]
  refine rCt h28 s4 0 υ39 rfl rfl rfl rfl rfl ?_
  exact ⟨M,S,false,P0z,false,rfl,Sep.tail_un (xs:=[_,_,_]) (s4.pk [2,3,4,5] rfl),(by unfold doC;rw [if_pos ω])⟩
 ·skip
  have hp2:(¬ (CV P≠0))∧(¬ ((P.I 0)≠1)):=(And.intro (dF (orF hc1).1) (dF (orF hc1).2))
  have hz0:CV P=0∧P.I 0=1:=ω
  have hok:=LX hz0.1 hz0.2
  obtain ⟨j,hjc⟩:∃ j:Nat,P.I 1=(j:Int)+1:=⟨(P.I 1-1).toNat,by have:=hok.c;omega⟩
  have hj:j<8:=by have:=hok.c;omega
  obtain ⟨s,hs⟩:∃ s,S.getD j (Ac 0)=s:=⟨_,rfl⟩
  have h3:=hok.n3
  have h3u:=wP 3
  unfold wfI at h3u
  refine wcF h22 rfl hc1<|h22.sk [7,5,4,3,0,1] rfl fun h29=>wp_skip<|hK6 _ _<|sqr fun _ hK10=>fav h29 rfl (Fd _ _) fun _ h30=>ldv h30 s3 1 υ3 rfl rfl rfl rfl fun _ h31=>fav h31 rfl (Fe _ _) fun _ h32=>ldv h32 s3 1 υ3 rfl rfl rfl rfl fun _ h33=>fav h33 rfl (CS _ _) fun _ h34=>ldv h34 s3 1 υ3 rfl rfl rfl rfl fun _ h35=>?_
  refine fav h35 rfl (IT _ _) fun _ h36=>ldv h36 s3 1 υ3 rfl rfl rfl rfl fun _ h37=>bu h37 (v:=.agg (pk0 (Ai P 0 [] 0)).toArray) rfl (fun w=>κ) fun _ h38=>so (wn rfl) fun _ hK11=>Cj h38 rfl rfl rfl rfl (z:=[ν 0,ν 0,ν 0,ν 0,ν 0,ν 0,ν 0,σ [],ν 0,ν 0,ν 0,σ [],σ [],ν 0,ν 0,ν 0,ν 0,σ [],ν 0,ν 0,ν 0,ν 0,σ [],.slice none 0 0,ν 0,ν 0,ν 0,ν 0,ν 0,ν 0,ν 0,ν 0,ν 0,ν 0,ν 0,ν 0,ν 0,ν 0,ν 0,ν 0,ν 0,ν 0,ν 0]) (fun _=>rfl) s3 fun _ g2 w6 h39 s5 _ _=>hK11 _ _ ?_
  refine stA h39 s5 0 rfl rfl rfl κ rfl rfl rfl rfl fun _ w8 h40 s6 _=>h40.sn [8,7,5,4,3,0,1] rfl fun h41=>hK10 _ _<|sqr fun _ hK12=>mv h41 rfl fun _ h42=>fav h42 rfl (Fd _ _) fun _ h43=>ldv h43 s6 2 υ3 rfl rfl rfl rfl fun _ h44=>cl h44 rfl Fu (Kf s6 hj hjc) fun _ v2 w9 r2 h45=>?_
  obtain ⟨rfl,s7⟩:=r2
  refine mv h45 rfl fun _ h46=>h46.sn [9,8,7,5,4,3,0,1] rfl fun h47=>hK12 _ _<|sq fun _ hK13=>wp_block ?_
  refine sq fun _ hK14=>?_
  have s9:=s7.drew
  refine wp_region_held_drew (S:=fun w'=>Sep w' [Ab g2 39 (pk0 (Ai P 0 [] 0)),Ab g1 39 (pk0 P0z),Ab g4 39 (pkC P pa P.N.length pc),Ab cg 83 (An mg S false),AJ mg mb md mp M,AO W B,Ch.many R]) κ s9 (fun hq1=>?_)
  refine tv1 hq1 h47 0 rfl rfl (v:=.pointer (some ⟨g4,2,none⟩)) (fun w1 _=>(rfa h47 rfl rfl (fun w=>Fe g4 0 w)) w1) fun _ h48=>?_
  refine tv1 hq1 h48 1 rfl rfl (v:=ν (P.I 2)) (fun w1 hSw=>(rld h48 rfl rfl (ldB υ3 rfl (hSw.get 2 rfl:Blk _ _ _ _) rfl))) fun _ h49=>?_
  refine tv1 hq1 h49 2 rfl rfl (v:=.pointer (some ⟨cg,1+j*46,none⟩)) (fun w1 _=>(Aj h49 rfl rfl) w1) fun _ h50=>?_
  refine tv1 hq1 h50 3 rfl rfl (v:=.pointer (some ⟨cg,1+j*46,none⟩)) (fun w1 _=>(Bt h50 rfl rfl) w1) fun _ h51=>?_
  refine tv1 hq1 h51 4 rfl rfl (v:=.pointer (some ⟨cg,1+j*46+0,none⟩)) (fun w1 _=>(rfa h51 rfl rfl (fun w=>GW cg (1+j*46) w)) w1) fun _ h52=>?_
  refine tv1 hq1 h52 5 rfl rfl (v:=ν s.ep) (fun w1 hSw=>(rld h52 rfl rfl (ldB υ3 rfl (hSw.get 3 rfl:Blk _ _ _ _) ((FJ h8 ω (k:=0) (by decide) rfl).trans (by rw [hs];rfl))))) fun _ h53=>?_
  refine tv1 hq1 h53 6 rfl rfl (v:=.bool (decide ((P.I 2)≠s.ep))) (fun w1 _=>(Cy h53 rfl rfl rfl (cNe _ _ _ _ rfl)) w1) fun _ h54=>?_
  refine tv1 hq1 h54 7 rfl rfl (v:=.bool (decide ((P.I 2)≠s.ep))) (fun w1 _=>(AA h54 rfl rfl) w1) fun _ h55=>?_
  refine h55.sk [39,9,8,7,5,4,3,0,1] rfl fun h56=>?_
  refine wpAnyH_done κ ?_ _
  refine hK14 _ _ ?_
  rcases bC (decide ((P.I 2)≠s.ep)) with hc2 | hc2
  ·skip
   have hp3:(P.I 2)≠s.ep:=(dT hc2)
   refine wcT h56 rfl hc2<|h56.sk [9,8,7,5,4,3,0,1] rfl fun h57=>sqr fun _ hK15=>fav h57 rfl (EM _ _) fun _ h58=>st1 h58 s9 0 rfl rfl κ rfl rfl rfl rfl fun _ w10 h59 s10 _=>h59.sn [9,8,7,5,4,3,0,1] rfl fun h60=>hK15 _ _<|sqr fun _ hK16=>sw1 h60 rfl (v:=.agg (pk0 (Ai P 31 [] 0)).toArray) (rld h60 rfl rfl (ldA υ39 rfl (n:=43) κ (s10.get 0 rfl:Blk _ _ _ _) rfl rfl)) fun _ h61=>stA h61 s10 1 rfl rfl rfl κ rfl rfl rfl rfl fun _ w11 h62 s11 _=>?_
   refine h62.sk [48,9,8,7,4,3,0,1] rfl fun h63=>mv h63 rfl fun _ h64=>h64.sn [5,9,8,7,4,3,0,1] rfl fun h65=>hK16 _ _<|wp_ret ?_
   try simp only [Exit.then,Exit.inBlock]
   refine rCt h65 s11 1 υ39 rfl rfl rfl rfl rfl ?_
   exact ⟨M,S,false,(Ai P 31 [] 0),true,rfl,Sep.tail_un (xs:=[_,_,_]) (s11.pk [3,4,5,6] rfl),(by unfold doC;rw [if_neg ω];simp only [show (P.I 1-1).toNat=j from ω,hs];rw [if_pos ω])⟩
  ·skip
   have hp4:¬ ((P.I 2)≠s.ep):=(dF hc2)
   refine wcF h56 rfl hc2<|h56.sk [9,8,7,5,4,3,0,1] rfl fun h66=>sq fun _ hK17=>?_
   have s12:=s9.drew
   refine wp_region_held_drew (S:=fun w'=>Sep w' [Ab g2 39 (pk0 (Ai P 0 [] 0)),Ab g1 39 (pk0 P0z),Ab g4 39 (pkC P pa P.N.length pc),Ab cg 83 (An mg S false),AJ mg mb md mp M,AO W B,Ch.many R]) κ s12 (fun hq2=>?_)
   refine tv1 hq2 h66 0 rfl rfl (v:=.pointer (some ⟨g4,3,none⟩)) (fun w1 _=>(rfa h66 rfl rfl (fun w=>CS g4 0 w)) w1) fun _ h67=>?_
   refine tv1 hq2 h67 1 rfl rfl (v:=ν (P.I 3)) (fun w1 hSw=>(rld h67 rfl rfl (ldB υ3 rfl (hSw.get 2 rfl:Blk _ _ _ _) rfl))) fun _ h68=>?_
   refine tv1 hq2 h68 2 rfl rfl (v:=.pointer (some ⟨cg,1+j*46,none⟩)) (fun w1 _=>(Aj h68 rfl rfl) w1) fun _ h69=>?_
   refine tv1 hq2 h69 3 rfl rfl (v:=.pointer (some ⟨cg,1+j*46,none⟩)) (fun w1 _=>(Bt h69 rfl rfl) w1) fun _ h70=>?_
   refine tv1 hq2 h70 4 rfl rfl (v:=.pointer (some ⟨cg,1+j*46+1,none⟩)) (fun w1 _=>(rfa h70 rfl rfl (fun w=>CU cg (1+j*46) w)) w1) fun _ h71=>?_
   refine tv1 hq2 h71 5 rfl rfl (v:=ν s.last) (fun w1 hSw=>(rld h71 rfl rfl (ldB υ3 rfl (hSw.get 3 rfl:Blk _ _ _ _) ((FJ h8 ω (k:=1) (by decide) rfl).trans (by rw [hs];rfl))))) fun _ h72=>?_
   refine tv1 hq2 h72 6 rfl rfl (v:=.bool (decide ((P.I 3)=s.last))) (fun w1 _=>(Cy h72 rfl rfl rfl (cEq _ _ _ _ rfl)) w1) fun _ h73=>?_
   refine tv1 hq2 h73 7 rfl rfl (v:=.bool (decide ((P.I 3)=s.last))) (fun w1 _=>(AA h73 rfl rfl) w1) fun _ h74=>?_
   refine h74.sk [49,9,8,7,5,4,3,0,1] rfl fun h75=>?_
   refine wpAnyH_done κ ?_ _
   refine hK17 _ _ ?_
   rcases bC (decide ((P.I 3)=s.last)) with hc3 | hc3
   ·skip
    have hp5:(P.I 3)=s.last:=(dT hc3)
    refine wcT h75 rfl hc3<|h75.sk [9,8,7,5,4,3,0,1] rfl fun h76=>sq fun _ hK18=>?_
    have s13:=s12.drew
    refine wp_region_held_drew (S:=fun w'=>Sep w' [Ab g2 39 (pk0 (Ai P 0 [] 0)),Ab g4 39 (pkC P pa P.N.length pc),Ab cg 83 (An mg S false),AJ mg mb md mp M,AO W B,Ch.many R]) κ (s13.pk [0,2,3,4,5,6] rfl) (fun hq3=>?_)
    refine tv1 hq3 h76 0 rfl rfl (v:=.pointer (some ⟨cg,1+j*46,none⟩)) (fun w1 _=>(Aj h76 rfl rfl) w1) fun _ h77=>?_
    refine tv1 hq3 h77 1 rfl rfl (v:=.pointer (some ⟨cg,1+j*46,none⟩)) (fun w1 _=>(Bt h77 rfl rfl) w1) fun _ h78=>?_
    refine tv1 hq3 h78 2 rfl rfl (v:=.pointer (some ⟨cg,1+j*46+2,none⟩)) (fun w1 _=>(rfa h78 rfl rfl (fun w=>DZ cg (1+j*46) w)) w1) fun _ h79=>?_
    refine tv1 hq3 h79 3 rfl rfl (v:=.agg (pkC s.told none 0 0).toArray) (fun w1 hSw=>(rld h79 rfl rfl (ldA υ39 rfl (n:=43) κ (hSw.get 2 rfl:Blk _ _ _ _) ((RH h8 ω rfl).trans (by rw [hs])) rfl))) fun _ h80=>?_
    refine tv1 hq3 h80 4 rfl rfl (v:=.pointer (some ⟨cg,1+j*46,none⟩)) (fun w1 _=>(Aj h80 rfl rfl) w1) fun _ h81=>?_
    refine tv1 hq3 h81 5 rfl rfl (v:=.pointer (some ⟨cg,1+j*46,none⟩)) (fun w1 _=>(Bt h81 rfl rfl) w1) fun _ h82=>?_
    refine tv1 hq3 h82 6 rfl rfl (v:=.pointer (some ⟨cg,1+j*46+45,none⟩)) (fun w1 _=>(rfa h82 rfl rfl (fun w=>Ea cg (1+j*46) w)) w1) fun _ h83=>?_
    refine tv1 hq3 h83 7 rfl rfl (v:=.bool s.had) (fun w1 hSw=>(rld h83 rfl rfl (ldB υ4 rfl (hSw.get 2 rfl:Blk _ _ _ _) ((FJ h8 ω (k:=45) (by decide) rfl).trans (by rw [hs];rfl))))) fun _ h84=>?_
    refine to_ 8 rfl (wn rfl) κ fun _ hK19=>BE h84 rfl rfl s13 1 rfl rfl rfl [ν (s.told.I 0),ν (s.told.I 1),ν (s.told.I 2),ν (s.told.I 3),ν (s.told.I 4),ν (s.told.I 5),ν (s.told.I 6),σ (s.told.S 7),ν (s.told.I 8),ν (s.told.I 9),ν (s.told.I 10),σ (s.told.S 11),σ (s.told.S 12),ν (s.told.I 13),ν (s.told.I 14),ν (s.told.I 15),ν (s.told.I 16),σ (s.told.S 17),ν (s.told.I 18),ν (s.told.I 19),ν (s.told.I 20),ν (s.told.I 21),σ (s.told.S 22),.slice none 0 0,ν (s.told.I 24),ν (s.told.I 25),ν (s.told.I 26),ν (s.told.I 27),ν (s.told.I 28),ν (s.told.I 29),ν (s.told.I 30),ν (s.told.I 31),ν (s.told.I 32),ν (s.told.I 33),ν (s.told.I 34),ν (s.told.I 35),ν (s.told.I 36),ν (s.told.I 37),ν (s.told.I 38),ν (s.told.I 39),ν (s.told.I 40),ν (s.told.I 41),ν (s.told.I 42)] rfl κ rfl (by show 0+43≤43;decide) (L':=[ν (s.told.I 0),ν (s.told.I 1),ν (s.told.I 2),ν (s.told.I 3),ν (s.told.I 4),ν (s.told.I 5),ν (s.told.I 6),σ (s.told.S 7),ν (s.told.I 8),ν (s.told.I 9),ν (s.told.I 10),σ (s.told.S 11),σ (s.told.S 12),ν (s.told.I 13),ν (s.told.I 14),ν (s.told.I 15),ν (s.told.I 16),σ (s.told.S 17),ν (s.told.I 18),ν (s.told.I 19),ν (s.told.I 20),ν (s.told.I 21),σ (s.told.S 22),.slice none 0 0,ν (s.told.I 24),ν (s.told.I 25),ν (s.told.I 26),ν (s.told.I 27),ν (s.told.I 28),ν (s.told.I 29),ν (s.told.I 30),ν (s.told.I 31),ν (s.told.I 32),ν (s.told.I 33),ν (s.told.I 34),ν (s.told.I 35),ν (s.told.I 36),ν (s.told.I 37),ν (s.told.I 38),ν (s.told.I 39),ν (s.told.I 40),ν (s.told.I 41),ν (s.told.I 42)]) rfl (cs':=[Ab g2 39 (pk0 (Ai P 0 [] 0)),Ab g1 39 (pkC s.told none 0 0),Ab g4 39 (pkC P pa P.N.length pc),Ab cg 83 (An mg S false),AJ mg mb md mp M,AO W B,Ch.many R]) rfl fun _ w12 h85 s14 _=>?_
    refine hK19 _ _ (s14.pk [0,2,3,4,5,6] rfl) fun hq4=>h85.sk [64,63,62,61,60,59,58,57,9,8,7,4,3,0,1] rfl fun h86=>?_
    refine tv1 hq4 h86 9 rfl rfl (v:=.bool s.had) (fun w1 _=>(AA h86 rfl rfl) w1) fun _ h87=>?_
    refine h87.sk [5,9,8,7,4,3,0,1] rfl fun h88=>?_
    refine wpAnyH_done κ ?_ _
    refine hK18 _ _ ?_
    refine wp_ret ?_
    try simp only [Exit.then,Exit.inBlock]
    refine rCt h88 s14 1 υ39 rfl rfl rfl rfl rfl ?_
    exact ⟨M,S,false,s.told,s.had,rfl,Sep.tail_un (xs:=[_,_,_]) (s14.pk [3,4,5,6] rfl),(by unfold doC;rw [if_neg ω];simp only [show (P.I 1-1).toNat=j from ω,hs];rw [if_neg ω];rw [if_pos ω])⟩
   ·skip
    have hp6:¬ ((P.I 3)=s.last):=(dF hc3)
    refine wcF h75 rfl hc3<|h75.sk [9,8,7,5,4,3,0,1] rfl fun h89=>sq fun _ hK20=>?_
    have s15:=s12.drew
    refine wp_region_held_drew (S:=fun w'=>Sep w' [Ab g2 39 (pk0 (Ai P 0 [] 0)),Ab g1 39 (pk0 P0z),Ab g4 39 (pkC P pa P.N.length pc),Ab cg 83 (An mg S false),AJ mg mb md mp M,AO W B,Ch.many R]) κ s15 (fun hq5=>?_)
    refine tv1 hq5 h89 0 rfl rfl (v:=.pointer (some ⟨g4,3,none⟩)) (fun w1 _=>(rfa h89 rfl rfl (fun w=>CS g4 0 w)) w1) fun _ h90=>?_
    refine tv1 hq5 h90 1 rfl rfl (v:=ν (P.I 3)) (fun w1 hSw=>(rld h90 rfl rfl (ldB υ3 rfl (hSw.get 2 rfl:Blk _ _ _ _) rfl))) fun _ h91=>?_
    refine tv1 hq5 h91 2 rfl rfl (v:=ν ((P.I 3)-1)) (fun w1 _=>(Cy h91 rfl rfl rfl (MX _ _ _ ω ω ω)) w1) fun _ h92=>?_
    refine tv1 hq5 h92 3 rfl rfl (v:=.pointer (some ⟨cg,1+j*46,none⟩)) (fun w1 _=>(Aj h92 rfl rfl) w1) fun _ h93=>?_
    refine tv1 hq5 h93 4 rfl rfl (v:=.pointer (some ⟨cg,1+j*46,none⟩)) (fun w1 _=>(Bt h93 rfl rfl) w1) fun _ h94=>?_
    refine tv1 hq5 h94 5 rfl rfl (v:=.pointer (some ⟨cg,1+j*46+1,none⟩)) (fun w1 _=>(rfa h94 rfl rfl (fun w=>CU cg (1+j*46) w)) w1) fun _ h95=>?_
    refine tv1 hq5 h95 6 rfl rfl (v:=ν s.last) (fun w1 hSw=>(rld h95 rfl rfl (ldB υ3 rfl (hSw.get 3 rfl:Blk _ _ _ _) ((FJ h8 ω (k:=1) (by decide) rfl).trans (by rw [hs];rfl))))) fun _ h96=>?_
    refine tv1 hq5 h96 7 rfl rfl (v:=.bool (decide ((P.I 3)-1≠s.last))) (fun w1 _=>(Cy h96 rfl rfl rfl (cNe _ _ _ _ rfl)) w1) fun _ h97=>?_
    refine tv1 hq5 h97 8 rfl rfl (v:=.bool (decide ((P.I 3)-1≠s.last))) (fun w1 _=>(AA h97 rfl rfl) w1) fun _ h98=>?_
    refine h98.sk [65,9,8,7,5,4,3,0,1] rfl fun h99=>?_
    refine wpAnyH_done κ ?_ _
    refine hK20 _ _ ?_
    rcases bC (decide ((P.I 3)-1≠s.last)) with hc4 | hc4
    ·skip
     have hp7:(P.I 3)-1≠s.last:=(dT hc4)
     refine wcT h99 rfl hc4<|h99.sk [9,8,7,5,4,3,0,1] rfl fun h100=>sqr fun _ hK21=>bu h100 (v:=.agg (pk0 P0z).toArray) rfl (fun w=>κ) fun _ h101=>stA h101 s15 1 rfl rfl rfl κ rfl rfl rfl rfl fun _ w13 h102 s16 _=>h102.sk [74,9,8,7,4,3,0,1] rfl fun h103=>mv h103 rfl fun _ h104=>h104.sn [5,9,8,7,4,3,0,1] rfl fun h105=>hK21 _ _<|wp_ret ?_
     try simp only [Exit.then,Exit.inBlock]
     refine rCt h105 s16 1 Tryz.underlying39 rfl rfl rfl rfl rfl ?_
     exact ⟨M,S,false,P0z,false,rfl,Sep.tail_un (xs:=[_,_,_]) (s16.pk [3,4,5,6] rfl),(by unfold doC;rw [if_neg ω];simp only [show (P.I 1-1).toNat=j from ω,hs];rw [if_neg ω];rw [if_neg ω];rw [if_pos ω])⟩
    ·skip
     have hp8:¬ ((P.I 3)-1≠s.last):=(dF hc4)
     refine wcF h99 rfl hc4<|h99.sk [9,8,7,5,4,3,0,1] rfl fun h106=>wp_skip<|hK13 _ _<|sqr fun _ hK22=>mv h106 rfl fun _ h107=>sw1 h107 rfl (v:=.agg (pkC P pa P.N.length pc).toArray) (rld h107 rfl rfl (ldA υ39 rfl (n:=43) κ (s15.get 2 rfl:Blk _ _ _ _) rfl rfl)) fun _ h108=>cl h108 rfl Ft (RT (P:=P) (pa:=pa) (pc:=pc) (s15.pk [3,4,0,1,2,5,6] rfl) h8 hM hok.c wP hok.d2 hok.n9) fun _ v3 w14 r3 h109=>?_
     obtain ⟨Mx297,erx298,dx299,olx300,rfl,s17,hv305⟩:=r3
     refine h109.sn [9,8,7,5,4,3,0,1] rfl fun h110=>hK22 _ _<|sqr fun _ hK23=>mv h110 rfl fun _ h111=>fav h111 rfl (EM _ _) fun _ h112=>ldv h112 s17 2 υ28 rfl rfl rfl rfl fun _ h113=>bv h113 (z:=.bool (decide (erx298=0))) rfl (cEq _ _ _ _ rfl) fun _ h114=>mv h114 rfl fun _ h115=>fav h115 rfl (EQ _ _) fun _ h116=>so (wn rfl) fun _ hK24=>BE h116 rfl rfl s17 0 rfl rfl rfl [.bool (decide (erx298=0))] rfl κ (by first | rfl | exact Gv _) (by rw [CY h8];exact Nat.le_refl 370) (L':=An mg S (decide (erx298=0))) (La h8 _) (cs':=[Ab cg 83 (An mg S (decide (erx298=0))),AJ mg mb md mp Mx297,Ab g2 39 (pk0 (Ai P erx298 dx299 olx300)),Ab g1 39 (pk0 P0z),Ab g4 39 (pkC P pa P.N.length pc),AO W B,Ch.many R]) rfl fun _ w15 h117 s18 _=>hK24 _ _ ?_
     refine h117.sn [9,8,7,5,4,3,0,1] rfl fun h118=>hK23 _ _<|sqr fun _ hK25=>mvs 3 h118 rfl fun _ h119=>fav h119 rfl (CS _ _) fun _ h120=>ldv h120 s18 4 υ3 rfl rfl rfl rfl fun _ h121=>sw1 h121 rfl (v:=.agg (pk0 (Ai P erx298 dx299 olx300)).toArray) (rld h121 rfl rfl (ldA υ39 rfl (n:=43) κ (s18.get 2 rfl:Blk _ _ _ _) rfl rfl)) fun _ h122=>mv h122 rfl fun _ h123=>sv1 h123 rfl (v:=.pointer (some ⟨cg,1+j*46+1,none⟩)) (rfa h123 rfl rfl (fun w=>CU cg (1+j*46) w)) fun _ h124=>so (wn rfl) fun _ hK26=>BE h124 rfl rfl s18 0 rfl rfl rfl [ν (P.I 3)] rfl κ (by first | rfl | exact Gv _) (by rw [CY h8];show 1+j*46+1+1≤370;omega) (L':=An mg (S.set j (⟨s.ep,(P.I 3),s.told,s.had⟩:SideM)) (decide (erx298=0))) (KZ h8 ω (k:=1) (show 1+1≤46 by decide) rfl (s':=(⟨s.ep,(P.I 3),s.told,s.had⟩:SideM)) (by rw [hs];rfl)) (cs':=[Ab cg 83 (An mg (S.set j (⟨s.ep,(P.I 3),s.told,s.had⟩:SideM)) (decide (erx298=0))),AJ mg mb md mp Mx297,Ab g2 39 (pk0 (Ai P erx298 dx299 olx300)),Ab g1 39 (pk0 P0z),Ab g4 39 (pkC P pa P.N.length pc),AO W B,Ch.many R]) rfl fun _ w16 h125 s19 _=>hK26 _ _ ?_
     refine mv h125 rfl fun _ h126=>sv1 h126 rfl (v:=.pointer (some ⟨cg,1+j*46+2,none⟩)) (rfa h126 rfl rfl (fun w=>DZ cg (1+j*46) w)) fun _ h127=>so (wn rfl) fun _ hK27=>BE h127 rfl rfl s19 0 rfl rfl rfl (pk0 (Ai P erx298 dx299 olx300)) rfl κ (by first | rfl | exact Gv _) (by rw [CY (by simp only [List.length_set];exact h8)];show 1+j*46+2+43≤370;omega) (L':=An mg (S.set j (⟨s.ep,(P.I 3),(Ai P erx298 dx299 olx300),s.had⟩:SideM)) (decide (erx298=0))) (Mm h8 ω (k:=2) (show 2+43≤46 by decide) rfl (s':=(⟨s.ep,(P.I 3),(Ai P erx298 dx299 olx300),s.had⟩:SideM)) rfl) (cs':=[Ab cg 83 (An mg (S.set j (⟨s.ep,(P.I 3),(Ai P erx298 dx299 olx300),s.had⟩:SideM)) (decide (erx298=0))),AJ mg mb md mp Mx297,Ab g2 39 (pk0 (Ai P erx298 dx299 olx300)),Ab g1 39 (pk0 P0z),Ab g4 39 (pkC P pa P.N.length pc),AO W B,Ch.many R]) rfl fun _ w17 h128 s20 _=>hK27 _ _ ?_
     refine mv h128 rfl fun _ h129=>sv1 h129 rfl (v:=.pointer (some ⟨cg,1+j*46+45,none⟩)) (rfa h129 rfl rfl (fun w=>Ea cg (1+j*46) w)) fun _ h130=>so (wn rfl) fun _ hK28=>BE h130 rfl rfl s20 0 rfl rfl rfl [.bool true] rfl κ (by first | rfl | exact Gv _) (by rw [CY (by simp only [List.length_set];exact h8)];show 1+j*46+45+1≤370;omega) (L':=An mg (S.set j (⟨s.ep,(P.I 3),(Ai P erx298 dx299 olx300),true⟩:SideM)) (decide (erx298=0))) (Mm h8 ω (k:=45) (show 45+1≤46 by decide) rfl (s':=(⟨s.ep,(P.I 3),(Ai P erx298 dx299 olx300),true⟩:SideM)) rfl) (cs':=[Ab cg 83 (An mg (S.set j (⟨s.ep,(P.I 3),(Ai P erx298 dx299 olx300),true⟩:SideM)) (decide (erx298=0))),AJ mg mb md mp Mx297,Ab g2 39 (pk0 (Ai P erx298 dx299 olx300)),Ab g1 39 (pk0 P0z),Ab g4 39 (pkC P pa P.N.length pc),AO W B,Ch.many R]) rfl fun _ w18 h131 s21 _=>hK28 _ _ ?_
     refine h131.sn [9,8,7,5,4,3,0,1] rfl fun h132=>hK25 _ _<|sqr fun _ hK29=>sw1 h132 rfl (v:=.agg (pk0 (Ai P erx298 dx299 olx300)).toArray) (rld h132 rfl rfl (ldA υ39 rfl (n:=43) κ (s21.get 2 rfl:Blk _ _ _ _) rfl rfl)) fun _ h133=>stA h133 s21 3 rfl rfl rfl κ rfl rfl rfl rfl fun _ w19 h134 s22 _=>h134.sk [96,9,8,7,4,3,0,1] rfl fun h135=>mv h135 rfl fun _ h136=>h136.sn [5,9,8,7,4,3,0,1] rfl fun h137=>hK29 _ _<|wp_ret ?_
     try simp only [Exit.then,Exit.inBlock]
     refine rCt h137 s22 3 υ39 rfl rfl rfl rfl rfl ?_
     exact ⟨Mx297,(S.set j (⟨s.ep,(P.I 3),(Ai P erx298 dx299 olx300),true⟩:SideM)),(decide (erx298=0)),(Ai P erx298 dx299 olx300),true,rfl,Sep.tail_un (xs:=[_,_,_]) (s22.pk [0,1,5,6] rfl),(by unfold doC;rw [if_neg ω];simp only [show (P.I 1-1).toNat=j from ω,hs];rw [if_neg ω];rw [if_neg ω];rw [if_neg ω];simp only [hv305])⟩
end
end Go.Proofs.YtjgajoljgepioaaGreat
