/- Parts of the proof. -/
import Derived.Test.YtjgajoljgepioaaGreatQah
namespace Go.Proofs.YtjgajoljgepioaaGreat
open Go.RowKit
set_option linter.unusedSimpArgs false
set_option linter.unusedVariables false
set_option linter.unusedSectionVars false
set_option maxRecDepth 100000
set_option maxHeartbeats 8000000
section
def Kq (P:PkM):Prop:=∀ o,o≤12→(P.S o).length≤1100000
theorem shortP.long {P:PkM} (h:shortP P):Kq P:=fun o ho=>by have:=h o ho;omega
def stepW (P:PkM) (m:WM):Fld→WM
  | .num w o lo hi=>wnum m (P.I o) w lo hi
  | .text w most o=>wtext m (P.S o) w most
  | .names=>P.N.foldl (fun m s=>wtext m s 1 12) (wnum m P.N.length 1 0 16)
theorem Ao (m:WM) (v:Int) (k:Nat) (lo hi:Int) (hk:k≤8):(wnum m v k lo hi).b.length≤m.b.length+8:=by
  unfold wnum;split
  · show (m.b++le k v.toNat).length≤_;rw [List.length_append,AH];omega
  · show m.b.length≤_;omega
theorem GA (m:WM) (s:List UInt8) (k most:Nat) (hk:k≤8) (hs:s.length≤1100000):(wtext m s k most).b.length≤m.b.length+1100008:=by
  have:=Ao m s.length k 0 most hk
  unfold wtext
  show ((wnum m s.length k 0 most).b++s).length≤_
  rw [List.length_append];omega
theorem Hh {w:World} {g off:Nat} {a:Option Addr} {n c:Nat} (h:w.cell? ⟨g,off,none⟩=some (.slice a n c)):(Instr.loadAt 60 (.pointer (some ⟨g,off,none⟩))).run Tryz.prog w=.ok (.slice a n c) w:=by
  have u3:=υ60
  have a3:=Tryz.isAgg60
  have z3:=Tryz.sizeOf60
  go_simp
theorem EL {w:World} {g off:Nat} {b:Bool} (h:w.cell? ⟨g,off,none⟩=some (.bool b)):(Instr.loadAt 4 (.pointer (some ⟨g,off,none⟩))).run Tryz.prog w=.ok (.bool b) w:=by
  have u3:=υ4
  have a3:=Tryz.isAgg4
  have z3:=Tryz.sizeOf4
  go_simp
theorem Du (x y:Operand) (v u:Int) (w:World) {b:Bool} (h:(v == u)=b):(do eqGuard .eql 3 x y (ν v) (ν u);binOp .eql 3 (ν v) (ν u):Sem Value).run Tryz.prog w=.ok (.bool b) w:=by
  rw [← h];exact eqI x y v u w
theorem Vj (x y:Operand) (v u:Int) (w:World) {b:Bool} (h:decide (v<u)=b):(do eqGuard .lss 3 x y (ν v) (ν u);binOp .lss 3 (ν v) (ν u):Sem Value).run Tryz.prog w=.ok (.bool b) w:=by
  have u3:=υ3
  have a3:=Tryz.isAgg3
  have z3:=Tryz.sizeOf3
  go_simp
theorem VJ (x y:Operand) (j:Nat) (hj:j≤2000000) (w:World):(do eqGuard .add 3 x y (ν (j:Int)) (ν 1);binOp .add 3 (ν (j:Int)) (ν 1):Sem Value).run Tryz.prog w=.ok (ν ((j+1:Nat):Int)) w:=by
  have u3:=υ3
  have a3:=Tryz.isAgg3
  have z3:=Tryz.sizeOf3
  have e1:IntKind.i64.wrap ((j:Int)+1)=(j:Int)+1:=IntWalk.i64_in _ ω
  go_simp
theorem XA (g j:Nat) (hj:j<4) (w:World):(Instr.indexAt 34 (.pointer (some ⟨g,31,none⟩)) (ν (j:Int))).run Tryz.prog w=.ok (.pointer (some ⟨g,31+j,none⟩)) w:=by
  rcases (ω:j=0∨j=1∨j=2∨j=3) with rfl | rfl | rfl | rfl<;>rfl
theorem XB (b off n c j:Nat) (hj:j<n) (w:World):(Instr.indexAt 29 (.slice (some ⟨b,off,none⟩) n c) (ν (j:Int))).run Tryz.prog w=.ok (.pointer (some ⟨b,off+j,none⟩)) w:=by
  have u3:=υ29
  have u9:=υ9
  have z3:=Tryz.sizeOf9
  have d0:(j:Int)<(n:Int):=ω
  have d1:0≤(j:Int):=ω
  go_simp
theorem Wg {w:World} {g:Nat} {P:PkM} {a:Option Addr} {n c:Nat} (h:Blk w g 39 (pkC P a n c)) (j:Nat) (hj:j<4):w.cell? ⟨g,31+j,none⟩=some (ν (P.I (31+j))):=Bw h (by rcases (ω:j=0∨j=1∨j=2∨j=3) with e | e | e | e<;>subst e<;>rfl)
theorem LL {o:Oper} {x:Operand} (ho:o.op=.call { callee:=.builtin .len,args:=#[x],argTypes:=#[29] }) {ρ:Operand→Value} {a:Option Addr} {n c:Nat} (hx:ρ x=.slice a n c) (w:World):(execOp ρ o).run Tryz.prog w=.ok (.value (ν (n:Int))) w:=by
  unfold execOp;rw [ho]
  have u3:=υ29
  simp [resolve,invoke,builtin,hx]
  go_simp
theorem JS (w:World):(Instr.build 136 #[]).run Tryz.prog w=.ok (.agg #[.slice none 0 0,.bool false]) w:=by
  go_simp
theorem AB (args:Array Value) (w:World):(callFunc 83 args).run Tryz.prog w=.ok (.enter 83 args) w:=by
  have h:=Tryz.func83
  go_simp
theorem Jl (args:Array Value) (w:World):(callFunc 84 args).run Tryz.prog w=.ok (.enter 84 args) w:=by
  have h:=Tryz.func84
  go_simp
theorem Ig (args:Array Value) (w:World):(callFunc 85 args).run Tryz.prog w=.ok (.enter 85 args) w:=by
  have h:=Tryz.func85
  go_simp
theorem PP (g:Nat) (w:World):(Instr.fieldAt 27 (.pointer (some ⟨g,10,none⟩)) 1).run Tryz.prog w=.ok (.pointer (some ⟨g,11,none⟩)) w:=rfl
theorem PQ (g:Nat) (w:World):(Instr.fieldAt 27 (.pointer (some ⟨g,10,none⟩)) 2).run Tryz.prog w=.ok (.pointer (some ⟨g,12,none⟩)) w:=rfl
theorem PR (g:Nat) (w:World):(Instr.fieldAt 27 (.pointer (some ⟨g,10,none⟩)) 3).run Tryz.prog w=.ok (.pointer (some ⟨g,13,none⟩)) w:=rfl
theorem PS (g:Nat) (w:World):(Instr.fieldAt 27 (.pointer (some ⟨g,10,none⟩)) 6).run Tryz.prog w=.ok (.pointer (some ⟨g,16,none⟩)) w:=rfl
theorem PT (g:Nat) (w:World):(Instr.fieldAt 31 (.pointer (some ⟨g,24,none⟩)) 0).run Tryz.prog w=.ok (.pointer (some ⟨g,24,none⟩)) w:=rfl
theorem PU (g:Nat) (w:World):(Instr.fieldAt 31 (.pointer (some ⟨g,24,none⟩)) 1).run Tryz.prog w=.ok (.pointer (some ⟨g,25,none⟩)) w:=rfl
theorem PV (g:Nat) (w:World):(Instr.fieldAt 31 (.pointer (some ⟨g,24,none⟩)) 2).run Tryz.prog w=.ok (.pointer (some ⟨g,26,none⟩)) w:=rfl
theorem GT (g:Nat) (w:World):(Instr.fieldAt 33 (.pointer (some ⟨g,20,none⟩)) 3).run Tryz.prog w=.ok (.pointer (some ⟨g,23,none⟩)) w:=rfl
theorem II (g:Nat) (w:World):(Instr.fieldAt 33 (.pointer (some ⟨g,20,none⟩)) 4).run Tryz.prog w=.ok (.pointer (some ⟨g,24,none⟩)) w:=rfl
theorem PW (g:Nat) (w:World):(Instr.fieldAt 37 (.pointer (some ⟨g,28,none⟩)) 0).run Tryz.prog w=.ok (.pointer (some ⟨g,28,none⟩)) w:=rfl
theorem PX (g:Nat) (w:World):(Instr.fieldAt 37 (.pointer (some ⟨g,28,none⟩)) 1).run Tryz.prog w=.ok (.pointer (some ⟨g,29,none⟩)) w:=rfl
theorem PY (g:Nat) (w:World):(Instr.fieldAt 37 (.pointer (some ⟨g,28,none⟩)) 2).run Tryz.prog w=.ok (.pointer (some ⟨g,30,none⟩)) w:=rfl
theorem PZ (g:Nat) (w:World):(Instr.fieldAt 37 (.pointer (some ⟨g,28,none⟩)) 3).run Tryz.prog w=.ok (.pointer (some ⟨g,31,none⟩)) w:=rfl
theorem Aw (g:Nat) (w:World):(Instr.fieldAt 39 (π g) 0).run Tryz.prog w=.ok (π g) w:=rfl
theorem EV (g:Nat) (w:World):(Instr.fieldAt 39 (π g) 1).run Tryz.prog w=.ok (.pointer (some ⟨g,1,none⟩)) w:=rfl
theorem EW (g:Nat) (w:World):(Instr.fieldAt 39 (π g) 2).run Tryz.prog w=.ok (.pointer (some ⟨g,2,none⟩)) w:=rfl
theorem EX (g:Nat) (w:World):(Instr.fieldAt 39 (π g) 3).run Tryz.prog w=.ok (.pointer (some ⟨g,3,none⟩)) w:=rfl
theorem Ik (g:Nat) (w:World):(Instr.fieldAt 39 (π g) 4).run Tryz.prog w=.ok (.pointer (some ⟨g,4,none⟩)) w:=rfl
theorem Mu (g:Nat) (w:World):(Instr.fieldAt 39 (π g) 5).run Tryz.prog w=.ok (.pointer (some ⟨g,5,none⟩)) w:=rfl
theorem RU (g:Nat) (w:World):(Instr.fieldAt 39 (π g) 6).run Tryz.prog w=.ok (.pointer (some ⟨g,6,none⟩)) w:=rfl
theorem Mv (g:Nat) (w:World):(Instr.fieldAt 39 (π g) 7).run Tryz.prog w=.ok (.pointer (some ⟨g,7,none⟩)) w:=rfl
theorem Mw (g:Nat) (w:World):(Instr.fieldAt 39 (π g) 8).run Tryz.prog w=.ok (.pointer (some ⟨g,8,none⟩)) w:=rfl
theorem RV (g:Nat) (w:World):(Instr.fieldAt 39 (π g) 9).run Tryz.prog w=.ok (.pointer (some ⟨g,9,none⟩)) w:=rfl
theorem GU (g:Nat) (w:World):(Instr.fieldAt 39 (π g) 10).run Tryz.prog w=.ok (.pointer (some ⟨g,10,none⟩)) w:=rfl
theorem IJ (g:Nat) (w:World):(Instr.fieldAt 39 (π g) 11).run Tryz.prog w=.ok (.pointer (some ⟨g,18,none⟩)) w:=rfl
theorem Lo (g:Nat) (w:World):(Instr.fieldAt 39 (π g) 12).run Tryz.prog w=.ok (.pointer (some ⟨g,19,none⟩)) w:=rfl
theorem Dz (g:Nat) (w:World):(Instr.fieldAt 39 (π g) 13).run Tryz.prog w=.ok (.pointer (some ⟨g,20,none⟩)) w:=rfl
theorem Qa (g:Nat) (w:World):(Instr.fieldAt 39 (π g) 14).run Tryz.prog w=.ok (.pointer (some ⟨g,27,none⟩)) w:=rfl
theorem GV (g:Nat) (w:World):(Instr.fieldAt 39 (π g) 15).run Tryz.prog w=.ok (.pointer (some ⟨g,28,none⟩)) w:=rfl
theorem Cr (g:Nat) (w:World):(Instr.fieldAt 136 (π g) 0).run Tryz.prog w=.ok (π g) w:=rfl
theorem Ct (g:Nat) (w:World):(Instr.fieldAt 136 (π g) 1).run Tryz.prog w=.ok (.pointer (some ⟨g,1,none⟩)) w:=rfl
end
section
theorem Qi (P:PkM) (hP:Be P) (hS:Kq P) (a:Option Addr) (c:Nat) (w:World) (ha:Row w 1 a P.N.length c (P.N.map AS)) (hk:¬ (1≤P.I 0∧P.I 0≤5)) :
    Calls Tryz.prog 60 #[.agg (pkC P a P.N.length c).toArray] w fun e w'=>∃ ba bc,e=.returned (.tuple #[.slice ba (Ah.foldl (stepW P) ⟨[],false⟩).b.length bc,.bool (!(Ah.foldl (stepW P) ⟨[],false⟩).no&&BS P (Au P P0z Ah))])∧Ek w' w.heap.size ba bc (Ah.foldl (stepW P) ⟨[],false⟩).b∧Below w.heap.size w w':=by
  have HO:=hid (fun (W:World) (hW:Below w.heap.size w W)=>OH P a c W (ha.mono hW) hk)
  obtain ⟨rb,hrb⟩:∃ rb,rb=BS P (Au P P0z Ah):=⟨_,rfl⟩
  rw [← hrb] at HO ⊢
  clear hrb
  have e1:(P.I 0 == 1)=false:=by simp;omega
  have e2:(P.I 0 == 2)=false:=by simp;omega
  have e3:(P.I 0 == 3)=false:=by simp;omega
  have e4:(P.I 0 == 4)=false:=by simp;omega
  have e5:(P.I 0 == 5)=false:=by simp;omega
  obtain ⟨m0,hm0⟩:∃ m0,m0=(⟨[],false⟩:WM):=⟨_,rfl⟩
  have l0:m0.b.length≤0:=by rw [hm0];simp
  obtain ⟨m1,hm1⟩:∃ m1,m1=wnum m0 (P.I 0) 1 1 5:=⟨_,rfl⟩
  have l1:m1.b.length≤8:=by rw [hm1];have:=Ao m0 (P.I 0) 1 1 5 (by decide);omega
  obtain ⟨m2,hm2⟩:∃ m2,m2=wnum m1 (P.I 1) 1 1 8:=⟨_,rfl⟩
  have l2:m2.b.length≤16:=by rw [hm2];have:=Ao m1 (P.I 1) 1 1 8 (by decide);omega
  obtain ⟨m3,hm3⟩:∃ m3,m3=wnum m2 (P.I 2) 4 0 9223372036854775807:=⟨_,rfl⟩
  have l3:m3.b.length≤24:=by rw [hm3];have:=Ao m2 (P.I 2) 4 0 9223372036854775807 (by decide);omega
  obtain ⟨m4,hm4⟩:∃ m4,m4=wnum m3 (P.I 3) 8 0 9223372036854775807:=⟨_,rfl⟩
  have l4:m4.b.length≤32:=by rw [hm4];have:=Ao m3 (P.I 3) 8 0 9223372036854775807 (by decide);omega
  rw [show (Ah.foldl (stepW P) ⟨[],false⟩)=m4 by rw [hm4,hm3,hm2,hm1,hm0];rfl]
  have HM0:=hid hm0
  have HM1:=hid hm1
  have HM2:=hid hm2
  have HM3:=hid hm3
  have HM4:=hid hm4
  clear hk ha hm0 hm1 hm2 hm3 hm4
  go_enter Tryz.func60,Tryz.ntmps60
  go_step
  go_step
  go_step
  refine Bg rfl 39 _ rfl (pkC P a P.N.length c) rfl ?_
  intro w1 k1 b1 s1
  have KP1:=hid k1;have B1:=hid b1;have hgB:w.heap.size<w1.heap.size:=ω
  clear k1 b1 s1
  refine Cb (N:=209) (l:=[(1,π w.heap.size)]) ⟨rfl,(by intro x hx;simp only [List.mem_cons,List.not_mem_nil,or_false] at hx;rcases hx with rfl<;>rfl),rfl⟩ fun a2 h1=>?_
  refine sw1 h1 rfl (v:=(.slice none 0 0)) rfl fun a4 h3=>?_
  refine sw1 h3 rfl (v:=(.bool false)) rfl fun a6 h5=>?_
  go_step
  go_step
  go_step
  go_step
  go_step
  refine sw1 h5 rfl (v:=(.agg #[.slice none 0 0,.bool false])) (by unfold execOp;simp only [List.map_toArray,List.map_nil];exact Af (JS _)) fun a8 h7=>?_
  refine Is h7 rfl rfl (by decide) (fr rfl) 136 rfl [.slice none 0 0,.bool false] (h7.eval (k:=8) (v:=.agg #[.slice none 0 0,.bool false]) (by simp)) fun a10 w2 h9 k2 b2 s2=>?_
  have HW0:Hid (WIn w2 w1.heap.size w1.heap.size m0):=hid (by rw [HM0.out];exact ⟨none,0,k2,Own.nil _ _ _ _⟩)
  have HB0:=hid b2
  clear k2 b2 s2
  refine mv h9 rfl fun a12 h11=>?_
  have h13:=h11.sb [4,3,2,1] rfl
  clear h11
  go_step
  go_step
  go_step
  go_step
  go_step
  refine mv h13 rfl fun a15 h14=>?_
  refine fav h14 rfl (fun _=>Aw (w.heap.size) _) fun a17 h16=>?_
  refine sw1 h16 rfl (v:=(ν (P.I 0))) (rld h16 rfl rfl (Ae ((Blk.below KP1.out HB0.out hgB).cell (i:=0) (by show 0<43;omega)))) fun a19 h18=>?_
  refine Ak h18 (wn rfl) rfl (by decide) (fr rfl) (fun args=>AB args _) rfl #[π w1.heap.size,ν (P.I 0),ν 1,ν 1,ν 5] (by simp only [List.map_toArray,List.map_cons,List.map_nil,h18.eval (k:=10) (v:=π w1.heap.size) (by simp),h18.eval (k:=12) (v:=ν (P.I 0)) (by simp)];rfl) (R:=fun v w'=>v=.tuple #[]∧WIn w' w1.heap.size w1.heap.size m1∧Below w1.heap.size w1 w') (Calls.mono (As HW0.out (Nat.le_refl _) ω (P.I 0) 1 5 1 (hP 0)) (fun e w' q=>⟨_,q.1,rfl,(by rw [HM1.out];exact q.2.1),HB0.out.trans q.2.2⟩)) fun a21 v0 w3 r0 h20=>?_
  obtain ⟨rfl,q1,q2⟩:=r0
  have HW1:=hid q1;have HB1:=hid q2
  clear q1 q2 HW0 HB0
  have h22:=h20.sb [4,3,2,1] rfl
  clear h20
  go_step
  go_step
  go_step
  go_step
  go_step
  refine mv h22 rfl fun a24 h23=>?_
  refine fav h23 rfl (fun _=>EV (w.heap.size) _) fun a26 h25=>?_
  refine sw1 h25 rfl (v:=(ν (P.I 1))) (rld h25 rfl rfl (Ae ((Blk.below KP1.out HB1.out hgB).cell (i:=1) (by show 1<43;omega)))) fun a28 h27=>?_
  refine Ak h27 (wn rfl) rfl (by decide) (fr rfl) (fun args=>AB args _) rfl #[π w1.heap.size,ν (P.I 1),ν 1,ν 1,ν 8] (by simp only [List.map_toArray,List.map_cons,List.map_nil,h27.eval (k:=14) (v:=π w1.heap.size) (by simp),h27.eval (k:=16) (v:=ν (P.I 1)) (by simp)];rfl) (R:=fun v w'=>v=.tuple #[]∧WIn w' w1.heap.size w1.heap.size m2∧Below w1.heap.size w1 w') (Calls.mono (As HW1.out (Nat.le_refl _) ω (P.I 1) 1 8 1 (hP 1)) (fun e w' q=>⟨_,q.1,rfl,(by rw [HM2.out];exact q.2.1),HB1.out.trans q.2.2⟩)) fun a30 v1 w4 r1 h29=>?_
  obtain ⟨rfl,q1,q2⟩:=r1
  have HW2:=hid q1;have HB2:=hid q2
  clear q1 q2 HW1 HB1
  have h31:=h29.sb [4,3,2,1] rfl
  clear h29
  go_step
  go_step
  go_step
  go_step
  go_step
  refine mv h31 rfl fun a33 h32=>?_
  refine fav h32 rfl (fun _=>EW (w.heap.size) _) fun a35 h34=>?_
  refine sw1 h34 rfl (v:=(ν (P.I 2))) (rld h34 rfl rfl (Ae ((Blk.below KP1.out HB2.out hgB).cell (i:=2) (by show 2<43;omega)))) fun a37 h36=>?_
  refine Ak h36 (wn rfl) rfl (by decide) (fr rfl) (fun args=>AB args _) rfl #[π w1.heap.size,ν (P.I 2),ν 4,ν 0,ν 9223372036854775807] (by simp only [List.map_toArray,List.map_cons,List.map_nil,h36.eval (k:=18) (v:=π w1.heap.size) (by simp),h36.eval (k:=20) (v:=ν (P.I 2)) (by simp)];rfl) (R:=fun v w'=>v=.tuple #[]∧WIn w' w1.heap.size w1.heap.size m3∧Below w1.heap.size w1 w') (Calls.mono (As HW2.out (Nat.le_refl _) ω (P.I 2) 0 9223372036854775807 4 (hP 2)) (fun e w' q=>⟨_,q.1,rfl,(by rw [HM3.out];exact q.2.1),HB2.out.trans q.2.2⟩)) fun a39 v2 w5 r2 h38=>?_
  obtain ⟨rfl,q1,q2⟩:=r2
  have HW3:=hid q1;have HB3:=hid q2
  clear q1 q2 HW2 HB2
  have h40:=h38.sb [4,3,2,1] rfl
  clear h38
  go_step
  go_step
  go_step
  go_step
  go_step
  refine mv h40 rfl fun a42 h41=>?_
  refine fav h41 rfl (fun _=>EX (w.heap.size) _) fun a44 h43=>?_
  refine sw1 h43 rfl (v:=(ν (P.I 3))) (rld h43 rfl rfl (Ae ((Blk.below KP1.out HB3.out hgB).cell (i:=3) (by show 3<43;omega)))) fun a46 h45=>?_
  refine Ak h45 (wn rfl) rfl (by decide) (fr rfl) (fun args=>AB args _) rfl #[π w1.heap.size,ν (P.I 3),ν 8,ν 0,ν 9223372036854775807] (by simp only [List.map_toArray,List.map_cons,List.map_nil,h45.eval (k:=22) (v:=π w1.heap.size) (by simp),h45.eval (k:=24) (v:=ν (P.I 3)) (by simp)];rfl) (R:=fun v w'=>v=.tuple #[]∧WIn w' w1.heap.size w1.heap.size m4∧Below w1.heap.size w1 w') (Calls.mono (As HW3.out (Nat.le_refl _) ω (P.I 3) 0 9223372036854775807 8 (hP 3)) (fun e w' q=>⟨_,q.1,rfl,(by rw [HM4.out];exact q.2.1),HB3.out.trans q.2.2⟩)) fun a48 v3 w6 r3 h47=>?_
  obtain ⟨rfl,q1,q2⟩:=r3
  have HW4:=hid q1;have HB4:=hid q2
  clear q1 q2 HW3 HB3
  have h49:=h47.sb [4,3,2,1] rfl
  clear h47
  go_step
  go_step
  go_step
  go_step
  go_step
  go_step
  refine fav h49 rfl (fun _=>Aw (w.heap.size) _) fun a51 h50=>?_
  refine sw1 h50 rfl (v:=(ν (P.I 0))) (rld h50 rfl rfl (Ae ((Blk.below KP1.out HB4.out hgB).cell (i:=0) (by show 0<43;omega)))) fun a53 h52=>?_
  refine sw1 h52 rfl (v:=(.bool false)) (by unfold execOp;simp only [h52.ev 27 rfl];exact Af (Du _ _ _ _ _ e1)) fun a55 h54=>?_
  refine mv h54 rfl fun a57 h56=>?_
  refine Ar h56 (by rw [AC (g:=3) (want:=false) (b:=false) rfl (h56.yields (prev:=29) rfl (by simp))];rfl) rfl (by decide) (fr rfl) (π w.heap.size) (by unfold execOp;simp only [h56.eval (k:=1) (v:=π w.heap.size) (by simp)];exact Af (Aw (w.heap.size) _)) fun a59 h58=>?_
  refine Ar h58 (by rw [AC (g:=3) (want:=false) (b:=false) rfl (h58.yields (prev:=29) rfl (by simp))];rfl) rfl (by decide) (fr rfl) (ν (P.I 0)) (by unfold execOp;simp only [h58.eval (k:=30) (v:=π w.heap.size) (by simp)];exact Af (Ae ((Blk.below KP1.out HB4.out hgB).cell (i:=0) (by show 0<43;omega)))) fun a61 h60=>?_
  refine Ar h60 (by rw [AC (g:=3) (want:=false) (b:=false) rfl (h60.yields (prev:=29) rfl (by simp))];rfl) rfl (by decide) (fr rfl) (.bool false) (by unfold execOp;simp only [h60.eval (k:=31) (v:=ν (P.I 0)) (by simp)];exact Af (Du _ _ _ _ _ e2)) fun a63 h62=>?_
  refine sw1 h62 rfl (v:=(.bool false)) (Bk rfl (h62.eval (k:=29) (v:=.bool false) (by simp)) (by rw [if_neg (by simp)];exact h62.eval (k:=32) (v:=.bool false) (by simp))) fun a65 h64=>?_
  have h66:=h64.sb [33,4,3,2,1] rfl
  clear h64
  go_step
  go_step
  go_step
  refine wp_cond (t:=false) (h66.eval (k:=33) (v:=.bool false) (by simp)) ?_
  simp only [Bool.false_eq_true,if_false]
  have h67:=h66.sb [4,3,2,1] rfl
  clear h66
  go_step
  go_step
  go_step
  go_step
  go_step
  go_step
  refine fav h67 rfl (fun _=>Aw (w.heap.size) _) fun a69 h68=>?_
  refine sw1 h68 rfl (v:=(ν (P.I 0))) (rld h68 rfl rfl (Ae ((Blk.below KP1.out HB4.out hgB).cell (i:=0) (by show 0<43;omega)))) fun a71 h70=>?_
  refine sw1 h70 rfl (v:=(.bool false)) (by unfold execOp;simp only [h70.ev 69 rfl];exact Af (Du _ _ _ _ _ e3)) fun a73 h72=>?_
  have h74:=h72.sb [70,4,3,2,1] rfl
  clear h72
  go_step
  go_step
  go_step
  refine wp_cond (t:=false) (h74.eval (k:=70) (v:=.bool false) (by simp)) ?_
  simp only [Bool.false_eq_true,if_false]
  have h75:=h74.sb [4,3,2,1] rfl
  clear h74
  go_step
  go_step
  go_step
  go_step
  go_step
  go_step
  refine fav h75 rfl (fun _=>Aw (w.heap.size) _) fun a77 h76=>?_
  refine sw1 h76 rfl (v:=(ν (P.I 0))) (rld h76 rfl rfl (Ae ((Blk.below KP1.out HB4.out hgB).cell (i:=0) (by show 0<43;omega)))) fun a79 h78=>?_
  refine sw1 h78 rfl (v:=(.bool false)) (by unfold execOp;simp only [h78.ev 100 rfl];exact Af (Du _ _ _ _ _ e4)) fun a81 h80=>?_
  have h82:=h80.sb [101,4,3,2,1] rfl
  clear h80
  go_step
  go_step
  go_step
  refine wp_cond (t:=false) (h82.eval (k:=101) (v:=.bool false) (by simp)) ?_
  simp only [Bool.false_eq_true,if_false]
  have h83:=h82.sb [4,3,2,1] rfl
  clear h82
  go_step
  go_step
  go_step
  go_step
  go_step
  go_step
  refine fav h83 rfl (fun _=>Aw (w.heap.size) _) fun a85 h84=>?_
  refine sw1 h84 rfl (v:=(ν (P.I 0))) (rld h84 rfl rfl (Ae ((Blk.below KP1.out HB4.out hgB).cell (i:=0) (by show 0<43;omega)))) fun a87 h86=>?_
  refine sw1 h86 rfl (v:=(.bool false)) (by unfold execOp;simp only [h86.ev 189 rfl];exact Af (Du _ _ _ _ _ e5)) fun a89 h88=>?_
  have h90:=h88.sb [190,4,3,2,1] rfl
  clear h88
  go_step
  go_step
  go_step
  refine wp_cond (t:=false) (h90.eval (k:=190) (v:=.bool false) (by simp)) ?_
  simp only [Bool.false_eq_true,if_false]
  have h91:=h90.sb [4,3,2,1] rfl
  clear h90
  go_step
  go_step
  go_step
  go_step
  go_step
  refine sw1 h91 rfl (v:=(.agg (pkC P a P.N.length c).toArray)) (by unfold execOp;simp only [h91.ev 1 rfl];exact Af (run_loadAt_mid _ _ _ _ (pkC P a P.N.length c) _ (Blk.below KP1.out HB4.out hgB).range υ39 rfl (by rw [Bq];rfl))) fun a93 h92=>?_
  refine Ak h92 (wn rfl) rfl (by decide) (fr rfl) (fun args=>Ig args _) rfl #[.agg (pkC P a P.N.length c).toArray] (by simp only [List.map_toArray,List.map_cons,List.map_nil,h92.eval (k:=195) (v:=.agg (pkC P a P.N.length c).toArray) (by simp)]) (R:=fun v w'=>v=.bool rb∧Below w6.heap.size w6 w') (Calls.mono (HO.out w6 ((B1.out.trans (HB4.out.mono B1.out.size)))) (fun e w' q=>⟨_,q.1,rfl,q.2⟩)) fun a95 v4 w7 r4 h94=>?_
  obtain ⟨rfl,q2⟩:=r4
  obtain ⟨ba,bc,hbW,hoW⟩:=HW4.out
  have hbW:=hid (hbW.mono q2);have hoW:=hid (hoW.mono q2);have HB4z:=hid (HB4.out.trans (q2.mono HB4.out.size))
  clear q2 HW4 HB4
  refine mv h94 rfl fun a97 h96=>?_
  have h98:=h96.sb [7,4,3,2,1] rfl
  clear h96
  go_step
  go_step
  go_step
  go_step
  cases hno:m4.no with
  | false=>
    refine wp_region_held_drew (S:=fun w'=>w'=w7.drew) κ rfl (fun hS99=>?_)
    have B4x:=hid HB4z.out.drew
    refine tv1 hS99 h98 0 rfl rfl (v:=(π w1.heap.size)) (fun w1 hSw=>by cases hSw;exact Aj h98 rfl rfl _) fun a101 h100=>?_
    refine tv1 hS99 h100 1 rfl rfl (v:=(π w1.heap.size)) (fun w1 hSw=>by cases hSw;exact Bt h100 rfl rfl _) fun a103 h102=>?_
    refine tv1 hS99 h102 2 rfl rfl (v:=(π w1.heap.size)) (fun w1 hSw=>by cases hSw;exact rfa h102 rfl rfl (fun _=>Cr (w1.heap.size) _) _) fun a105 h104=>?_
    refine tv1 hS99 h104 3 rfl rfl (v:=(.slice ba m4.b.length bc)) (fun w1 hSw=>by cases hSw;exact rld h104 rfl rfl (Hh ((Blk.drew hbW.out).cell (i:=0) (by simp)))) fun a107 h106=>?_
    refine tv1 hS99 h106 4 rfl rfl (v:=(π w1.heap.size)) (fun w1 hSw=>by cases hSw;exact Aj h106 rfl rfl _) fun a109 h108=>?_
    refine tv1 hS99 h108 5 rfl rfl (v:=(π w1.heap.size)) (fun w1 hSw=>by cases hSw;exact Bt h108 rfl rfl _) fun a111 h110=>?_
    refine tv1 hS99 h110 6 rfl rfl (v:=(.pointer (some ⟨w1.heap.size,1,none⟩))) (fun w1 hSw=>by cases hSw;exact rfa h110 rfl rfl (fun _=>Ct (w1.heap.size) _) _) fun a113 h112=>?_
    refine tv1 hS99 h112 7 rfl rfl (v:=(.bool false)) (fun w1 hSw=>(by cases hSw;exact (by show (execOp _ (⟨_,.load 4 (.tmp 203),_,_,_,_⟩:Oper)).run _ _=_;exact (by unfold execOp;simp only [h112.ev 203 rfl];exact Af (EL (by rw [(Blk.drew hbW.out).cell (i:=1) (by simp)];simp [hno])))))) fun a115 h114=>?_
    refine tv1 hS99 h114 8 rfl rfl (v:=(.bool true)) (fun w1 hSw=>(by cases hSw;exact (by show (execOp _ (⟨_,.unOp .not 4 (.tmp 204),_,_,_,_⟩:Oper)).run _ _=_;exact (Do rfl (h114.eval (k:=204) (v:=.bool false) (by simp)))))) fun a117 h116=>?_
    refine tv1 hS99 h116 9 rfl rfl (v:=(.bool true)) (fun w1 hSw=>by cases hSw;exact Aj h116 rfl rfl _) fun a119 h118=>?_
    refine Cv hS99 h118 10 rfl rfl (by decide) (fr rfl) κ κ κ (fun _ _ _ _ h=>h) (.bool rb) (Or.inl ⟨(by rw [AC (g:=9) (want:=true) (b:=true) rfl (h118.yields (prev:=206) rfl (by simp))];rfl),fun w1 hSw=>(by cases hSw;exact (by show (execOp _ (⟨_,.move (.tmp 7),_,_,_,_⟩:Oper)).run _ _=_;exact (by unfold execOp;simp only [h118.eval (k:=7) (v:=.bool rb) (by simp)];rfl)))⟩) fun a121 h120=>?_
    refine tv1 hS99 h120 11 rfl rfl (v:=(.bool rb)) (fun w1 hSw=>(by cases hSw;exact (by show (execOp _ (⟨_,.pick (.tmp 206) (.tmp 207) (.const (.bool false)),_,_,_,_⟩:Oper)).run _ _=_;exact (Bk rfl (h120.eval (k:=206) (v:=.bool true) (by simp)) (by rw [if_pos rfl];exact h120.eval (k:=207) (v:=.bool rb) (by simp)))))) fun a123 h122=>?_
    have h124:=h122.sb [208,207,206,205,204,203,202,201,200,199,198,197,7,4,3,1] rfl
    clear h122
    refine tv1 hS99 h124 12 rfl rfl (v:=(.slice ba m4.b.length bc)) (fun w1 hSw=>by cases hSw;exact AA h124 rfl rfl _) fun a126 h125=>?_
    have h127:=h125.sb [2,208,207,206,205,204,203,202,201,200,199,198,197,7,4,1] rfl
    clear h125
    refine tv1 hS99 h127 13 rfl rfl (v:=(.bool rb)) (fun w1 hSw=>by cases hSw;exact AA h127 rfl rfl _) fun a129 h128=>?_
    refine wpAnyH_done κ ?_ _
    have h130:=h128.sb [3,2,7,4,1] rfl
    clear h128
    go_step
    go_step
    go_step
    refine bodyPost_ret (Br rfl (h130.known (2,.slice ba m4.b.length bc) (by simp)) (h130.known (3,.bool rb) (by simp))) h130.defs ?_
    exact ⟨ba,bc,by rw [hno];rfl,hoW.out.drew.low B1.out.size,B1.out.trans (B4x.out.mono B1.out.size)⟩
  | true=>
    refine wp_region_held_drew (S:=fun w'=>w'=w7.drew) κ rfl (fun hS131=>?_)
    have B4x:=hid HB4z.out.drew
    refine tv1 hS131 h98 0 rfl rfl (v:=(π w1.heap.size)) (fun w1 hSw=>by cases hSw;exact Aj h98 rfl rfl _) fun a133 h132=>?_
    refine tv1 hS131 h132 1 rfl rfl (v:=(π w1.heap.size)) (fun w1 hSw=>by cases hSw;exact Bt h132 rfl rfl _) fun a135 h134=>?_
    refine tv1 hS131 h134 2 rfl rfl (v:=(π w1.heap.size)) (fun w1 hSw=>by cases hSw;exact rfa h134 rfl rfl (fun _=>Cr (w1.heap.size) _) _) fun a137 h136=>?_
    refine tv1 hS131 h136 3 rfl rfl (v:=(.slice ba m4.b.length bc)) (fun w1 hSw=>by cases hSw;exact rld h136 rfl rfl (Hh ((Blk.drew hbW.out).cell (i:=0) (by simp)))) fun a139 h138=>?_
    refine tv1 hS131 h138 4 rfl rfl (v:=(π w1.heap.size)) (fun w1 hSw=>by cases hSw;exact Aj h138 rfl rfl _) fun a141 h140=>?_
    refine tv1 hS131 h140 5 rfl rfl (v:=(π w1.heap.size)) (fun w1 hSw=>by cases hSw;exact Bt h140 rfl rfl _) fun a143 h142=>?_
    refine tv1 hS131 h142 6 rfl rfl (v:=(.pointer (some ⟨w1.heap.size,1,none⟩))) (fun w1 hSw=>by cases hSw;exact rfa h142 rfl rfl (fun _=>Ct (w1.heap.size) _) _) fun a145 h144=>?_
    refine tv1 hS131 h144 7 rfl rfl (v:=(.bool true)) (fun w1 hSw=>(by cases hSw;exact (by show (execOp _ (⟨_,.load 4 (.tmp 203),_,_,_,_⟩:Oper)).run _ _=_;exact (by unfold execOp;simp only [h144.ev 203 rfl];exact Af (EL (by rw [(Blk.drew hbW.out).cell (i:=1) (by simp)];simp [hno])))))) fun a147 h146=>?_
    refine tv1 hS131 h146 8 rfl rfl (v:=(.bool false)) (fun w1 hSw=>(by cases hSw;exact (by show (execOp _ (⟨_,.unOp .not 4 (.tmp 204),_,_,_,_⟩:Oper)).run _ _=_;exact (Do rfl (h146.eval (k:=204) (v:=.bool true) (by simp)))))) fun a149 h148=>?_
    refine tv1 hS131 h148 9 rfl rfl (v:=(.bool false)) (fun w1 hSw=>by cases hSw;exact Aj h148 rfl rfl _) fun a151 h150=>?_
    refine Cv hS131 h150 10 rfl rfl (by decide) (fr rfl) κ κ κ (fun _ _ _ _ h=>h) undef (Or.inr ⟨(by rw [AC (g:=9) (want:=true) (b:=false) rfl (h150.yields (prev:=206) rfl (by simp))];rfl),rfl⟩) fun a153 h152=>?_
    refine tv1 hS131 h152 11 rfl rfl (v:=(.bool false)) (fun w1 hSw=>(by cases hSw;exact (by show (execOp _ (⟨_,.pick (.tmp 206) (.tmp 207) (.const (.bool false)),_,_,_,_⟩:Oper)).run _ _=_;exact (Bk rfl (h152.eval (k:=206) (v:=.bool false) (by simp)) rfl)))) fun a155 h154=>?_
    have h156:=h154.sb [208,207,206,205,204,203,202,201,200,199,198,197,7,4,3,1] rfl
    clear h154
    refine tv1 hS131 h156 12 rfl rfl (v:=(.slice ba m4.b.length bc)) (fun w1 hSw=>by cases hSw;exact AA h156 rfl rfl _) fun a158 h157=>?_
    have h159:=h157.sb [2,208,207,206,205,204,203,202,201,200,199,198,197,7,4,1] rfl
    clear h157
    refine tv1 hS131 h159 13 rfl rfl (v:=(.bool false)) (fun w1 hSw=>by cases hSw;exact AA h159 rfl rfl _) fun a161 h160=>?_
    refine wpAnyH_done κ ?_ _
    have h162:=h160.sb [3,2,7,4,1] rfl
    clear h160
    go_step
    go_step
    go_step
    refine bodyPost_ret (Br rfl (h162.known (2,.slice ba m4.b.length bc) (by simp)) (h162.known (3,.bool false) (by simp))) h162.defs ?_
    exact ⟨ba,bc,by rw [hno];rfl,hoW.out.drew.low B1.out.size,B1.out.trans (B4x.out.mono B1.out.size)⟩
theorem Ve (P:PkM) (hP:Be P) (hS:Kq P) (a:Option Addr) (c:Nat) (w:World) (ha:Row w 1 a P.N.length c (P.N.map AS)) (hk:P.I 0=1) :
    Calls Tryz.prog 60 #[.agg (pkC P a P.N.length c).toArray] w fun e w'=>∃ ba bc,e=.returned (.tuple #[.slice ba ((Ah++Al 1).foldl (stepW P) ⟨[],false⟩).b.length bc,.bool (!((Ah++Al 1).foldl (stepW P) ⟨[],false⟩).no&&BS P (Au P P0z (Ah++Al 1)))])∧Ek w' w.heap.size ba bc ((Ah++Al 1).foldl (stepW P) ⟨[],false⟩).b∧Below w.heap.size w w':=by
  have HO:=hid (fun (W:World) (hW:Below w.heap.size w W)=>TZ P a c W (ha.mono hW) hk)
  obtain ⟨rb,hrb⟩:∃ rb,rb=BS P (Au P P0z (Ah++Al 1)):=⟨_,rfl⟩
  rw [← hrb] at HO ⊢
  clear hrb
  have e1:(P.I 0 == 1)=true:=by rw [hk];rfl
  have e2:(P.I 0 == 2)=false:=by rw [hk];rfl
  have e3:(P.I 0 == 3)=false:=by rw [hk];rfl
  have e4:(P.I 0 == 4)=false:=by rw [hk];rfl
  have e5:(P.I 0 == 5)=false:=by rw [hk];rfl
  obtain ⟨m0,hm0⟩:∃ m0,m0=(⟨[],false⟩:WM):=⟨_,rfl⟩
  have l0:m0.b.length≤0:=by rw [hm0];simp
  obtain ⟨m1,hm1⟩:∃ m1,m1=wnum m0 (P.I 0) 1 1 5:=⟨_,rfl⟩
  have l1:m1.b.length≤8:=by rw [hm1];have:=Ao m0 (P.I 0) 1 1 5 (by decide);omega
  obtain ⟨m2,hm2⟩:∃ m2,m2=wnum m1 (P.I 1) 1 1 8:=⟨_,rfl⟩
  have l2:m2.b.length≤16:=by rw [hm2];have:=Ao m1 (P.I 1) 1 1 8 (by decide);omega
  obtain ⟨m3,hm3⟩:∃ m3,m3=wnum m2 (P.I 2) 4 0 9223372036854775807:=⟨_,rfl⟩
  have l3:m3.b.length≤24:=by rw [hm3];have:=Ao m2 (P.I 2) 4 0 9223372036854775807 (by decide);omega
  obtain ⟨m4,hm4⟩:∃ m4,m4=wnum m3 (P.I 3) 8 0 9223372036854775807:=⟨_,rfl⟩
  have l4:m4.b.length≤32:=by rw [hm4];have:=Ao m3 (P.I 3) 8 0 9223372036854775807 (by decide);omega
  obtain ⟨m5,hm5⟩:∃ m5,m5=wnum m4 (P.I 4) 1 1 4:=⟨_,rfl⟩
  have l5:m5.b.length≤40:=by rw [hm5];have:=Ao m4 (P.I 4) 1 1 4 (by decide);omega
  obtain ⟨m6,hm6⟩:∃ m6,m6=wnum m5 (P.I 5) 4 0 9223372036854775807:=⟨_,rfl⟩
  have l6:m6.b.length≤48:=by rw [hm6];have:=Ao m5 (P.I 5) 4 0 9223372036854775807 (by decide);omega
  obtain ⟨m7,hm7⟩:∃ m7,m7=wnum m6 (P.I 6) 2 0 9223372036854775807:=⟨_,rfl⟩
  have l7:m7.b.length≤56:=by rw [hm7];have:=Ao m6 (P.I 6) 2 0 9223372036854775807 (by decide);omega
  obtain ⟨m8,hm8⟩:∃ m8,m8=wtext m7 (P.S 7) 2 128:=⟨_,rfl⟩
  have l8:m8.b.length≤1100064:=by rw [hm8];have:=GA m7 (P.S 7) 2 128 (by decide) (hS 7 (by decide));omega
  obtain ⟨m9,hm9⟩:∃ m9,m9=wnum m8 (P.I 8) 8 0 9223372036854775807:=⟨_,rfl⟩
  have l9:m9.b.length≤1100072:=by rw [hm9];have:=Ao m8 (P.I 8) 8 0 9223372036854775807 (by decide);omega
  obtain ⟨m10,hm10⟩:∃ m10,m10=wnum m9 (P.I 9) 8 0 9223372036854775807:=⟨_,rfl⟩
  have l10:m10.b.length≤1100080:=by rw [hm10];have:=Ao m9 (P.I 9) 8 0 9223372036854775807 (by decide);omega
  rw [show ((Ah++Al 1).foldl (stepW P) ⟨[],false⟩)=m10 by rw [hm10,hm9,hm8,hm7,hm6,hm5,hm4,hm3,hm2,hm1,hm0];rfl]
  have HM0:=hid hm0
  have HM1:=hid hm1
  have HM2:=hid hm2
  have HM3:=hid hm3
  have HM4:=hid hm4
  have HM5:=hid hm5
  have HM6:=hid hm6
  have HM7:=hid hm7
  have HM8:=hid hm8
  have HM9:=hid hm9
  have HM10:=hid hm10
  clear hk ha hm0 hm1 hm2 hm3 hm4 hm5 hm6 hm7 hm8 hm9 hm10
  go_enter Tryz.func60,Tryz.ntmps60
  go_step
  go_step
  go_step
  refine Bg rfl 39 _ rfl (pkC P a P.N.length c) rfl ?_
  intro w1 k1 b1 s1
  have KP1:=hid k1;have B1:=hid b1;have hgB:w.heap.size<w1.heap.size:=ω
  clear k1 b1 s1
  refine Cb (N:=209) (l:=[(1,π w.heap.size)]) ⟨rfl,(by intro x hx;simp only [List.mem_cons,List.not_mem_nil,or_false] at hx;rcases hx with rfl<;>rfl),rfl⟩ fun a2 h1=>?_
  refine sw1 h1 rfl (v:=(.slice none 0 0)) rfl fun a4 h3=>?_
  refine sw1 h3 rfl (v:=(.bool false)) rfl fun a6 h5=>?_
  go_step
  go_step
  go_step
  go_step
  go_step
  refine sw1 h5 rfl (v:=(.agg #[.slice none 0 0,.bool false])) (by unfold execOp;simp only [List.map_toArray,List.map_nil];exact Af (JS _)) fun a8 h7=>?_
  refine Is h7 rfl rfl (by decide) (fr rfl) 136 rfl [.slice none 0 0,.bool false] (h7.eval (k:=8) (v:=.agg #[.slice none 0 0,.bool false]) (by simp)) fun a10 w2 h9 k2 b2 s2=>?_
  have HW0:Hid (WIn w2 w1.heap.size w1.heap.size m0):=hid (by rw [HM0.out];exact ⟨none,0,k2,Own.nil _ _ _ _⟩)
  have HB0:=hid b2
  clear k2 b2 s2
  refine mv h9 rfl fun a12 h11=>?_
  have h13:=h11.sb [4,3,2,1] rfl
  clear h11
  go_step
  go_step
  go_step
  go_step
  go_step
  refine mv h13 rfl fun a15 h14=>?_
  refine fav h14 rfl (fun _=>Aw (w.heap.size) _) fun a17 h16=>?_
  refine sw1 h16 rfl (v:=(ν (P.I 0))) (rld h16 rfl rfl (Ae ((Blk.below KP1.out HB0.out hgB).cell (i:=0) (by show 0<43;omega)))) fun a19 h18=>?_
  refine Ak h18 (wn rfl) rfl (by decide) (fr rfl) (fun args=>AB args _) rfl #[π w1.heap.size,ν (P.I 0),ν 1,ν 1,ν 5] (by simp only [List.map_toArray,List.map_cons,List.map_nil,h18.eval (k:=10) (v:=π w1.heap.size) (by simp),h18.eval (k:=12) (v:=ν (P.I 0)) (by simp)];rfl) (R:=fun v w'=>v=.tuple #[]∧WIn w' w1.heap.size w1.heap.size m1∧Below w1.heap.size w1 w') (Calls.mono (As HW0.out (Nat.le_refl _) ω (P.I 0) 1 5 1 (hP 0)) (fun e w' q=>⟨_,q.1,rfl,(by rw [HM1.out];exact q.2.1),HB0.out.trans q.2.2⟩)) fun a21 v0 w3 r0 h20=>?_
  obtain ⟨rfl,q1,q2⟩:=r0
  have HW1:=hid q1;have HB1:=hid q2
  clear q1 q2 HW0 HB0
  have h22:=h20.sb [4,3,2,1] rfl
  clear h20
  go_step
  go_step
  go_step
  go_step
  go_step
  refine mv h22 rfl fun a24 h23=>?_
  refine fav h23 rfl (fun _=>EV (w.heap.size) _) fun a26 h25=>?_
  refine sw1 h25 rfl (v:=(ν (P.I 1))) (rld h25 rfl rfl (Ae ((Blk.below KP1.out HB1.out hgB).cell (i:=1) (by show 1<43;omega)))) fun a28 h27=>?_
  refine Ak h27 (wn rfl) rfl (by decide) (fr rfl) (fun args=>AB args _) rfl #[π w1.heap.size,ν (P.I 1),ν 1,ν 1,ν 8] (by simp only [List.map_toArray,List.map_cons,List.map_nil,h27.eval (k:=14) (v:=π w1.heap.size) (by simp),h27.eval (k:=16) (v:=ν (P.I 1)) (by simp)];rfl) (R:=fun v w'=>v=.tuple #[]∧WIn w' w1.heap.size w1.heap.size m2∧Below w1.heap.size w1 w') (Calls.mono (As HW1.out (Nat.le_refl _) ω (P.I 1) 1 8 1 (hP 1)) (fun e w' q=>⟨_,q.1,rfl,(by rw [HM2.out];exact q.2.1),HB1.out.trans q.2.2⟩)) fun a30 v1 w4 r1 h29=>?_
  obtain ⟨rfl,q1,q2⟩:=r1
  have HW2:=hid q1;have HB2:=hid q2
  clear q1 q2 HW1 HB1
  have h31:=h29.sb [4,3,2,1] rfl
  clear h29
  go_step
  go_step
  go_step
  go_step
  go_step
  refine mv h31 rfl fun a33 h32=>?_
  refine fav h32 rfl (fun _=>EW (w.heap.size) _) fun a35 h34=>?_
  refine sw1 h34 rfl (v:=(ν (P.I 2))) (rld h34 rfl rfl (Ae ((Blk.below KP1.out HB2.out hgB).cell (i:=2) (by show 2<43;omega)))) fun a37 h36=>?_
  refine Ak h36 (wn rfl) rfl (by decide) (fr rfl) (fun args=>AB args _) rfl #[π w1.heap.size,ν (P.I 2),ν 4,ν 0,ν 9223372036854775807] (by simp only [List.map_toArray,List.map_cons,List.map_nil,h36.eval (k:=18) (v:=π w1.heap.size) (by simp),h36.eval (k:=20) (v:=ν (P.I 2)) (by simp)];rfl) (R:=fun v w'=>v=.tuple #[]∧WIn w' w1.heap.size w1.heap.size m3∧Below w1.heap.size w1 w') (Calls.mono (As HW2.out (Nat.le_refl _) ω (P.I 2) 0 9223372036854775807 4 (hP 2)) (fun e w' q=>⟨_,q.1,rfl,(by rw [HM3.out];exact q.2.1),HB2.out.trans q.2.2⟩)) fun a39 v2 w5 r2 h38=>?_
  obtain ⟨rfl,q1,q2⟩:=r2
  have HW3:=hid q1;have HB3:=hid q2
  clear q1 q2 HW2 HB2
  have h40:=h38.sb [4,3,2,1] rfl
  clear h38
  go_step
  go_step
  go_step
  go_step
  go_step
  refine mv h40 rfl fun a42 h41=>?_
  refine fav h41 rfl (fun _=>EX (w.heap.size) _) fun a44 h43=>?_
  refine sw1 h43 rfl (v:=(ν (P.I 3))) (rld h43 rfl rfl (Ae ((Blk.below KP1.out HB3.out hgB).cell (i:=3) (by show 3<43;omega)))) fun a46 h45=>?_
  refine Ak h45 (wn rfl) rfl (by decide) (fr rfl) (fun args=>AB args _) rfl #[π w1.heap.size,ν (P.I 3),ν 8,ν 0,ν 9223372036854775807] (by simp only [List.map_toArray,List.map_cons,List.map_nil,h45.eval (k:=22) (v:=π w1.heap.size) (by simp),h45.eval (k:=24) (v:=ν (P.I 3)) (by simp)];rfl) (R:=fun v w'=>v=.tuple #[]∧WIn w' w1.heap.size w1.heap.size m4∧Below w1.heap.size w1 w') (Calls.mono (As HW3.out (Nat.le_refl _) ω (P.I 3) 0 9223372036854775807 8 (hP 3)) (fun e w' q=>⟨_,q.1,rfl,(by rw [HM4.out];exact q.2.1),HB3.out.trans q.2.2⟩)) fun a48 v3 w6 r3 h47=>?_
  obtain ⟨rfl,q1,q2⟩:=r3
  have HW4:=hid q1;have HB4:=hid q2
  clear q1 q2 HW3 HB3
  have h49:=h47.sb [4,3,2,1] rfl
  clear h47
  go_step
  go_step
  go_step
  go_step
  go_step
  go_step
  refine fav h49 rfl (fun _=>Aw (w.heap.size) _) fun a51 h50=>?_
  refine sw1 h50 rfl (v:=(ν (P.I 0))) (rld h50 rfl rfl (Ae ((Blk.below KP1.out HB4.out hgB).cell (i:=0) (by show 0<43;omega)))) fun a53 h52=>?_
  refine sw1 h52 rfl (v:=(.bool true)) (by unfold execOp;simp only [h52.ev 27 rfl];exact Af (Du _ _ _ _ _ e1)) fun a55 h54=>?_
  refine mv h54 rfl fun a57 h56=>?_
  refine Dk h56 (by rw [AC (g:=3) (want:=false) (b:=true) rfl (h56.yields (prev:=29) rfl (by simp))];rfl) rfl (by decide) (fr rfl) fun a59 h58=>?_
  refine Dk h58 (by rw [AC (g:=3) (want:=false) (b:=true) rfl (h58.yields (prev:=29) rfl (by simp))];rfl) rfl (by decide) (fr rfl) fun a61 h60=>?_
  refine Dk h60 (by rw [AC (g:=3) (want:=false) (b:=true) rfl (h60.yields (prev:=29) rfl (by simp))];rfl) rfl (by decide) (fr rfl) fun a63 h62=>?_
  refine sw1 h62 rfl (v:=(.bool true)) (Bk rfl (h62.eval (k:=29) (v:=.bool true) (by simp)) rfl) fun a65 h64=>?_
  have h66:=h64.sb [33,4,3,2,1] rfl
  clear h64
  go_step
  go_step
  go_step
  refine wp_cond (t:=true) (h66.eval (k:=33) (v:=.bool true) (by simp)) ?_
  simp only [if_true]
  have h67:=h66.sb [4,3,2,1] rfl
  clear h66
  go_step
  go_step
  refine mv h67 rfl fun a69 h68=>?_
  refine fav h68 rfl (fun _=>Ik (w.heap.size) _) fun a71 h70=>?_
  refine sw1 h70 rfl (v:=(ν (P.I 4))) (rld h70 rfl rfl (Ae ((Blk.below KP1.out HB4.out hgB).cell (i:=4) (by show 4<43;omega)))) fun a73 h72=>?_
  refine Ak h72 (wn rfl) rfl (by decide) (fr rfl) (fun args=>AB args _) rfl #[π w1.heap.size,ν (P.I 4),ν 1,ν 1,ν 4] (by simp only [List.map_toArray,List.map_cons,List.map_nil,h72.eval (k:=34) (v:=π w1.heap.size) (by simp),h72.eval (k:=36) (v:=ν (P.I 4)) (by simp)];rfl) (R:=fun v w'=>v=.tuple #[]∧WIn w' w1.heap.size w1.heap.size m5∧Below w1.heap.size w1 w') (Calls.mono (As HW4.out (Nat.le_refl _) ω (P.I 4) 1 4 1 (hP 4)) (fun e w' q=>⟨_,q.1,rfl,(by rw [HM5.out];exact q.2.1),HB4.out.trans q.2.2⟩)) fun a75 v4 w7 r4 h74=>?_
  obtain ⟨rfl,q1,q2⟩:=r4
  have HW5:=hid q1;have HB5:=hid q2
  clear q1 q2 HW4 HB4
  have h76:=h74.sb [4,3,2,1] rfl
  clear h74
  go_step
  go_step
  go_step
  go_step
  go_step
  go_step
  refine fav h76 rfl (fun _=>Aw (w.heap.size) _) fun a78 h77=>?_
  refine sw1 h77 rfl (v:=(ν (P.I 0))) (rld h77 rfl rfl (Ae ((Blk.below KP1.out HB5.out hgB).cell (i:=0) (by show 0<43;omega)))) fun a80 h79=>?_
  refine sw1 h79 rfl (v:=(.bool true)) (by unfold execOp;simp only [h79.ev 39 rfl];exact Af (Du _ _ _ _ _ e1)) fun a82 h81=>?_
  have h83:=h81.sb [40,4,3,2,1] rfl
  clear h81
  go_step
  go_step
  go_step
  refine wp_cond (t:=true) (h83.eval (k:=40) (v:=.bool true) (by simp)) ?_
  simp only [if_true]
  have h84:=h83.sb [4,3,2,1] rfl
  clear h83
  go_step
  go_step
  refine mv h84 rfl fun a86 h85=>?_
  refine fav h85 rfl (fun _=>Mu (w.heap.size) _) fun a88 h87=>?_
  refine sw1 h87 rfl (v:=(ν (P.I 5))) (rld h87 rfl rfl (Ae ((Blk.below KP1.out HB5.out hgB).cell (i:=5) (by show 5<43;omega)))) fun a90 h89=>?_
  refine Ak h89 (wn rfl) rfl (by decide) (fr rfl) (fun args=>AB args _) rfl #[π w1.heap.size,ν (P.I 5),ν 4,ν 0,ν 9223372036854775807] (by simp only [List.map_toArray,List.map_cons,List.map_nil,h89.eval (k:=41) (v:=π w1.heap.size) (by simp),h89.eval (k:=43) (v:=ν (P.I 5)) (by simp)];rfl) (R:=fun v w'=>v=.tuple #[]∧WIn w' w1.heap.size w1.heap.size m6∧Below w1.heap.size w1 w') (Calls.mono (As HW5.out (Nat.le_refl _) ω (P.I 5) 0 9223372036854775807 4 (hP 5)) (fun e w' q=>⟨_,q.1,rfl,(by rw [HM6.out];exact q.2.1),HB5.out.trans q.2.2⟩)) fun a92 v5 w8 r5 h91=>?_
  obtain ⟨rfl,q1,q2⟩:=r5
  have HW6:=hid q1;have HB6:=hid q2
  clear q1 q2 HW5 HB5
  have h93:=h91.sb [4,3,2,1] rfl
  clear h91
  go_step
  go_step
  go_step
  go_step
  refine mv h93 rfl fun a95 h94=>?_
  refine fav h94 rfl (fun _=>RU (w.heap.size) _) fun a97 h96=>?_
  refine sw1 h96 rfl (v:=(ν (P.I 6))) (rld h96 rfl rfl (Ae ((Blk.below KP1.out HB6.out hgB).cell (i:=6) (by show 6<43;omega)))) fun a99 h98=>?_
  refine Ak h98 (wn rfl) rfl (by decide) (fr rfl) (fun args=>AB args _) rfl #[π w1.heap.size,ν (P.I 6),ν 2,ν 0,ν 9223372036854775807] (by simp only [List.map_toArray,List.map_cons,List.map_nil,h98.eval (k:=45) (v:=π w1.heap.size) (by simp),h98.eval (k:=47) (v:=ν (P.I 6)) (by simp)];rfl) (R:=fun v w'=>v=.tuple #[]∧WIn w' w1.heap.size w1.heap.size m7∧Below w1.heap.size w1 w') (Calls.mono (As HW6.out (Nat.le_refl _) ω (P.I 6) 0 9223372036854775807 2 (hP 6)) (fun e w' q=>⟨_,q.1,rfl,(by rw [HM7.out];exact q.2.1),HB6.out.trans q.2.2⟩)) fun a101 v6 w9 r6 h100=>?_
  obtain ⟨rfl,q1,q2⟩:=r6
  have HW7:=hid q1;have HB7:=hid q2
  clear q1 q2 HW6 HB6
  have h102:=h100.sb [4,3,2,1] rfl
  clear h100
  go_step
  go_step
  go_step
  go_step
  go_step
  refine mv h102 rfl fun a104 h103=>?_
  refine fav h103 rfl (fun _=>Mv (w.heap.size) _) fun a106 h105=>?_
  refine sw1 h105 rfl (v:=(.string (bsW (P.S 7)))) (rld h105 rfl rfl (Fl ((Blk.below KP1.out HB7.out hgB).cell (i:=7) (by show 7<43;omega)))) fun a108 h107=>?_
  refine Ak h107 (wn rfl) rfl (by decide) (fr rfl) (fun args=>Jl args _) rfl #[π w1.heap.size,.string (bsW (P.S 7)),ν 2,ν 128] (by simp only [List.map_toArray,List.map_cons,List.map_nil,h107.eval (k:=53) (v:=π w1.heap.size) (by simp),h107.eval (k:=55) (v:=.string (bsW (P.S 7))) (by simp)];rfl) (R:=fun v w'=>v=.tuple #[]∧WIn w' w1.heap.size w1.heap.size m8∧Below w1.heap.size w1 w') (Calls.mono (Gz HW7.out (Nat.le_refl _) ω (P.S 7) (by have:=hS 7 (by decide);omega) 2 128 (by decide)) (fun e w' q=>⟨_,q.1,rfl,(by rw [HM8.out];exact q.2.1),HB7.out.trans q.2.2⟩)) fun a110 v7 w10 r7 h109=>?_
  obtain ⟨rfl,q1,q2⟩:=r7
  have HW8:=hid q1;have HB8:=hid q2
  clear q1 q2 HW7 HB7
  have h111:=h109.sb [4,3,2,1] rfl
  clear h109
  go_step
  go_step
  go_step
  go_step
  go_step
  refine mv h111 rfl fun a113 h112=>?_
  refine fav h112 rfl (fun _=>Mw (w.heap.size) _) fun a115 h114=>?_
  refine sw1 h114 rfl (v:=(ν (P.I 8))) (rld h114 rfl rfl (Ae ((Blk.below KP1.out HB8.out hgB).cell (i:=8) (by show 8<43;omega)))) fun a117 h116=>?_
  refine Ak h116 (wn rfl) rfl (by decide) (fr rfl) (fun args=>AB args _) rfl #[π w1.heap.size,ν (P.I 8),ν 8,ν 0,ν 9223372036854775807] (by simp only [List.map_toArray,List.map_cons,List.map_nil,h116.eval (k:=57) (v:=π w1.heap.size) (by simp),h116.eval (k:=59) (v:=ν (P.I 8)) (by simp)];rfl) (R:=fun v w'=>v=.tuple #[]∧WIn w' w1.heap.size w1.heap.size m9∧Below w1.heap.size w1 w') (Calls.mono (As HW8.out (Nat.le_refl _) ω (P.I 8) 0 9223372036854775807 8 (hP 8)) (fun e w' q=>⟨_,q.1,rfl,(by rw [HM9.out];exact q.2.1),HB8.out.trans q.2.2⟩)) fun a119 v8 w11 r8 h118=>?_
  obtain ⟨rfl,q1,q2⟩:=r8
  have HW9:=hid q1;have HB9:=hid q2
  clear q1 q2 HW8 HB8
  have h120:=h118.sb [4,3,2,1] rfl
  clear h118
  go_step
  go_step
  go_step
  go_step
  go_step
  refine fav h120 rfl (fun _=>Aw (w.heap.size) _) fun a122 h121=>?_
  refine sw1 h121 rfl (v:=(ν (P.I 0))) (rld h121 rfl rfl (Ae ((Blk.below KP1.out HB9.out hgB).cell (i:=0) (by show 0<43;omega)))) fun a124 h123=>?_
  refine sw1 h123 rfl (v:=(.bool true)) (by unfold execOp;simp only [h123.ev 62 rfl];exact Af (Du _ _ _ _ _ e1)) fun a126 h125=>?_
  have h127:=h125.sb [63,4,3,2,1] rfl
  clear h125
  go_step
  go_step
  go_step
  refine wp_cond (t:=true) (h127.eval (k:=63) (v:=.bool true) (by simp)) ?_
  simp only [if_true]
  have h128:=h127.sb [4,3,2,1] rfl
  clear h127
  go_step
  refine mv h128 rfl fun a130 h129=>?_
  refine fav h129 rfl (fun _=>RV (w.heap.size) _) fun a132 h131=>?_
  refine sw1 h131 rfl (v:=(ν (P.I 9))) (rld h131 rfl rfl (Ae ((Blk.below KP1.out HB9.out hgB).cell (i:=9) (by show 9<43;omega)))) fun a134 h133=>?_
  refine Ak h133 (wn rfl) rfl (by decide) (fr rfl) (fun args=>AB args _) rfl #[π w1.heap.size,ν (P.I 9),ν 8,ν 0,ν 9223372036854775807] (by simp only [List.map_toArray,List.map_cons,List.map_nil,h133.eval (k:=64) (v:=π w1.heap.size) (by simp),h133.eval (k:=66) (v:=ν (P.I 9)) (by simp)];rfl) (R:=fun v w'=>v=.tuple #[]∧WIn w' w1.heap.size w1.heap.size m10∧Below w1.heap.size w1 w') (Calls.mono (As HW9.out (Nat.le_refl _) ω (P.I 9) 0 9223372036854775807 8 (hP 9)) (fun e w' q=>⟨_,q.1,rfl,(by rw [HM10.out];exact q.2.1),HB9.out.trans q.2.2⟩)) fun a136 v9 w12 r9 h135=>?_
  obtain ⟨rfl,q1,q2⟩:=r9
  have HW10:=hid q1;have HB10:=hid q2
  clear q1 q2 HW9 HB9
  have h137:=h135.sb [4,3,2,1] rfl
  clear h135
  go_step
  go_step
  go_step
  go_step
  go_step
  go_step
  refine fav h137 rfl (fun _=>Aw (w.heap.size) _) fun a139 h138=>?_
  refine sw1 h138 rfl (v:=(ν (P.I 0))) (rld h138 rfl rfl (Ae ((Blk.below KP1.out HB10.out hgB).cell (i:=0) (by show 0<43;omega)))) fun a141 h140=>?_
  refine sw1 h140 rfl (v:=(.bool false)) (by unfold execOp;simp only [h140.ev 69 rfl];exact Af (Du _ _ _ _ _ e3)) fun a143 h142=>?_
  have h144:=h142.sb [70,4,3,2,1] rfl
  clear h142
  go_step
  go_step
  go_step
  refine wp_cond (t:=false) (h144.eval (k:=70) (v:=.bool false) (by simp)) ?_
  simp only [Bool.false_eq_true,if_false]
  have h145:=h144.sb [4,3,2,1] rfl
  clear h144
  go_step
  go_step
  go_step
  go_step
  go_step
  go_step
  refine fav h145 rfl (fun _=>Aw (w.heap.size) _) fun a147 h146=>?_
  refine sw1 h146 rfl (v:=(ν (P.I 0))) (rld h146 rfl rfl (Ae ((Blk.below KP1.out HB10.out hgB).cell (i:=0) (by show 0<43;omega)))) fun a149 h148=>?_
  refine sw1 h148 rfl (v:=(.bool false)) (by unfold execOp;simp only [h148.ev 100 rfl];exact Af (Du _ _ _ _ _ e4)) fun a151 h150=>?_
  have h152:=h150.sb [101,4,3,2,1] rfl
  clear h150
  go_step
  go_step
  go_step
  refine wp_cond (t:=false) (h152.eval (k:=101) (v:=.bool false) (by simp)) ?_
  simp only [Bool.false_eq_true,if_false]
  have h153:=h152.sb [4,3,2,1] rfl
  clear h152
  go_step
  go_step
  go_step
  go_step
  go_step
  go_step
  refine fav h153 rfl (fun _=>Aw (w.heap.size) _) fun a155 h154=>?_
  refine sw1 h154 rfl (v:=(ν (P.I 0))) (rld h154 rfl rfl (Ae ((Blk.below KP1.out HB10.out hgB).cell (i:=0) (by show 0<43;omega)))) fun a157 h156=>?_
  refine sw1 h156 rfl (v:=(.bool false)) (by unfold execOp;simp only [h156.ev 189 rfl];exact Af (Du _ _ _ _ _ e5)) fun a159 h158=>?_
  have h160:=h158.sb [190,4,3,2,1] rfl
  clear h158
  go_step
  go_step
  go_step
  refine wp_cond (t:=false) (h160.eval (k:=190) (v:=.bool false) (by simp)) ?_
  simp only [Bool.false_eq_true,if_false]
  have h161:=h160.sb [4,3,2,1] rfl
  clear h160
  go_step
  go_step
  go_step
  go_step
  go_step
  refine sw1 h161 rfl (v:=(.agg (pkC P a P.N.length c).toArray)) (by unfold execOp;simp only [h161.ev 1 rfl];exact Af (run_loadAt_mid _ _ _ _ (pkC P a P.N.length c) _ (Blk.below KP1.out HB10.out hgB).range υ39 rfl (by rw [Bq];rfl))) fun a163 h162=>?_
  refine Ak h162 (wn rfl) rfl (by decide) (fr rfl) (fun args=>Ig args _) rfl #[.agg (pkC P a P.N.length c).toArray] (by simp only [List.map_toArray,List.map_cons,List.map_nil,h162.eval (k:=195) (v:=.agg (pkC P a P.N.length c).toArray) (by simp)]) (R:=fun v w'=>v=.bool rb∧Below w12.heap.size w12 w') (Calls.mono (HO.out w12 ((B1.out.trans (HB10.out.mono B1.out.size)))) (fun e w' q=>⟨_,q.1,rfl,q.2⟩)) fun a165 v10 w13 r10 h164=>?_
  obtain ⟨rfl,q2⟩:=r10
  obtain ⟨ba,bc,hbW,hoW⟩:=HW10.out
  have hbW:=hid (hbW.mono q2);have hoW:=hid (hoW.mono q2);have HB10z:=hid (HB10.out.trans (q2.mono HB10.out.size))
  clear q2 HW10 HB10
  refine mv h164 rfl fun a167 h166=>?_
  have h168:=h166.sb [7,4,3,2,1] rfl
  clear h166
  go_step
  go_step
  go_step
  go_step
  cases hno:m10.no with
  | false=>
    refine wp_region_held_drew (S:=fun w'=>w'=w13.drew) κ rfl (fun hS169=>?_)
    have B10x:=hid HB10z.out.drew
    refine tv1 hS169 h168 0 rfl rfl (v:=(π w1.heap.size)) (fun w1 hSw=>by cases hSw;exact Aj h168 rfl rfl _) fun a171 h170=>?_
    refine tv1 hS169 h170 1 rfl rfl (v:=(π w1.heap.size)) (fun w1 hSw=>by cases hSw;exact Bt h170 rfl rfl _) fun a173 h172=>?_
    refine tv1 hS169 h172 2 rfl rfl (v:=(π w1.heap.size)) (fun w1 hSw=>by cases hSw;exact rfa h172 rfl rfl (fun _=>Cr (w1.heap.size) _) _) fun a175 h174=>?_
    refine tv1 hS169 h174 3 rfl rfl (v:=(.slice ba m10.b.length bc)) (fun w1 hSw=>by cases hSw;exact rld h174 rfl rfl (Hh ((Blk.drew hbW.out).cell (i:=0) (by simp)))) fun a177 h176=>?_
    refine tv1 hS169 h176 4 rfl rfl (v:=(π w1.heap.size)) (fun w1 hSw=>by cases hSw;exact Aj h176 rfl rfl _) fun a179 h178=>?_
    refine tv1 hS169 h178 5 rfl rfl (v:=(π w1.heap.size)) (fun w1 hSw=>by cases hSw;exact Bt h178 rfl rfl _) fun a181 h180=>?_
    refine tv1 hS169 h180 6 rfl rfl (v:=(.pointer (some ⟨w1.heap.size,1,none⟩))) (fun w1 hSw=>by cases hSw;exact rfa h180 rfl rfl (fun _=>Ct (w1.heap.size) _) _) fun a183 h182=>?_
    refine tv1 hS169 h182 7 rfl rfl (v:=(.bool false)) (fun w1 hSw=>(by cases hSw;exact (by show (execOp _ (⟨_,.load 4 (.tmp 203),_,_,_,_⟩:Oper)).run _ _=_;exact (by unfold execOp;simp only [h182.ev 203 rfl];exact Af (EL (by rw [(Blk.drew hbW.out).cell (i:=1) (by simp)];simp [hno])))))) fun a185 h184=>?_
    refine tv1 hS169 h184 8 rfl rfl (v:=(.bool true)) (fun w1 hSw=>(by cases hSw;exact (by show (execOp _ (⟨_,.unOp .not 4 (.tmp 204),_,_,_,_⟩:Oper)).run _ _=_;exact (Do rfl (h184.eval (k:=204) (v:=.bool false) (by simp)))))) fun a187 h186=>?_
    refine tv1 hS169 h186 9 rfl rfl (v:=(.bool true)) (fun w1 hSw=>by cases hSw;exact Aj h186 rfl rfl _) fun a189 h188=>?_
    refine Cv hS169 h188 10 rfl rfl (by decide) (fr rfl) κ κ κ (fun _ _ _ _ h=>h) (.bool rb) (Or.inl ⟨(by rw [AC (g:=9) (want:=true) (b:=true) rfl (h188.yields (prev:=206) rfl (by simp))];rfl),fun w1 hSw=>(by cases hSw;exact (by show (execOp _ (⟨_,.move (.tmp 7),_,_,_,_⟩:Oper)).run _ _=_;exact (by unfold execOp;simp only [h188.eval (k:=7) (v:=.bool rb) (by simp)];rfl)))⟩) fun a191 h190=>?_
    refine tv1 hS169 h190 11 rfl rfl (v:=(.bool rb)) (fun w1 hSw=>(by cases hSw;exact (by show (execOp _ (⟨_,.pick (.tmp 206) (.tmp 207) (.const (.bool false)),_,_,_,_⟩:Oper)).run _ _=_;exact (Bk rfl (h190.eval (k:=206) (v:=.bool true) (by simp)) (by rw [if_pos rfl];exact h190.eval (k:=207) (v:=.bool rb) (by simp)))))) fun a193 h192=>?_
    have h194:=h192.sb [208,207,206,205,204,203,202,201,200,199,198,197,7,4,3,1] rfl
    clear h192
    refine tv1 hS169 h194 12 rfl rfl (v:=(.slice ba m10.b.length bc)) (fun w1 hSw=>by cases hSw;exact AA h194 rfl rfl _) fun a196 h195=>?_
    have h197:=h195.sb [2,208,207,206,205,204,203,202,201,200,199,198,197,7,4,1] rfl
    clear h195
    refine tv1 hS169 h197 13 rfl rfl (v:=(.bool rb)) (fun w1 hSw=>by cases hSw;exact AA h197 rfl rfl _) fun a199 h198=>?_
    refine wpAnyH_done κ ?_ _
    have h200:=h198.sb [3,2,7,4,1] rfl
    clear h198
    go_step
    go_step
    go_step
    refine bodyPost_ret (Br rfl (h200.known (2,.slice ba m10.b.length bc) (by simp)) (h200.known (3,.bool rb) (by simp))) h200.defs ?_
    exact ⟨ba,bc,by rw [hno];rfl,hoW.out.drew.low B1.out.size,B1.out.trans (B10x.out.mono B1.out.size)⟩
  | true=>
    refine wp_region_held_drew (S:=fun w'=>w'=w13.drew) κ rfl (fun hS201=>?_)
    have B10x:=hid HB10z.out.drew
    refine tv1 hS201 h168 0 rfl rfl (v:=(π w1.heap.size)) (fun w1 hSw=>by cases hSw;exact Aj h168 rfl rfl _) fun a203 h202=>?_
    refine tv1 hS201 h202 1 rfl rfl (v:=(π w1.heap.size)) (fun w1 hSw=>by cases hSw;exact Bt h202 rfl rfl _) fun a205 h204=>?_
    refine tv1 hS201 h204 2 rfl rfl (v:=(π w1.heap.size)) (fun w1 hSw=>by cases hSw;exact rfa h204 rfl rfl (fun _=>Cr (w1.heap.size) _) _) fun a207 h206=>?_
    refine tv1 hS201 h206 3 rfl rfl (v:=(.slice ba m10.b.length bc)) (fun w1 hSw=>by cases hSw;exact rld h206 rfl rfl (Hh ((Blk.drew hbW.out).cell (i:=0) (by simp)))) fun a209 h208=>?_
    refine tv1 hS201 h208 4 rfl rfl (v:=(π w1.heap.size)) (fun w1 hSw=>by cases hSw;exact Aj h208 rfl rfl _) fun a211 h210=>?_
    refine tv1 hS201 h210 5 rfl rfl (v:=(π w1.heap.size)) (fun w1 hSw=>by cases hSw;exact Bt h210 rfl rfl _) fun a213 h212=>?_
    refine tv1 hS201 h212 6 rfl rfl (v:=(.pointer (some ⟨w1.heap.size,1,none⟩))) (fun w1 hSw=>by cases hSw;exact rfa h212 rfl rfl (fun _=>Ct (w1.heap.size) _) _) fun a215 h214=>?_
    refine tv1 hS201 h214 7 rfl rfl (v:=(.bool true)) (fun w1 hSw=>(by cases hSw;exact (by show (execOp _ (⟨_,.load 4 (.tmp 203),_,_,_,_⟩:Oper)).run _ _=_;exact (by unfold execOp;simp only [h214.ev 203 rfl];exact Af (EL (by rw [(Blk.drew hbW.out).cell (i:=1) (by simp)];simp [hno])))))) fun a217 h216=>?_
    refine tv1 hS201 h216 8 rfl rfl (v:=(.bool false)) (fun w1 hSw=>(by cases hSw;exact (by show (execOp _ (⟨_,.unOp .not 4 (.tmp 204),_,_,_,_⟩:Oper)).run _ _=_;exact (Do rfl (h216.eval (k:=204) (v:=.bool true) (by simp)))))) fun a219 h218=>?_
    refine tv1 hS201 h218 9 rfl rfl (v:=(.bool false)) (fun w1 hSw=>by cases hSw;exact Aj h218 rfl rfl _) fun a221 h220=>?_
    refine Cv hS201 h220 10 rfl rfl (by decide) (fr rfl) κ κ κ (fun _ _ _ _ h=>h) undef (Or.inr ⟨(by rw [AC (g:=9) (want:=true) (b:=false) rfl (h220.yields (prev:=206) rfl (by simp))];rfl),rfl⟩) fun a223 h222=>?_
    refine tv1 hS201 h222 11 rfl rfl (v:=(.bool false)) (fun w1 hSw=>(by cases hSw;exact (by show (execOp _ (⟨_,.pick (.tmp 206) (.tmp 207) (.const (.bool false)),_,_,_,_⟩:Oper)).run _ _=_;exact (Bk rfl (h222.eval (k:=206) (v:=.bool false) (by simp)) rfl)))) fun a225 h224=>?_
    have h226:=h224.sb [208,207,206,205,204,203,202,201,200,199,198,197,7,4,3,1] rfl
    clear h224
    refine tv1 hS201 h226 12 rfl rfl (v:=(.slice ba m10.b.length bc)) (fun w1 hSw=>by cases hSw;exact AA h226 rfl rfl _) fun a228 h227=>?_
    have h229:=h227.sb [2,208,207,206,205,204,203,202,201,200,199,198,197,7,4,1] rfl
    clear h227
    refine tv1 hS201 h229 13 rfl rfl (v:=(.bool false)) (fun w1 hSw=>by cases hSw;exact AA h229 rfl rfl _) fun a231 h230=>?_
    refine wpAnyH_done κ ?_ _
    have h232:=h230.sb [3,2,7,4,1] rfl
    clear h230
    go_step
    go_step
    go_step
    refine bodyPost_ret (Br rfl (h232.known (2,.slice ba m10.b.length bc) (by simp)) (h232.known (3,.bool false) (by simp))) h232.defs ?_
    exact ⟨ba,bc,by rw [hno];rfl,hoW.out.drew.low B1.out.size,B1.out.trans (B10x.out.mono B1.out.size)⟩
end
section
theorem Vf (P:PkM) (hP:Be P) (hS:Kq P) (a:Option Addr) (c:Nat) (w:World) (ha:Row w 1 a P.N.length c (P.N.map AS)) (hk:P.I 0=2) :
    Calls Tryz.prog 60 #[.agg (pkC P a P.N.length c).toArray] w fun e w'=>∃ ba bc,e=.returned (.tuple #[.slice ba ((Ah++Al 2).foldl (stepW P) ⟨[],false⟩).b.length bc,.bool (!((Ah++Al 2).foldl (stepW P) ⟨[],false⟩).no&&BS P (Au P P0z (Ah++Al 2)))])∧Ek w' w.heap.size ba bc ((Ah++Al 2).foldl (stepW P) ⟨[],false⟩).b∧Below w.heap.size w w':=by
  have HO:=hid (fun (W:World) (hW:Below w.heap.size w W)=>Ua P a c W (ha.mono hW) hk)
  obtain ⟨rb,hrb⟩:∃ rb,rb=BS P (Au P P0z (Ah++Al 2)):=⟨_,rfl⟩
  rw [← hrb] at HO ⊢
  clear hrb
  have e1:(P.I 0 == 1)=false:=by rw [hk];rfl
  have e2:(P.I 0 == 2)=true:=by rw [hk];rfl
  have e3:(P.I 0 == 3)=false:=by rw [hk];rfl
  have e4:(P.I 0 == 4)=false:=by rw [hk];rfl
  have e5:(P.I 0 == 5)=false:=by rw [hk];rfl
  obtain ⟨m0,hm0⟩:∃ m0,m0=(⟨[],false⟩:WM):=⟨_,rfl⟩
  have l0:m0.b.length≤0:=by rw [hm0];simp
  obtain ⟨m1,hm1⟩:∃ m1,m1=wnum m0 (P.I 0) 1 1 5:=⟨_,rfl⟩
  have l1:m1.b.length≤8:=by rw [hm1];have:=Ao m0 (P.I 0) 1 1 5 (by decide);omega
  obtain ⟨m2,hm2⟩:∃ m2,m2=wnum m1 (P.I 1) 1 1 8:=⟨_,rfl⟩
  have l2:m2.b.length≤16:=by rw [hm2];have:=Ao m1 (P.I 1) 1 1 8 (by decide);omega
  obtain ⟨m3,hm3⟩:∃ m3,m3=wnum m2 (P.I 2) 4 0 9223372036854775807:=⟨_,rfl⟩
  have l3:m3.b.length≤24:=by rw [hm3];have:=Ao m2 (P.I 2) 4 0 9223372036854775807 (by decide);omega
  obtain ⟨m4,hm4⟩:∃ m4,m4=wnum m3 (P.I 3) 8 0 9223372036854775807:=⟨_,rfl⟩
  have l4:m4.b.length≤32:=by rw [hm4];have:=Ao m3 (P.I 3) 8 0 9223372036854775807 (by decide);omega
  obtain ⟨m5,hm5⟩:∃ m5,m5=wnum m4 (P.I 4) 1 1 4:=⟨_,rfl⟩
  have l5:m5.b.length≤40:=by rw [hm5];have:=Ao m4 (P.I 4) 1 1 4 (by decide);omega
  obtain ⟨m6,hm6⟩:∃ m6,m6=wnum m5 (P.I 19) 1 0 9223372036854775807:=⟨_,rfl⟩
  have l6:m6.b.length≤48:=by rw [hm6];have:=Ao m5 (P.I 19) 1 0 9223372036854775807 (by decide);omega
  obtain ⟨m7,hm7⟩:∃ m7,m7=wtext m6 (P.S 7) 2 128:=⟨_,rfl⟩
  have l7:m7.b.length≤1100056:=by rw [hm7];have:=GA m6 (P.S 7) 2 128 (by decide) (hS 7 (by decide));omega
  obtain ⟨m8,hm8⟩:∃ m8,m8=wnum m7 (P.I 8) 8 0 9223372036854775807:=⟨_,rfl⟩
  have l8:m8.b.length≤1100064:=by rw [hm8];have:=Ao m7 (P.I 8) 8 0 9223372036854775807 (by decide);omega
  rw [show ((Ah++Al 2).foldl (stepW P) ⟨[],false⟩)=m8 by rw [hm8,hm7,hm6,hm5,hm4,hm3,hm2,hm1,hm0];rfl]
  have HM0:=hid hm0
  have HM1:=hid hm1
  have HM2:=hid hm2
  have HM3:=hid hm3
  have HM4:=hid hm4
  have HM5:=hid hm5
  have HM6:=hid hm6
  have HM7:=hid hm7
  have HM8:=hid hm8
  clear hk ha hm0 hm1 hm2 hm3 hm4 hm5 hm6 hm7 hm8
  go_enter Tryz.func60,Tryz.ntmps60
  go_step
  go_step
  go_step
  refine Bg rfl 39 _ rfl (pkC P a P.N.length c) rfl ?_
  intro w1 k1 b1 s1
  have KP1:=hid k1;have B1:=hid b1;have hgB:w.heap.size<w1.heap.size:=ω
  clear k1 b1 s1
  refine Cb (N:=209) (l:=[(1,π w.heap.size)]) ⟨rfl,(by intro x hx;simp only [List.mem_cons,List.not_mem_nil,or_false] at hx;rcases hx with rfl<;>rfl),rfl⟩ fun a2 h1=>?_
  refine sw1 h1 rfl (v:=(.slice none 0 0)) rfl fun a4 h3=>?_
  refine sw1 h3 rfl (v:=(.bool false)) rfl fun a6 h5=>?_
  go_step
  go_step
  go_step
  go_step
  go_step
  refine sw1 h5 rfl (v:=(.agg #[.slice none 0 0,.bool false])) (by unfold execOp;simp only [List.map_toArray,List.map_nil];exact Af (JS _)) fun a8 h7=>?_
  refine Is h7 rfl rfl (by decide) (fr rfl) 136 rfl [.slice none 0 0,.bool false] (h7.eval (k:=8) (v:=.agg #[.slice none 0 0,.bool false]) (by simp)) fun a10 w2 h9 k2 b2 s2=>?_
  have HW0:Hid (WIn w2 w1.heap.size w1.heap.size m0):=hid (by rw [HM0.out];exact ⟨none,0,k2,Own.nil _ _ _ _⟩)
  have HB0:=hid b2
  clear k2 b2 s2
  refine mv h9 rfl fun a12 h11=>?_
  have h13:=h11.sb [4,3,2,1] rfl
  clear h11
  go_step
  go_step
  go_step
  go_step
  go_step
  refine mv h13 rfl fun a15 h14=>?_
  refine fav h14 rfl (fun _=>Aw (w.heap.size) _) fun a17 h16=>?_
  refine sw1 h16 rfl (v:=(ν (P.I 0))) (rld h16 rfl rfl (Ae ((Blk.below KP1.out HB0.out hgB).cell (i:=0) (by show 0<43;omega)))) fun a19 h18=>?_
  refine Ak h18 (wn rfl) rfl (by decide) (fr rfl) (fun args=>AB args _) rfl #[π w1.heap.size,ν (P.I 0),ν 1,ν 1,ν 5] (by simp only [List.map_toArray,List.map_cons,List.map_nil,h18.eval (k:=10) (v:=π w1.heap.size) (by simp),h18.eval (k:=12) (v:=ν (P.I 0)) (by simp)];rfl) (R:=fun v w'=>v=.tuple #[]∧WIn w' w1.heap.size w1.heap.size m1∧Below w1.heap.size w1 w') (Calls.mono (As HW0.out (Nat.le_refl _) ω (P.I 0) 1 5 1 (hP 0)) (fun e w' q=>⟨_,q.1,rfl,(by rw [HM1.out];exact q.2.1),HB0.out.trans q.2.2⟩)) fun a21 v0 w3 r0 h20=>?_
  obtain ⟨rfl,q1,q2⟩:=r0
  have HW1:=hid q1;have HB1:=hid q2
  clear q1 q2 HW0 HB0
  have h22:=h20.sb [4,3,2,1] rfl
  clear h20
  go_step
  go_step
  go_step
  go_step
  go_step
  refine mv h22 rfl fun a24 h23=>?_
  refine fav h23 rfl (fun _=>EV (w.heap.size) _) fun a26 h25=>?_
  refine sw1 h25 rfl (v:=(ν (P.I 1))) (rld h25 rfl rfl (Ae ((Blk.below KP1.out HB1.out hgB).cell (i:=1) (by show 1<43;omega)))) fun a28 h27=>?_
  refine Ak h27 (wn rfl) rfl (by decide) (fr rfl) (fun args=>AB args _) rfl #[π w1.heap.size,ν (P.I 1),ν 1,ν 1,ν 8] (by simp only [List.map_toArray,List.map_cons,List.map_nil,h27.eval (k:=14) (v:=π w1.heap.size) (by simp),h27.eval (k:=16) (v:=ν (P.I 1)) (by simp)];rfl) (R:=fun v w'=>v=.tuple #[]∧WIn w' w1.heap.size w1.heap.size m2∧Below w1.heap.size w1 w') (Calls.mono (As HW1.out (Nat.le_refl _) ω (P.I 1) 1 8 1 (hP 1)) (fun e w' q=>⟨_,q.1,rfl,(by rw [HM2.out];exact q.2.1),HB1.out.trans q.2.2⟩)) fun a30 v1 w4 r1 h29=>?_
  obtain ⟨rfl,q1,q2⟩:=r1
  have HW2:=hid q1;have HB2:=hid q2
  clear q1 q2 HW1 HB1
  have h31:=h29.sb [4,3,2,1] rfl
  clear h29
  go_step
  go_step
  go_step
  go_step
  go_step
  refine mv h31 rfl fun a33 h32=>?_
  refine fav h32 rfl (fun _=>EW (w.heap.size) _) fun a35 h34=>?_
  refine sw1 h34 rfl (v:=(ν (P.I 2))) (rld h34 rfl rfl (Ae ((Blk.below KP1.out HB2.out hgB).cell (i:=2) (by show 2<43;omega)))) fun a37 h36=>?_
  refine Ak h36 (wn rfl) rfl (by decide) (fr rfl) (fun args=>AB args _) rfl #[π w1.heap.size,ν (P.I 2),ν 4,ν 0,ν 9223372036854775807] (by simp only [List.map_toArray,List.map_cons,List.map_nil,h36.eval (k:=18) (v:=π w1.heap.size) (by simp),h36.eval (k:=20) (v:=ν (P.I 2)) (by simp)];rfl) (R:=fun v w'=>v=.tuple #[]∧WIn w' w1.heap.size w1.heap.size m3∧Below w1.heap.size w1 w') (Calls.mono (As HW2.out (Nat.le_refl _) ω (P.I 2) 0 9223372036854775807 4 (hP 2)) (fun e w' q=>⟨_,q.1,rfl,(by rw [HM3.out];exact q.2.1),HB2.out.trans q.2.2⟩)) fun a39 v2 w5 r2 h38=>?_
  obtain ⟨rfl,q1,q2⟩:=r2
  have HW3:=hid q1;have HB3:=hid q2
  clear q1 q2 HW2 HB2
  have h40:=h38.sb [4,3,2,1] rfl
  clear h38
  go_step
  go_step
  go_step
  go_step
  go_step
  refine mv h40 rfl fun a42 h41=>?_
  refine fav h41 rfl (fun _=>EX (w.heap.size) _) fun a44 h43=>?_
  refine sw1 h43 rfl (v:=(ν (P.I 3))) (rld h43 rfl rfl (Ae ((Blk.below KP1.out HB3.out hgB).cell (i:=3) (by show 3<43;omega)))) fun a46 h45=>?_
  refine Ak h45 (wn rfl) rfl (by decide) (fr rfl) (fun args=>AB args _) rfl #[π w1.heap.size,ν (P.I 3),ν 8,ν 0,ν 9223372036854775807] (by simp only [List.map_toArray,List.map_cons,List.map_nil,h45.eval (k:=22) (v:=π w1.heap.size) (by simp),h45.eval (k:=24) (v:=ν (P.I 3)) (by simp)];rfl) (R:=fun v w'=>v=.tuple #[]∧WIn w' w1.heap.size w1.heap.size m4∧Below w1.heap.size w1 w') (Calls.mono (As HW3.out (Nat.le_refl _) ω (P.I 3) 0 9223372036854775807 8 (hP 3)) (fun e w' q=>⟨_,q.1,rfl,(by rw [HM4.out];exact q.2.1),HB3.out.trans q.2.2⟩)) fun a48 v3 w6 r3 h47=>?_
  obtain ⟨rfl,q1,q2⟩:=r3
  have HW4:=hid q1;have HB4:=hid q2
  clear q1 q2 HW3 HB3
  have h49:=h47.sb [4,3,2,1] rfl
  clear h47
  go_step
  go_step
  go_step
  go_step
  go_step
  go_step
  refine fav h49 rfl (fun _=>Aw (w.heap.size) _) fun a51 h50=>?_
  refine sw1 h50 rfl (v:=(ν (P.I 0))) (rld h50 rfl rfl (Ae ((Blk.below KP1.out HB4.out hgB).cell (i:=0) (by show 0<43;omega)))) fun a53 h52=>?_
  refine sw1 h52 rfl (v:=(.bool false)) (by unfold execOp;simp only [h52.ev 27 rfl];exact Af (Du _ _ _ _ _ e1)) fun a55 h54=>?_
  refine mv h54 rfl fun a57 h56=>?_
  refine Ar h56 (by rw [AC (g:=3) (want:=false) (b:=false) rfl (h56.yields (prev:=29) rfl (by simp))];rfl) rfl (by decide) (fr rfl) (π w.heap.size) (by unfold execOp;simp only [h56.eval (k:=1) (v:=π w.heap.size) (by simp)];exact Af (Aw (w.heap.size) _)) fun a59 h58=>?_
  refine Ar h58 (by rw [AC (g:=3) (want:=false) (b:=false) rfl (h58.yields (prev:=29) rfl (by simp))];rfl) rfl (by decide) (fr rfl) (ν (P.I 0)) (by unfold execOp;simp only [h58.eval (k:=30) (v:=π w.heap.size) (by simp)];exact Af (Ae ((Blk.below KP1.out HB4.out hgB).cell (i:=0) (by show 0<43;omega)))) fun a61 h60=>?_
  refine Ar h60 (by rw [AC (g:=3) (want:=false) (b:=false) rfl (h60.yields (prev:=29) rfl (by simp))];rfl) rfl (by decide) (fr rfl) (.bool true) (by unfold execOp;simp only [h60.eval (k:=31) (v:=ν (P.I 0)) (by simp)];exact Af (Du _ _ _ _ _ e2)) fun a63 h62=>?_
  refine sw1 h62 rfl (v:=(.bool true)) (Bk rfl (h62.eval (k:=29) (v:=.bool false) (by simp)) (by rw [if_neg (by simp)];exact h62.eval (k:=32) (v:=.bool true) (by simp))) fun a65 h64=>?_
  have h66:=h64.sb [33,4,3,2,1] rfl
  clear h64
  go_step
  go_step
  go_step
  refine wp_cond (t:=true) (h66.eval (k:=33) (v:=.bool true) (by simp)) ?_
  simp only [if_true]
  have h67:=h66.sb [4,3,2,1] rfl
  clear h66
  go_step
  go_step
  refine mv h67 rfl fun a69 h68=>?_
  refine fav h68 rfl (fun _=>Ik (w.heap.size) _) fun a71 h70=>?_
  refine sw1 h70 rfl (v:=(ν (P.I 4))) (rld h70 rfl rfl (Ae ((Blk.below KP1.out HB4.out hgB).cell (i:=4) (by show 4<43;omega)))) fun a73 h72=>?_
  refine Ak h72 (wn rfl) rfl (by decide) (fr rfl) (fun args=>AB args _) rfl #[π w1.heap.size,ν (P.I 4),ν 1,ν 1,ν 4] (by simp only [List.map_toArray,List.map_cons,List.map_nil,h72.eval (k:=34) (v:=π w1.heap.size) (by simp),h72.eval (k:=36) (v:=ν (P.I 4)) (by simp)];rfl) (R:=fun v w'=>v=.tuple #[]∧WIn w' w1.heap.size w1.heap.size m5∧Below w1.heap.size w1 w') (Calls.mono (As HW4.out (Nat.le_refl _) ω (P.I 4) 1 4 1 (hP 4)) (fun e w' q=>⟨_,q.1,rfl,(by rw [HM5.out];exact q.2.1),HB4.out.trans q.2.2⟩)) fun a75 v4 w7 r4 h74=>?_
  obtain ⟨rfl,q1,q2⟩:=r4
  have HW5:=hid q1;have HB5:=hid q2
  clear q1 q2 HW4 HB4
  have h76:=h74.sb [4,3,2,1] rfl
  clear h74
  go_step
  go_step
  go_step
  go_step
  go_step
  go_step
  refine fav h76 rfl (fun _=>Aw (w.heap.size) _) fun a78 h77=>?_
  refine sw1 h77 rfl (v:=(ν (P.I 0))) (rld h77 rfl rfl (Ae ((Blk.below KP1.out HB5.out hgB).cell (i:=0) (by show 0<43;omega)))) fun a80 h79=>?_
  refine sw1 h79 rfl (v:=(.bool false)) (by unfold execOp;simp only [h79.ev 39 rfl];exact Af (Du _ _ _ _ _ e1)) fun a82 h81=>?_
  have h83:=h81.sb [40,4,3,2,1] rfl
  clear h81
  go_step
  go_step
  go_step
  refine wp_cond (t:=false) (h83.eval (k:=40) (v:=.bool false) (by simp)) ?_
  simp only [Bool.false_eq_true,if_false]
  have h84:=h83.sb [4,3,2,1] rfl
  clear h83
  go_step
  refine mv h84 rfl fun a86 h85=>?_
  refine fav h85 rfl (fun _=>Lo (w.heap.size) _) fun a88 h87=>?_
  refine sw1 h87 rfl (v:=(ν (P.I 19))) (rld h87 rfl rfl (IE ((Blk.below KP1.out HB5.out hgB).cell (i:=19) (by show 19<43;omega)))) fun a90 h89=>?_
  refine Ak h89 (wn rfl) rfl (by decide) (fr rfl) (fun args=>AB args _) rfl #[π w1.heap.size,ν (P.I 19),ν 1,ν 0,ν 9223372036854775807] (by simp only [List.map_toArray,List.map_cons,List.map_nil,h89.eval (k:=49) (v:=π w1.heap.size) (by simp),h89.eval (k:=51) (v:=ν (P.I 19)) (by simp)];rfl) (R:=fun v w'=>v=.tuple #[]∧WIn w' w1.heap.size w1.heap.size m6∧Below w1.heap.size w1 w') (Calls.mono (As HW5.out (Nat.le_refl _) ω (P.I 19) 0 9223372036854775807 1 (hP 19)) (fun e w' q=>⟨_,q.1,rfl,(by rw [HM6.out];exact q.2.1),HB5.out.trans q.2.2⟩)) fun a92 v5 w8 r5 h91=>?_
  obtain ⟨rfl,q1,q2⟩:=r5
  have HW6:=hid q1;have HB6:=hid q2
  clear q1 q2 HW5 HB5
  have h93:=h91.sb [4,3,2,1] rfl
  clear h91
  go_step
  go_step
  go_step
  go_step
  go_step
  refine mv h93 rfl fun a95 h94=>?_
  refine fav h94 rfl (fun _=>Mv (w.heap.size) _) fun a97 h96=>?_
  refine sw1 h96 rfl (v:=(.string (bsW (P.S 7)))) (rld h96 rfl rfl (Fl ((Blk.below KP1.out HB6.out hgB).cell (i:=7) (by show 7<43;omega)))) fun a99 h98=>?_
  refine Ak h98 (wn rfl) rfl (by decide) (fr rfl) (fun args=>Jl args _) rfl #[π w1.heap.size,.string (bsW (P.S 7)),ν 2,ν 128] (by simp only [List.map_toArray,List.map_cons,List.map_nil,h98.eval (k:=53) (v:=π w1.heap.size) (by simp),h98.eval (k:=55) (v:=.string (bsW (P.S 7))) (by simp)];rfl) (R:=fun v w'=>v=.tuple #[]∧WIn w' w1.heap.size w1.heap.size m7∧Below w1.heap.size w1 w') (Calls.mono (Gz HW6.out (Nat.le_refl _) ω (P.S 7) (by have:=hS 7 (by decide);omega) 2 128 (by decide)) (fun e w' q=>⟨_,q.1,rfl,(by rw [HM7.out];exact q.2.1),HB6.out.trans q.2.2⟩)) fun a101 v6 w9 r6 h100=>?_
  obtain ⟨rfl,q1,q2⟩:=r6
  have HW7:=hid q1;have HB7:=hid q2
  clear q1 q2 HW6 HB6
  have h102:=h100.sb [4,3,2,1] rfl
  clear h100
  go_step
  go_step
  go_step
  go_step
  go_step
  refine mv h102 rfl fun a104 h103=>?_
  refine fav h103 rfl (fun _=>Mw (w.heap.size) _) fun a106 h105=>?_
  refine sw1 h105 rfl (v:=(ν (P.I 8))) (rld h105 rfl rfl (Ae ((Blk.below KP1.out HB7.out hgB).cell (i:=8) (by show 8<43;omega)))) fun a108 h107=>?_
  refine Ak h107 (wn rfl) rfl (by decide) (fr rfl) (fun args=>AB args _) rfl #[π w1.heap.size,ν (P.I 8),ν 8,ν 0,ν 9223372036854775807] (by simp only [List.map_toArray,List.map_cons,List.map_nil,h107.eval (k:=57) (v:=π w1.heap.size) (by simp),h107.eval (k:=59) (v:=ν (P.I 8)) (by simp)];rfl) (R:=fun v w'=>v=.tuple #[]∧WIn w' w1.heap.size w1.heap.size m8∧Below w1.heap.size w1 w') (Calls.mono (As HW7.out (Nat.le_refl _) ω (P.I 8) 0 9223372036854775807 8 (hP 8)) (fun e w' q=>⟨_,q.1,rfl,(by rw [HM8.out];exact q.2.1),HB7.out.trans q.2.2⟩)) fun a110 v7 w10 r7 h109=>?_
  obtain ⟨rfl,q1,q2⟩:=r7
  have HW8:=hid q1;have HB8:=hid q2
  clear q1 q2 HW7 HB7
  have h111:=h109.sb [4,3,2,1] rfl
  clear h109
  go_step
  go_step
  go_step
  go_step
  go_step
  refine fav h111 rfl (fun _=>Aw (w.heap.size) _) fun a113 h112=>?_
  refine sw1 h112 rfl (v:=(ν (P.I 0))) (rld h112 rfl rfl (Ae ((Blk.below KP1.out HB8.out hgB).cell (i:=0) (by show 0<43;omega)))) fun a115 h114=>?_
  refine sw1 h114 rfl (v:=(.bool false)) (by unfold execOp;simp only [h114.ev 62 rfl];exact Af (Du _ _ _ _ _ e1)) fun a117 h116=>?_
  have h118:=h116.sb [63,4,3,2,1] rfl
  clear h116
  go_step
  go_step
  go_step
  refine wp_cond (t:=false) (h118.eval (k:=63) (v:=.bool false) (by simp)) ?_
  simp only [Bool.false_eq_true,if_false]
  have h119:=h118.sb [4,3,2,1] rfl
  clear h118
  go_step
  go_step
  go_step
  go_step
  go_step
  go_step
  refine fav h119 rfl (fun _=>Aw (w.heap.size) _) fun a121 h120=>?_
  refine sw1 h120 rfl (v:=(ν (P.I 0))) (rld h120 rfl rfl (Ae ((Blk.below KP1.out HB8.out hgB).cell (i:=0) (by show 0<43;omega)))) fun a123 h122=>?_
  refine sw1 h122 rfl (v:=(.bool false)) (by unfold execOp;simp only [h122.ev 69 rfl];exact Af (Du _ _ _ _ _ e3)) fun a125 h124=>?_
  have h126:=h124.sb [70,4,3,2,1] rfl
  clear h124
  go_step
  go_step
  go_step
  refine wp_cond (t:=false) (h126.eval (k:=70) (v:=.bool false) (by simp)) ?_
  simp only [Bool.false_eq_true,if_false]
  have h127:=h126.sb [4,3,2,1] rfl
  clear h126
  go_step
  go_step
  go_step
  go_step
  go_step
  go_step
  refine fav h127 rfl (fun _=>Aw (w.heap.size) _) fun a129 h128=>?_
  refine sw1 h128 rfl (v:=(ν (P.I 0))) (rld h128 rfl rfl (Ae ((Blk.below KP1.out HB8.out hgB).cell (i:=0) (by show 0<43;omega)))) fun a131 h130=>?_
  refine sw1 h130 rfl (v:=(.bool false)) (by unfold execOp;simp only [h130.ev 100 rfl];exact Af (Du _ _ _ _ _ e4)) fun a133 h132=>?_
  have h134:=h132.sb [101,4,3,2,1] rfl
  clear h132
  go_step
  go_step
  go_step
  refine wp_cond (t:=false) (h134.eval (k:=101) (v:=.bool false) (by simp)) ?_
  simp only [Bool.false_eq_true,if_false]
  have h135:=h134.sb [4,3,2,1] rfl
  clear h134
  go_step
  go_step
  go_step
  go_step
  go_step
  go_step
  refine fav h135 rfl (fun _=>Aw (w.heap.size) _) fun a137 h136=>?_
  refine sw1 h136 rfl (v:=(ν (P.I 0))) (rld h136 rfl rfl (Ae ((Blk.below KP1.out HB8.out hgB).cell (i:=0) (by show 0<43;omega)))) fun a139 h138=>?_
  refine sw1 h138 rfl (v:=(.bool false)) (by unfold execOp;simp only [h138.ev 189 rfl];exact Af (Du _ _ _ _ _ e5)) fun a141 h140=>?_
  have h142:=h140.sb [190,4,3,2,1] rfl
  clear h140
  go_step
  go_step
  go_step
  refine wp_cond (t:=false) (h142.eval (k:=190) (v:=.bool false) (by simp)) ?_
  simp only [Bool.false_eq_true,if_false]
  have h143:=h142.sb [4,3,2,1] rfl
  clear h142
  go_step
  go_step
  go_step
  go_step
  go_step
  refine sw1 h143 rfl (v:=(.agg (pkC P a P.N.length c).toArray)) (by unfold execOp;simp only [h143.ev 1 rfl];exact Af (run_loadAt_mid _ _ _ _ (pkC P a P.N.length c) _ (Blk.below KP1.out HB8.out hgB).range υ39 rfl (by rw [Bq];rfl))) fun a145 h144=>?_
  refine Ak h144 (wn rfl) rfl (by decide) (fr rfl) (fun args=>Ig args _) rfl #[.agg (pkC P a P.N.length c).toArray] (by simp only [List.map_toArray,List.map_cons,List.map_nil,h144.eval (k:=195) (v:=.agg (pkC P a P.N.length c).toArray) (by simp)]) (R:=fun v w'=>v=.bool rb∧Below w10.heap.size w10 w') (Calls.mono (HO.out w10 ((B1.out.trans (HB8.out.mono B1.out.size)))) (fun e w' q=>⟨_,q.1,rfl,q.2⟩)) fun a147 v8 w11 r8 h146=>?_
  obtain ⟨rfl,q2⟩:=r8
  obtain ⟨ba,bc,hbW,hoW⟩:=HW8.out
  have hbW:=hid (hbW.mono q2);have hoW:=hid (hoW.mono q2);have HB8z:=hid (HB8.out.trans (q2.mono HB8.out.size))
  clear q2 HW8 HB8
  refine mv h146 rfl fun a149 h148=>?_
  have h150:=h148.sb [7,4,3,2,1] rfl
  clear h148
  go_step
  go_step
  go_step
  go_step
  cases hno:m8.no with
  | false=>
    refine wp_region_held_drew (S:=fun w'=>w'=w11.drew) κ rfl (fun hS151=>?_)
    have B8x:=hid HB8z.out.drew
    refine tv1 hS151 h150 0 rfl rfl (v:=(π w1.heap.size)) (fun w1 hSw=>by cases hSw;exact Aj h150 rfl rfl _) fun a153 h152=>?_
    refine tv1 hS151 h152 1 rfl rfl (v:=(π w1.heap.size)) (fun w1 hSw=>by cases hSw;exact Bt h152 rfl rfl _) fun a155 h154=>?_
    refine tv1 hS151 h154 2 rfl rfl (v:=(π w1.heap.size)) (fun w1 hSw=>by cases hSw;exact rfa h154 rfl rfl (fun _=>Cr (w1.heap.size) _) _) fun a157 h156=>?_
    refine tv1 hS151 h156 3 rfl rfl (v:=(.slice ba m8.b.length bc)) (fun w1 hSw=>by cases hSw;exact rld h156 rfl rfl (Hh ((Blk.drew hbW.out).cell (i:=0) (by simp)))) fun a159 h158=>?_
    refine tv1 hS151 h158 4 rfl rfl (v:=(π w1.heap.size)) (fun w1 hSw=>by cases hSw;exact Aj h158 rfl rfl _) fun a161 h160=>?_
    refine tv1 hS151 h160 5 rfl rfl (v:=(π w1.heap.size)) (fun w1 hSw=>by cases hSw;exact Bt h160 rfl rfl _) fun a163 h162=>?_
    refine tv1 hS151 h162 6 rfl rfl (v:=(.pointer (some ⟨w1.heap.size,1,none⟩))) (fun w1 hSw=>by cases hSw;exact rfa h162 rfl rfl (fun _=>Ct (w1.heap.size) _) _) fun a165 h164=>?_
    refine tv1 hS151 h164 7 rfl rfl (v:=(.bool false)) (fun w1 hSw=>(by cases hSw;exact (by show (execOp _ (⟨_,.load 4 (.tmp 203),_,_,_,_⟩:Oper)).run _ _=_;exact (by unfold execOp;simp only [h164.ev 203 rfl];exact Af (EL (by rw [(Blk.drew hbW.out).cell (i:=1) (by simp)];simp [hno])))))) fun a167 h166=>?_
    refine tv1 hS151 h166 8 rfl rfl (v:=(.bool true)) (fun w1 hSw=>(by cases hSw;exact (by show (execOp _ (⟨_,.unOp .not 4 (.tmp 204),_,_,_,_⟩:Oper)).run _ _=_;exact (Do rfl (h166.eval (k:=204) (v:=.bool false) (by simp)))))) fun a169 h168=>?_
    refine tv1 hS151 h168 9 rfl rfl (v:=(.bool true)) (fun w1 hSw=>by cases hSw;exact Aj h168 rfl rfl _) fun a171 h170=>?_
    refine Cv hS151 h170 10 rfl rfl (by decide) (fr rfl) κ κ κ (fun _ _ _ _ h=>h) (.bool rb) (Or.inl ⟨(by rw [AC (g:=9) (want:=true) (b:=true) rfl (h170.yields (prev:=206) rfl (by simp))];rfl),fun w1 hSw=>(by cases hSw;exact (by show (execOp _ (⟨_,.move (.tmp 7),_,_,_,_⟩:Oper)).run _ _=_;exact (by unfold execOp;simp only [h170.eval (k:=7) (v:=.bool rb) (by simp)];rfl)))⟩) fun a173 h172=>?_
    refine tv1 hS151 h172 11 rfl rfl (v:=(.bool rb)) (fun w1 hSw=>(by cases hSw;exact (by show (execOp _ (⟨_,.pick (.tmp 206) (.tmp 207) (.const (.bool false)),_,_,_,_⟩:Oper)).run _ _=_;exact (Bk rfl (h172.eval (k:=206) (v:=.bool true) (by simp)) (by rw [if_pos rfl];exact h172.eval (k:=207) (v:=.bool rb) (by simp)))))) fun a175 h174=>?_
    have h176:=h174.sb [208,207,206,205,204,203,202,201,200,199,198,197,7,4,3,1] rfl
    clear h174
    refine tv1 hS151 h176 12 rfl rfl (v:=(.slice ba m8.b.length bc)) (fun w1 hSw=>by cases hSw;exact AA h176 rfl rfl _) fun a178 h177=>?_
    have h179:=h177.sb [2,208,207,206,205,204,203,202,201,200,199,198,197,7,4,1] rfl
    clear h177
    refine tv1 hS151 h179 13 rfl rfl (v:=(.bool rb)) (fun w1 hSw=>by cases hSw;exact AA h179 rfl rfl _) fun a181 h180=>?_
    refine wpAnyH_done κ ?_ _
    have h182:=h180.sb [3,2,7,4,1] rfl
    clear h180
    go_step
    go_step
    go_step
    refine bodyPost_ret (Br rfl (h182.known (2,.slice ba m8.b.length bc) (by simp)) (h182.known (3,.bool rb) (by simp))) h182.defs ?_
    exact ⟨ba,bc,by rw [hno];rfl,hoW.out.drew.low B1.out.size,B1.out.trans (B8x.out.mono B1.out.size)⟩
  | true=>
    refine wp_region_held_drew (S:=fun w'=>w'=w11.drew) κ rfl (fun hS183=>?_)
    have B8x:=hid HB8z.out.drew
    refine tv1 hS183 h150 0 rfl rfl (v:=(π w1.heap.size)) (fun w1 hSw=>by cases hSw;exact Aj h150 rfl rfl _) fun a185 h184=>?_
    refine tv1 hS183 h184 1 rfl rfl (v:=(π w1.heap.size)) (fun w1 hSw=>by cases hSw;exact Bt h184 rfl rfl _) fun a187 h186=>?_
    refine tv1 hS183 h186 2 rfl rfl (v:=(π w1.heap.size)) (fun w1 hSw=>by cases hSw;exact rfa h186 rfl rfl (fun _=>Cr (w1.heap.size) _) _) fun a189 h188=>?_
    refine tv1 hS183 h188 3 rfl rfl (v:=(.slice ba m8.b.length bc)) (fun w1 hSw=>by cases hSw;exact rld h188 rfl rfl (Hh ((Blk.drew hbW.out).cell (i:=0) (by simp)))) fun a191 h190=>?_
    refine tv1 hS183 h190 4 rfl rfl (v:=(π w1.heap.size)) (fun w1 hSw=>by cases hSw;exact Aj h190 rfl rfl _) fun a193 h192=>?_
    refine tv1 hS183 h192 5 rfl rfl (v:=(π w1.heap.size)) (fun w1 hSw=>by cases hSw;exact Bt h192 rfl rfl _) fun a195 h194=>?_
    refine tv1 hS183 h194 6 rfl rfl (v:=(.pointer (some ⟨w1.heap.size,1,none⟩))) (fun w1 hSw=>by cases hSw;exact rfa h194 rfl rfl (fun _=>Ct (w1.heap.size) _) _) fun a197 h196=>?_
    refine tv1 hS183 h196 7 rfl rfl (v:=(.bool true)) (fun w1 hSw=>(by cases hSw;exact (by show (execOp _ (⟨_,.load 4 (.tmp 203),_,_,_,_⟩:Oper)).run _ _=_;exact (by unfold execOp;simp only [h196.ev 203 rfl];exact Af (EL (by rw [(Blk.drew hbW.out).cell (i:=1) (by simp)];simp [hno])))))) fun a199 h198=>?_
    refine tv1 hS183 h198 8 rfl rfl (v:=(.bool false)) (fun w1 hSw=>(by cases hSw;exact (by show (execOp _ (⟨_,.unOp .not 4 (.tmp 204),_,_,_,_⟩:Oper)).run _ _=_;exact (Do rfl (h198.eval (k:=204) (v:=.bool true) (by simp)))))) fun a201 h200=>?_
    refine tv1 hS183 h200 9 rfl rfl (v:=(.bool false)) (fun w1 hSw=>by cases hSw;exact Aj h200 rfl rfl _) fun a203 h202=>?_
    refine Cv hS183 h202 10 rfl rfl (by decide) (fr rfl) κ κ κ (fun _ _ _ _ h=>h) undef (Or.inr ⟨(by rw [AC (g:=9) (want:=true) (b:=false) rfl (h202.yields (prev:=206) rfl (by simp))];rfl),rfl⟩) fun a205 h204=>?_
    refine tv1 hS183 h204 11 rfl rfl (v:=(.bool false)) (fun w1 hSw=>(by cases hSw;exact (by show (execOp _ (⟨_,.pick (.tmp 206) (.tmp 207) (.const (.bool false)),_,_,_,_⟩:Oper)).run _ _=_;exact (Bk rfl (h204.eval (k:=206) (v:=.bool false) (by simp)) rfl)))) fun a207 h206=>?_
    have h208:=h206.sb [208,207,206,205,204,203,202,201,200,199,198,197,7,4,3,1] rfl
    clear h206
    refine tv1 hS183 h208 12 rfl rfl (v:=(.slice ba m8.b.length bc)) (fun w1 hSw=>by cases hSw;exact AA h208 rfl rfl _) fun a210 h209=>?_
    have h211:=h209.sb [2,208,207,206,205,204,203,202,201,200,199,198,197,7,4,1] rfl
    clear h209
    refine tv1 hS183 h211 13 rfl rfl (v:=(.bool false)) (fun w1 hSw=>by cases hSw;exact AA h211 rfl rfl _) fun a213 h212=>?_
    refine wpAnyH_done κ ?_ _
    have h214:=h212.sb [3,2,7,4,1] rfl
    clear h212
    go_step
    go_step
    go_step
    refine bodyPost_ret (Br rfl (h214.known (2,.slice ba m8.b.length bc) (by simp)) (h214.known (3,.bool false) (by simp))) h214.defs ?_
    exact ⟨ba,bc,by rw [hno];rfl,hoW.out.drew.low B1.out.size,B1.out.trans (B8x.out.mono B1.out.size)⟩
theorem Vi (P:PkM) (hP:Be P) (hS:Kq P) (a:Option Addr) (c:Nat) (w:World) (ha:Row w 1 a P.N.length c (P.N.map AS)) (hk:P.I 0=5) :
    Calls Tryz.prog 60 #[.agg (pkC P a P.N.length c).toArray] w fun e w'=>∃ ba bc,e=.returned (.tuple #[.slice ba ((Ah++Al 5).foldl (stepW P) ⟨[],false⟩).b.length bc,.bool (!((Ah++Al 5).foldl (stepW P) ⟨[],false⟩).no&&BS P (Au P P0z (Ah++Al 5)))])∧Ek w' w.heap.size ba bc ((Ah++Al 5).foldl (stepW P) ⟨[],false⟩).b∧Below w.heap.size w w':=by
  have HO:=hid (fun (W:World) (hW:Below w.heap.size w W)=>Ud P a c W (ha.mono hW) hk)
  obtain ⟨rb,hrb⟩:∃ rb,rb=BS P (Au P P0z (Ah++Al 5)):=⟨_,rfl⟩
  rw [← hrb] at HO ⊢
  clear hrb
  have e1:(P.I 0 == 1)=false:=by rw [hk];rfl
  have e2:(P.I 0 == 2)=false:=by rw [hk];rfl
  have e3:(P.I 0 == 3)=false:=by rw [hk];rfl
  have e4:(P.I 0 == 4)=false:=by rw [hk];rfl
  have e5:(P.I 0 == 5)=true:=by rw [hk];rfl
  obtain ⟨m0,hm0⟩:∃ m0,m0=(⟨[],false⟩:WM):=⟨_,rfl⟩
  have l0:m0.b.length≤0:=by rw [hm0];simp
  obtain ⟨m1,hm1⟩:∃ m1,m1=wnum m0 (P.I 0) 1 1 5:=⟨_,rfl⟩
  have l1:m1.b.length≤8:=by rw [hm1];have:=Ao m0 (P.I 0) 1 1 5 (by decide);omega
  obtain ⟨m2,hm2⟩:∃ m2,m2=wnum m1 (P.I 1) 1 1 8:=⟨_,rfl⟩
  have l2:m2.b.length≤16:=by rw [hm2];have:=Ao m1 (P.I 1) 1 1 8 (by decide);omega
  obtain ⟨m3,hm3⟩:∃ m3,m3=wnum m2 (P.I 2) 4 0 9223372036854775807:=⟨_,rfl⟩
  have l3:m3.b.length≤24:=by rw [hm3];have:=Ao m2 (P.I 2) 4 0 9223372036854775807 (by decide);omega
  obtain ⟨m4,hm4⟩:∃ m4,m4=wnum m3 (P.I 3) 8 0 9223372036854775807:=⟨_,rfl⟩
  have l4:m4.b.length≤32:=by rw [hm4];have:=Ao m3 (P.I 3) 8 0 9223372036854775807 (by decide);omega
  obtain ⟨m5,hm5⟩:∃ m5,m5=wnum m4 (P.I 18) 1 0 9223372036854775807:=⟨_,rfl⟩
  have l5:m5.b.length≤40:=by rw [hm5];have:=Ao m4 (P.I 18) 1 0 9223372036854775807 (by decide);omega
  rw [show ((Ah++Al 5).foldl (stepW P) ⟨[],false⟩)=m5 by rw [hm5,hm4,hm3,hm2,hm1,hm0];rfl]
  have HM0:=hid hm0
  have HM1:=hid hm1
  have HM2:=hid hm2
  have HM3:=hid hm3
  have HM4:=hid hm4
  have HM5:=hid hm5
  clear hk ha hm0 hm1 hm2 hm3 hm4 hm5
  go_enter Tryz.func60,Tryz.ntmps60
  go_step
  go_step
  go_step
  refine Bg rfl 39 _ rfl (pkC P a P.N.length c) rfl ?_
  intro w1 k1 b1 s1
  have KP1:=hid k1;have B1:=hid b1;have hgB:w.heap.size<w1.heap.size:=ω
  clear k1 b1 s1
  refine Cb (N:=209) (l:=[(1,π w.heap.size)]) ⟨rfl,(by intro x hx;simp only [List.mem_cons,List.not_mem_nil,or_false] at hx;rcases hx with rfl<;>rfl),rfl⟩ fun a2 h1=>?_
  refine sw1 h1 rfl (v:=(.slice none 0 0)) rfl fun a4 h3=>?_
  refine sw1 h3 rfl (v:=(.bool false)) rfl fun a6 h5=>?_
  go_step
  go_step
  go_step
  go_step
  go_step
  refine sw1 h5 rfl (v:=(.agg #[.slice none 0 0,.bool false])) (by unfold execOp;simp only [List.map_toArray,List.map_nil];exact Af (JS _)) fun a8 h7=>?_
  refine Is h7 rfl rfl (by decide) (fr rfl) 136 rfl [.slice none 0 0,.bool false] (h7.eval (k:=8) (v:=.agg #[.slice none 0 0,.bool false]) (by simp)) fun a10 w2 h9 k2 b2 s2=>?_
  have HW0:Hid (WIn w2 w1.heap.size w1.heap.size m0):=hid (by rw [HM0.out];exact ⟨none,0,k2,Own.nil _ _ _ _⟩)
  have HB0:=hid b2
  clear k2 b2 s2
  refine mv h9 rfl fun a12 h11=>?_
  have h13:=h11.sb [4,3,2,1] rfl
  clear h11
  go_step
  go_step
  go_step
  go_step
  go_step
  refine mv h13 rfl fun a15 h14=>?_
  refine fav h14 rfl (fun _=>Aw (w.heap.size) _) fun a17 h16=>?_
  refine sw1 h16 rfl (v:=(ν (P.I 0))) (rld h16 rfl rfl (Ae ((Blk.below KP1.out HB0.out hgB).cell (i:=0) (by show 0<43;omega)))) fun a19 h18=>?_
  refine Ak h18 (wn rfl) rfl (by decide) (fr rfl) (fun args=>AB args _) rfl #[π w1.heap.size,ν (P.I 0),ν 1,ν 1,ν 5] (by simp only [List.map_toArray,List.map_cons,List.map_nil,h18.eval (k:=10) (v:=π w1.heap.size) (by simp),h18.eval (k:=12) (v:=ν (P.I 0)) (by simp)];rfl) (R:=fun v w'=>v=.tuple #[]∧WIn w' w1.heap.size w1.heap.size m1∧Below w1.heap.size w1 w') (Calls.mono (As HW0.out (Nat.le_refl _) ω (P.I 0) 1 5 1 (hP 0)) (fun e w' q=>⟨_,q.1,rfl,(by rw [HM1.out];exact q.2.1),HB0.out.trans q.2.2⟩)) fun a21 v0 w3 r0 h20=>?_
  obtain ⟨rfl,q1,q2⟩:=r0
  have HW1:=hid q1;have HB1:=hid q2
  clear q1 q2 HW0 HB0
  have h22:=h20.sb [4,3,2,1] rfl
  clear h20
  go_step
  go_step
  go_step
  go_step
  go_step
  refine mv h22 rfl fun a24 h23=>?_
  refine fav h23 rfl (fun _=>EV (w.heap.size) _) fun a26 h25=>?_
  refine sw1 h25 rfl (v:=(ν (P.I 1))) (rld h25 rfl rfl (Ae ((Blk.below KP1.out HB1.out hgB).cell (i:=1) (by show 1<43;omega)))) fun a28 h27=>?_
  refine Ak h27 (wn rfl) rfl (by decide) (fr rfl) (fun args=>AB args _) rfl #[π w1.heap.size,ν (P.I 1),ν 1,ν 1,ν 8] (by simp only [List.map_toArray,List.map_cons,List.map_nil,h27.eval (k:=14) (v:=π w1.heap.size) (by simp),h27.eval (k:=16) (v:=ν (P.I 1)) (by simp)];rfl) (R:=fun v w'=>v=.tuple #[]∧WIn w' w1.heap.size w1.heap.size m2∧Below w1.heap.size w1 w') (Calls.mono (As HW1.out (Nat.le_refl _) ω (P.I 1) 1 8 1 (hP 1)) (fun e w' q=>⟨_,q.1,rfl,(by rw [HM2.out];exact q.2.1),HB1.out.trans q.2.2⟩)) fun a30 v1 w4 r1 h29=>?_
  obtain ⟨rfl,q1,q2⟩:=r1
  have HW2:=hid q1;have HB2:=hid q2
  clear q1 q2 HW1 HB1
  have h31:=h29.sb [4,3,2,1] rfl
  clear h29
  go_step
  go_step
  go_step
  go_step
  go_step
  refine mv h31 rfl fun a33 h32=>?_
  refine fav h32 rfl (fun _=>EW (w.heap.size) _) fun a35 h34=>?_
  refine sw1 h34 rfl (v:=(ν (P.I 2))) (rld h34 rfl rfl (Ae ((Blk.below KP1.out HB2.out hgB).cell (i:=2) (by show 2<43;omega)))) fun a37 h36=>?_
  refine Ak h36 (wn rfl) rfl (by decide) (fr rfl) (fun args=>AB args _) rfl #[π w1.heap.size,ν (P.I 2),ν 4,ν 0,ν 9223372036854775807] (by simp only [List.map_toArray,List.map_cons,List.map_nil,h36.eval (k:=18) (v:=π w1.heap.size) (by simp),h36.eval (k:=20) (v:=ν (P.I 2)) (by simp)];rfl) (R:=fun v w'=>v=.tuple #[]∧WIn w' w1.heap.size w1.heap.size m3∧Below w1.heap.size w1 w') (Calls.mono (As HW2.out (Nat.le_refl _) ω (P.I 2) 0 9223372036854775807 4 (hP 2)) (fun e w' q=>⟨_,q.1,rfl,(by rw [HM3.out];exact q.2.1),HB2.out.trans q.2.2⟩)) fun a39 v2 w5 r2 h38=>?_
  obtain ⟨rfl,q1,q2⟩:=r2
  have HW3:=hid q1;have HB3:=hid q2
  clear q1 q2 HW2 HB2
  have h40:=h38.sb [4,3,2,1] rfl
  clear h38
  go_step
  go_step
  go_step
  go_step
  go_step
  refine mv h40 rfl fun a42 h41=>?_
  refine fav h41 rfl (fun _=>EX (w.heap.size) _) fun a44 h43=>?_
  refine sw1 h43 rfl (v:=(ν (P.I 3))) (rld h43 rfl rfl (Ae ((Blk.below KP1.out HB3.out hgB).cell (i:=3) (by show 3<43;omega)))) fun a46 h45=>?_
  refine Ak h45 (wn rfl) rfl (by decide) (fr rfl) (fun args=>AB args _) rfl #[π w1.heap.size,ν (P.I 3),ν 8,ν 0,ν 9223372036854775807] (by simp only [List.map_toArray,List.map_cons,List.map_nil,h45.eval (k:=22) (v:=π w1.heap.size) (by simp),h45.eval (k:=24) (v:=ν (P.I 3)) (by simp)];rfl) (R:=fun v w'=>v=.tuple #[]∧WIn w' w1.heap.size w1.heap.size m4∧Below w1.heap.size w1 w') (Calls.mono (As HW3.out (Nat.le_refl _) ω (P.I 3) 0 9223372036854775807 8 (hP 3)) (fun e w' q=>⟨_,q.1,rfl,(by rw [HM4.out];exact q.2.1),HB3.out.trans q.2.2⟩)) fun a48 v3 w6 r3 h47=>?_
  obtain ⟨rfl,q1,q2⟩:=r3
  have HW4:=hid q1;have HB4:=hid q2
  clear q1 q2 HW3 HB3
  have h49:=h47.sb [4,3,2,1] rfl
  clear h47
  go_step
  go_step
  go_step
  go_step
  go_step
  go_step
  refine fav h49 rfl (fun _=>Aw (w.heap.size) _) fun a51 h50=>?_
  refine sw1 h50 rfl (v:=(ν (P.I 0))) (rld h50 rfl rfl (Ae ((Blk.below KP1.out HB4.out hgB).cell (i:=0) (by show 0<43;omega)))) fun a53 h52=>?_
  refine sw1 h52 rfl (v:=(.bool false)) (by unfold execOp;simp only [h52.ev 27 rfl];exact Af (Du _ _ _ _ _ e1)) fun a55 h54=>?_
  refine mv h54 rfl fun a57 h56=>?_
  refine Ar h56 (by rw [AC (g:=3) (want:=false) (b:=false) rfl (h56.yields (prev:=29) rfl (by simp))];rfl) rfl (by decide) (fr rfl) (π w.heap.size) (by unfold execOp;simp only [h56.eval (k:=1) (v:=π w.heap.size) (by simp)];exact Af (Aw (w.heap.size) _)) fun a59 h58=>?_
  refine Ar h58 (by rw [AC (g:=3) (want:=false) (b:=false) rfl (h58.yields (prev:=29) rfl (by simp))];rfl) rfl (by decide) (fr rfl) (ν (P.I 0)) (by unfold execOp;simp only [h58.eval (k:=30) (v:=π w.heap.size) (by simp)];exact Af (Ae ((Blk.below KP1.out HB4.out hgB).cell (i:=0) (by show 0<43;omega)))) fun a61 h60=>?_
  refine Ar h60 (by rw [AC (g:=3) (want:=false) (b:=false) rfl (h60.yields (prev:=29) rfl (by simp))];rfl) rfl (by decide) (fr rfl) (.bool false) (by unfold execOp;simp only [h60.eval (k:=31) (v:=ν (P.I 0)) (by simp)];exact Af (Du _ _ _ _ _ e2)) fun a63 h62=>?_
  refine sw1 h62 rfl (v:=(.bool false)) (Bk rfl (h62.eval (k:=29) (v:=.bool false) (by simp)) (by rw [if_neg (by simp)];exact h62.eval (k:=32) (v:=.bool false) (by simp))) fun a65 h64=>?_
  have h66:=h64.sb [33,4,3,2,1] rfl
  clear h64
  go_step
  go_step
  go_step
  refine wp_cond (t:=false) (h66.eval (k:=33) (v:=.bool false) (by simp)) ?_
  simp only [Bool.false_eq_true,if_false]
  have h67:=h66.sb [4,3,2,1] rfl
  clear h66
  go_step
  go_step
  go_step
  go_step
  go_step
  go_step
  refine fav h67 rfl (fun _=>Aw (w.heap.size) _) fun a69 h68=>?_
  refine sw1 h68 rfl (v:=(ν (P.I 0))) (rld h68 rfl rfl (Ae ((Blk.below KP1.out HB4.out hgB).cell (i:=0) (by show 0<43;omega)))) fun a71 h70=>?_
  refine sw1 h70 rfl (v:=(.bool false)) (by unfold execOp;simp only [h70.ev 69 rfl];exact Af (Du _ _ _ _ _ e3)) fun a73 h72=>?_
  have h74:=h72.sb [70,4,3,2,1] rfl
  clear h72
  go_step
  go_step
  go_step
  refine wp_cond (t:=false) (h74.eval (k:=70) (v:=.bool false) (by simp)) ?_
  simp only [Bool.false_eq_true,if_false]
  have h75:=h74.sb [4,3,2,1] rfl
  clear h74
  go_step
  go_step
  go_step
  go_step
  go_step
  go_step
  refine fav h75 rfl (fun _=>Aw (w.heap.size) _) fun a77 h76=>?_
  refine sw1 h76 rfl (v:=(ν (P.I 0))) (rld h76 rfl rfl (Ae ((Blk.below KP1.out HB4.out hgB).cell (i:=0) (by show 0<43;omega)))) fun a79 h78=>?_
  refine sw1 h78 rfl (v:=(.bool false)) (by unfold execOp;simp only [h78.ev 100 rfl];exact Af (Du _ _ _ _ _ e4)) fun a81 h80=>?_
  have h82:=h80.sb [101,4,3,2,1] rfl
  clear h80
  go_step
  go_step
  go_step
  refine wp_cond (t:=false) (h82.eval (k:=101) (v:=.bool false) (by simp)) ?_
  simp only [Bool.false_eq_true,if_false]
  have h83:=h82.sb [4,3,2,1] rfl
  clear h82
  go_step
  go_step
  go_step
  go_step
  go_step
  go_step
  refine fav h83 rfl (fun _=>Aw (w.heap.size) _) fun a85 h84=>?_
  refine sw1 h84 rfl (v:=(ν (P.I 0))) (rld h84 rfl rfl (Ae ((Blk.below KP1.out HB4.out hgB).cell (i:=0) (by show 0<43;omega)))) fun a87 h86=>?_
  refine sw1 h86 rfl (v:=(.bool true)) (by unfold execOp;simp only [h86.ev 189 rfl];exact Af (Du _ _ _ _ _ e5)) fun a89 h88=>?_
  have h90:=h88.sb [190,4,3,2,1] rfl
  clear h88
  go_step
  go_step
  go_step
  refine wp_cond (t:=true) (h90.eval (k:=190) (v:=.bool true) (by simp)) ?_
  simp only [if_true]
  have h91:=h90.sb [4,3,2,1] rfl
  clear h90
  go_step
  refine mv h91 rfl fun a93 h92=>?_
  refine fav h92 rfl (fun _=>IJ (w.heap.size) _) fun a95 h94=>?_
  refine sw1 h94 rfl (v:=(ν (P.I 18))) (rld h94 rfl rfl (Ae ((Blk.below KP1.out HB4.out hgB).cell (i:=18) (by show 18<43;omega)))) fun a97 h96=>?_
  refine Ak h96 (wn rfl) rfl (by decide) (fr rfl) (fun args=>AB args _) rfl #[π w1.heap.size,ν (P.I 18),ν 1,ν 0,ν 9223372036854775807] (by simp only [List.map_toArray,List.map_cons,List.map_nil,h96.eval (k:=191) (v:=π w1.heap.size) (by simp),h96.eval (k:=193) (v:=ν (P.I 18)) (by simp)];rfl) (R:=fun v w'=>v=.tuple #[]∧WIn w' w1.heap.size w1.heap.size m5∧Below w1.heap.size w1 w') (Calls.mono (As HW4.out (Nat.le_refl _) ω (P.I 18) 0 9223372036854775807 1 (hP 18)) (fun e w' q=>⟨_,q.1,rfl,(by rw [HM5.out];exact q.2.1),HB4.out.trans q.2.2⟩)) fun a99 v4 w7 r4 h98=>?_
  obtain ⟨rfl,q1,q2⟩:=r4
  have HW5:=hid q1;have HB5:=hid q2
  clear q1 q2 HW4 HB4
  have h100:=h98.sb [4,3,2,1] rfl
  clear h98
  go_step
  go_step
  go_step
  go_step
  go_step
  refine sw1 h100 rfl (v:=(.agg (pkC P a P.N.length c).toArray)) (by unfold execOp;simp only [h100.ev 1 rfl];exact Af (run_loadAt_mid _ _ _ _ (pkC P a P.N.length c) _ (Blk.below KP1.out HB5.out hgB).range υ39 rfl (by rw [Bq];rfl))) fun a102 h101=>?_
  refine Ak h101 (wn rfl) rfl (by decide) (fr rfl) (fun args=>Ig args _) rfl #[.agg (pkC P a P.N.length c).toArray] (by simp only [List.map_toArray,List.map_cons,List.map_nil,h101.eval (k:=195) (v:=.agg (pkC P a P.N.length c).toArray) (by simp)]) (R:=fun v w'=>v=.bool rb∧Below w7.heap.size w7 w') (Calls.mono (HO.out w7 ((B1.out.trans (HB5.out.mono B1.out.size)))) (fun e w' q=>⟨_,q.1,rfl,q.2⟩)) fun a104 v5 w8 r5 h103=>?_
  obtain ⟨rfl,q2⟩:=r5
  obtain ⟨ba,bc,hbW,hoW⟩:=HW5.out
  have hbW:=hid (hbW.mono q2);have hoW:=hid (hoW.mono q2);have HB5z:=hid (HB5.out.trans (q2.mono HB5.out.size))
  clear q2 HW5 HB5
  refine mv h103 rfl fun a106 h105=>?_
  have h107:=h105.sb [7,4,3,2,1] rfl
  clear h105
  go_step
  go_step
  go_step
  go_step
  cases hno:m5.no with
  | false=>
    refine wp_region_held_drew (S:=fun w'=>w'=w8.drew) κ rfl (fun hS108=>?_)
    have B5x:=hid HB5z.out.drew
    refine tv1 hS108 h107 0 rfl rfl (v:=(π w1.heap.size)) (fun w1 hSw=>by cases hSw;exact Aj h107 rfl rfl _) fun a110 h109=>?_
    refine tv1 hS108 h109 1 rfl rfl (v:=(π w1.heap.size)) (fun w1 hSw=>by cases hSw;exact Bt h109 rfl rfl _) fun a112 h111=>?_
    refine tv1 hS108 h111 2 rfl rfl (v:=(π w1.heap.size)) (fun w1 hSw=>by cases hSw;exact rfa h111 rfl rfl (fun _=>Cr (w1.heap.size) _) _) fun a114 h113=>?_
    refine tv1 hS108 h113 3 rfl rfl (v:=(.slice ba m5.b.length bc)) (fun w1 hSw=>by cases hSw;exact rld h113 rfl rfl (Hh ((Blk.drew hbW.out).cell (i:=0) (by simp)))) fun a116 h115=>?_
    refine tv1 hS108 h115 4 rfl rfl (v:=(π w1.heap.size)) (fun w1 hSw=>by cases hSw;exact Aj h115 rfl rfl _) fun a118 h117=>?_
    refine tv1 hS108 h117 5 rfl rfl (v:=(π w1.heap.size)) (fun w1 hSw=>by cases hSw;exact Bt h117 rfl rfl _) fun a120 h119=>?_
    refine tv1 hS108 h119 6 rfl rfl (v:=(.pointer (some ⟨w1.heap.size,1,none⟩))) (fun w1 hSw=>by cases hSw;exact rfa h119 rfl rfl (fun _=>Ct (w1.heap.size) _) _) fun a122 h121=>?_
    refine tv1 hS108 h121 7 rfl rfl (v:=(.bool false)) (fun w1 hSw=>(by cases hSw;exact (by show (execOp _ (⟨_,.load 4 (.tmp 203),_,_,_,_⟩:Oper)).run _ _=_;exact (by unfold execOp;simp only [h121.ev 203 rfl];exact Af (EL (by rw [(Blk.drew hbW.out).cell (i:=1) (by simp)];simp [hno])))))) fun a124 h123=>?_
    refine tv1 hS108 h123 8 rfl rfl (v:=(.bool true)) (fun w1 hSw=>(by cases hSw;exact (by show (execOp _ (⟨_,.unOp .not 4 (.tmp 204),_,_,_,_⟩:Oper)).run _ _=_;exact (Do rfl (h123.eval (k:=204) (v:=.bool false) (by simp)))))) fun a126 h125=>?_
    refine tv1 hS108 h125 9 rfl rfl (v:=(.bool true)) (fun w1 hSw=>by cases hSw;exact Aj h125 rfl rfl _) fun a128 h127=>?_
    refine Cv hS108 h127 10 rfl rfl (by decide) (fr rfl) κ κ κ (fun _ _ _ _ h=>h) (.bool rb) (Or.inl ⟨(by rw [AC (g:=9) (want:=true) (b:=true) rfl (h127.yields (prev:=206) rfl (by simp))];rfl),fun w1 hSw=>(by cases hSw;exact (by show (execOp _ (⟨_,.move (.tmp 7),_,_,_,_⟩:Oper)).run _ _=_;exact (by unfold execOp;simp only [h127.eval (k:=7) (v:=.bool rb) (by simp)];rfl)))⟩) fun a130 h129=>?_
    refine tv1 hS108 h129 11 rfl rfl (v:=(.bool rb)) (fun w1 hSw=>(by cases hSw;exact (by show (execOp _ (⟨_,.pick (.tmp 206) (.tmp 207) (.const (.bool false)),_,_,_,_⟩:Oper)).run _ _=_;exact (Bk rfl (h129.eval (k:=206) (v:=.bool true) (by simp)) (by rw [if_pos rfl];exact h129.eval (k:=207) (v:=.bool rb) (by simp)))))) fun a132 h131=>?_
    have h133:=h131.sb [208,207,206,205,204,203,202,201,200,199,198,197,7,4,3,1] rfl
    clear h131
    refine tv1 hS108 h133 12 rfl rfl (v:=(.slice ba m5.b.length bc)) (fun w1 hSw=>by cases hSw;exact AA h133 rfl rfl _) fun a135 h134=>?_
    have h136:=h134.sb [2,208,207,206,205,204,203,202,201,200,199,198,197,7,4,1] rfl
    clear h134
    refine tv1 hS108 h136 13 rfl rfl (v:=(.bool rb)) (fun w1 hSw=>by cases hSw;exact AA h136 rfl rfl _) fun a138 h137=>?_
    refine wpAnyH_done κ ?_ _
    have h139:=h137.sb [3,2,7,4,1] rfl
    clear h137
    go_step
    go_step
    go_step
    refine bodyPost_ret (Br rfl (h139.known (2,.slice ba m5.b.length bc) (by simp)) (h139.known (3,.bool rb) (by simp))) h139.defs ?_
    exact ⟨ba,bc,by rw [hno];rfl,hoW.out.drew.low B1.out.size,B1.out.trans (B5x.out.mono B1.out.size)⟩
  | true=>
    refine wp_region_held_drew (S:=fun w'=>w'=w8.drew) κ rfl (fun hS140=>?_)
    have B5x:=hid HB5z.out.drew
    refine tv1 hS140 h107 0 rfl rfl (v:=(π w1.heap.size)) (fun w1 hSw=>by cases hSw;exact Aj h107 rfl rfl _) fun a142 h141=>?_
    refine tv1 hS140 h141 1 rfl rfl (v:=(π w1.heap.size)) (fun w1 hSw=>by cases hSw;exact Bt h141 rfl rfl _) fun a144 h143=>?_
    refine tv1 hS140 h143 2 rfl rfl (v:=(π w1.heap.size)) (fun w1 hSw=>by cases hSw;exact rfa h143 rfl rfl (fun _=>Cr (w1.heap.size) _) _) fun a146 h145=>?_
    refine tv1 hS140 h145 3 rfl rfl (v:=(.slice ba m5.b.length bc)) (fun w1 hSw=>by cases hSw;exact rld h145 rfl rfl (Hh ((Blk.drew hbW.out).cell (i:=0) (by simp)))) fun a148 h147=>?_
    refine tv1 hS140 h147 4 rfl rfl (v:=(π w1.heap.size)) (fun w1 hSw=>by cases hSw;exact Aj h147 rfl rfl _) fun a150 h149=>?_
    refine tv1 hS140 h149 5 rfl rfl (v:=(π w1.heap.size)) (fun w1 hSw=>by cases hSw;exact Bt h149 rfl rfl _) fun a152 h151=>?_
    refine tv1 hS140 h151 6 rfl rfl (v:=(.pointer (some ⟨w1.heap.size,1,none⟩))) (fun w1 hSw=>by cases hSw;exact rfa h151 rfl rfl (fun _=>Ct (w1.heap.size) _) _) fun a154 h153=>?_
    refine tv1 hS140 h153 7 rfl rfl (v:=(.bool true)) (fun w1 hSw=>(by cases hSw;exact (by show (execOp _ (⟨_,.load 4 (.tmp 203),_,_,_,_⟩:Oper)).run _ _=_;exact (by unfold execOp;simp only [h153.ev 203 rfl];exact Af (EL (by rw [(Blk.drew hbW.out).cell (i:=1) (by simp)];simp [hno])))))) fun a156 h155=>?_
    refine tv1 hS140 h155 8 rfl rfl (v:=(.bool false)) (fun w1 hSw=>(by cases hSw;exact (by show (execOp _ (⟨_,.unOp .not 4 (.tmp 204),_,_,_,_⟩:Oper)).run _ _=_;exact (Do rfl (h155.eval (k:=204) (v:=.bool true) (by simp)))))) fun a158 h157=>?_
    refine tv1 hS140 h157 9 rfl rfl (v:=(.bool false)) (fun w1 hSw=>by cases hSw;exact Aj h157 rfl rfl _) fun a160 h159=>?_
    refine Cv hS140 h159 10 rfl rfl (by decide) (fr rfl) κ κ κ (fun _ _ _ _ h=>h) undef (Or.inr ⟨(by rw [AC (g:=9) (want:=true) (b:=false) rfl (h159.yields (prev:=206) rfl (by simp))];rfl),rfl⟩) fun a162 h161=>?_
    refine tv1 hS140 h161 11 rfl rfl (v:=(.bool false)) (fun w1 hSw=>(by cases hSw;exact (by show (execOp _ (⟨_,.pick (.tmp 206) (.tmp 207) (.const (.bool false)),_,_,_,_⟩:Oper)).run _ _=_;exact (Bk rfl (h161.eval (k:=206) (v:=.bool false) (by simp)) rfl)))) fun a164 h163=>?_
    have h165:=h163.sb [208,207,206,205,204,203,202,201,200,199,198,197,7,4,3,1] rfl
    clear h163
    refine tv1 hS140 h165 12 rfl rfl (v:=(.slice ba m5.b.length bc)) (fun w1 hSw=>by cases hSw;exact AA h165 rfl rfl _) fun a167 h166=>?_
    have h168:=h166.sb [2,208,207,206,205,204,203,202,201,200,199,198,197,7,4,1] rfl
    clear h166
    refine tv1 hS140 h168 13 rfl rfl (v:=(.bool false)) (fun w1 hSw=>by cases hSw;exact AA h168 rfl rfl _) fun a170 h169=>?_
    refine wpAnyH_done κ ?_ _
    have h171:=h169.sb [3,2,7,4,1] rfl
    clear h169
    go_step
    go_step
    go_step
    refine bodyPost_ret (Br rfl (h171.known (2,.slice ba m5.b.length bc) (by simp)) (h171.known (3,.bool false) (by simp))) h171.defs ?_
    exact ⟨ba,bc,by rw [hno];rfl,hoW.out.drew.low B1.out.size,B1.out.trans (B5x.out.mono B1.out.size)⟩
end
section
theorem Vg (P:PkM) (hP:Be P) (hS:Kq P) (a:Option Addr) (c:Nat) (w:World) (ha:Row w 1 a P.N.length c (P.N.map AS)) (hk:P.I 0=3) :
    Calls Tryz.prog 60 #[.agg (pkC P a P.N.length c).toArray] w fun e w'=>∃ ba bc,e=.returned (.tuple #[.slice ba ((Ah++Al 3).foldl (stepW P) ⟨[],false⟩).b.length bc,.bool (!((Ah++Al 3).foldl (stepW P) ⟨[],false⟩).no&&BS P (Au P P0z (Ah++Al 3)))])∧Ek w' w.heap.size ba bc ((Ah++Al 3).foldl (stepW P) ⟨[],false⟩).b∧Below w.heap.size w w':=by
  have HO:=hid (fun (W:World) (hW:Below w.heap.size w W)=>Ub P a c W (ha.mono hW) hk)
  obtain ⟨rb,hrb⟩:∃ rb,rb=BS P (Au P P0z (Ah++Al 3)):=⟨_,rfl⟩
  rw [← hrb] at HO ⊢
  clear hrb
  have e1:(P.I 0 == 1)=false:=by rw [hk];rfl
  have e2:(P.I 0 == 2)=false:=by rw [hk];rfl
  have e3:(P.I 0 == 3)=true:=by rw [hk];rfl
  have e4:(P.I 0 == 4)=false:=by rw [hk];rfl
  have e5:(P.I 0 == 5)=false:=by rw [hk];rfl
  obtain ⟨m0,hm0⟩:∃ m0,m0=(⟨[],false⟩:WM):=⟨_,rfl⟩
  have l0:m0.b.length≤0:=by rw [hm0];simp
  obtain ⟨m1,hm1⟩:∃ m1,m1=wnum m0 (P.I 0) 1 1 5:=⟨_,rfl⟩
  have l1:m1.b.length≤8:=by rw [hm1];have:=Ao m0 (P.I 0) 1 1 5 (by decide);omega
  obtain ⟨m2,hm2⟩:∃ m2,m2=wnum m1 (P.I 1) 1 1 8:=⟨_,rfl⟩
  have l2:m2.b.length≤16:=by rw [hm2];have:=Ao m1 (P.I 1) 1 1 8 (by decide);omega
  obtain ⟨m3,hm3⟩:∃ m3,m3=wnum m2 (P.I 2) 4 0 9223372036854775807:=⟨_,rfl⟩
  have l3:m3.b.length≤24:=by rw [hm3];have:=Ao m2 (P.I 2) 4 0 9223372036854775807 (by decide);omega
  obtain ⟨m4,hm4⟩:∃ m4,m4=wnum m3 (P.I 3) 8 0 9223372036854775807:=⟨_,rfl⟩
  have l4:m4.b.length≤32:=by rw [hm4];have:=Ao m3 (P.I 3) 8 0 9223372036854775807 (by decide);omega
  obtain ⟨m5,hm5⟩:∃ m5,m5=wnum m4 (P.I 4) 1 0 9223372036854775807:=⟨_,rfl⟩
  have l5:m5.b.length≤40:=by rw [hm5];have:=Ao m4 (P.I 4) 1 0 9223372036854775807 (by decide);omega
  obtain ⟨m6,hm6⟩:∃ m6,m6=wnum m5 (P.I 18) 1 0 9223372036854775807:=⟨_,rfl⟩
  have l6:m6.b.length≤48:=by rw [hm6];have:=Ao m5 (P.I 18) 1 0 9223372036854775807 (by decide);omega
  obtain ⟨m7,hm7⟩:∃ m7,m7=wtext m6 (P.S 11) 1 100:=⟨_,rfl⟩
  have l7:m7.b.length≤1100056:=by rw [hm7];have:=GA m6 (P.S 11) 1 100 (by decide) (hS 11 (by decide));omega
  obtain ⟨m8,hm8⟩:∃ m8,m8=wtext m7 (P.S 12) 1 100:=⟨_,rfl⟩
  have l8:m8.b.length≤2200064:=by rw [hm8];have:=GA m7 (P.S 12) 1 100 (by decide) (hS 12 (by decide));omega
  obtain ⟨m9,hm9⟩:∃ m9,m9=wnum m8 (P.I 13) 1 0 9223372036854775807:=⟨_,rfl⟩
  have l9:m9.b.length≤2200072:=by rw [hm9];have:=Ao m8 (P.I 13) 1 0 9223372036854775807 (by decide);omega
  obtain ⟨m10,hm10⟩:∃ m10,m10=wnum m9 (P.I 16) 4 0 9223372036854775807:=⟨_,rfl⟩
  have l10:m10.b.length≤2200080:=by rw [hm10];have:=Ao m9 (P.I 16) 4 0 9223372036854775807 (by decide);omega
  rw [show ((Ah++Al 3).foldl (stepW P) ⟨[],false⟩)=m10 by rw [hm10,hm9,hm8,hm7,hm6,hm5,hm4,hm3,hm2,hm1,hm0];rfl]
  have HM0:=hid hm0
  have HM1:=hid hm1
  have HM2:=hid hm2
  have HM3:=hid hm3
  have HM4:=hid hm4
  have HM5:=hid hm5
  have HM6:=hid hm6
  have HM7:=hid hm7
  have HM8:=hid hm8
  have HM9:=hid hm9
  have HM10:=hid hm10
  clear hk ha hm0 hm1 hm2 hm3 hm4 hm5 hm6 hm7 hm8 hm9 hm10
  go_enter Tryz.func60,Tryz.ntmps60
  go_step
  go_step
  go_step
  refine Bg rfl 39 _ rfl (pkC P a P.N.length c) rfl ?_
  intro w1 k1 b1 s1
  have KP1:=hid k1;have B1:=hid b1;have hgB:w.heap.size<w1.heap.size:=ω
  clear k1 b1 s1
  refine Cb (N:=209) (l:=[(1,π w.heap.size)]) ⟨rfl,(by intro x hx;simp only [List.mem_cons,List.not_mem_nil,or_false] at hx;rcases hx with rfl<;>rfl),rfl⟩ fun a2 h1=>?_
  refine sw1 h1 rfl (v:=(.slice none 0 0)) rfl fun a4 h3=>?_
  refine sw1 h3 rfl (v:=(.bool false)) rfl fun a6 h5=>?_
  go_step
  go_step
  go_step
  go_step
  go_step
  refine sw1 h5 rfl (v:=(.agg #[.slice none 0 0,.bool false])) (by unfold execOp;simp only [List.map_toArray,List.map_nil];exact Af (JS _)) fun a8 h7=>?_
  refine Is h7 rfl rfl (by decide) (fr rfl) 136 rfl [.slice none 0 0,.bool false] (h7.eval (k:=8) (v:=.agg #[.slice none 0 0,.bool false]) (by simp)) fun a10 w2 h9 k2 b2 s2=>?_
  have HW0:Hid (WIn w2 w1.heap.size w1.heap.size m0):=hid (by rw [HM0.out];exact ⟨none,0,k2,Own.nil _ _ _ _⟩)
  have HB0:=hid b2
  clear k2 b2 s2
  refine mv h9 rfl fun a12 h11=>?_
  have h13:=h11.sb [4,3,2,1] rfl
  clear h11
  go_step
  go_step
  go_step
  go_step
  go_step
  refine mv h13 rfl fun a15 h14=>?_
  refine fav h14 rfl (fun _=>Aw (w.heap.size) _) fun a17 h16=>?_
  refine sw1 h16 rfl (v:=(ν (P.I 0))) (rld h16 rfl rfl (Ae ((Blk.below KP1.out HB0.out hgB).cell (i:=0) (by show 0<43;omega)))) fun a19 h18=>?_
  refine Ak h18 (wn rfl) rfl (by decide) (fr rfl) (fun args=>AB args _) rfl #[π w1.heap.size,ν (P.I 0),ν 1,ν 1,ν 5] (by simp only [List.map_toArray,List.map_cons,List.map_nil,h18.eval (k:=10) (v:=π w1.heap.size) (by simp),h18.eval (k:=12) (v:=ν (P.I 0)) (by simp)];rfl) (R:=fun v w'=>v=.tuple #[]∧WIn w' w1.heap.size w1.heap.size m1∧Below w1.heap.size w1 w') (Calls.mono (As HW0.out (Nat.le_refl _) ω (P.I 0) 1 5 1 (hP 0)) (fun e w' q=>⟨_,q.1,rfl,(by rw [HM1.out];exact q.2.1),HB0.out.trans q.2.2⟩)) fun a21 v0 w3 r0 h20=>?_
  obtain ⟨rfl,q1,q2⟩:=r0
  have HW1:=hid q1;have HB1:=hid q2
  clear q1 q2 HW0 HB0
  have h22:=h20.sb [4,3,2,1] rfl
  clear h20
  go_step
  go_step
  go_step
  go_step
  go_step
  refine mv h22 rfl fun a24 h23=>?_
  refine fav h23 rfl (fun _=>EV (w.heap.size) _) fun a26 h25=>?_
  refine sw1 h25 rfl (v:=(ν (P.I 1))) (rld h25 rfl rfl (Ae ((Blk.below KP1.out HB1.out hgB).cell (i:=1) (by show 1<43;omega)))) fun a28 h27=>?_
  refine Ak h27 (wn rfl) rfl (by decide) (fr rfl) (fun args=>AB args _) rfl #[π w1.heap.size,ν (P.I 1),ν 1,ν 1,ν 8] (by simp only [List.map_toArray,List.map_cons,List.map_nil,h27.eval (k:=14) (v:=π w1.heap.size) (by simp),h27.eval (k:=16) (v:=ν (P.I 1)) (by simp)];rfl) (R:=fun v w'=>v=.tuple #[]∧WIn w' w1.heap.size w1.heap.size m2∧Below w1.heap.size w1 w') (Calls.mono (As HW1.out (Nat.le_refl _) ω (P.I 1) 1 8 1 (hP 1)) (fun e w' q=>⟨_,q.1,rfl,(by rw [HM2.out];exact q.2.1),HB1.out.trans q.2.2⟩)) fun a30 v1 w4 r1 h29=>?_
  obtain ⟨rfl,q1,q2⟩:=r1
  have HW2:=hid q1;have HB2:=hid q2
  clear q1 q2 HW1 HB1
  have h31:=h29.sb [4,3,2,1] rfl
  clear h29
  go_step
  go_step
  go_step
  go_step
  go_step
  refine mv h31 rfl fun a33 h32=>?_
  refine fav h32 rfl (fun _=>EW (w.heap.size) _) fun a35 h34=>?_
  refine sw1 h34 rfl (v:=(ν (P.I 2))) (rld h34 rfl rfl (Ae ((Blk.below KP1.out HB2.out hgB).cell (i:=2) (by show 2<43;omega)))) fun a37 h36=>?_
  refine Ak h36 (wn rfl) rfl (by decide) (fr rfl) (fun args=>AB args _) rfl #[π w1.heap.size,ν (P.I 2),ν 4,ν 0,ν 9223372036854775807] (by simp only [List.map_toArray,List.map_cons,List.map_nil,h36.eval (k:=18) (v:=π w1.heap.size) (by simp),h36.eval (k:=20) (v:=ν (P.I 2)) (by simp)];rfl) (R:=fun v w'=>v=.tuple #[]∧WIn w' w1.heap.size w1.heap.size m3∧Below w1.heap.size w1 w') (Calls.mono (As HW2.out (Nat.le_refl _) ω (P.I 2) 0 9223372036854775807 4 (hP 2)) (fun e w' q=>⟨_,q.1,rfl,(by rw [HM3.out];exact q.2.1),HB2.out.trans q.2.2⟩)) fun a39 v2 w5 r2 h38=>?_
  obtain ⟨rfl,q1,q2⟩:=r2
  have HW3:=hid q1;have HB3:=hid q2
  clear q1 q2 HW2 HB2
  have h40:=h38.sb [4,3,2,1] rfl
  clear h38
  go_step
  go_step
  go_step
  go_step
  go_step
  refine mv h40 rfl fun a42 h41=>?_
  refine fav h41 rfl (fun _=>EX (w.heap.size) _) fun a44 h43=>?_
  refine sw1 h43 rfl (v:=(ν (P.I 3))) (rld h43 rfl rfl (Ae ((Blk.below KP1.out HB3.out hgB).cell (i:=3) (by show 3<43;omega)))) fun a46 h45=>?_
  refine Ak h45 (wn rfl) rfl (by decide) (fr rfl) (fun args=>AB args _) rfl #[π w1.heap.size,ν (P.I 3),ν 8,ν 0,ν 9223372036854775807] (by simp only [List.map_toArray,List.map_cons,List.map_nil,h45.eval (k:=22) (v:=π w1.heap.size) (by simp),h45.eval (k:=24) (v:=ν (P.I 3)) (by simp)];rfl) (R:=fun v w'=>v=.tuple #[]∧WIn w' w1.heap.size w1.heap.size m4∧Below w1.heap.size w1 w') (Calls.mono (As HW3.out (Nat.le_refl _) ω (P.I 3) 0 9223372036854775807 8 (hP 3)) (fun e w' q=>⟨_,q.1,rfl,(by rw [HM4.out];exact q.2.1),HB3.out.trans q.2.2⟩)) fun a48 v3 w6 r3 h47=>?_
  obtain ⟨rfl,q1,q2⟩:=r3
  have HW4:=hid q1;have HB4:=hid q2
  clear q1 q2 HW3 HB3
  have h49:=h47.sb [4,3,2,1] rfl
  clear h47
  go_step
  go_step
  go_step
  go_step
  go_step
  go_step
  refine fav h49 rfl (fun _=>Aw (w.heap.size) _) fun a51 h50=>?_
  refine sw1 h50 rfl (v:=(ν (P.I 0))) (rld h50 rfl rfl (Ae ((Blk.below KP1.out HB4.out hgB).cell (i:=0) (by show 0<43;omega)))) fun a53 h52=>?_
  refine sw1 h52 rfl (v:=(.bool false)) (by unfold execOp;simp only [h52.ev 27 rfl];exact Af (Du _ _ _ _ _ e1)) fun a55 h54=>?_
  refine mv h54 rfl fun a57 h56=>?_
  refine Ar h56 (by rw [AC (g:=3) (want:=false) (b:=false) rfl (h56.yields (prev:=29) rfl (by simp))];rfl) rfl (by decide) (fr rfl) (π w.heap.size) (by unfold execOp;simp only [h56.eval (k:=1) (v:=π w.heap.size) (by simp)];exact Af (Aw (w.heap.size) _)) fun a59 h58=>?_
  refine Ar h58 (by rw [AC (g:=3) (want:=false) (b:=false) rfl (h58.yields (prev:=29) rfl (by simp))];rfl) rfl (by decide) (fr rfl) (ν (P.I 0)) (by unfold execOp;simp only [h58.eval (k:=30) (v:=π w.heap.size) (by simp)];exact Af (Ae ((Blk.below KP1.out HB4.out hgB).cell (i:=0) (by show 0<43;omega)))) fun a61 h60=>?_
  refine Ar h60 (by rw [AC (g:=3) (want:=false) (b:=false) rfl (h60.yields (prev:=29) rfl (by simp))];rfl) rfl (by decide) (fr rfl) (.bool false) (by unfold execOp;simp only [h60.eval (k:=31) (v:=ν (P.I 0)) (by simp)];exact Af (Du _ _ _ _ _ e2)) fun a63 h62=>?_
  refine sw1 h62 rfl (v:=(.bool false)) (Bk rfl (h62.eval (k:=29) (v:=.bool false) (by simp)) (by rw [if_neg (by simp)];exact h62.eval (k:=32) (v:=.bool false) (by simp))) fun a65 h64=>?_
  have h66:=h64.sb [33,4,3,2,1] rfl
  clear h64
  go_step
  go_step
  go_step
  refine wp_cond (t:=false) (h66.eval (k:=33) (v:=.bool false) (by simp)) ?_
  simp only [Bool.false_eq_true,if_false]
  have h67:=h66.sb [4,3,2,1] rfl
  clear h66
  go_step
  go_step
  go_step
  go_step
  go_step
  go_step
  refine fav h67 rfl (fun _=>Aw (w.heap.size) _) fun a69 h68=>?_
  refine sw1 h68 rfl (v:=(ν (P.I 0))) (rld h68 rfl rfl (Ae ((Blk.below KP1.out HB4.out hgB).cell (i:=0) (by show 0<43;omega)))) fun a71 h70=>?_
  refine sw1 h70 rfl (v:=(.bool true)) (by unfold execOp;simp only [h70.ev 69 rfl];exact Af (Du _ _ _ _ _ e3)) fun a73 h72=>?_
  have h74:=h72.sb [70,4,3,2,1] rfl
  clear h72
  go_step
  go_step
  go_step
  refine wp_cond (t:=true) (h74.eval (k:=70) (v:=.bool true) (by simp)) ?_
  simp only [if_true]
  have h75:=h74.sb [4,3,2,1] rfl
  clear h74
  go_step
  go_step
  refine mv h75 rfl fun a77 h76=>?_
  refine fav h76 rfl (fun _=>Ik (w.heap.size) _) fun a79 h78=>?_
  refine sw1 h78 rfl (v:=(ν (P.I 4))) (rld h78 rfl rfl (Ae ((Blk.below KP1.out HB4.out hgB).cell (i:=4) (by show 4<43;omega)))) fun a81 h80=>?_
  refine Ak h80 (wn rfl) rfl (by decide) (fr rfl) (fun args=>AB args _) rfl #[π w1.heap.size,ν (P.I 4),ν 1,ν 0,ν 9223372036854775807] (by simp only [List.map_toArray,List.map_cons,List.map_nil,h80.eval (k:=71) (v:=π w1.heap.size) (by simp),h80.eval (k:=73) (v:=ν (P.I 4)) (by simp)];rfl) (R:=fun v w'=>v=.tuple #[]∧WIn w' w1.heap.size w1.heap.size m5∧Below w1.heap.size w1 w') (Calls.mono (As HW4.out (Nat.le_refl _) ω (P.I 4) 0 9223372036854775807 1 (hP 4)) (fun e w' q=>⟨_,q.1,rfl,(by rw [HM5.out];exact q.2.1),HB4.out.trans q.2.2⟩)) fun a83 v4 w7 r4 h82=>?_
  obtain ⟨rfl,q1,q2⟩:=r4
  have HW5:=hid q1;have HB5:=hid q2
  clear q1 q2 HW4 HB4
  have h84:=h82.sb [4,3,2,1] rfl
  clear h82
  go_step
  go_step
  go_step
  go_step
  go_step
  refine mv h84 rfl fun a86 h85=>?_
  refine fav h85 rfl (fun _=>IJ (w.heap.size) _) fun a88 h87=>?_
  refine sw1 h87 rfl (v:=(ν (P.I 18))) (rld h87 rfl rfl (Ae ((Blk.below KP1.out HB5.out hgB).cell (i:=18) (by show 18<43;omega)))) fun a90 h89=>?_
  refine Ak h89 (wn rfl) rfl (by decide) (fr rfl) (fun args=>AB args _) rfl #[π w1.heap.size,ν (P.I 18),ν 1,ν 0,ν 9223372036854775807] (by simp only [List.map_toArray,List.map_cons,List.map_nil,h89.eval (k:=75) (v:=π w1.heap.size) (by simp),h89.eval (k:=77) (v:=ν (P.I 18)) (by simp)];rfl) (R:=fun v w'=>v=.tuple #[]∧WIn w' w1.heap.size w1.heap.size m6∧Below w1.heap.size w1 w') (Calls.mono (As HW5.out (Nat.le_refl _) ω (P.I 18) 0 9223372036854775807 1 (hP 18)) (fun e w' q=>⟨_,q.1,rfl,(by rw [HM6.out];exact q.2.1),HB5.out.trans q.2.2⟩)) fun a92 v5 w8 r5 h91=>?_
  obtain ⟨rfl,q1,q2⟩:=r5
  have HW6:=hid q1;have HB6:=hid q2
  clear q1 q2 HW5 HB5
  have h93:=h91.sb [4,3,2,1] rfl
  clear h91
  go_step
  go_step
  go_step
  go_step
  go_step
  refine mv h93 rfl fun a95 h94=>?_
  refine fav h94 rfl (fun _=>GU (w.heap.size) _) fun a97 h96=>?_
  refine fav h96 rfl (fun _=>PP (w.heap.size) _) fun a99 h98=>?_
  refine sw1 h98 rfl (v:=(.string (bsW (P.S 11)))) (rld h98 rfl rfl (Fl ((Blk.below KP1.out HB6.out hgB).cell (i:=11) (by show 11<43;omega)))) fun a101 h100=>?_
  refine Ak h100 (wn rfl) rfl (by decide) (fr rfl) (fun args=>Jl args _) rfl #[π w1.heap.size,.string (bsW (P.S 11)),ν 1,ν 100] (by simp only [List.map_toArray,List.map_cons,List.map_nil,h100.eval (k:=79) (v:=π w1.heap.size) (by simp),h100.eval (k:=82) (v:=.string (bsW (P.S 11))) (by simp)];rfl) (R:=fun v w'=>v=.tuple #[]∧WIn w' w1.heap.size w1.heap.size m7∧Below w1.heap.size w1 w') (Calls.mono (Gz HW6.out (Nat.le_refl _) ω (P.S 11) (by have:=hS 11 (by decide);omega) 1 100 (by decide)) (fun e w' q=>⟨_,q.1,rfl,(by rw [HM7.out];exact q.2.1),HB6.out.trans q.2.2⟩)) fun a103 v6 w9 r6 h102=>?_
  obtain ⟨rfl,q1,q2⟩:=r6
  have HW7:=hid q1;have HB7:=hid q2
  clear q1 q2 HW6 HB6
  have h104:=h102.sb [4,3,2,1] rfl
  clear h102
  go_step
  go_step
  go_step
  go_step
  go_step
  refine mv h104 rfl fun a106 h105=>?_
  refine fav h105 rfl (fun _=>GU (w.heap.size) _) fun a108 h107=>?_
  refine fav h107 rfl (fun _=>PQ (w.heap.size) _) fun a110 h109=>?_
  refine sw1 h109 rfl (v:=(.string (bsW (P.S 12)))) (rld h109 rfl rfl (Fl ((Blk.below KP1.out HB7.out hgB).cell (i:=12) (by show 12<43;omega)))) fun a112 h111=>?_
  refine Ak h111 (wn rfl) rfl (by decide) (fr rfl) (fun args=>Jl args _) rfl #[π w1.heap.size,.string (bsW (P.S 12)),ν 1,ν 100] (by simp only [List.map_toArray,List.map_cons,List.map_nil,h111.eval (k:=84) (v:=π w1.heap.size) (by simp),h111.eval (k:=87) (v:=.string (bsW (P.S 12))) (by simp)];rfl) (R:=fun v w'=>v=.tuple #[]∧WIn w' w1.heap.size w1.heap.size m8∧Below w1.heap.size w1 w') (Calls.mono (Gz HW7.out (Nat.le_refl _) ω (P.S 12) (by have:=hS 12 (by decide);omega) 1 100 (by decide)) (fun e w' q=>⟨_,q.1,rfl,(by rw [HM8.out];exact q.2.1),HB7.out.trans q.2.2⟩)) fun a114 v7 w10 r7 h113=>?_
  obtain ⟨rfl,q1,q2⟩:=r7
  have HW8:=hid q1;have HB8:=hid q2
  clear q1 q2 HW7 HB7
  have h115:=h113.sb [4,3,2,1] rfl
  clear h113
  go_step
  go_step
  go_step
  go_step
  go_step
  refine mv h115 rfl fun a117 h116=>?_
  refine fav h116 rfl (fun _=>GU (w.heap.size) _) fun a119 h118=>?_
  refine fav h118 rfl (fun _=>PR (w.heap.size) _) fun a121 h120=>?_
  refine sw1 h120 rfl (v:=(ν (P.I 13))) (rld h120 rfl rfl (Ae ((Blk.below KP1.out HB8.out hgB).cell (i:=13) (by show 13<43;omega)))) fun a123 h122=>?_
  refine Ak h122 (wn rfl) rfl (by decide) (fr rfl) (fun args=>AB args _) rfl #[π w1.heap.size,ν (P.I 13),ν 1,ν 0,ν 9223372036854775807] (by simp only [List.map_toArray,List.map_cons,List.map_nil,h122.eval (k:=89) (v:=π w1.heap.size) (by simp),h122.eval (k:=92) (v:=ν (P.I 13)) (by simp)];rfl) (R:=fun v w'=>v=.tuple #[]∧WIn w' w1.heap.size w1.heap.size m9∧Below w1.heap.size w1 w') (Calls.mono (As HW8.out (Nat.le_refl _) ω (P.I 13) 0 9223372036854775807 1 (hP 13)) (fun e w' q=>⟨_,q.1,rfl,(by rw [HM9.out];exact q.2.1),HB8.out.trans q.2.2⟩)) fun a125 v8 w11 r8 h124=>?_
  obtain ⟨rfl,q1,q2⟩:=r8
  have HW9:=hid q1;have HB9:=hid q2
  clear q1 q2 HW8 HB8
  have h126:=h124.sb [4,3,2,1] rfl
  clear h124
  go_step
  go_step
  go_step
  go_step
  refine mv h126 rfl fun a128 h127=>?_
  refine fav h127 rfl (fun _=>GU (w.heap.size) _) fun a130 h129=>?_
  refine fav h129 rfl (fun _=>PS (w.heap.size) _) fun a132 h131=>?_
  refine sw1 h131 rfl (v:=(ν (P.I 16))) (rld h131 rfl rfl (Ae ((Blk.below KP1.out HB9.out hgB).cell (i:=16) (by show 16<43;omega)))) fun a134 h133=>?_
  refine Ak h133 (wn rfl) rfl (by decide) (fr rfl) (fun args=>AB args _) rfl #[π w1.heap.size,ν (P.I 16),ν 4,ν 0,ν 9223372036854775807] (by simp only [List.map_toArray,List.map_cons,List.map_nil,h133.eval (k:=94) (v:=π w1.heap.size) (by simp),h133.eval (k:=97) (v:=ν (P.I 16)) (by simp)];rfl) (R:=fun v w'=>v=.tuple #[]∧WIn w' w1.heap.size w1.heap.size m10∧Below w1.heap.size w1 w') (Calls.mono (As HW9.out (Nat.le_refl _) ω (P.I 16) 0 9223372036854775807 4 (hP 16)) (fun e w' q=>⟨_,q.1,rfl,(by rw [HM10.out];exact q.2.1),HB9.out.trans q.2.2⟩)) fun a136 v9 w12 r9 h135=>?_
  obtain ⟨rfl,q1,q2⟩:=r9
  have HW10:=hid q1;have HB10:=hid q2
  clear q1 q2 HW9 HB9
  have h137:=h135.sb [4,3,2,1] rfl
  clear h135
  go_step
  go_step
  go_step
  go_step
  go_step
  go_step
  refine fav h137 rfl (fun _=>Aw (w.heap.size) _) fun a139 h138=>?_
  refine sw1 h138 rfl (v:=(ν (P.I 0))) (rld h138 rfl rfl (Ae ((Blk.below KP1.out HB10.out hgB).cell (i:=0) (by show 0<43;omega)))) fun a141 h140=>?_
  refine sw1 h140 rfl (v:=(.bool false)) (by unfold execOp;simp only [h140.ev 100 rfl];exact Af (Du _ _ _ _ _ e4)) fun a143 h142=>?_
  have h144:=h142.sb [101,4,3,2,1] rfl
  clear h142
  go_step
  go_step
  go_step
  refine wp_cond (t:=false) (h144.eval (k:=101) (v:=.bool false) (by simp)) ?_
  simp only [Bool.false_eq_true,if_false]
  have h145:=h144.sb [4,3,2,1] rfl
  clear h144
  go_step
  go_step
  go_step
  go_step
  go_step
  go_step
  refine fav h145 rfl (fun _=>Aw (w.heap.size) _) fun a147 h146=>?_
  refine sw1 h146 rfl (v:=(ν (P.I 0))) (rld h146 rfl rfl (Ae ((Blk.below KP1.out HB10.out hgB).cell (i:=0) (by show 0<43;omega)))) fun a149 h148=>?_
  refine sw1 h148 rfl (v:=(.bool false)) (by unfold execOp;simp only [h148.ev 189 rfl];exact Af (Du _ _ _ _ _ e5)) fun a151 h150=>?_
  have h152:=h150.sb [190,4,3,2,1] rfl
  clear h150
  go_step
  go_step
  go_step
  refine wp_cond (t:=false) (h152.eval (k:=190) (v:=.bool false) (by simp)) ?_
  simp only [Bool.false_eq_true,if_false]
  have h153:=h152.sb [4,3,2,1] rfl
  clear h152
  go_step
  go_step
  go_step
  go_step
  go_step
  refine sw1 h153 rfl (v:=(.agg (pkC P a P.N.length c).toArray)) (by unfold execOp;simp only [h153.ev 1 rfl];exact Af (run_loadAt_mid _ _ _ _ (pkC P a P.N.length c) _ (Blk.below KP1.out HB10.out hgB).range υ39 rfl (by rw [Bq];rfl))) fun a155 h154=>?_
  refine Ak h154 (wn rfl) rfl (by decide) (fr rfl) (fun args=>Ig args _) rfl #[.agg (pkC P a P.N.length c).toArray] (by simp only [List.map_toArray,List.map_cons,List.map_nil,h154.eval (k:=195) (v:=.agg (pkC P a P.N.length c).toArray) (by simp)]) (R:=fun v w'=>v=.bool rb∧Below w12.heap.size w12 w') (Calls.mono (HO.out w12 ((B1.out.trans (HB10.out.mono B1.out.size)))) (fun e w' q=>⟨_,q.1,rfl,q.2⟩)) fun a157 v10 w13 r10 h156=>?_
  obtain ⟨rfl,q2⟩:=r10
  obtain ⟨ba,bc,hbW,hoW⟩:=HW10.out
  have hbW:=hid (hbW.mono q2);have hoW:=hid (hoW.mono q2);have HB10z:=hid (HB10.out.trans (q2.mono HB10.out.size))
  clear q2 HW10 HB10
  refine mv h156 rfl fun a159 h158=>?_
  have h160:=h158.sb [7,4,3,2,1] rfl
  clear h158
  go_step
  go_step
  go_step
  go_step
  cases hno:m10.no with
  | false=>
    refine wp_region_held_drew (S:=fun w'=>w'=w13.drew) κ rfl (fun hS161=>?_)
    have B10x:=hid HB10z.out.drew
    refine tv1 hS161 h160 0 rfl rfl (v:=(π w1.heap.size)) (fun w1 hSw=>by cases hSw;exact Aj h160 rfl rfl _) fun a163 h162=>?_
    refine tv1 hS161 h162 1 rfl rfl (v:=(π w1.heap.size)) (fun w1 hSw=>by cases hSw;exact Bt h162 rfl rfl _) fun a165 h164=>?_
    refine tv1 hS161 h164 2 rfl rfl (v:=(π w1.heap.size)) (fun w1 hSw=>by cases hSw;exact rfa h164 rfl rfl (fun _=>Cr (w1.heap.size) _) _) fun a167 h166=>?_
    refine tv1 hS161 h166 3 rfl rfl (v:=(.slice ba m10.b.length bc)) (fun w1 hSw=>by cases hSw;exact rld h166 rfl rfl (Hh ((Blk.drew hbW.out).cell (i:=0) (by simp)))) fun a169 h168=>?_
    refine tv1 hS161 h168 4 rfl rfl (v:=(π w1.heap.size)) (fun w1 hSw=>by cases hSw;exact Aj h168 rfl rfl _) fun a171 h170=>?_
    refine tv1 hS161 h170 5 rfl rfl (v:=(π w1.heap.size)) (fun w1 hSw=>by cases hSw;exact Bt h170 rfl rfl _) fun a173 h172=>?_
    refine tv1 hS161 h172 6 rfl rfl (v:=(.pointer (some ⟨w1.heap.size,1,none⟩))) (fun w1 hSw=>by cases hSw;exact rfa h172 rfl rfl (fun _=>Ct (w1.heap.size) _) _) fun a175 h174=>?_
    refine tv1 hS161 h174 7 rfl rfl (v:=(.bool false)) (fun w1 hSw=>(by cases hSw;exact (by show (execOp _ (⟨_,.load 4 (.tmp 203),_,_,_,_⟩:Oper)).run _ _=_;exact (by unfold execOp;simp only [h174.ev 203 rfl];exact Af (EL (by rw [(Blk.drew hbW.out).cell (i:=1) (by simp)];simp [hno])))))) fun a177 h176=>?_
    refine tv1 hS161 h176 8 rfl rfl (v:=(.bool true)) (fun w1 hSw=>(by cases hSw;exact (by show (execOp _ (⟨_,.unOp .not 4 (.tmp 204),_,_,_,_⟩:Oper)).run _ _=_;exact (Do rfl (h176.eval (k:=204) (v:=.bool false) (by simp)))))) fun a179 h178=>?_
    refine tv1 hS161 h178 9 rfl rfl (v:=(.bool true)) (fun w1 hSw=>by cases hSw;exact Aj h178 rfl rfl _) fun a181 h180=>?_
    refine Cv hS161 h180 10 rfl rfl (by decide) (fr rfl) κ κ κ (fun _ _ _ _ h=>h) (.bool rb) (Or.inl ⟨(by rw [AC (g:=9) (want:=true) (b:=true) rfl (h180.yields (prev:=206) rfl (by simp))];rfl),fun w1 hSw=>(by cases hSw;exact (by show (execOp _ (⟨_,.move (.tmp 7),_,_,_,_⟩:Oper)).run _ _=_;exact (by unfold execOp;simp only [h180.eval (k:=7) (v:=.bool rb) (by simp)];rfl)))⟩) fun a183 h182=>?_
    refine tv1 hS161 h182 11 rfl rfl (v:=(.bool rb)) (fun w1 hSw=>(by cases hSw;exact (by show (execOp _ (⟨_,.pick (.tmp 206) (.tmp 207) (.const (.bool false)),_,_,_,_⟩:Oper)).run _ _=_;exact (Bk rfl (h182.eval (k:=206) (v:=.bool true) (by simp)) (by rw [if_pos rfl];exact h182.eval (k:=207) (v:=.bool rb) (by simp)))))) fun a185 h184=>?_
    have h186:=h184.sb [208,207,206,205,204,203,202,201,200,199,198,197,7,4,3,1] rfl
    clear h184
    refine tv1 hS161 h186 12 rfl rfl (v:=(.slice ba m10.b.length bc)) (fun w1 hSw=>by cases hSw;exact AA h186 rfl rfl _) fun a188 h187=>?_
    have h189:=h187.sb [2,208,207,206,205,204,203,202,201,200,199,198,197,7,4,1] rfl
    clear h187
    refine tv1 hS161 h189 13 rfl rfl (v:=(.bool rb)) (fun w1 hSw=>by cases hSw;exact AA h189 rfl rfl _) fun a191 h190=>?_
    refine wpAnyH_done κ ?_ _
    have h192:=h190.sb [3,2,7,4,1] rfl
    clear h190
    go_step
    go_step
    go_step
    refine bodyPost_ret (Br rfl (h192.known (2,.slice ba m10.b.length bc) (by simp)) (h192.known (3,.bool rb) (by simp))) h192.defs ?_
    exact ⟨ba,bc,by rw [hno];rfl,hoW.out.drew.low B1.out.size,B1.out.trans (B10x.out.mono B1.out.size)⟩
  | true=>
    refine wp_region_held_drew (S:=fun w'=>w'=w13.drew) κ rfl (fun hS193=>?_)
    have B10x:=hid HB10z.out.drew
    refine tv1 hS193 h160 0 rfl rfl (v:=(π w1.heap.size)) (fun w1 hSw=>by cases hSw;exact Aj h160 rfl rfl _) fun a195 h194=>?_
    refine tv1 hS193 h194 1 rfl rfl (v:=(π w1.heap.size)) (fun w1 hSw=>by cases hSw;exact Bt h194 rfl rfl _) fun a197 h196=>?_
    refine tv1 hS193 h196 2 rfl rfl (v:=(π w1.heap.size)) (fun w1 hSw=>by cases hSw;exact rfa h196 rfl rfl (fun _=>Cr (w1.heap.size) _) _) fun a199 h198=>?_
    refine tv1 hS193 h198 3 rfl rfl (v:=(.slice ba m10.b.length bc)) (fun w1 hSw=>by cases hSw;exact rld h198 rfl rfl (Hh ((Blk.drew hbW.out).cell (i:=0) (by simp)))) fun a201 h200=>?_
    refine tv1 hS193 h200 4 rfl rfl (v:=(π w1.heap.size)) (fun w1 hSw=>by cases hSw;exact Aj h200 rfl rfl _) fun a203 h202=>?_
    refine tv1 hS193 h202 5 rfl rfl (v:=(π w1.heap.size)) (fun w1 hSw=>by cases hSw;exact Bt h202 rfl rfl _) fun a205 h204=>?_
    refine tv1 hS193 h204 6 rfl rfl (v:=(.pointer (some ⟨w1.heap.size,1,none⟩))) (fun w1 hSw=>by cases hSw;exact rfa h204 rfl rfl (fun _=>Ct (w1.heap.size) _) _) fun a207 h206=>?_
    refine tv1 hS193 h206 7 rfl rfl (v:=(.bool true)) (fun w1 hSw=>(by cases hSw;exact (by show (execOp _ (⟨_,.load 4 (.tmp 203),_,_,_,_⟩:Oper)).run _ _=_;exact (by unfold execOp;simp only [h206.ev 203 rfl];exact Af (EL (by rw [(Blk.drew hbW.out).cell (i:=1) (by simp)];simp [hno])))))) fun a209 h208=>?_
    refine tv1 hS193 h208 8 rfl rfl (v:=(.bool false)) (fun w1 hSw=>(by cases hSw;exact (by show (execOp _ (⟨_,.unOp .not 4 (.tmp 204),_,_,_,_⟩:Oper)).run _ _=_;exact (Do rfl (h208.eval (k:=204) (v:=.bool true) (by simp)))))) fun a211 h210=>?_
    refine tv1 hS193 h210 9 rfl rfl (v:=(.bool false)) (fun w1 hSw=>by cases hSw;exact Aj h210 rfl rfl _) fun a213 h212=>?_
    refine Cv hS193 h212 10 rfl rfl (by decide) (fr rfl) κ κ κ (fun _ _ _ _ h=>h) undef (Or.inr ⟨(by rw [AC (g:=9) (want:=true) (b:=false) rfl (h212.yields (prev:=206) rfl (by simp))];rfl),rfl⟩) fun a215 h214=>?_
    refine tv1 hS193 h214 11 rfl rfl (v:=(.bool false)) (fun w1 hSw=>(by cases hSw;exact (by show (execOp _ (⟨_,.pick (.tmp 206) (.tmp 207) (.const (.bool false)),_,_,_,_⟩:Oper)).run _ _=_;exact (Bk rfl (h214.eval (k:=206) (v:=.bool false) (by simp)) rfl)))) fun a217 h216=>?_
    have h218:=h216.sb [208,207,206,205,204,203,202,201,200,199,198,197,7,4,3,1] rfl
    clear h216
    refine tv1 hS193 h218 12 rfl rfl (v:=(.slice ba m10.b.length bc)) (fun w1 hSw=>by cases hSw;exact AA h218 rfl rfl _) fun a220 h219=>?_
    have h221:=h219.sb [2,208,207,206,205,204,203,202,201,200,199,198,197,7,4,1] rfl
    clear h219
    refine tv1 hS193 h221 13 rfl rfl (v:=(.bool false)) (fun w1 hSw=>by cases hSw;exact AA h221 rfl rfl _) fun a223 h222=>?_
    refine wpAnyH_done κ ?_ _
    have h224:=h222.sb [3,2,7,4,1] rfl
    clear h222
    go_step
    go_step
    go_step
    refine bodyPost_ret (Br rfl (h224.known (2,.slice ba m10.b.length bc) (by simp)) (h224.known (3,.bool false) (by simp))) h224.defs ?_
    exact ⟨ba,bc,by rw [hno];rfl,hoW.out.drew.low B1.out.size,B1.out.trans (B10x.out.mono B1.out.size)⟩
end
end Go.Proofs.YtjgajoljgepioaaGreat
