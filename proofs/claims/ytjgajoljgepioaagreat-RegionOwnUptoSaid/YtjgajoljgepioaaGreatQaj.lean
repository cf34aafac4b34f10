/- Parts of the proof. -/
import Derived.Test.YtjgajoljgepioaaGreatQai
namespace Go.Proofs.YtjgajoljgepioaaGreat
open Go.RowKit
set_option linter.unusedSimpArgs false
set_option linter.unusedVariables false
set_option linter.unusedSectionVars false
set_option maxRecDepth 100000
set_option maxHeartbeats 8000000
section
theorem Vh (P:PkM) (hP:Be P) (hS:Kq P) (hN:∀ s∈P.N,s.length≤1100000) (hn9:P.N.length≤1100000) (a:Option Addr) (c:Nat) (w:World) (ha:Row w 1 a P.N.length c (P.N.map AS)) (hk:P.I 0=4) :
    Calls Tryz.prog 60 #[.agg (pkC P a P.N.length c).toArray] w fun e w'=>∃ ba bc,e=.returned (.tuple #[.slice ba ((Ah++Al 4).foldl (stepW P) ⟨[],false⟩).b.length bc,.bool (!((Ah++Al 4).foldl (stepW P) ⟨[],false⟩).no&&BS P (Au P P0z (Ah++Al 4)))])∧Ek w' w.heap.size ba bc ((Ah++Al 4).foldl (stepW P) ⟨[],false⟩).b∧Below w.heap.size w w':=by
  have HO:=hid (fun (W:World) (hW:Below w.heap.size w W)=>Uc P a c W (ha.mono hW) hk)
  obtain ⟨rb,hrb⟩:∃ rb,rb=BS P (Au P P0z (Ah++Al 4)):=⟨_,rfl⟩
  rw [← hrb] at HO ⊢
  clear hrb
  have e1:(P.I 0 == 1)=false:=by rw [hk];rfl
  have e2:(P.I 0 == 2)=false:=by rw [hk];rfl
  have e3:(P.I 0 == 3)=false:=by rw [hk];rfl
  have e4:(P.I 0 == 4)=true:=by rw [hk];rfl
  have e5:(P.I 0 == 5)=false:=by rw [hk];rfl
  obtain ⟨m0,hm0⟩:∃ m0,m0=(⟨[],false⟩:WM):=⟨_,rfl⟩
  have l0:m0.b.length≤0:=by rw [hm0];simp
  obtain ⟨m1,hm1⟩:∃ m1,m1=wnum m0 (P.I 0) 1 1 5:=⟨_,rfl⟩
  have l1:m1.b.length≤8:=by rw [hm1];have:=Ao m0 (P.I 0) 1 1 5 (by decide);omega
  obtain ⟨m2,hm2⟩:∃ m2,m2=wnum m1 (P.I 1) 1 1 8:=⟨_,rfl⟩
  have l2:m2.b.length≤16:=by rw [hm2];have:=Ao m1 (P.I 1) 1 1 8 (by decide);omega
  obtain ⟨m3,hm3⟩:∃ m3,m3=wnum m2 (P.I 2) 4 0 9223372036854775807:=⟨_,rfl⟩
  have l3:m3.b.length≤24:=by rw [hm3];have:=Ao m2 (P.I 2) 4 0 9223372036854775807 (by decide);omega
  obtain ⟨m4,hm4⟩:∃ m4,m4=wnum m3 (P.I 3) 8 0 9223372036854775807:=⟨_,rfl⟩
  have l4:m4.b.length≤32:=by rw [hm4];have:=Ao m3 (P.I 3) 8 0 9223372036854775807 (by decide);omega
  obtain ⟨m5,hm5⟩:∃ m5,m5=wnum m4 (P.I 4) 1 0 9223372036854775807:=⟨_,rfl⟩
  have l5:m5.b.length≤40:=by rw [hm5];have:=Ao m4 (P.I 4) 1 0 9223372036854775807 (by decide);omega
  obtain ⟨m6,hm6⟩:∃ m6,m6=wnum m5 (P.I 19) 1 0 9223372036854775807:=⟨_,rfl⟩
  have l6:m6.b.length≤48:=by rw [hm6];have:=Ao m5 (P.I 19) 1 0 9223372036854775807 (by decide);omega
  obtain ⟨m7,hm7⟩:∃ m7,m7=wnum m6 (P.I 18) 1 0 9223372036854775807:=⟨_,rfl⟩
  have l7:m7.b.length≤56:=by rw [hm7];have:=Ao m6 (P.I 18) 1 0 9223372036854775807 (by decide);omega
  obtain ⟨m8,hm8⟩:∃ m8,m8=wnum m7 (P.I 27) 8 0 9223372036854775807:=⟨_,rfl⟩
  have l8:m8.b.length≤64:=by rw [hm8];have:=Ao m7 (P.I 27) 8 0 9223372036854775807 (by decide);omega
  obtain ⟨m9,hm9⟩:∃ m9,m9=wnum m8 (P.I 5) 4 0 9223372036854775807:=⟨_,rfl⟩
  have l9:m9.b.length≤72:=by rw [hm9];have:=Ao m8 (P.I 5) 4 0 9223372036854775807 (by decide);omega
  obtain ⟨m10,hm10⟩:∃ m10,m10=wnum m9 (P.I 24) 1 0 9223372036854775807:=⟨_,rfl⟩
  have l10:m10.b.length≤80:=by rw [hm10];have:=Ao m9 (P.I 24) 1 0 9223372036854775807 (by decide);omega
  obtain ⟨m11,hm11⟩:∃ m11,m11=wnum m10 (P.I 25) 1 0 9223372036854775807:=⟨_,rfl⟩
  have l11:m11.b.length≤88:=by rw [hm11];have:=Ao m10 (P.I 25) 1 0 9223372036854775807 (by decide);omega
  obtain ⟨m12,hm12⟩:∃ m12,m12=wnum m11 (P.I 26) 2 0 9223372036854775807:=⟨_,rfl⟩
  have l12:m12.b.length≤96:=by rw [hm12];have:=Ao m11 (P.I 26) 2 0 9223372036854775807 (by decide);omega
  obtain ⟨m13,hm13⟩:∃ m13,m13=wnum m12 (P.I 28) 1 0 9223372036854775807:=⟨_,rfl⟩
  have l13:m13.b.length≤104:=by rw [hm13];have:=Ao m12 (P.I 28) 1 0 9223372036854775807 (by decide);omega
  obtain ⟨m14,hm14⟩:∃ m14,m14=wnum m13 (P.I 29) 1 0 9223372036854775807:=⟨_,rfl⟩
  have l14:m14.b.length≤112:=by rw [hm14];have:=Ao m13 (P.I 29) 1 0 9223372036854775807 (by decide);omega
  obtain ⟨m15,hm15⟩:∃ m15,m15=wnum m14 (P.I 30) 2 0 9223372036854775807:=⟨_,rfl⟩
  have l15:m15.b.length≤120:=by rw [hm15];have:=Ao m14 (P.I 30) 2 0 9223372036854775807 (by decide);omega
  obtain ⟨m16,hm16⟩:∃ m16,m16=wnum m15 (P.I 31) 1 0 9223372036854775807:=⟨_,rfl⟩
  have l16:m16.b.length≤128:=by rw [hm16];have:=Ao m15 (P.I 31) 1 0 9223372036854775807 (by decide);omega
  obtain ⟨m17,hm17⟩:∃ m17,m17=wnum m16 (P.I 32) 1 0 9223372036854775807:=⟨_,rfl⟩
  have l17:m17.b.length≤136:=by rw [hm17];have:=Ao m16 (P.I 32) 1 0 9223372036854775807 (by decide);omega
  obtain ⟨m18,hm18⟩:∃ m18,m18=wnum m17 (P.I 33) 1 0 9223372036854775807:=⟨_,rfl⟩
  have l18:m18.b.length≤144:=by rw [hm18];have:=Ao m17 (P.I 33) 1 0 9223372036854775807 (by decide);omega
  obtain ⟨m19,hm19⟩:∃ m19,m19=wnum m18 (P.I 34) 1 0 9223372036854775807:=⟨_,rfl⟩
  have l19:m19.b.length≤152:=by rw [hm19];have:=Ao m18 (P.I 34) 1 0 9223372036854775807 (by decide);omega
  obtain ⟨mN,hmN⟩:∃ mN,mN=wnum m19 (P.N.length:Int) 1 0 16:=⟨_,rfl⟩
  have lN:mN.b.length≤160:=by rw [hmN];have:=Ao m19 (P.N.length:Int) 1 0 16 (by decide);omega
  obtain ⟨m20,hm20⟩:∃ m20,m20=stepW P m19 .names:=⟨_,rfl⟩
  have HMN:=hid hmN
  clear hmN
  rw [show ((Ah++Al 4).foldl (stepW P) ⟨[],false⟩)=m20 by rw [hm20,hm19,hm18,hm17,hm16,hm15,hm14,hm13,hm12,hm11,hm10,hm9,hm8,hm7,hm6,hm5,hm4,hm3,hm2,hm1,hm0];rfl]
  have HA:=hid ha
  have HM0:=hid hm0
  have HM1:=hid hm1
  have HM2:=hid hm2
  have HM3:=hid hm3
  have HM4:=hid hm4
  have HM5:=hid hm5
  have HM6:=hid hm6
  have HM7:=hid hm7
  have HM8:=hid hm8
  have HM9:=hid hm9
  have HM10:=hid hm10
  have HM11:=hid hm11
  have HM12:=hid hm12
  have HM13:=hid hm13
  have HM14:=hid hm14
  have HM15:=hid hm15
  have HM16:=hid hm16
  have HM17:=hid hm17
  have HM18:=hid hm18
  have HM19:=hid hm19
  have HM20:=hid hm20
  clear hk ha hm0 hm1 hm2 hm3 hm4 hm5 hm6 hm7 hm8 hm9 hm10 hm11 hm12 hm13 hm14 hm15 hm16 hm17 hm18 hm19 hm20
  go_enter Tryz.func60,Tryz.ntmps60
  go_step
  go_step
  go_step
  refine Bg rfl 39 _ rfl (pkC P a P.N.length c) rfl ?_
  intro w1 k1 b1 s1
  have KP1:=hid k1;have B1:=hid b1;have hgB:w.heap.size<w1.heap.size:=ω
  clear k1 b1 s1
  refine Cb (N:=209) (l:=[(1,π w.heap.size)]) ⟨rfl,(by intro x hx;simp only [List.mem_cons,List.not_mem_nil,or_false] at hx;rcases hx with rfl<;>rfl),rfl⟩ fun a2 h1=>?_
  refine sw1 h1 rfl (v:=(.slice none 0 0)) rfl fun a4 h3=>?_
  refine sw1 h3 rfl (v:=(.bool false)) rfl fun a6 h5=>?_
  go_step
  go_step
  go_step
  go_step
  go_step
  refine sw1 h5 rfl (v:=(.agg #[.slice none 0 0,.bool false])) (by unfold execOp;simp only [List.map_toArray,List.map_nil];exact Af (JS _)) fun a8 h7=>?_
  refine Is h7 rfl rfl (by decide) (fr rfl) 136 rfl [.slice none 0 0,.bool false] (h7.eval (k:=8) (v:=.agg #[.slice none 0 0,.bool false]) (by simp)) fun a10 w2 h9 k2 b2 s2=>?_
  have HW0:Hid (WIn w2 w1.heap.size w1.heap.size m0):=hid (by rw [HM0.out];exact ⟨none,0,k2,Own.nil _ _ _ _⟩)
  have HB0:=hid b2
  clear k2 b2 s2
  refine mv h9 rfl fun a12 h11=>?_
  have h13:=h11.sb [4,3,2,1] rfl
  clear h11
  go_step
  go_step
  go_step
  go_step
  go_step
  refine mv h13 rfl fun a15 h14=>?_
  refine fav h14 rfl (fun _=>Aw (w.heap.size) _) fun a17 h16=>?_
  refine sw1 h16 rfl (v:=(ν (P.I 0))) (rld h16 rfl rfl (Ae ((Blk.below KP1.out HB0.out hgB).cell (i:=0) (by show 0<43;omega)))) fun a19 h18=>?_
  refine Ak h18 (wn rfl) rfl (by decide) (fr rfl) (fun args=>AB args _) rfl #[π w1.heap.size,ν (P.I 0),ν 1,ν 1,ν 5] (by simp only [List.map_toArray,List.map_cons,List.map_nil,h18.eval (k:=10) (v:=π w1.heap.size) (by simp),h18.eval (k:=12) (v:=ν (P.I 0)) (by simp)];rfl) (R:=fun v w'=>v=.tuple #[]∧WIn w' w1.heap.size w1.heap.size m1∧Below w1.heap.size w1 w') (Calls.mono (As HW0.out (Nat.le_refl _) ω (P.I 0) 1 5 1 (hP 0)) (fun e w' q=>⟨_,q.1,rfl,(by rw [HM1.out];exact q.2.1),HB0.out.trans q.2.2⟩)) fun a21 v0 w3 r0 h20=>?_
  obtain ⟨rfl,q1,q2⟩:=r0
  have HW1:=hid q1;have HB1:=hid q2
  clear q1 q2 HW0 HB0
  have h22:=h20.sb [4,3,2,1] rfl
  clear h20
  go_step
  go_step
  go_step
  go_step
  go_step
  refine mv h22 rfl fun a24 h23=>?_
  refine fav h23 rfl (fun _=>EV (w.heap.size) _) fun a26 h25=>?_
  refine sw1 h25 rfl (v:=(ν (P.I 1))) (rld h25 rfl rfl (Ae ((Blk.below KP1.out HB1.out hgB).cell (i:=1) (by show 1<43;omega)))) fun a28 h27=>?_
  refine Ak h27 (wn rfl) rfl (by decide) (fr rfl) (fun args=>AB args _) rfl #[π w1.heap.size,ν (P.I 1),ν 1,ν 1,ν 8] (by simp only [List.map_toArray,List.map_cons,List.map_nil,h27.eval (k:=14) (v:=π w1.heap.size) (by simp),h27.eval (k:=16) (v:=ν (P.I 1)) (by simp)];rfl) (R:=fun v w'=>v=.tuple #[]∧WIn w' w1.heap.size w1.heap.size m2∧Below w1.heap.size w1 w') (Calls.mono (As HW1.out (Nat.le_refl _) ω (P.I 1) 1 8 1 (hP 1)) (fun e w' q=>⟨_,q.1,rfl,(by rw [HM2.out];exact q.2.1),HB1.out.trans q.2.2⟩)) fun a30 v1 w4 r1 h29=>?_
  obtain ⟨rfl,q1,q2⟩:=r1
  have HW2:=hid q1;have HB2:=hid q2
  clear q1 q2 HW1 HB1
  have h31:=h29.sb [4,3,2,1] rfl
  clear h29
  go_step
  go_step
  go_step
  go_step
  go_step
  refine mv h31 rfl fun a33 h32=>?_
  refine fav h32 rfl (fun _=>EW (w.heap.size) _) fun a35 h34=>?_
  refine sw1 h34 rfl (v:=(ν (P.I 2))) (rld h34 rfl rfl (Ae ((Blk.below KP1.out HB2.out hgB).cell (i:=2) (by show 2<43;omega)))) fun a37 h36=>?_
  refine Ak h36 (wn rfl) rfl (by decide) (fr rfl) (fun args=>AB args _) rfl #[π w1.heap.size,ν (P.I 2),ν 4,ν 0,ν 9223372036854775807] (by simp only [List.map_toArray,List.map_cons,List.map_nil,h36.eval (k:=18) (v:=π w1.heap.size) (by simp),h36.eval (k:=20) (v:=ν (P.I 2)) (by simp)];rfl) (R:=fun v w'=>v=.tuple #[]∧WIn w' w1.heap.size w1.heap.size m3∧Below w1.heap.size w1 w') (Calls.mono (As HW2.out (Nat.le_refl _) ω (P.I 2) 0 9223372036854775807 4 (hP 2)) (fun e w' q=>⟨_,q.1,rfl,(by rw [HM3.out];exact q.2.1),HB2.out.trans q.2.2⟩)) fun a39 v2 w5 r2 h38=>?_
  obtain ⟨rfl,q1,q2⟩:=r2
  have HW3:=hid q1;have HB3:=hid q2
  clear q1 q2 HW2 HB2
  have h40:=h38.sb [4,3,2,1] rfl
  clear h38
  go_step
  go_step
  go_step
  go_step
  go_step
  refine mv h40 rfl fun a42 h41=>?_
  refine fav h41 rfl (fun _=>EX (w.heap.size) _) fun a44 h43=>?_
  refine sw1 h43 rfl (v:=(ν (P.I 3))) (rld h43 rfl rfl (Ae ((Blk.below KP1.out HB3.out hgB).cell (i:=3) (by show 3<43;omega)))) fun a46 h45=>?_
  refine Ak h45 (wn rfl) rfl (by decide) (fr rfl) (fun args=>AB args _) rfl #[π w1.heap.size,ν (P.I 3),ν 8,ν 0,ν 9223372036854775807] (by simp only [List.map_toArray,List.map_cons,List.map_nil,h45.eval (k:=22) (v:=π w1.heap.size) (by simp),h45.eval (k:=24) (v:=ν (P.I 3)) (by simp)];rfl) (R:=fun v w'=>v=.tuple #[]∧WIn w' w1.heap.size w1.heap.size m4∧Below w1.heap.size w1 w') (Calls.mono (As HW3.out (Nat.le_refl _) ω (P.I 3) 0 9223372036854775807 8 (hP 3)) (fun e w' q=>⟨_,q.1,rfl,(by rw [HM4.out];exact q.2.1),HB3.out.trans q.2.2⟩)) fun a48 v3 w6 r3 h47=>?_
  obtain ⟨rfl,q1,q2⟩:=r3
  have HW4:=hid q1;have HB4:=hid q2
  clear q1 q2 HW3 HB3
  have h49:=h47.sb [4,3,2,1] rfl
  clear h47
  go_step
  go_step
  go_step
  go_step
  go_step
  go_step
  refine fav h49 rfl (fun _=>Aw (w.heap.size) _) fun a51 h50=>?_
  refine sw1 h50 rfl (v:=(ν (P.I 0))) (rld h50 rfl rfl (Ae ((Blk.below KP1.out HB4.out hgB).cell (i:=0) (by show 0<43;omega)))) fun a53 h52=>?_
  refine sw1 h52 rfl (v:=(.bool false)) (by unfold execOp;simp only [h52.ev 27 rfl];exact Af (Du _ _ _ _ _ e1)) fun a55 h54=>?_
  refine mv h54 rfl fun a57 h56=>?_
  refine Ar h56 (by rw [AC (g:=3) (want:=false) (b:=false) rfl (h56.yields (prev:=29) rfl (by simp))];rfl) rfl (by decide) (fr rfl) (π w.heap.size) (by unfold execOp;simp only [h56.eval (k:=1) (v:=π w.heap.size) (by simp)];exact Af (Aw (w.heap.size) _)) fun a59 h58=>?_
  refine Ar h58 (by rw [AC (g:=3) (want:=false) (b:=false) rfl (h58.yields (prev:=29) rfl (by simp))];rfl) rfl (by decide) (fr rfl) (ν (P.I 0)) (by unfold execOp;simp only [h58.eval (k:=30) (v:=π w.heap.size) (by simp)];exact Af (Ae ((Blk.below KP1.out HB4.out hgB).cell (i:=0) (by show 0<43;omega)))) fun a61 h60=>?_
  refine Ar h60 (by rw [AC (g:=3) (want:=false) (b:=false) rfl (h60.yields (prev:=29) rfl (by simp))];rfl) rfl (by decide) (fr rfl) (.bool false) (by unfold execOp;simp only [h60.eval (k:=31) (v:=ν (P.I 0)) (by simp)];exact Af (Du _ _ _ _ _ e2)) fun a63 h62=>?_
  refine sw1 h62 rfl (v:=(.bool false)) (Bk rfl (h62.eval (k:=29) (v:=.bool false) (by simp)) (by rw [if_neg (by simp)];exact h62.eval (k:=32) (v:=.bool false) (by simp))) fun a65 h64=>?_
  have h66:=h64.sb [33,4,3,2,1] rfl
  clear h64
  go_step
  go_step
  go_step
  refine wp_cond (t:=false) (h66.eval (k:=33) (v:=.bool false) (by simp)) ?_
  simp only [Bool.false_eq_true,if_false]
  have h67:=h66.sb [4,3,2,1] rfl
  clear h66
  go_step
  go_step
  go_step
  go_step
  go_step
  go_step
  refine fav h67 rfl (fun _=>Aw (w.heap.size) _) fun a69 h68=>?_
  refine sw1 h68 rfl (v:=(ν (P.I 0))) (rld h68 rfl rfl (Ae ((Blk.below KP1.out HB4.out hgB).cell (i:=0) (by show 0<43;omega)))) fun a71 h70=>?_
  refine sw1 h70 rfl (v:=(.bool false)) (by unfold execOp;simp only [h70.ev 69 rfl];exact Af (Du _ _ _ _ _ e3)) fun a73 h72=>?_
  have h74:=h72.sb [70,4,3,2,1] rfl
  clear h72
  go_step
  go_step
  go_step
  refine wp_cond (t:=false) (h74.eval (k:=70) (v:=.bool false) (by simp)) ?_
  simp only [Bool.false_eq_true,if_false]
  have h75:=h74.sb [4,3,2,1] rfl
  clear h74
  go_step
  go_step
  go_step
  go_step
  go_step
  go_step
  refine fav h75 rfl (fun _=>Aw (w.heap.size) _) fun a77 h76=>?_
  refine sw1 h76 rfl (v:=(ν (P.I 0))) (rld h76 rfl rfl (Ae ((Blk.below KP1.out HB4.out hgB).cell (i:=0) (by show 0<43;omega)))) fun a79 h78=>?_
  refine sw1 h78 rfl (v:=(.bool true)) (by unfold execOp;simp only [h78.ev 100 rfl];exact Af (Du _ _ _ _ _ e4)) fun a81 h80=>?_
  have h82:=h80.sb [101,4,3,2,1] rfl
  clear h80
  go_step
  go_step
  go_step
  refine wp_cond (t:=true) (h82.eval (k:=101) (v:=.bool true) (by simp)) ?_
  simp only [if_true]
  have h83:=h82.sb [4,3,2,1] rfl
  clear h82
  go_step
  go_step
  refine mv h83 rfl fun a85 h84=>?_
  refine fav h84 rfl (fun _=>Ik (w.heap.size) _) fun a87 h86=>?_
  refine sw1 h86 rfl (v:=(ν (P.I 4))) (rld h86 rfl rfl (Ae ((Blk.below KP1.out HB4.out hgB).cell (i:=4) (by show 4<43;omega)))) fun a89 h88=>?_
  refine Ak h88 (wn rfl) rfl (by decide) (fr rfl) (fun args=>AB args _) rfl #[π w1.heap.size,ν (P.I 4),ν 1,ν 0,ν 9223372036854775807] (by simp only [List.map_toArray,List.map_cons,List.map_nil,h88.eval (k:=102) (v:=π w1.heap.size) (by simp),h88.eval (k:=104) (v:=ν (P.I 4)) (by simp)];rfl) (R:=fun v w'=>v=.tuple #[]∧WIn w' w1.heap.size w1.heap.size m5∧Below w1.heap.size w1 w') (Calls.mono (As HW4.out (Nat.le_refl _) ω (P.I 4) 0 9223372036854775807 1 (hP 4)) (fun e w' q=>⟨_,q.1,rfl,(by rw [HM5.out];exact q.2.1),HB4.out.trans q.2.2⟩)) fun a91 v4 w7 r4 h90=>?_
  obtain ⟨rfl,q1,q2⟩:=r4
  have HW5:=hid q1;have HB5:=hid q2
  clear q1 q2 HW4 HB4
  have h92:=h90.sb [4,3,2,1] rfl
  clear h90
  go_step
  go_step
  go_step
  go_step
  go_step
  refine mv h92 rfl fun a94 h93=>?_
  refine fav h93 rfl (fun _=>Lo (w.heap.size) _) fun a96 h95=>?_
  refine sw1 h95 rfl (v:=(ν (P.I 19))) (rld h95 rfl rfl (IE ((Blk.below KP1.out HB5.out hgB).cell (i:=19) (by show 19<43;omega)))) fun a98 h97=>?_
  refine Ak h97 (wn rfl) rfl (by decide) (fr rfl) (fun args=>AB args _) rfl #[π w1.heap.size,ν (P.I 19),ν 1,ν 0,ν 9223372036854775807] (by simp only [List.map_toArray,List.map_cons,List.map_nil,h97.eval (k:=106) (v:=π w1.heap.size) (by simp),h97.eval (k:=108) (v:=ν (P.I 19)) (by simp)];rfl) (R:=fun v w'=>v=.tuple #[]∧WIn w' w1.heap.size w1.heap.size m6∧Below w1.heap.size w1 w') (Calls.mono (As HW5.out (Nat.le_refl _) ω (P.I 19) 0 9223372036854775807 1 (hP 19)) (fun e w' q=>⟨_,q.1,rfl,(by rw [HM6.out];exact q.2.1),HB5.out.trans q.2.2⟩)) fun a100 v5 w8 r5 h99=>?_
  obtain ⟨rfl,q1,q2⟩:=r5
  have HW6:=hid q1;have HB6:=hid q2
  clear q1 q2 HW5 HB5
  have h101:=h99.sb [4,3,2,1] rfl
  clear h99
  go_step
  go_step
  go_step
  go_step
  go_step
  refine mv h101 rfl fun a103 h102=>?_
  refine fav h102 rfl (fun _=>IJ (w.heap.size) _) fun a105 h104=>?_
  refine sw1 h104 rfl (v:=(ν (P.I 18))) (rld h104 rfl rfl (Ae ((Blk.below KP1.out HB6.out hgB).cell (i:=18) (by show 18<43;omega)))) fun a107 h106=>?_
  refine Ak h106 (wn rfl) rfl (by decide) (fr rfl) (fun args=>AB args _) rfl #[π w1.heap.size,ν (P.I 18),ν 1,ν 0,ν 9223372036854775807] (by simp only [List.map_toArray,List.map_cons,List.map_nil,h106.eval (k:=110) (v:=π w1.heap.size) (by simp),h106.eval (k:=112) (v:=ν (P.I 18)) (by simp)];rfl) (R:=fun v w'=>v=.tuple #[]∧WIn w' w1.heap.size w1.heap.size m7∧Below w1.heap.size w1 w') (Calls.mono (As HW6.out (Nat.le_refl _) ω (P.I 18) 0 9223372036854775807 1 (hP 18)) (fun e w' q=>⟨_,q.1,rfl,(by rw [HM7.out];exact q.2.1),HB6.out.trans q.2.2⟩)) fun a109 v6 w9 r6 h108=>?_
  obtain ⟨rfl,q1,q2⟩:=r6
  have HW7:=hid q1;have HB7:=hid q2
  clear q1 q2 HW6 HB6
  have h110:=h108.sb [4,3,2,1] rfl
  clear h108
  go_step
  go_step
  go_step
  go_step
  go_step
  refine mv h110 rfl fun a112 h111=>?_
  refine fav h111 rfl (fun _=>Qa (w.heap.size) _) fun a114 h113=>?_
  refine sw1 h113 rfl (v:=(ν (P.I 27))) (rld h113 rfl rfl (Ae ((Blk.below KP1.out HB7.out hgB).cell (i:=27) (by show 27<43;omega)))) fun a116 h115=>?_
  refine Ak h115 (wn rfl) rfl (by decide) (fr rfl) (fun args=>AB args _) rfl #[π w1.heap.size,ν (P.I 27),ν 8,ν 0,ν 9223372036854775807] (by simp only [List.map_toArray,List.map_cons,List.map_nil,h115.eval (k:=114) (v:=π w1.heap.size) (by simp),h115.eval (k:=116) (v:=ν (P.I 27)) (by simp)];rfl) (R:=fun v w'=>v=.tuple #[]∧WIn w' w1.heap.size w1.heap.size m8∧Below w1.heap.size w1 w') (Calls.mono (As HW7.out (Nat.le_refl _) ω (P.I 27) 0 9223372036854775807 8 (hP 27)) (fun e w' q=>⟨_,q.1,rfl,(by rw [HM8.out];exact q.2.1),HB7.out.trans q.2.2⟩)) fun a118 v7 w10 r7 h117=>?_
  obtain ⟨rfl,q1,q2⟩:=r7
  have HW8:=hid q1;have HB8:=hid q2
  clear q1 q2 HW7 HB7
  have h119:=h117.sb [4,3,2,1] rfl
  clear h117
  go_step
  go_step
  go_step
  go_step
  go_step
  refine mv h119 rfl fun a121 h120=>?_
  refine fav h120 rfl (fun _=>Mu (w.heap.size) _) fun a123 h122=>?_
  refine sw1 h122 rfl (v:=(ν (P.I 5))) (rld h122 rfl rfl (Ae ((Blk.below KP1.out HB8.out hgB).cell (i:=5) (by show 5<43;omega)))) fun a125 h124=>?_
  refine Ak h124 (wn rfl) rfl (by decide) (fr rfl) (fun args=>AB args _) rfl #[π w1.heap.size,ν (P.I 5),ν 4,ν 0,ν 9223372036854775807] (by simp only [List.map_toArray,List.map_cons,List.map_nil,h124.eval (k:=118) (v:=π w1.heap.size) (by simp),h124.eval (k:=120) (v:=ν (P.I 5)) (by simp)];rfl) (R:=fun v w'=>v=.tuple #[]∧WIn w' w1.heap.size w1.heap.size m9∧Below w1.heap.size w1 w') (Calls.mono (As HW8.out (Nat.le_refl _) ω (P.I 5) 0 9223372036854775807 4 (hP 5)) (fun e w' q=>⟨_,q.1,rfl,(by rw [HM9.out];exact q.2.1),HB8.out.trans q.2.2⟩)) fun a127 v8 w11 r8 h126=>?_
  obtain ⟨rfl,q1,q2⟩:=r8
  have HW9:=hid q1;have HB9:=hid q2
  clear q1 q2 HW8 HB8
  have h128:=h126.sb [4,3,2,1] rfl
  clear h126
  go_step
  go_step
  go_step
  go_step
  go_step
  refine mv h128 rfl fun a130 h129=>?_
  refine fav h129 rfl (fun _=>Dz (w.heap.size) _) fun a132 h131=>?_
  refine fav h131 rfl (fun _=>II (w.heap.size) _) fun a134 h133=>?_
  refine fav h133 rfl (fun _=>PT (w.heap.size) _) fun a136 h135=>?_
  refine sw1 h135 rfl (v:=(ν (P.I 24))) (rld h135 rfl rfl (Ae ((Blk.below KP1.out HB9.out hgB).cell (i:=24) (by show 24<43;omega)))) fun a138 h137=>?_
  refine Ak h137 (wn rfl) rfl (by decide) (fr rfl) (fun args=>AB args _) rfl #[π w1.heap.size,ν (P.I 24),ν 1,ν 0,ν 9223372036854775807] (by simp only [List.map_toArray,List.map_cons,List.map_nil,h137.eval (k:=122) (v:=π w1.heap.size) (by simp),h137.eval (k:=126) (v:=ν (P.I 24)) (by simp)];rfl) (R:=fun v w'=>v=.tuple #[]∧WIn w' w1.heap.size w1.heap.size m10∧Below w1.heap.size w1 w') (Calls.mono (As HW9.out (Nat.le_refl _) ω (P.I 24) 0 9223372036854775807 1 (hP 24)) (fun e w' q=>⟨_,q.1,rfl,(by rw [HM10.out];exact q.2.1),HB9.out.trans q.2.2⟩)) fun a140 v9 w12 r9 h139=>?_
  obtain ⟨rfl,q1,q2⟩:=r9
  have HW10:=hid q1;have HB10:=hid q2
  clear q1 q2 HW9 HB9
  have h141:=h139.sb [4,3,2,1] rfl
  clear h139
  go_step
  go_step
  go_step
  go_step
  go_step
  refine mv h141 rfl fun a143 h142=>?_
  refine fav h142 rfl (fun _=>Dz (w.heap.size) _) fun a145 h144=>?_
  refine fav h144 rfl (fun _=>II (w.heap.size) _) fun a147 h146=>?_
  refine fav h146 rfl (fun _=>PU (w.heap.size) _) fun a149 h148=>?_
  refine sw1 h148 rfl (v:=(ν (P.I 25))) (rld h148 rfl rfl (Ae ((Blk.below KP1.out HB10.out hgB).cell (i:=25) (by show 25<43;omega)))) fun a151 h150=>?_
  refine Ak h150 (wn rfl) rfl (by decide) (fr rfl) (fun args=>AB args _) rfl #[π w1.heap.size,ν (P.I 25),ν 1,ν 0,ν 9223372036854775807] (by simp only [List.map_toArray,List.map_cons,List.map_nil,h150.eval (k:=128) (v:=π w1.heap.size) (by simp),h150.eval (k:=132) (v:=ν (P.I 25)) (by simp)];rfl) (R:=fun v w'=>v=.tuple #[]∧WIn w' w1.heap.size w1.heap.size m11∧Below w1.heap.size w1 w') (Calls.mono (As HW10.out (Nat.le_refl _) ω (P.I 25) 0 9223372036854775807 1 (hP 25)) (fun e w' q=>⟨_,q.1,rfl,(by rw [HM11.out];exact q.2.1),HB10.out.trans q.2.2⟩)) fun a153 v10 w13 r10 h152=>?_
  obtain ⟨rfl,q1,q2⟩:=r10
  have HW11:=hid q1;have HB11:=hid q2
  clear q1 q2 HW10 HB10
  have h154:=h152.sb [4,3,2,1] rfl
  clear h152
  go_step
  go_step
  go_step
  go_step
  go_step
  refine mv h154 rfl fun a156 h155=>?_
  refine fav h155 rfl (fun _=>Dz (w.heap.size) _) fun a158 h157=>?_
  refine fav h157 rfl (fun _=>II (w.heap.size) _) fun a160 h159=>?_
  refine fav h159 rfl (fun _=>PV (w.heap.size) _) fun a162 h161=>?_
  refine sw1 h161 rfl (v:=(ν (P.I 26))) (rld h161 rfl rfl (Ae ((Blk.below KP1.out HB11.out hgB).cell (i:=26) (by show 26<43;omega)))) fun a164 h163=>?_
  refine Ak h163 (wn rfl) rfl (by decide) (fr rfl) (fun args=>AB args _) rfl #[π w1.heap.size,ν (P.I 26),ν 2,ν 0,ν 9223372036854775807] (by simp only [List.map_toArray,List.map_cons,List.map_nil,h163.eval (k:=134) (v:=π w1.heap.size) (by simp),h163.eval (k:=138) (v:=ν (P.I 26)) (by simp)];rfl) (R:=fun v w'=>v=.tuple #[]∧WIn w' w1.heap.size w1.heap.size m12∧Below w1.heap.size w1 w') (Calls.mono (As HW11.out (Nat.le_refl _) ω (P.I 26) 0 9223372036854775807 2 (hP 26)) (fun e w' q=>⟨_,q.1,rfl,(by rw [HM12.out];exact q.2.1),HB11.out.trans q.2.2⟩)) fun a166 v11 w14 r11 h165=>?_
  obtain ⟨rfl,q1,q2⟩:=r11
  have HW12:=hid q1;have HB12:=hid q2
  clear q1 q2 HW11 HB11
  have h167:=h165.sb [4,3,2,1] rfl
  clear h165
  go_step
  go_step
  go_step
  go_step
  go_step
  refine mv h167 rfl fun a169 h168=>?_
  refine fav h168 rfl (fun _=>GV (w.heap.size) _) fun a171 h170=>?_
  refine fav h170 rfl (fun _=>PW (w.heap.size) _) fun a173 h172=>?_
  refine sw1 h172 rfl (v:=(ν (P.I 28))) (rld h172 rfl rfl (Ae ((Blk.below KP1.out HB12.out hgB).cell (i:=28) (by show 28<43;omega)))) fun a175 h174=>?_
  refine Ak h174 (wn rfl) rfl (by decide) (fr rfl) (fun args=>AB args _) rfl #[π w1.heap.size,ν (P.I 28),ν 1,ν 0,ν 9223372036854775807] (by simp only [List.map_toArray,List.map_cons,List.map_nil,h174.eval (k:=140) (v:=π w1.heap.size) (by simp),h174.eval (k:=143) (v:=ν (P.I 28)) (by simp)];rfl) (R:=fun v w'=>v=.tuple #[]∧WIn w' w1.heap.size w1.heap.size m13∧Below w1.heap.size w1 w') (Calls.mono (As HW12.out (Nat.le_refl _) ω (P.I 28) 0 9223372036854775807 1 (hP 28)) (fun e w' q=>⟨_,q.1,rfl,(by rw [HM13.out];exact q.2.1),HB12.out.trans q.2.2⟩)) fun a177 v12 w15 r12 h176=>?_
  obtain ⟨rfl,q1,q2⟩:=r12
  have HW13:=hid q1;have HB13:=hid q2
  clear q1 q2 HW12 HB12
  have h178:=h176.sb [4,3,2,1] rfl
  clear h176
  go_step
  go_step
  go_step
  go_step
  go_step
  refine mv h178 rfl fun a180 h179=>?_
  refine fav h179 rfl (fun _=>GV (w.heap.size) _) fun a182 h181=>?_
  refine fav h181 rfl (fun _=>PX (w.heap.size) _) fun a184 h183=>?_
  refine sw1 h183 rfl (v:=(ν (P.I 29))) (rld h183 rfl rfl (Ae ((Blk.below KP1.out HB13.out hgB).cell (i:=29) (by show 29<43;omega)))) fun a186 h185=>?_
  refine Ak h185 (wn rfl) rfl (by decide) (fr rfl) (fun args=>AB args _) rfl #[π w1.heap.size,ν (P.I 29),ν 1,ν 0,ν 9223372036854775807] (by simp only [List.map_toArray,List.map_cons,List.map_nil,h185.eval (k:=145) (v:=π w1.heap.size) (by simp),h185.eval (k:=148) (v:=ν (P.I 29)) (by simp)];rfl) (R:=fun v w'=>v=.tuple #[]∧WIn w' w1.heap.size w1.heap.size m14∧Below w1.heap.size w1 w') (Calls.mono (As HW13.out (Nat.le_refl _) ω (P.I 29) 0 9223372036854775807 1 (hP 29)) (fun e w' q=>⟨_,q.1,rfl,(by rw [HM14.out];exact q.2.1),HB13.out.trans q.2.2⟩)) fun a188 v13 w16 r13 h187=>?_
  obtain ⟨rfl,q1,q2⟩:=r13
  have HW14:=hid q1;have HB14:=hid q2
  clear q1 q2 HW13 HB13
  have h189:=h187.sb [4,3,2,1] rfl
  clear h187
  go_step
  go_step
  go_step
  go_step
  go_step
  refine mv h189 rfl fun a191 h190=>?_
  refine fav h190 rfl (fun _=>GV (w.heap.size) _) fun a193 h192=>?_
  refine fav h192 rfl (fun _=>PY (w.heap.size) _) fun a195 h194=>?_
  refine sw1 h194 rfl (v:=(ν (P.I 30))) (rld h194 rfl rfl (Ae ((Blk.below KP1.out HB14.out hgB).cell (i:=30) (by show 30<43;omega)))) fun a197 h196=>?_
  refine Ak h196 (wn rfl) rfl (by decide) (fr rfl) (fun args=>AB args _) rfl #[π w1.heap.size,ν (P.I 30),ν 2,ν 0,ν 9223372036854775807] (by simp only [List.map_toArray,List.map_cons,List.map_nil,h196.eval (k:=150) (v:=π w1.heap.size) (by simp),h196.eval (k:=153) (v:=ν (P.I 30)) (by simp)];rfl) (R:=fun v w'=>v=.tuple #[]∧WIn w' w1.heap.size w1.heap.size m15∧Below w1.heap.size w1 w') (Calls.mono (As HW14.out (Nat.le_refl _) ω (P.I 30) 0 9223372036854775807 2 (hP 30)) (fun e w' q=>⟨_,q.1,rfl,(by rw [HM15.out];exact q.2.1),HB14.out.trans q.2.2⟩)) fun a199 v14 w17 r14 h198=>?_
  obtain ⟨rfl,q1,q2⟩:=r14
  have HW15:=hid q1;have HB15:=hid q2
  clear q1 q2 HW14 HB14
  have h200:=h198.sb [4,3,2,1] rfl
  clear h198
  go_step
  go_step
  go_step
  go_step
  go_step
  go_step
  refine sw1 h200 rfl (v:=(ν 0)) rfl fun a202 h201=>?_
  go_step
  go_step
  go_step
  go_step
  refine wp_loop (I:=fun a' w'=>∃ (j:Nat) (m:WM),j≤4∧Kn 209 [(5,ν (j:Int)),(4,π w1.heap.size),(3,.bool false),(2,.slice none 0 0),(1,π w.heap.size)] a'∧m=([31,32,33,34].take j).foldl (fun m o=>wnum m (P.I o) 1 0 9223372036854775807) m15∧m.b.length≤m15.b.length+8*j∧WIn w' w1.heap.size w1.heap.size m∧Below w1.heap.size w1 w') (μ:=fun a' _=>4-(intOf (a'.eval (.tmp 5))).toNat) ⟨0,m15,ω,h201,rfl,ω,HW15.out,HB15.out⟩ ?_
  clear HW15 HB15 h201
  rintro aL wL ⟨j,mj,hj,hK,hmj,hlj,hWj,hBj⟩
  have HWj:=hid hWj;have HBj:=hid hBj;have HMj:=hid hmj
  clear hWj hBj hmj
  by_cases hlt:j<4
  · have hd0:decide ((j:Int)<4)=true:=decide_eq_true ω
    go_step
    go_step
    go_step
    go_step
    refine mv hK rfl fun a204 h203=>?_
    refine sw1 h203 rfl (v:=(.bool true)) (by unfold execOp;simp only [h203.ev 155 rfl];exact Af (Vj _ _ _ _ _ hd0)) fun a206 h205=>?_
    have h207:=h205.sb [156,5,4,3,2,1] rfl
    clear h205
    go_step
    go_step
    go_step
    refine wp_cond (t:=true) (h207.eval (k:=156) (v:=.bool true) (by simp)) ?_
    simp only [if_true]
    have h208:=h207.sb [5,4,3,2,1] rfl
    clear h207
    go_step
    go_step
    go_step
    go_step
    go_step
    go_step
    refine mv h208 rfl fun a210 h209=>?_
    refine mv h209 rfl fun a212 h211=>?_
    refine fav h211 rfl (fun _=>GV (w.heap.size) _) fun a214 h213=>?_
    refine fav h213 rfl (fun _=>PZ (w.heap.size) _) fun a216 h215=>?_
    refine sw1 h215 rfl (v:=(.pointer (some ⟨w.heap.size,31+j,none⟩))) (by unfold execOp;simp only [h215.ev 162 rfl,h215.ev 160 rfl];exact Af (XA (w.heap.size) j hlt _)) fun a218 h217=>?_
    refine sw1 h217 rfl (v:=(ν (P.I (31+j)))) (rld h217 rfl rfl (Ae (Wg (Blk.below KP1.out HBj.out hgB) j hlt))) fun a220 h219=>?_
    refine Ak h219 (wn rfl) rfl (by decide) (fr rfl) (fun args=>AB args _) rfl #[π w1.heap.size,ν (P.I (31+j)),ν 1,ν 0,ν 9223372036854775807] (by simp only [List.map_toArray,List.map_cons,List.map_nil,h219.eval (k:=159) (v:=π w1.heap.size) (by simp),h219.eval (k:=164) (v:=ν (P.I (31+j))) (by simp)];rfl) (R:=fun v w'=>v=.tuple #[]∧WIn w' w1.heap.size w1.heap.size (wnum mj (P.I (31+j)) 1 0 9223372036854775807)∧Below w1.heap.size w1 w') (Calls.mono (As HWj.out (Nat.le_refl _) ω (P.I (31+j)) 0 9223372036854775807 1 (hP (31+j))) (fun e w' q=>⟨_,q.1,rfl,q.2.1,HBj.out.trans q.2.2⟩)) fun a222 vk wk rk h221=>?_
    obtain ⟨rfl,q1,q2⟩:=rk
    have HWk:=hid q1;have HBk:=hid q2
    clear q1 q2
    have h223:=h221.sb [5,4,3,2,1] rfl
    clear h221
    go_step
    go_step
    go_step
    go_step
    refine mv h223 rfl fun a225 h224=>?_
    refine sw1 h224 rfl (v:=(ν ((j+1:Nat):Int))) (by unfold execOp;simp only [h224.ev 157 rfl];exact Af (VJ _ _ j ω _)) fun a227 h226=>?_
    have h228:=h226.sb [158,157,4,3,2,1] rfl
    clear h226
    refine mv h228 rfl fun a230 h229=>?_
    have h231:=h229.sb [5,4,3,2,1] rfl
    clear h229
    go_step
    go_step
    refine ⟨⟨j+1,wnum mj (P.I (31+j)) 1 0 9223372036854775807,ω,h231,?_,?_,HWk.out,HBk.out⟩,?_⟩
    · rw [HMj.out];rcases (ω:j=0∨j=1∨j=2∨j=3) with e | e | e | e<;>subst e<;>rfl
    · have:=Ao mj (P.I (31+j)) 1 0 9223372036854775807 (by decide);omega
    · rw [h231.eval (k:=5) (v:=ν ((j+1:Nat):Int)) (by simp),hK.eval (k:=5) (v:=ν (j:Int)) (by simp)];simp [intOf];omega
  · have hd0:decide ((j:Int)<4)=false:=decide_eq_false ω
    obtain rfl:j=4:=ω
    have HW19:Hid (WIn wL w1.heap.size w1.heap.size m19):=hid (by rw [show m19=mj by rw [HMj.out,HM19.out,HM18.out,HM17.out,HM16.out];rfl];exact HWj.out)
    have HB19:=HBj
    go_step
    go_step
    go_step
    go_step
    refine mv hK rfl fun a233 h232=>?_
    refine sw1 h232 rfl (v:=(.bool false)) (by unfold execOp;simp only [h232.ev 155 rfl];exact Af (Vj _ _ _ _ _ hd0)) fun a235 h234=>?_
    have h236:=h234.sb [156,5,4,3,2,1] rfl
    clear h234
    go_step
    go_step
    go_step
    refine wp_cond (t:=false) (h236.eval (k:=156) (v:=.bool false) (by simp)) ?_
    simp only [Bool.false_eq_true,if_false]
    have h237:=h236.sb [5,4,3,2,1] rfl
    clear h236
    go_step
    go_step
    go_step
    go_step
    go_step
    go_step
    go_step
    refine mv h237 rfl fun a239 h238=>?_
    refine fav h238 rfl (fun _=>Dz (w.heap.size) _) fun a241 h240=>?_
    refine fav h240 rfl (fun _=>GT (w.heap.size) _) fun a243 h242=>?_
    refine sw1 h242 rfl (v:=(.slice a P.N.length c)) (rld h242 rfl rfl (Lv ((Blk.below KP1.out HB19.out hgB).cell (i:=23) (by show 23<43;omega)))) fun a245 h244=>?_
    refine sw1 h244 rfl (v:=(ν (P.N.length:Int))) (LL rfl (h244.eval (k:=169) (v:=.slice a P.N.length c) (by simp)) _) fun a247 h246=>?_
    refine Ak h246 (wn rfl) rfl (by decide) (fr rfl) (fun args=>AB args _) rfl #[π w1.heap.size,ν (P.N.length:Int),ν 1,ν 0,ν 16] (by simp only [List.map_toArray,List.map_cons,List.map_nil,h246.eval (k:=166) (v:=π w1.heap.size) (by simp),h246.eval (k:=170) (v:=ν (P.N.length:Int)) (by simp)];rfl) (R:=fun v w'=>v=.tuple #[]∧WIn w' w1.heap.size w1.heap.size mN∧Below w1.heap.size w1 w') (Calls.mono (As HW19.out (Nat.le_refl _) ω (P.N.length:Int) 0 16 1 ω) (fun e w' q=>⟨_,q.1,rfl,(by rw [HMN.out];exact q.2.1),HB19.out.trans q.2.2⟩)) fun a249 vN wN rN h248=>?_
    obtain ⟨rfl,q1,q2⟩:=rN
    have HWN:=hid q1;have HBN:=hid q2
    clear q1 q2
    have h250:=h248.sb [5,4,3,2,1] rfl
    clear h248
    go_step
    go_step
    go_step
    go_step
    go_step
    refine sw1 h250 rfl (v:=(ν 0)) rfl fun a252 h251=>?_
    go_step
    go_step
    go_step
    go_step
    refine wp_loop (I:=fun a' w'=>∃ (j:Nat) (m:WM),j≤P.N.length∧Kn 209 [(6,ν (j:Int)),(5,ν ((4:Nat):Int)),(4,π w1.heap.size),(3,.bool false),(2,.slice none 0 0),(1,π w.heap.size)] a'∧m=(P.N.take j).foldl (fun m s=>wtext m s 1 12) mN∧m.b.length≤mN.b.length+1100008*j∧WIn w' w1.heap.size w1.heap.size m∧Below w1.heap.size w1 w') (μ:=fun a' _=>P.N.length-(intOf (a'.eval (.tmp 6))).toNat) ⟨0,mN,ω,h251,rfl,ω,HWN.out,HBN.out⟩ ?_
    clear HWN HBN h251
    rintro aM wM ⟨j,mj,hj,hK,hmj,hlj,hWj,hBj⟩
    have HWj:=hid hWj;have HBj:=hid hBj;have HMj:=hid hmj
    clear hWj hBj hmj
    by_cases hlt:j<P.N.length
    · have hd0:decide ((j:Int)<(P.N.length:Int))=true:=decide_eq_true ω
      have hrow:=HA.out.mono (B1.out.trans (HBj.out.mono B1.out.size))
      obtain ⟨nb,noff,ha0,_,hcell⟩:=Fp hrow ω
      have hcell:=hcell j hlt
      have hs2:=hN P.N[j] (List.getElem_mem hlt)
      go_step
      go_step
      go_step
      go_step
      refine mv hK rfl fun a254 h253=>?_
      refine fav h253 rfl (fun _=>Dz (w.heap.size) _) fun a256 h255=>?_
      refine fav h255 rfl (fun _=>GT (w.heap.size) _) fun a258 h257=>?_
      refine sw1 h257 rfl (v:=(.slice a P.N.length c)) (rld h257 rfl rfl (Lv ((Blk.below KP1.out HBj.out hgB).cell (i:=23) (by show 23<43;omega)))) fun a260 h259=>?_
      refine sw1 h259 rfl (v:=(ν (P.N.length:Int))) (LL rfl (h259.eval (k:=175) (v:=.slice a P.N.length c) (by simp)) _) fun a262 h261=>?_
      refine sw1 h261 rfl (v:=(.bool true)) (by unfold execOp;simp only [h261.ev 172 rfl,h261.ev 176 rfl];exact Af (Vj _ _ _ _ _ hd0)) fun a264 h263=>?_
      have h265:=h263.sb [177,6,5,4,3,2,1] rfl
      clear h263
      go_step
      go_step
      go_step
      refine wp_cond (t:=true) (h265.eval (k:=177) (v:=.bool true) (by simp)) ?_
      simp only [if_true]
      have h266:=h265.sb [6,5,4,3,2,1] rfl
      clear h265
      go_step
      go_step
      go_step
      go_step
      go_step
      go_step
      refine mv h266 rfl fun a268 h267=>?_
      refine fav h267 rfl (fun _=>Dz (w.heap.size) _) fun a270 h269=>?_
      refine fav h269 rfl (fun _=>GT (w.heap.size) _) fun a272 h271=>?_
      refine sw1 h271 rfl (v:=(.slice a P.N.length c)) (rld h271 rfl rfl (Lv ((Blk.below KP1.out HBj.out hgB).cell (i:=23) (by show 23<43;omega)))) fun a274 h273=>?_
      refine mv h273 rfl fun a276 h275=>?_
      refine sw1 h275 rfl (v:=(.pointer (some ⟨nb,noff+j,none⟩))) (by unfold execOp;simp only [h275.ev 183 rfl,h275.ev 184 rfl];exact Af (by rw [ha0];exact XB nb noff P.N.length c j hlt _)) fun a278 h277=>?_
      refine sw1 h277 rfl (v:=(.string (bsW P.N[j]))) (rld h277 rfl rfl (Fl hcell)) fun a280 h279=>?_
      refine Ak h279 (wn rfl) rfl (by decide) (fr rfl) (fun args=>Jl args _) rfl #[π w1.heap.size,.string (bsW P.N[j]),ν 1,ν 12] (by simp only [List.map_toArray,List.map_cons,List.map_nil,h279.eval (k:=180) (v:=π w1.heap.size) (by simp),h279.eval (k:=186) (v:=.string (bsW P.N[j])) (by simp)];rfl) (R:=fun v w'=>v=.tuple #[]∧WIn w' w1.heap.size w1.heap.size (wtext mj P.N[j] 1 12)∧Below w1.heap.size w1 w') (Calls.mono (Gz HWj.out (Nat.le_refl _) ω P.N[j] ω 1 12 (by decide)) (fun e w' q=>⟨_,q.1,rfl,q.2.1,HBj.out.trans q.2.2⟩)) fun a282 vk wk rk h281=>?_
      obtain ⟨rfl,q1,q2⟩:=rk
      have HWk:=hid q1;have HBk:=hid q2
      clear q1 q2
      have h283:=h281.sb [6,5,4,3,2,1] rfl
      clear h281
      go_step
      go_step
      go_step
      go_step
      refine mv h283 rfl fun a285 h284=>?_
      refine sw1 h284 rfl (v:=(ν ((j+1:Nat):Int))) (by unfold execOp;simp only [h284.ev 178 rfl];exact Af (VJ _ _ j ω _)) fun a287 h286=>?_
      have h288:=h286.sb [179,178,5,4,3,2,1] rfl
      clear h286
      refine mv h288 rfl fun a290 h289=>?_
      have h291:=h289.sb [6,5,4,3,2,1] rfl
      clear h289
      go_step
      go_step
      refine ⟨⟨j+1,wtext mj P.N[j] 1 12,ω,h291,?_,?_,HWk.out,HBk.out⟩,?_⟩
      · rw [HMj.out,List.take_add_one,List.foldl_append];simp [hlt]
      · have h9:=GA mj P.N[j] 1 12 (by decide) hs2
        rw [Nat.mul_add_one];exact Nat.le_trans h9 (by rw [← Nat.add_assoc];exact Nat.add_le_add_right hlj _)
      · rw [h291.eval (k:=6) (v:=ν ((j+1:Nat):Int)) (by simp),hK.eval (k:=6) (v:=ν (j:Int)) (by simp)];simp [intOf];omega
    · have hd0:decide ((j:Int)<(P.N.length:Int))=false:=decide_eq_false ω
      have hje:j=P.N.length:=ω
      have HW20:Hid (WIn wM w1.heap.size w1.heap.size m20):=hid (by rw [show m20=mj by rw [HMj.out,HM20.out,hje,List.take_length,HMN.out];rfl];exact HWj.out)
      have HB20:=HBj
      go_step
      go_step
      go_step
      go_step
      refine mv hK rfl fun a293 h292=>?_
      refine fav h292 rfl (fun _=>Dz (w.heap.size) _) fun a295 h294=>?_
      refine fav h294 rfl (fun _=>GT (w.heap.size) _) fun a297 h296=>?_
      refine sw1 h296 rfl (v:=(.slice a P.N.length c)) (rld h296 rfl rfl (Lv ((Blk.below KP1.out HB20.out hgB).cell (i:=23) (by show 23<43;omega)))) fun a299 h298=>?_
      refine sw1 h298 rfl (v:=(ν (P.N.length:Int))) (LL rfl (h298.eval (k:=175) (v:=.slice a P.N.length c) (by simp)) _) fun a301 h300=>?_
      refine sw1 h300 rfl (v:=(.bool false)) (by unfold execOp;simp only [h300.ev 172 rfl,h300.ev 176 rfl];exact Af (Vj _ _ _ _ _ hd0)) fun a303 h302=>?_
      have h304:=h302.sb [177,6,5,4,3,2,1] rfl
      clear h302
      go_step
      go_step
      go_step
      refine wp_cond (t:=false) (h304.eval (k:=177) (v:=.bool false) (by simp)) ?_
      simp only [Bool.false_eq_true,if_false]
      have h305:=h304.sb [6,5,4,3,2,1] rfl
      clear h304
      go_step
      go_step
      go_step
      go_step
      go_step
      go_step
      go_step
      go_step
      refine fav h305 rfl (fun _=>Aw (w.heap.size) _) fun a307 h306=>?_
      refine sw1 h306 rfl (v:=(ν (P.I 0))) (rld h306 rfl rfl (Ae ((Blk.below KP1.out HB20.out hgB).cell (i:=0) (by show 0<43;omega)))) fun a309 h308=>?_
      refine sw1 h308 rfl (v:=(.bool false)) (by unfold execOp;simp only [h308.ev 189 rfl];exact Af (Du _ _ _ _ _ e5)) fun a311 h310=>?_
      have h312:=h310.sb [190,6,5,4,3,2,1] rfl
      clear h310
      go_step
      go_step
      go_step
      refine wp_cond (t:=false) (h312.eval (k:=190) (v:=.bool false) (by simp)) ?_
      simp only [Bool.false_eq_true,if_false]
      have h313:=h312.sb [6,5,4,3,2,1] rfl
      clear h312
      go_step
      go_step
      go_step
      go_step
      go_step
      refine sw1 h313 rfl (v:=(.agg (pkC P a P.N.length c).toArray)) (by unfold execOp;simp only [h313.ev 1 rfl];exact Af (run_loadAt_mid _ _ _ _ (pkC P a P.N.length c) _ (Blk.below KP1.out HB20.out hgB).range υ39 rfl (by rw [Bq];rfl))) fun a315 h314=>?_
      refine Ak h314 (wn rfl) rfl (by decide) (fr rfl) (fun args=>Ig args _) rfl #[.agg (pkC P a P.N.length c).toArray] (by simp only [List.map_toArray,List.map_cons,List.map_nil,h314.eval (k:=195) (v:=.agg (pkC P a P.N.length c).toArray) (by simp)]) (R:=fun v w'=>v=.bool rb∧Below wM.heap.size wM w') (Calls.mono (HO.out wM ((B1.out.trans (HB20.out.mono B1.out.size)))) (fun e w' q=>⟨_,q.1,rfl,q.2⟩)) fun a317 v20 w23 r20 h316=>?_
      obtain ⟨rfl,q2⟩:=r20
      obtain ⟨ba,bc,hbW,hoW⟩:=HW20.out
      have hbW:=hid (hbW.mono q2);have hoW:=hid (hoW.mono q2);have HB20z:=hid (HB20.out.trans (q2.mono HB20.out.size))
      clear q2 HW20 HB20
      refine mv h316 rfl fun a319 h318=>?_
      have h320:=h318.sb [7,6,5,4,3,2,1] rfl
      clear h318
      go_step
      go_step
      go_step
      go_step
      cases hno:m20.no with
      | false=>
        refine wp_region_held_drew (S:=fun w'=>w'=w23.drew) κ rfl (fun hS321=>?_)
        have B20x:=hid HB20z.out.drew
        refine tv1 hS321 h320 0 rfl rfl (v:=(π w1.heap.size)) (fun w1 hSw=>by cases hSw;exact Aj h320 rfl rfl _) fun a323 h322=>?_
        refine tv1 hS321 h322 1 rfl rfl (v:=(π w1.heap.size)) (fun w1 hSw=>by cases hSw;exact Bt h322 rfl rfl _) fun a325 h324=>?_
        refine tv1 hS321 h324 2 rfl rfl (v:=(π w1.heap.size)) (fun w1 hSw=>by cases hSw;exact rfa h324 rfl rfl (fun _=>Cr (w1.heap.size) _) _) fun a327 h326=>?_
        refine tv1 hS321 h326 3 rfl rfl (v:=(.slice ba m20.b.length bc)) (fun w1 hSw=>by cases hSw;exact rld h326 rfl rfl (Hh ((Blk.drew hbW.out).cell (i:=0) (by simp)))) fun a329 h328=>?_
        refine tv1 hS321 h328 4 rfl rfl (v:=(π w1.heap.size)) (fun w1 hSw=>by cases hSw;exact Aj h328 rfl rfl _) fun a331 h330=>?_
        refine tv1 hS321 h330 5 rfl rfl (v:=(π w1.heap.size)) (fun w1 hSw=>by cases hSw;exact Bt h330 rfl rfl _) fun a333 h332=>?_
        refine tv1 hS321 h332 6 rfl rfl (v:=(.pointer (some ⟨w1.heap.size,1,none⟩))) (fun w1 hSw=>by cases hSw;exact rfa h332 rfl rfl (fun _=>Ct (w1.heap.size) _) _) fun a335 h334=>?_
        refine tv1 hS321 h334 7 rfl rfl (v:=(.bool false)) (fun w1 hSw=>(by cases hSw;exact (by show (execOp _ (⟨_,.load 4 (.tmp 203),_,_,_,_⟩:Oper)).run _ _=_;exact (by unfold execOp;simp only [h334.ev 203 rfl];exact Af (EL (by rw [(Blk.drew hbW.out).cell (i:=1) (by simp)];simp [hno])))))) fun a337 h336=>?_
        refine tv1 hS321 h336 8 rfl rfl (v:=(.bool true)) (fun w1 hSw=>(by cases hSw;exact (by show (execOp _ (⟨_,.unOp .not 4 (.tmp 204),_,_,_,_⟩:Oper)).run _ _=_;exact (Do rfl (h336.eval (k:=204) (v:=.bool false) (by simp)))))) fun a339 h338=>?_
        refine tv1 hS321 h338 9 rfl rfl (v:=(.bool true)) (fun w1 hSw=>by cases hSw;exact Aj h338 rfl rfl _) fun a341 h340=>?_
        refine Cv hS321 h340 10 rfl rfl (by decide) (fr rfl) κ κ κ (fun _ _ _ _ h=>h) (.bool rb) (Or.inl ⟨(by rw [AC (g:=9) (want:=true) (b:=true) rfl (h340.yields (prev:=206) rfl (by simp))];rfl),fun w1 hSw=>(by cases hSw;exact (by show (execOp _ (⟨_,.move (.tmp 7),_,_,_,_⟩:Oper)).run _ _=_;exact (by unfold execOp;simp only [h340.eval (k:=7) (v:=.bool rb) (by simp)];rfl)))⟩) fun a343 h342=>?_
        refine tv1 hS321 h342 11 rfl rfl (v:=(.bool rb)) (fun w1 hSw=>(by cases hSw;exact (by show (execOp _ (⟨_,.pick (.tmp 206) (.tmp 207) (.const (.bool false)),_,_,_,_⟩:Oper)).run _ _=_;exact (Bk rfl (h342.eval (k:=206) (v:=.bool true) (by simp)) (by rw [if_pos rfl];exact h342.eval (k:=207) (v:=.bool rb) (by simp)))))) fun a345 h344=>?_
        have h346:=h344.sb [208,207,206,205,204,203,202,201,200,199,198,197,7,6,5,4,3,1] rfl
        clear h344
        refine tv1 hS321 h346 12 rfl rfl (v:=(.slice ba m20.b.length bc)) (fun w1 hSw=>by cases hSw;exact AA h346 rfl rfl _) fun a348 h347=>?_
        have h349:=h347.sb [2,208,207,206,205,204,203,202,201,200,199,198,197,7,6,5,4,1] rfl
        clear h347
        refine tv1 hS321 h349 13 rfl rfl (v:=(.bool rb)) (fun w1 hSw=>by cases hSw;exact AA h349 rfl rfl _) fun a351 h350=>?_
        refine wpAnyH_done κ ?_ _
        have h352:=h350.sb [3,2,7,6,5,4,1] rfl
        clear h350
        go_step
        go_step
        go_step
        refine bodyPost_ret (Br rfl (h352.known (2,.slice ba m20.b.length bc) (by simp)) (h352.known (3,.bool rb) (by simp))) h352.defs ?_
        exact ⟨ba,bc,by rw [hno];rfl,hoW.out.drew.low B1.out.size,B1.out.trans (B20x.out.mono B1.out.size)⟩
      | true=>
        refine wp_region_held_drew (S:=fun w'=>w'=w23.drew) κ rfl (fun hS353=>?_)
        have B20x:=hid HB20z.out.drew
        refine tv1 hS353 h320 0 rfl rfl (v:=(π w1.heap.size)) (fun w1 hSw=>by cases hSw;exact Aj h320 rfl rfl _) fun a355 h354=>?_
        refine tv1 hS353 h354 1 rfl rfl (v:=(π w1.heap.size)) (fun w1 hSw=>by cases hSw;exact Bt h354 rfl rfl _) fun a357 h356=>?_
        refine tv1 hS353 h356 2 rfl rfl (v:=(π w1.heap.size)) (fun w1 hSw=>by cases hSw;exact rfa h356 rfl rfl (fun _=>Cr (w1.heap.size) _) _) fun a359 h358=>?_
        refine tv1 hS353 h358 3 rfl rfl (v:=(.slice ba m20.b.length bc)) (fun w1 hSw=>by cases hSw;exact rld h358 rfl rfl (Hh ((Blk.drew hbW.out).cell (i:=0) (by simp)))) fun a361 h360=>?_
        refine tv1 hS353 h360 4 rfl rfl (v:=(π w1.heap.size)) (fun w1 hSw=>by cases hSw;exact Aj h360 rfl rfl _) fun a363 h362=>?_
        refine tv1 hS353 h362 5 rfl rfl (v:=(π w1.heap.size)) (fun w1 hSw=>by cases hSw;exact Bt h362 rfl rfl _) fun a365 h364=>?_
        refine tv1 hS353 h364 6 rfl rfl (v:=(.pointer (some ⟨w1.heap.size,1,none⟩))) (fun w1 hSw=>by cases hSw;exact rfa h364 rfl rfl (fun _=>Ct (w1.heap.size) _) _) fun a367 h366=>?_
        refine tv1 hS353 h366 7 rfl rfl (v:=(.bool true)) (fun w1 hSw=>(by cases hSw;exact (by show (execOp _ (⟨_,.load 4 (.tmp 203),_,_,_,_⟩:Oper)).run _ _=_;exact (by unfold execOp;simp only [h366.ev 203 rfl];exact Af (EL (by rw [(Blk.drew hbW.out).cell (i:=1) (by simp)];simp [hno])))))) fun a369 h368=>?_
        refine tv1 hS353 h368 8 rfl rfl (v:=(.bool false)) (fun w1 hSw=>(by cases hSw;exact (by show (execOp _ (⟨_,.unOp .not 4 (.tmp 204),_,_,_,_⟩:Oper)).run _ _=_;exact (Do rfl (h368.eval (k:=204) (v:=.bool true) (by simp)))))) fun a371 h370=>?_
        refine tv1 hS353 h370 9 rfl rfl (v:=(.bool false)) (fun w1 hSw=>by cases hSw;exact Aj h370 rfl rfl _) fun a373 h372=>?_
        refine Cv hS353 h372 10 rfl rfl (by decide) (fr rfl) κ κ κ (fun _ _ _ _ h=>h) undef (Or.inr ⟨(by rw [AC (g:=9) (want:=true) (b:=false) rfl (h372.yields (prev:=206) rfl (by simp))];rfl),rfl⟩) fun a375 h374=>?_
        refine tv1 hS353 h374 11 rfl rfl (v:=(.bool false)) (fun w1 hSw=>(by cases hSw;exact (by show (execOp _ (⟨_,.pick (.tmp 206) (.tmp 207) (.const (.bool false)),_,_,_,_⟩:Oper)).run _ _=_;exact (Bk rfl (h374.eval (k:=206) (v:=.bool false) (by simp)) rfl)))) fun a377 h376=>?_
        have h378:=h376.sb [208,207,206,205,204,203,202,201,200,199,198,197,7,6,5,4,3,1] rfl
        clear h376
        refine tv1 hS353 h378 12 rfl rfl (v:=(.slice ba m20.b.length bc)) (fun w1 hSw=>by cases hSw;exact AA h378 rfl rfl _) fun a380 h379=>?_
        have h381:=h379.sb [2,208,207,206,205,204,203,202,201,200,199,198,197,7,6,5,4,1] rfl
        clear h379
        refine tv1 hS353 h381 13 rfl rfl (v:=(.bool false)) (fun w1 hSw=>by cases hSw;exact AA h381 rfl rfl _) fun a383 h382=>?_
        refine wpAnyH_done κ ?_ _
        have h384:=h382.sb [3,2,7,6,5,4,1] rfl
        clear h382
        go_step
        go_step
        go_step
        refine bodyPost_ret (Br rfl (h384.known (2,.slice ba m20.b.length bc) (by simp)) (h384.known (3,.bool false) (by simp))) h384.defs ?_
        exact ⟨ba,bc,by rw [hno];rfl,hoW.out.drew.low B1.out.size,B1.out.trans (B20x.out.mono B1.out.size)⟩
end
section
theorem Ru {m:WM} {v:Int} {k:Nat} {lo hi:Int} (h:m.no=true):(wnum m v k lo hi).no=true:=by unfold wnum;split<;>first | exact h | rfl
theorem AgP.wnum {m:WM} {o:Option (List UInt8)} (h:AgP m true o) (v:Int) (k:Nat) (lo hi:Int):AgP (wnum m v k lo hi) true (o.bind fun b=>(Em k lo hi v).map fun a=>b++a):=by
  cases hm:m.no with
  | true=>
    rw [h.no (by simp [hm])]
    exact AgP.mkNo (by rw [Ru hm];simp) rfl
  | false=>
    rw [h.yes hm rfl,Option.bind_some]
    unfold Go.Proofs.YtjgajoljgepioaaGreat.wnum Em
    by_cases hc:AX v k=true∧lo≤v∧v≤hi
    · rw [if_pos hc,if_pos hc]
      exact AgP.mkYes hm rfl rfl
    · rw [if_neg hc,if_neg hc]
      exact AgP.mkNo (by simp) rfl
theorem AgP.wtext {m:WM} {o:Option (List UInt8)} (h:AgP m true o) (s:List UInt8) (k most:Nat) (hk:BD k=true) (hm:most<256 ^ k):AgP (wtext m s k most) true (o.bind fun b=>(Fb k most s).map fun a=>b++a):=by
  cases hn:m.no with
  | true=>
    rw [h.no (by simp [hn])]
    refine AgP.mkNo (fun q=>?_) rfl
    have:=Ru (v:=(s.length:Int)) (k:=k) (lo:=0) (hi:=most) hn
    unfold Go.Proofs.YtjgajoljgepioaaGreat.wtext at q
    rw [show (⟨(Go.Proofs.YtjgajoljgepioaaGreat.wnum m (s.length:Int) k 0 most).b++s,(Go.Proofs.YtjgajoljgepioaaGreat.wnum m (s.length:Int) k 0 most).no⟩:WM).no=true from this] at q
    exact absurd q.1 (by simp)
  | false=>
    rw [h.yes hn rfl,Option.bind_some]
    unfold Go.Proofs.YtjgajoljgepioaaGreat.wtext Go.Proofs.YtjgajoljgepioaaGreat.wnum Fb
    by_cases hl:s.length≤most
    · have hf:AX (s.length:Int) k=true:=KJ hk (Nat.lt_of_le_of_lt hl hm)
      rw [if_pos hl]
      simp only
      rw [if_pos ⟨hf,ω,ω⟩]
      refine AgP.mkYes hn rfl ?_
      simp
    · rw [if_neg hl]
      simp only
      rw [if_neg (fun q=>ω)]
      exact AgP.mkNo (by simp) rfl
theorem AgP.wfold {m:WM} {o:Option (List UInt8)} (h:AgP m true o) (N:List (List UInt8)):AgP (N.foldl (fun m s=>Go.Proofs.YtjgajoljgepioaaGreat.wtext m s 1 12) m) true (N.foldl (fun (o:Option (List UInt8)) s=>o.bind fun b=>(Fb 1 12 s).map fun a=>b++a) o):=by
  induction N generalizing m o with
  | nil=>exact h
  | cons s N ih=>
    have q0:=@AgP.wtext m o h
    have q:=q0 s 1 12 (by decide) (by decide)
    rw [List.foldl_cons,List.foldl_cons]
    exact ih q
theorem AgP.stepW {m:WM} {o:Option (List UInt8)} {P:PkM} (h:AgP m true o) (f:Fld) (hf:okF f):AgP (stepW P m f) true (It P o f):=by
  cases f with
  | num w o' lo hi=>exact h.wnum _ _ _ _
  | text w most o'=>exact h.wtext _ _ _ hf.1 hf.2.1
  | names=>
    have h0':=@AgP.wnum m o h
    have h0:=h0' (P.N.length:Int) 1 0 16
    have h1:=AgP.wfold h0 P.N
    cases ho:o with
    | none=>
      rw [ho] at h1
      have e:(none:Option (List UInt8)).bind (fun b=>(Em 1 0 16 (P.N.length:Int)).map fun a=>b++a)=none:=rfl
      rw [e,JQ] at h1
      exact h1
    | some b=>
      rw [ho] at h1
      have e2:It P (some b) .names=(Fy P .names).map fun a=>b++a:=rfl
      rw [e2]
      rw [Option.bind_some] at h1
      unfold Fy
      by_cases hl:P.N.length≤16
      · have hf:AX (P.N.length:Int) 1=true:=KJ (w:=1) rfl ω
        have e3:Em 1 0 16 (P.N.length:Int)=some (le 1 P.N.length):=by unfold Em;rw [if_pos ⟨hf,ω,ω⟩];simp
        rw [e3,Option.map_some,Mj] at h1
        rw [if_pos hl]
        cases he:Ej P.N with
        | none=>rw [he] at h1;exact h1
        | some t=>
          rw [he] at h1
          have e4:(some (le 1 P.N.length++t)).map (fun a=>b++a)=some (b++le 1 P.N.length++t):=by rw [Option.map_some,List.append_assoc]
          rw [Option.map_some,e4]
          exact h1
      · have e3:Em 1 0 16 (P.N.length:Int)=none:=by unfold Em;rw [if_neg (fun q=>ω)]
        rw [e3,Option.map_none,JQ] at h1
        rw [if_neg hl];exact h1
theorem AgP.foldW {m:WM} {o:Option (List UInt8)} {P:PkM} (h:AgP m true o) (fs:List Fld) (hf:∀ f∈fs,okF f):AgP (fs.foldl (Go.Proofs.YtjgajoljgepioaaGreat.stepW P) m) true (fs.foldl (It P) o):=by
  induction fs generalizing m o with
  | nil=>exact h
  | cons f fs ih=>exact ih (h.stepW f (hf f (List.mem_cons_self ..))) (fun g hg=>hf g (List.mem_cons_of_mem _ hg))
theorem MA (k:Int):∀ f∈Ah++Al k,okF f:=fun f hf=>(List.mem_append.1 hf).elim (Ln f) (Om k f)
theorem Lt (P:PkM) (fs:List Fld) (hf:∀ f∈fs,okF f):((fs.foldl (stepW P) ⟨[],false⟩).no=false→encL P fs=some (fs.foldl (stepW P) ⟨[],false⟩).b)∧((fs.foldl (stepW P) ⟨[],false⟩).no=true→encL P fs=none):=by
  have h0:AgP ⟨[],false⟩ true (some []):=AgP.mkYes rfl rfl rfl
  have h:=h0.foldW (P:=P) fs hf
  rw [NW] at h
  have e:(encL P fs).map (fun a=>([]:List UInt8)++a)=encL P fs:=by cases encL P fs<;>simp
  rw [e] at h
  exact ⟨fun q=>h.yes q rfl,fun q=>h.no (by rw [q];simp)⟩
def inW (P:PkM):Option (List UInt8):=match Fz P with
  | some e=>if BS P (Hl P)=true then some e else none
  | none=>none
theorem Ls (P:PkM) (fs:List Fld) (hfs:fs=Ah++Al (P.I 0)) (hok:∀ f∈fs,okF f):(inW P).isSome=(!(fs.foldl (stepW P) ⟨[],false⟩).no&&BS P (Au P P0z fs))∧∀ e,inW P=some e→(fs.foldl (stepW P) ⟨[],false⟩).b=e:=by
  obtain ⟨l1,l2⟩:=Lt P fs hok
  have e1:Fz P=encL P fs:=by rw [hfs];rfl
  have e2:Hl P=Au P P0z fs:=by rw [hfs];rfl
  unfold inW
  rw [e1,e2]
  cases hn:(fs.foldl (stepW P) ⟨[],false⟩).no with
  | true=>rw [l2 hn];exact ⟨rfl,fun e h=>by cases h⟩
  | false=>
    rw [l1 hn]
    simp only
    cases hq:BS P (Au P P0z fs) with
    | true=>simp
    | false=>simp
theorem TJ (P:PkM) (hk:¬ (1≤P.I 0∧P.I 0≤5)):inW P=none:=by
  have:Fz P=none:=by
    unfold Fz
    rw [Kp]
    have:encL P Ah=none:=by
      unfold Ah encL
      have:Fy P (.num 1 0 1 5)=none:=by
        show Em 1 1 5 (P.I 0)=none
        unfold Em;rw [if_neg (fun q=>hk q.2)]
      rw [this];rfl
    rw [this];rfl
  unfold inW;rw [this]
theorem Nh (P:PkM) (hP:Be P) (hS:Kq P) (hN:∀ s∈P.N,s.length≤1100000) (hn9:P.N.length≤1100000) (a:Option Addr) (c:Nat) (w:World) (ha:Row w 1 a P.N.length c (P.N.map AS)) :
    Calls Tryz.prog 60 #[.agg (pkC P a P.N.length c).toArray] w fun e w'=>∃ ba bc xs,e=.returned (.tuple #[.slice ba xs.length bc,.bool (inW P).isSome])∧Ek w' w.heap.size ba bc xs∧(∀ e,inW P=some e→xs=e)∧Below w.heap.size w w':=by
  by_cases hk:1≤P.I 0∧P.I 0≤5
  · rcases (ω:P.I 0=1∨P.I 0=2∨P.I 0=3∨P.I 0=4∨P.I 0=5) with e | e | e | e | e
    · obtain ⟨h1,h2⟩:=Ls P (Ah++Al 1) (by rw [e]) (MA 1)
      refine (Ve P hP hS a c w ha e).mono ?_
      rintro e w' ⟨ba,bc,rfl,ho,b⟩
      exact ⟨ba,bc,_,by rw [h1],ho,h2,b⟩
    · obtain ⟨h1,h2⟩:=Ls P (Ah++Al 2) (by rw [e]) (MA 2)
      refine (Vf P hP hS a c w ha e).mono ?_
      rintro e w' ⟨ba,bc,rfl,ho,b⟩
      exact ⟨ba,bc,_,by rw [h1],ho,h2,b⟩
    · obtain ⟨h1,h2⟩:=Ls P (Ah++Al 3) (by rw [e]) (MA 3)
      refine (Vg P hP hS a c w ha e).mono ?_
      rintro e w' ⟨ba,bc,rfl,ho,b⟩
      exact ⟨ba,bc,_,by rw [h1],ho,h2,b⟩
    · obtain ⟨h1,h2⟩:=Ls P (Ah++Al 4) (by rw [e]) (MA 4)
      refine (Vh P hP hS hN hn9 a c w ha e).mono ?_
      rintro e w' ⟨ba,bc,rfl,ho,b⟩
      exact ⟨ba,bc,_,by rw [h1],ho,h2,b⟩
    · obtain ⟨h1,h2⟩:=Ls P (Ah++Al 5) (by rw [e]) (MA 5)
      refine (Vi P hP hS a c w ha e).mono ?_
      rintro e w' ⟨ba,bc,rfl,ho,b⟩
      exact ⟨ba,bc,_,by rw [h1],ho,h2,b⟩
  · have hn:=TJ P hk
    have hno:(Ah.foldl (stepW P) ⟨[],false⟩).no=true:=by
      cases h:(Ah.foldl (stepW P) ⟨[],false⟩).no with
      | true=>rfl
      | false=>
        have:=(Lt P Ah Ln).1 h
        exfalso
        have h2:encL P Ah=none:=by
          unfold Ah encL
          have:Fy P (.num 1 0 1 5)=none:=by
            show Em 1 1 5 (P.I 0)=none
            unfold Em;rw [if_neg (fun q=>hk q.2)]
          rw [this];rfl
        rw [h2] at this;cases this
    refine (Qi P hP hS a c w ha hk).mono ?_
    rintro e w' ⟨ba,bc,rfl,ho,b⟩
    exact ⟨ba,bc,_,by rw [hn,hno];rfl,ho,(fun e h=>by rw [hn] at h;cases h),b⟩
def fBd:Fld→Nat
  | .num _ _ _ _=>8
  | .text _ most _=>8+most
  | .names=>1+16*21
theorem RP {l:List (List UInt8)} {e:List UInt8} (h:Ej l=some e):e.length≤l.length*21:=by
  induction l generalizing e with
  | nil=>cases h;simp
  | cons s l ih=>
    unfold Ej at h
    cases h1:Fb 1 12 s with
    | none=>rw [h1] at h;cases h
    | some a=>
      cases h2:Ej l with
      | none=>rw [h1,h2] at h;cases h
      | some b=>
        rw [h1,h2] at h
        simp only [Option.bind_some,Option.map_some,Option.some.injEq] at h
        subst h
        have:=ih h2
        unfold Fb at h1
        split at h1
        · cases h1;simp [AH];omega
        · cases h1
theorem Tp {P:PkM} {f:Fld} {e:List UInt8} (hf:okF f) (h:Fy P f=some e):e.length≤fBd f:=by
  cases f with
  | num w o lo hi=>
    have h':Em w lo hi (P.I o)=some e:=h
    have hw:=Ir (show BD w=true from hf)
    unfold Em at h'
    split at h'
    · cases h';rw [AH];show w≤8;omega
    · cases h'
  | text w m o=>
    have h':Fb w m (P.S o)=some e:=h
    have hw:=Ir (show BD w=true from hf.1)
    unfold Fb at h'
    split at h'
    · cases h';rw [List.length_append,AH];show _≤8+m;omega
    · cases h'
  | names=>
    have h':(if P.N.length≤16 then (Ej P.N).map fun b=>le 1 P.N.length++b else none)=some e:=h
    split at h'
    · cases h1:Ej P.N with
      | none=>rw [h1] at h';cases h'
      | some b=>
        rw [h1,Option.map_some] at h'
        cases h'
        have:=RP h1
        rw [List.length_append,AH]
        show 1+b.length≤1+16*21
        have:P.N.length*21≤16*21:=Nat.mul_le_mul_right _ (by assumption)
        omega
    · cases h'
theorem Tq {P:PkM} {fs:List Fld} {e:List UInt8} (hf:∀ f∈fs,okF f) (h:encL P fs=some e):e.length≤(fs.map fBd).foldr (·+·) 0:=by
  induction fs generalizing e with
  | nil=>cases h;simp
  | cons f fs ih=>
    unfold encL at h
    cases h1:Fy P f with
    | none=>rw [h1] at h;cases h
    | some a=>
      cases h2:encL P fs with
      | none=>rw [h1,h2] at h;cases h
      | some b=>
        rw [h1,h2] at h
        simp only [Option.bind_some,Option.map_some,Option.some.injEq] at h
        subst h
        have q1:=Tp (hf f (List.mem_cons_self ..)) h1
        have q2:=ih (fun g hg=>hf g (List.mem_cons_of_mem _ hg)) h2
        rw [List.length_append]
        show _≤fBd f+_
        omega
theorem Ts {P:PkM} {e:List UInt8} (h:Fz P=some e):e.length≤1000:=by
  have:=Tq (MA (P.I 0)) h
  refine Nat.le_trans this ?_
  unfold Al
  repeat' split
  all_goals decide
theorem Vd {P:PkM} {e:List UInt8} (h:inW P=some e):Fz P=some e:=by
  unfold inW at h
  split at h
  · next e' he=>
    split at h
    · cases h;exact he
    · cases h
  · cases h
theorem Vv (P:PkM):Nv P=(inW P).map fun e=>DK e (Jo e:Int) 4:=by
  unfold Nv inW
  cases Fz P with
  | none=>rfl
  | some e=>simp only;split<;>rfl
theorem NG (a:Option Addr) (c:Nat) (xs:List UInt8) (w:World) (ha:BB w a c xs) (hl:xs.length≤1000000) :
    Calls Tryz.prog 61 #[.slice a xs.length c] w (Ry w (DK xs (Jo xs:Int) 4)):=by
  have HS:=hid (QK a c xs w ha)
  have hcl:=QU xs
  have HP:=hid (fun (z:Nat) (hz:z<4294967296)=>Je a c xs (z:Int) 4 w ha ω ω)
  generalize Jo xs=z at *
  have HPZ:=hid (HP.out z hcl)
  clear ha HP
  go_enter Tryz.func61,Tryz.ntmps61
  go_wp2_with fail
  refine HS.out.mono ?_
  rintro e w1 ⟨rfl,rfl⟩
  go_wp2_with fail
  refine HPZ.out.mono ?_
  rintro e w2 ⟨a2,c2,rfl,o2,b2⟩
  go_wp2_with fail
  go_ret
  exact ⟨a2,c2,rfl,o2,b2⟩
def PB (P:PkM) (a:Option Addr) (c:Nat) (g:Nat) (w:World) (o:Option (List UInt8)):Prop:=
  ∀ W,Below g w W→Calls Tryz.prog 60 #[.agg (pkC P a P.N.length c).toArray] W fun e w'=>∃ ba bc xs,e=.returned (.tuple #[.slice ba xs.length bc,.bool o.isSome])∧Ek w' W.heap.size ba bc xs∧(∀ e,o=some e→xs=e)∧Below W.heap.size W w'
theorem OS {w:World} {P:PkM} {a:Option Addr} {c:Nat} (HI0:PB P a c w.heap.size w none) :
    Calls Tryz.prog 40 #[.agg (pkC P a P.N.length c).toArray] w fun e w'=>∃ ba bc,e=.returned (.tuple #[.slice ba 0 bc,ν 1])∧Ek w' w.heap.size ba bc []∧Below w.heap.size w w':=by
  have HI:=hid HI0
  clear HI0
  have t1:True:=trivial
  go_enter Tryz.func40,Tryz.ntmps40
  go_wp2_with (first
    | (have _t:=t1;(with_reducible refine Bg rfl 39 _ rfl (pkC P a P.N.length c) rfl ?_);clear t1;intro w1 k1 b1 s1;have K1:=hid k1;have B1:=hid b1;clear k1 b1 s1)
    | (with_reducible refine Jj rfl _ rfl w.heap.size rfl K1.out ?_))
  refine (HI.out w1 B1.out).mono ?_
  rintro e w2 ⟨ba,bc,xs,rfl,ho,hx,b2⟩
  have B2:=hid (Am B1.out b2)
  clear ho hx b2
  simp only [Option.isSome_none]
  go_wp2_with fail
  go_ret2
  exact ⟨none,0,rfl,Own.nil _ _ _ _,B2.out⟩
theorem Nu {w:World} {P:PkM} {a:Option Addr} {c:Nat} {e0 pb:List UInt8} (HI0:PB P a c w.heap.size w (some e0))
    (HSE0:∀ (W:World) (ba:Option Addr) (bc:Nat),BB W ba bc e0→Calls Tryz.prog 61 #[.slice ba e0.length bc] W (Ry W pb)) :
    Calls Tryz.prog 40 #[.agg (pkC P a P.N.length c).toArray] w fun e w'=>∃ ba bc,e=.returned (.tuple #[.slice ba pb.length bc,ν 0])∧Ek w' w.heap.size ba bc pb∧Below w.heap.size w w':=by
  have HI:=hid HI0
  have HSE:=hid HSE0
  clear HI0 HSE0
  have t1:True:=trivial
  go_enter Tryz.func40,Tryz.ntmps40
  go_wp2_with (first
    | (have _t:=t1;(with_reducible refine Bg rfl 39 _ rfl (pkC P a P.N.length c) rfl ?_);clear t1;intro w1 k1 b1 s1;have K1:=hid k1;have B1:=hid b1;clear k1 b1 s1)
    | (with_reducible refine Jj rfl _ rfl w.heap.size rfl K1.out ?_))
  refine (HI.out w1 B1.out).mono ?_
  rintro e w2 ⟨ba,bc,xs,rfl,ho,hx,b2⟩
  obtain rfl:xs=e0:=hx e0 rfl
  have B2:=hid (Am B1.out b2);have O2:=hid ho
  clear ho hx b2
  simp only [Option.isSome_some]
  go_wp2_with fail
  refine (HSE.out w2 ba bc O2.out.row).mono ?_
  rintro e w3 ⟨a3,c3,rfl,o3,b3⟩
  have B3:=hid (Am B2.out b3);have O3:=hid (o3.low B2.out.size)
  clear o3 b3
  go_wp2_with fail
  go_ret2
  exact ⟨a3,c3,rfl,O3.out,B3.out⟩
theorem Nt {w:World} {P:PkM} {a:Option Addr} {c:Nat} (hP:Be P) (hS:shortP P) (hN:∀ s∈P.N,s.length≤1100000) (hn9:P.N.length≤1100000) (ha:Row w 1 a P.N.length c (P.N.map AS)) :
    Calls Tryz.prog 40 #[.agg (pkC P a P.N.length c).toArray] w fun e w'=>∃ ba bc,e=.returned (.tuple #[.slice ba (Jd P).length bc,ν (CV P)])∧Ek w' w.heap.size ba bc (Jd P)∧Below w.heap.size w w':=by
  have HI:PB P a c w.heap.size w (inW P):=fun W b=>Nh P hP hS.long hN hn9 a c W (ha.mono b)
  have hpw:=Vv P
  have hen:=fun e (h:inW P=some e)=>Ts (Vd h)
  cases hi:inW P with
  | none=>
    rw [hi] at hpw HI
    have hb:Jd P=[]:=by unfold Jd;rw [hpw];rfl
    have he:CV P=1:=by unfold CV;rw [hpw];rfl
    rw [hb,he]
    exact OS HI
  | some e0=>
    have hl1:e0.length≤1000000:=by have:=hen e0 hi;omega
    rw [hi,Option.map_some] at hpw
    rw [hi] at HI
    have hb:Jd P=DK e0 (Jo e0:Int) 4:=(congrArg (fun o=>Option.getD o []) hpw).trans (Option.getD_some ..)
    have he:CV P=0:=by unfold CV;rw [hpw,Option.isSome_some,if_pos rfl]
    rw [hb,he]
    exact Nu HI fun W ba bc r=>NG ba bc e0 W r hl1
end
section
theorem Xs (g n c A N:Nat) {a b:Int} (ha:a=(A:Int)) (hb:b=((A+N:Nat):Int)) (hc:A+N≤c) (hN:0<N) (w:World) :
    (Instr.sliceAt 60 (.slice (some ⟨g,0,none⟩) n c) (some (ν a)) (some (ν b)) none).run Tryz.prog w=.ok (.slice (some ⟨g,A,none⟩) N (c-A)) w:=by
  subst ha;subst hb
  have u:=υ60
  have s8:(sizeOf 5).run Tryz.prog w=.ok 1 w:=κ
  have he:Tryz.prog.elem 60=5:=κ
  have hu:Tryz.prog.underlying 60=some (.slice (Tryz.prog.elem 60)):=by rw [he];exact u
  rw [run_sliceAt_slice w _ _ _ _ _ hu,run_slice_lh w _ _ _ _ hu _ _ _ _ ω ω ω,he,s8]
  show Result.ok (sliced _ _ _ _ _) w=_
  unfold sliced
  rw [show ((A:Nat):Int).toNat=A by omega,show ((A+N:Nat):Int).toNat=A+N by omega,if_neg ω]
  simp only [Option.map_some,Addr.add_mid,Nat.mul_one,Nat.zero_add]
  rw [show A+N-A=N by omega]
theorem MemR.seen {w:World} {g v d a:Nat} {M:MemM} (h:MemR w g v d a M) {A N:Nat} (hi:A+N≤M.V.length):BB w (some ⟨v,A,none⟩) (M.V.length-A) ((M.V.drop A).take N):=by
  have hb:=h.2.2.2.1
  have hl:((M.V.drop A).take N).length=N:=by rw [List.length_take,List.length_drop];omega
  have z:=Nz hb A N (M.V.length-A) ω (by have:=h.1.2.2.2.2;omega) (by rw [List.length_map];exact hi)
  show Row w 1 _ ((M.V.drop A).take N).length _ _
  rw [hl,List.map_take,List.map_drop];exact z
section
variable {P:Program} {o:Oper} {ac:Act} {N:Nat} {l:List (Nat×Value)} {w:World}
theorem Vz (h:Kn N l ac) {x:Operand} (ho:o.op=.convert 60 9 x) {ad:Option Addr} {c:Nat} {X:List UInt8} (hx:opv l x=some (.slice ad X.length c)) (hO:BB w ad c X):(execOp ac.eval o).run Tryz.prog w=.ok (.value (σ X)) w:=by
  unfold execOp;rw [ho];simp only [h.op hx];exact Af (NF hO)
end
theorem SA {w:World} {cs:List Ch} {i j g c rg rv rd ra:Nat} {X:List UInt8} {M:MemM} (h:Sep w cs) (hij:i≠j) (hi:cs[i]? = some (Um g c X)) (hj:cs[j]? = some (AV rg rv rd ra M)) :
    ∀ k,(∃ off,(some ⟨g,0,none⟩:Option Addr)=some ⟨k,off,none⟩)→k≠rv∧k≠ra:=fun k hk=>by
  obtain ⟨off,e⟩:=hk
  cases e
  exact ⟨fun q=>h.ap i j _ _ hij hi hj g rfl (.inr (.inl q)),fun q=>h.ap i j _ _ hij hi hj g rfl (.inr (.inr (.inr q)))⟩
theorem Sn {w:World} {cs:List Ch} {i j n c rg rv rd ra:Nat} {a:Option Addr} {L:List Value} {M:MemM} (h:Sep w cs) (hij:i≠j) (hi:cs[i]? = some (Gb 0 5 1 a n c L)) (hj:cs[j]? = some (AV rg rv rd ra M)) :
    ∀ k,(∃ off,a=some ⟨k,off,none⟩)→k≠rv∧k≠ra:=fun k hk=>by
  obtain ⟨off,rfl⟩:=hk
  exact ⟨fun q=>h.ap i j _ _ hij hi hj k rfl (.inr (.inl q)),fun q=>h.ap i j _ _ hij hi hj k rfl (.inr (.inr (.inr q)))⟩
theorem Ww {w:World} {R:List Ch} {P:PkM} {a:Option Addr} {c:Nat} (hS:Sep w R) (hP:Be P) (hS7:shortP P) (hN:∀ s∈P.N,s.length≤1100000) (hn9:P.N.length≤1100000) (ha:Row w 1 a P.N.length c (P.N.map AS)) :
    CallsR Tryz.prog 40 #[.agg (pkC P a P.N.length c).toArray] w (fun v w'=>∃ ba bc,v=.tuple #[.slice ba (Jd P).length bc,ν (CV P)]∧Sep w' R):=
  Calls.mono (Nt hP hS7 hN hn9 ha) fun e w' ⟨ba,bc,e1,_,b⟩=>⟨_,e1,ba,bc,rfl,hS.mono b⟩
theorem Xi {n:Int} (h:0≤n):DK [] n 8=le 8 n.toNat:=by
  unfold DK
  rw [if_pos (by unfold AX;simp;exact h)];rfl
theorem Wv {w:World} {R:List Ch} {n:Int} (hS:Sep w R) (h0:0≤n) (hn:wfI n) :
    CallsR Tryz.prog 47 #[.slice none 0 0,ν n,ν 8] w (fun v w'=>∃ a c,v=.slice a (le 8 n.toNat).length c∧Sep w' (Gb 0 5 1 a (le 8 n.toNat).length c ((le 8 n.toNat).map Ap)::R)):=by
  have z:=Je none 0 [] n 8 w (Row.nil w 1) (by decide) (by unfold wfI at hn;omega)
  rw [Xi h0] at z
  exact Calls.mono z fun e w' ⟨a,c,e1,ho,b⟩=>⟨_,e1,a,c,rfl,hS.push b (c:=Gb 0 5 1 a _ c _) (Own.low ho (Nat.zero_le _)) fun k hk=>(World.ownsRow.lt ho k hk).1⟩
theorem Va {M:MemM} {at_:Int} (hi:inM M at_ 8=true):((Bp M.V at_ 8).getD 0:Nat)=BQ (Ay M.V at_ 8):=by
  obtain ⟨a,m,rfl,hm,h⟩:=ED hi
  obtain rfl:m=8:=ω
  have hl:=Jq (M:=M) rfl hi
  rw [NY (by rw [hl];rfl)]
  have e8:(Ay M.V (a:Int) 8).take 8=Ay M.V (a:Int) 8:=List.take_of_length_le (by rw [hl];exact Nat.le_refl _)
  have hlt:=Jy (Ay M.V (a:Int) 8)
  rw [hl] at hlt
  have hlt:BL (Ay M.V (a:Int) 8)<18446744073709551616:=hlt
  rw [e8]
  unfold Bp
  rw [if_pos ⟨rfl,ω,ω⟩]
  show (((if BL (Ay M.V (a:Int) 8)≤9223372036854775807 then some (BL (Ay M.V (a:Int) 8)) else none).getD 0:Nat):Int)=_
  split
  · rw [IntWalk.wrap64_in _ ω];show ((BL _:Nat):Int)=_;omega
  · unfold wrap64;show ((0:Nat):Int)=_;omega
theorem Wb {w:World} {R:List Ch} {rg rv rd ra:Nat} {M:MemM} {at_:Int} (hS:Sep w (AV rg rv rd ra M::R)) (hi:inM M at_ 8=true) :
    CallsR Tryz.prog 46 #[.slice (some ⟨rv,0,none⟩) M.V.length M.V.length,ν at_,ν 8] w (fun v w'=>∃ ok,v=.tuple #[ν (BQ (Ay M.V at_ 8)),.bool ok]∧Sep w' (AV rg rv rd ra M::R)):=by
  have hm:MemR w rg rv rd ra M:=hS.get 0 rfl
  have hr:=hm.seen (A:=0) (N:=M.V.length) ω
  rw [List.drop_zero,List.take_length,Nat.sub_zero] at hr
  refine Calls.mono (Qf _ _ M.V at_ 8 w hr (by have:=hm.1.2.2.2.2;omega) (by decide)) fun e w' ⟨e1,e2⟩=>?_
  subst e2
  exact ⟨_,e1,_,by unfold IB;rw [Va hi],hS⟩
section
variable {P:PkM} {M:MemM}
theorem Uz (h:Dn (P.I 1) (P.I 5) (((P.S 7).length:Nat):Int)=true):Ki P M=(CM M (P.I 5).toNat (P.S 7),0,[],0):=by
  unfold Dn at h
  have h1:=of_decide_eq_true (Bool.and_eq_true _ _ ▸ h).1
  unfold Ki;rw [if_pos ⟨fun q=>by rw [q] at h1;simp at h1,(Bool.and_eq_true _ _ ▸ h).2⟩]
theorem VH (h:Dn (P.I 1) (P.I 5) (((P.S 7).length:Nat):Int)=false):Ki P M=(M,35,[],0):=by
  unfold Ki;rw [if_neg]
  rintro ⟨q1,q2⟩
  unfold Dn at h
  rw [q2,Bool.and_true] at h
  have:=of_decide_eq_false h
  have:=List.length_pos_iff.2 q1
  omega
theorem Uy (h:Ka (P.I 1) (P.I 5) (P.I 6)=true):LW P M=(M,0,Ay M.V (P.I 5) (P.I 6),0):=by
  unfold Ka at h
  have h1:=of_decide_eq_true (Bool.and_eq_true _ _ ▸ h).1
  unfold LW;rw [if_pos ⟨ω,h1.2,by rw [Nl];exact (Bool.and_eq_true _ _ ▸ h).2⟩]
theorem VG (h0:0≤P.I 6) (h:Ka (P.I 1) (P.I 5) (P.I 6)=false):LW P M=(M,35,[],0):=by
  unfold LW;rw [if_neg]
  rintro ⟨q1,q2,q3⟩
  unfold Ka at h
  rw [← Nl,q3,Bool.and_true] at h
  have:=of_decide_eq_false h
  omega
theorem QN (h:Dn (P.I 1) (P.I 5) (P.I 6)=true):Fr P M=(Fj (En M (P.I 5).toNat (P.I 6).toNat),0,[],0):=by
  unfold Dn at h
  have h1:=of_decide_eq_true (Bool.and_eq_true _ _ ▸ h).1
  unfold Fr;rw [if_pos ⟨ω,(Bool.and_eq_true _ _ ▸ h).2⟩]
theorem SH (h0:0≤P.I 6) (h:Dn (P.I 1) (P.I 5) (P.I 6)=false):Fr P M=(M,35,[],0):=by
  unfold Fr;rw [if_neg]
  rintro ⟨q1,q2⟩
  unfold Dn at h
  rw [q2,Bool.and_true] at h
  have:=of_decide_eq_false h
  omega
theorem Xb {c t:Int}:Dn c t 8=CJ c t 8:=by unfold Dn;rfl
theorem Hx {c t n:Int} (h:Dn c t n=true):CJ c t n=true:=(Bool.and_eq_true _ _ ▸ (show (decide (0<n)&&CJ c t n)=true from h)).2
end
end
end Go.Proofs.YtjgajoljgepioaaGreat
