/- Parts of the proof. -/
import Derived.Shelf.Abstract
import Derived.BigRegion
import Derived.Laws.StructEq
import Derived.Lib.AppendZerosOnto
import Derived.Lib.AppendStr
import Derived.Deep.QuietTactic
import Derived.BigQuiet
import Derived.RowKit
import Derived.Laws.IdiomStrings
import Derived.Lib.BufferRead
import Derived.Test.YtpnknncmacjdkaaGreatDoorQab
namespace Go.Proofs.YtpnknncmacjdkaaGreatDoor
open Go.RowKit
open _root_.Go.Proofs.Tryz
set_option linter.unusedSimpArgs false
set_option linter.unusedVariables false
set_option linter.unusedSectionVars false
set_option maxRecDepth 100000
set_option maxHeartbeats 8000000
section
open Go.RowKit Go.Shelf
attribute [local go_sem] Oper.semAt_some
def MF (b:Bool) (A:List Bool) (pre:List Nat):List Bool:=pre.foldl (fun A k=>A.set k b) A
theorem We (b:Bool) (A:List Bool) (pre:List Nat) (x:Nat):MF b A (pre++[x])=(MF b A pre).set x b:=by simp [MF,List.foldl_append]
theorem MG (b:Bool):∀ (pre:List Nat) (A:List Bool),(MF b A pre).length=A.length
  | [],_=>rfl
  | x::r,A=>by
    show (MF b (A.set x b) r).length=_
    rw [MG b r,List.length_set]
theorem QP (b:Bool):∀ (pre:List Nat) (A:List Bool) (k:Nat),k<A.length→(MF b A pre).getD k false=if k∈pre then b else A.getD k false
  | [],A,k,_=>by simp [MF]
  | x::r,A,k,hk=>by
    show (MF b (A.set x b) r).getD k false=_
    rw [QP b r _ k (by simpa using hk)]
    by_cases h:k∈r
    · simp [h]
    · rw [if_neg h]
      by_cases e:k=x
      · subst e;simp [hk]
      · rw [if_neg (by simp [e,h])]
        simp only [List.getD_eq_getElem?_getD,List.getElem?_set]
        rw [if_neg (fun q=>e q.symm)]
theorem Turns.of_belowB {B:Nat} {X Y:World} (h:Below B X Y):Turns (fun k=>B≤k) X Y:=⟨h.os,h.tape,h.output,h.size,fun k _ hn=>h.block k ω⟩
theorem MemP.up {B:Nat} {X Y:World} {g v d p:Nat} {M:MemM} (h:MemP X g v d p M) (b:Below B X Y) (hg:g<B) (hv:v<B) (hd:d<B) (hp:p<B):MemP Y g v d p M:=h.turns (Turns.of_belowB b) ω ω ω ω
theorem Turns.up {Z:Nat→Prop} {B:Nat} {w X Y:World} (h:Turns Z w X) (b:Below B X Y) (hB:w.heap.size≤B):Turns Z w Y:=h.trans' (Turns.of_belowB b) (fun k hk q=>ω)
theorem MemP.setA {W W5:World} {g v d p:Nat} {V D:Λ} {A A':List Bool} (h:MemP W g v d p ⟨V,D,A⟩) (q:PendP W5 p A') (hl:A'.length=A.length) (t:Turns (fun k=>k=p) W W5):MemP W5 g v d p ⟨V,D,A'⟩:=by
  obtain ⟨_,h1,h2,h3,h4,h5,h6,h7,h8,h9⟩:=CQ h
  obtain ⟨⟨l1,l2,l3,l4,l5⟩,hne,hg,hv,hd,hp⟩:=h
  exact ⟨⟨l1,by show A'.length*8=V.length;rw [hl];exact l2,l3,l4,l5⟩,hne,t.blk hg (fun e=>h3 e.symm),t.blk hv (fun e=>h4 e.symm),t.blk hd (fun e=>h5 e.symm),q⟩
theorem Ada:(prog.info? 5).map (·.size)=some 1:=κ
def Iv (g v d p:Nat) (M:MemM) (at_:Int) (b:Λ) (w:World) (e:Ending) (w':World):Prop:=
  if inM M at_ b.length=true then e=.returned (ν 0)∧MemP w' g v d p (FQ M at_.toNat b)∧Turns (fun k=>k=v∨k=p) w w' else e=.returned (ν 1)∧Below w.heap.size w w'
theorem NY {w:World} {g v d p:Nat} {M:MemM} (h:MemP w g v d p M) (at_:Int) (ha:-9223372036854775808≤at_∧at_≤9223372036854775807) (a:Ω) (c:Nat) (b:Λ) (hr:RowB w a c b) :
    Calls prog 26 #[π g,ν at_,.slice a b.length c] w (Iv g v d p M at_ b w):=by
  have hbl:=Ce hr
  have hd:Fence.wide.depth=none:=rfl
  obtain ⟨w1,hw1⟩:∃ w1,w1=w.alloc (.cells #[π g] 23):=⟨_,rfl⟩
  have b1:Below w.heap.size w w1:=by rw [hw1];exact Ck w _
  have k1:Blk w1 w.heap.size 23 [π g]:=by rw [hw1];exact AN rfl _ _
  have s1:w1.heap.size=w.heap.size+1:=by rw [hw1];simp
  have m1:=h.mono b1
  have c1:w1.cell? ⟨w.heap.size,0,none⟩=some (π g):=k1.cell (i:=0) (by simp)
  obtain ⟨d0,d1,d2⟩:=m1.cells
  have HW:=IJ m1 at_ b.length ha ω
  by_cases hi:inM M at_ b.length=true
  · have hE:Iv g v d p M at_ b w=fun e w'=>e=.returned (ν 0)∧MemP w' g v d p (FQ M at_.toNat b)∧Turns (fun k=>k=v∨k=p) w w':=by
      funext e w';unfold Iv;rw [if_pos hi]
    rw [hE]
    rw [hi] at HW
    clear hE
    obtain ⟨a0,n0,rfl,hn0,hl⟩:=Ha hi
    obtain rfl:b.length=n0:=ω
    rw [show ((a0:Int)).toNat=a0 from rfl]
    obtain ⟨av,ag1,ag2,ap1,ap2,ap3,gl,vl,dl,pl⟩:=CQ h
    obtain ⟨hok,_,q3,q4,q5,q6⟩:=m1
    have hVl:M.V.length≤1048576:=hok.2.2.2.2
    have hAl:M.A.length*8=M.V.length:=hok.2.1
    have rb:=hr.mono b1
    obtain ⟨dp,hdp⟩:∃ dp,(if M.V.length=a0 then (some ⟨v,0,none⟩:Ω) else some ⟨v,a0,none⟩)=dp:=⟨_,rfl⟩
    have hdp2:0<min b.length (M.V.length-a0)→dp=some ⟨v,a0,none⟩:=fun q=>by rw [← hdp,if_neg ω]
    have hmin:min b.length (M.V.length-a0)=b.length:=ω
    have hfit:a0+min b.length (M.V.length-a0)≤(M.V.map Ad).length:=by rw [hmin,List.length_map];exact hl
    have f5:((a0:Int)≤(M.V.length:Int))=True:=eq_true ω
    have f6:(a0≤M.V.length)=True:=eq_true ω
    have hcp:∀ w3,Blk w3 v 5 (splice (M.V.map Ad) a0 ((b.map Ad).take (min b.length (M.V.length-a0))))→w1.grownBy w3 (some v)→MemP w3 g v d p ⟨splice M.V a0 b,M.D,M.A⟩∧Turns (fun k=>k=v) w w3∧Blk w3 w.heap.size 23 [π g]:=by
      intro w3 hb hg
      have t:Turns (fun k=>k=v) w1 w3:=Turns.of_grown hg rfl
      rw [hmin,List.take_of_length_le (by simp),← IC] at hb
      have hsl:(splice M.V a0 b).length=M.V.length:=length_splice _ _ _ hl
      refine ⟨⟨?_,av,?_,hb,t.blk q5 av.symm,t.pend q6 ap2⟩,(Turns.of_below b1).trans t,t.blk k1 ω⟩
      · obtain ⟨l1,l2,l3,l4,l5⟩:=hok
        exact ⟨l1.trans hsl.symm,l2.trans hsl.symm,by rw [hsl];exact l3,by rw [hsl];exact l4,by rw [hsl];exact l5⟩
      · have:=t.blk q3 ag1
        rw [← hsl] at this;exact this
    have HCP:=hid hcp;have HW:=hid HW;have HF:=hid hfit;have HD2:=hid hdp2;have Q4:=hid q4;have RB:=hid rb
    have ht:=fun X=>Hs a0 b.length 8 X
    simp only [show ((8:Nat):Int)=8 from rfl] at ht
    have HT:=hid ht;have HW1:=hid hw1
    clear hcp hfit hdp2 q3 q4 q5 q6 rb hi hr k1 ht hw1
    refine (callsIn_wide (n:=5)).1 ?_
    refine callsIn_of_wp_marks func26 rfl trivial ?_ rfl
    simp only [ntmps26,List.size_toArray,List.length_cons,List.length_nil,Nat.reduceAdd,Nat.reduceSub,Array.replicate_succ,Array.replicate_zero,List.push_toArray,List.append_toArray,List.nil_append,List.cons_append]
    gi_wp2_with (first
      | ((try refine ⟨trivial,?_⟩);gi_at_call 36;rw [← HW1.out];refine (callsIn_wide.2 HW.out).mono ?_;rintro e w2 ⟨rfl,rfl⟩)
      | ((with_reducible refine Wy rfl _ _ rfl υ22 Ada rfl rfl HD2.out Q4.out RB.out (CN b) HF.out ?_);intro w3 k3 g3;have C3:=hid (HCP.out w3 k3 g3);clear k3 g3)
      | ((try refine ⟨trivial,?_⟩);gi_at_call 65;refine (callsIn_wide.2 (HT.out _)).mono ?_;rintro e w4 ⟨rfl,k4,b4,s4⟩;have K4:=hid k4;have B4:=hid b4;have S4:=hid s4;clear k4 b4 s4))
    obtain ⟨m3,t3,x3⟩:=C3.out
    have l3:=t3.size
    have l4:=B4.out.size
    have hI:StabC w4.heap.size (fun (pre:List Nat) W=>Blk W w.heap.size 23 [π g]∧MemP W g v d p ⟨splice M.V a0 b,M.D,MF false M.A pre⟩∧CapT (w3.heap.size+1) w3.heap.size (w3.heap.size+1+1) a0 b.length 8 W∧Turns (fun k=>k=v∨k=p) w W):=by
      rintro pre X Y ⟨i1,i2,i3,i4⟩ bb
      have h4:=S4.out
      exact ⟨(bb.block _ ω).trans i1,i2.up bb ω ω ω ω,⟨(bb.block _ ω).trans i3.1,(bb.block _ ω).trans i3.2.1,(bb.block _ ω).trans i3.2.2⟩,i4.up bb ω⟩
    have hx4:=x3.mono B4.out
    have hm4:=m3.mono B4.out
    have ht4:Turns (fun k=>k=v∨k=p) w w4:=(t3.mono (fun _ q=>.inl q)).trans (Turns.of_below B4.out)
    refine FI rfl ω (gf:=96) rfl trivial (enters_of func96 κ rfl) (by simp) (val:=fun x:Nat=>ν (x:Int))
      (Ht (5-1) w4 a0 b.length 8 (.inl rfl) ω ω (w3.heap.size+1) w3.heap.size (w3.heap.size+1+1) _ (Nat.le_refl _)) (Below.refl _ _)
      _ (fun _ _ _=>False) hI (fun _ _ _ _ q _=>q) ⟨hx4,hm4,K4.out,ht4⟩ (fun _ _ q=>q.2.2.1) ?body ?done ?stop
    case body=>
      rintro l pre x W _ _ ⟨i1,i2,i3,i4⟩ hlt _ hsp
      have hxm:x∈Cm a0 b.length 8:=hsp.subset (by simp)
      have hxi:=(Em a0 b.length 8 x (.inl rfl)).1 hxm
      have hxl:x<M.A.length:=by have:=of_decide_eq_true hxi;omega
      have y0:W.cell? ⟨w.heap.size,0,none⟩=some (π g):=i1.cell (i:=0) (by simp)
      obtain ⟨_,_,y2⟩:=i2.cells
      have I1:=hid i1;have I2:=hid i2;have I3:=hid i3;have I4:=hid i4
      clear i1 i2 i3 i4 hsp hxm hxi
      simp only [List.setIfInBounds_toArray,List.set_cons_succ,List.set_cons_zero]
      gi_wp2_with (first | (gi_at_delete;refine Zp rfl _ _ rfl υ55 rfl rfl (by rw [MG];exact hxl) ω I2.out.2.2.2.2.2 ?_;intro w5 p5 g5;have P5:=hid p5;have G5:=hid g5;clear p5 g5))
      have t5:Turns (fun k=>k=p) W w5:=Turns.of_grown G5.out rfl
      refine ⟨KeepUp.of_grown G5.out ω,t5.blk I1.out ω,?_,⟨t5.blk I3.out.1 ω,t5.blk I3.out.2.1 ω,t5.blk I3.out.2.2 ω⟩,I4.out.trans (t5.mono (fun _ q=>.inr q))⟩
      rw [We]
      exact I2.out.setA P5.out (by simp) t5
    case done=>
      rintro D xs W hD rfl ⟨i1,i2,i3,i4⟩ hk
      have hst:(⟨splice M.V a0 b,M.D,MF false M.A (Cm a0 b.length 8)⟩:MemM)=FQ M a0 b:=by
        unfold FQ
        rw [Jv (L:=MF false M.A (Cm a0 b.length 8)) (MG _ _ _) (fun k hk=>?_)]
        rw [QP _ _ _ _ hk]
        by_cases q:inT a0 b.length 8 k=true
        · rw [if_pos ((Em _ _ _ _ (.inl rfl)).2 q),q];simp
        · rw [if_neg (fun z=>q ((Em _ _ _ _ (.inl rfl)).1 z))]
          rw [show inT a0 b.length 8 k=false by simpa using q];simp
      rw [hst] at i2
      have I2:=hid i2;have I4:=hid i4
      clear i1 i2 i3 i4 hst
      gi_wp2
      refine ⟨by simp,.inl ⟨_,_,rfl,run_takeDeferred hk,?_⟩⟩
      have hb:∀ o,Below w4.heap.size W (W.putObj D o):=fun o=>BE (Below.refl _ _) o hD
      exact ⟨_,results_tmp rfl _ _ _,rfl,I2.out.up (hb _) ω ω ω ω,I4.out.up (hb _) ω⟩
    case stop=>
      rintro D c pre W _ _ h _
      exact h.elim
  · have hE:Iv g v d p M at_ b w=fun e w'=>e=.returned (ν 1)∧Below w.heap.size w w':=by
      funext e w';unfold Iv;rw [if_neg hi]
    rw [hE]
    rw [show inM M at_ b.length=false by simpa using hi] at HW
    have HW:=hid HW
    clear hE hi h m1 hr
    go_enter func26,ntmps26
    go_wp2_with (first | (rw [← hw1];go_at_call 36;refine HW.out.mono ?_;rintro e w2 ⟨rfl,rfl⟩))
    go_ret
    exact ⟨rfl,by rw [← hw1];exact b1⟩
end
section
open Go.RowKit Go.Shelf
attribute [local go_sem] Oper.semAt_some
theorem SeqK.inRound {α:Type} {F:Fence} {n:Nat} {P:Program} {g:Nat} {lb:Array Value} {encs:α→Array Value} {S Sp:List α→Prop} {N:Nat} {w0:World} {Cs:World→Prop} (l:Nat) (h:SeqK F n P g lb encs S Sp N w0 Cs):SeqK (F.inRound l) n P g lb encs S Sp N w0 Cs:=h
theorem KeepUp.up {B Bi:Nat} {W0 X Y:World} (h:KeepUp B W0 X) (b:Below Bi X Y) (hB:W0.heap.size≤Bi):KeepUp B W0 Y:=⟨Nat.le_trans h.1 b.size,fun k h1 h2=>(b.block k ω).trans (h.2 k h1 h2)⟩
theorem CapT.up {Bn Ba Bs at_ m s B:Nat} {X Y:World} (h:CapT Bn Ba Bs at_ m s X) (b:Below B X Y) (h1:Bn<B) (h2:Ba<B) (h3:Bs<B):CapT Bn Ba Bs at_ m s Y:=⟨(b.block _ h1).trans h.1,(b.block _ h2).trans h.2.1,(b.block _ h3).trans h.2.2⟩
theorem CapT.turns {Bn Ba Bs at_ m s:Nat} {Z:Nat→Prop} {X Y:World} (h:CapT Bn Ba Bs at_ m s X) (t:Turns Z X Y) (h1:¬ Z Bn) (h2:¬ Z Ba) (h3:¬ Z Bs):CapT Bn Ba Bs at_ m s Y:=⟨t.blk h.1 h1,t.blk h.2.1 h2,t.blk h.2.2 h3⟩
theorem Qh (k line:Nat):k∈Cm (64*line) 64 8↔k / 8=line:=by
  rw [Em _ _ _ _ (.inl rfl)]
  unfold inT
  rw [decide_eq_true_eq]
  omega
def Agg (g v d p:Nat) (M:MemM) (line:Int) (w:World) (e:Ending) (w':World):Prop:=
  if 0≤line∧line<(M.V.length / 64:Nat) then e=.returned (ν 0)∧MemP w' g v d p (Ac4 M line.toNat)∧Turns (fun k=>k=d∨k=p) w w' else e=.returned (ν 1)∧Below w.heap.size w w'
attribute [local go_sem] Oper.semAt_some
def flT (M:MemM) (f:Nat→Bool):List Bool:=EF M.A.length fun k=>M.A.getD k false||(f k&&DN M.V M.D k)
theorem Ox (M:MemM) (f:Nat→Bool):(flT M f).length=M.A.length:=Fs _ _
theorem Xt (M:MemM):flT M (fun _=>false)=M.A:=by
  unfold flT
  rw [Fr (g:=fun k=>M.A.getD k false) (fun k _=>by simp),Wp]
theorem FZ {M:MemM} {f f':Nat→Bool} (h:∀ k,k<M.A.length→f k=f' k):flT M f=flT M f':=Fr fun k hk=>by rw [h k hk]
theorem ZW (M:MemM) (f:Nat→Bool) (x:Nat) (hd:DN M.V M.D x=true):(flT M f).set x true=flT M fun k=>f k||k == x:=by
  unfold flT
  rw [Zf]
  refine Fr fun k hk=>?_
  by_cases e:k=x
  · subst e;rw [if_pos rfl,hd];simp
  · rw [if_neg e];show _=(_||(f k||k == x)&&_);rw [show (k == x)=false from by simpa using e,Bool.or_false]
theorem ZV (M:MemM) (f:Nat→Bool) (x:Nat) (hd:DN M.V M.D x=false):flT M f=flT M fun k=>f k||k == x:=by
  unfold flT
  refine Fr fun k hk=>?_
  by_cases e:k=x
  · subst e;rw [hd];simp
  · show _=(_||(f k||k == x)&&_);rw [show (k == x)=false from by simpa using e,Bool.or_false]
theorem RZ (M:MemM) (at_ n:Nat):JV M at_ n=⟨M.V,M.D,flT M fun k=>decide (k / 8∈Cm at_ n 64)⟩:=by
  unfold JV flT
  rw [Fr fun k hk=>?_]
  have:inT at_ n 64 (k / 8)=decide (k / 8∈Cm at_ n 64):=by
    rw [Bool.eq_iff_iff,decide_eq_true_eq];exact (Em _ _ _ _ (.inr rfl)).symm
  rw [this]
def It (g v d p:Nat) (M:MemM) (at_ n:Int) (w:World) (e:Ending) (w':World):Prop:=
  if inM M at_ n=true then e=.returned (ν 0)∧MemP w' g v d p (JV M at_.toNat n.toNat)∧Turns (fun k=>k=p) w w' else e=.returned (ν 1)∧Below w.heap.size w w'
theorem Nu {w:World} {g v d p:Nat} {M:MemM} (h:MemP w g v d p M) (at_ n:Int) (ha:-9223372036854775808≤at_∧at_≤9223372036854775807) (hn:-9223372036854775808≤n∧n≤9223372036854775807) :
    Calls prog 27 #[π g,ν at_,ν n] w (It g v d p M at_ n w):=by
  have hd:Fence.wide.depth=none:=rfl
  obtain ⟨w1,hw1⟩:∃ w1,w1=w.alloc (.cells #[π g] 23):=⟨_,rfl⟩
  have b1:Below w.heap.size w w1:=by rw [hw1];exact Ck w _
  have k1:Blk w1 w.heap.size 23 [π g]:=by rw [hw1];exact AN rfl _ _
  have s1:w1.heap.size=w.heap.size+1:=by rw [hw1];simp
  have m1:=h.mono b1
  have c1:w1.cell? ⟨w.heap.size,0,none⟩=some (π g):=k1.cell (i:=0) (by simp)
  have HW:=IJ m1 at_ n ha hn
  have HW1:=hid hw1
  by_cases hi:inM M at_ n=true
  · have hE:It g v d p M at_ n w=fun e w'=>e=.returned (ν 0)∧MemP w' g v d p (JV M at_.toNat n.toNat)∧Turns (fun k=>k=p) w w':=by
      funext e w';unfold It;rw [if_pos hi]
    rw [hE]
    rw [hi] at HW
    clear hE
    obtain ⟨a0,n0,rfl,rfl,hl⟩:=Ha hi
    rw [show ((a0:Int)).toNat=a0 from rfl,show ((n0:Int)).toNat=n0 from rfl]
    obtain ⟨av,ag1,ag2,ap1,ap2,ap3,gl,vl,dl,pl⟩:=CQ h
    have hVl:M.V.length≤1048576:=m1.1.2.2.2.2
    have hAl:M.A.length*8=M.V.length:=m1.1.2.1
    have hV64:M.V.length % 64=0:=m1.1.2.2.1
    have ht:=fun X=>Hs a0 n0 64 X
    simp only [show ((64:Nat):Int)=64 from rfl] at ht
    have HT:=hid ht
    have HWI:=hid HW
    have M1:=hid m1;have K1:=hid k1;have S1:=hid s1
    clear HW ht m1 k1 s1 hw1 hi
    refine (callsIn_wide (n:=8)).1 ?_
    refine callsIn_of_wp_marks func27 rfl trivial ?_ rfl
    simp only [ntmps27,List.size_toArray,List.length_cons,List.length_nil,Nat.reduceAdd,Nat.reduceSub,Array.replicate_succ,Array.replicate_zero,List.push_toArray,List.append_toArray,List.nil_append,List.cons_append]
    gi_wp2_with (first
      | ((try refine ⟨trivial,?_⟩);gi_at_call 36;rw [← HW1.out];refine (callsIn_wide.2 HWI.out).mono ?_;rintro e w2 ⟨rfl,rfl⟩)
      | ((try refine ⟨trivial,?_⟩);gi_at_call 65;refine (callsIn_wide.2 (HT.out _)).mono ?_;rintro e w4 ⟨rfl,k4,b4,s4⟩;have K4:=hid k4;have B4:=hid b4;have S4:=hid s4;clear k4 b4 s4))
    have s1:=S1.out
    have l4:=B4.out.size
    have h4:=S4.out
    have hI:StabC w4.heap.size (fun (pre:List Nat) W=>Blk W w.heap.size 23 [π g]∧MemP W g v d p ⟨M.V,M.D,flT M fun k=>decide (k / 8∈pre)⟩∧CapT (w1.heap.size+1) w1.heap.size (w1.heap.size+1+1) a0 n0 64 W∧Turns (fun k=>k=p) w W):=by
      rintro pre X Y ⟨i1,i2,i3,i4⟩ bb
      exact ⟨(bb.block _ ω).trans i1,i2.up bb ω ω ω ω,i3.up bb ω ω ω,i4.up bb ω⟩
    have hx4:=K1.out.mono B4.out
    have hm4:=M1.out.mono B4.out
    have ht4:Turns (fun k=>k=p) w w4:=(Turns.of_below b1).trans (Turns.of_below B4.out)
    have hz:(⟨M.V,M.D,flT M fun k=>decide (k / 8∈([]:List Nat))⟩:MemM)=M:=by
      rw [FZ (f':=fun _=>false) (fun k _=>by simp),Xt]
    refine FI rfl ω (gf:=96) rfl trivial (enters_of func96 κ rfl) (by simp) (val:=fun x:Nat=>ν (x:Int))
      (Ht (8-1) w4 a0 n0 64 (.inr rfl) ω ω (w1.heap.size+1) w1.heap.size (w1.heap.size+1+1) _ (Nat.le_refl _)) (Below.refl _ _)
      _ (fun _ _ _=>False) hI (fun _ _ _ _ q _=>q) ⟨hx4,by rw [hz];exact hm4,K4.out,ht4⟩ (fun _ _ q=>q.2.2.1) ?body ?done ?stop
    case body=>
      rintro l pre ln W hlb hlr ⟨i1,i2,i3,i4⟩ hlt _ hsp
      have hlm:ln∈Cm a0 n0 64:=hsp.subset (by simp)
      have hln:=of_decide_eq_true ((Em a0 n0 64 ln (.inr rfl)).1 hlm)
      have hle:ln≤16384:=ω
      have hlA:∀ k,k / 8=ln→k<M.A.length:=fun k hk=>ω
      have HLA:=hid hlA
      have HCO:=hid (fun X=>Px ln ω X)
      have I1:=hid i1;have I2:=hid i2;have I3:=hid i3;have I4:=hid i4;have HLR:=hid hlr
      clear i1 i2 i3 i4 hsp hlm hln hlr hlA s1 h4
      simp only [List.setIfInBounds_toArray,List.set_cons_succ,List.set_cons_zero]
      gi_wp2_with (first
        | ((try refine ⟨trivial,?_⟩);gi_at_call 66;refine (CallsIn.inRound l (callsIn_wide.2 (HCO.out _))).mono ?_;rintro e w5 ⟨rfl,k5,b5,s5⟩;have K5:=hid k5;have B5:=hid b5;have S5:=hid s5;clear k5 b5 s5))
      obtain ⟨r,hr⟩:=HLR.out
      have hlW:l<W.heap.size:=(Array.getElem?_eq_some_iff.1 hr).1
      have hr5:w5.heap[l]? = some (.loop r):=(B5.out.block l hlW).trans hr
      have l5:=B5.out.size
      have h5:=S5.out
      have hI5:StabC w5.heap.size (fun (q:List Nat) Z=>Blk Z w.heap.size 23 [π g]∧MemP Z g v d p ⟨M.V,M.D,flT M fun k=>decide (k / 8∈pre)||decide (k∈q)⟩∧CapT (w1.heap.size+1) w1.heap.size (w1.heap.size+1+1) a0 n0 64 Z∧CapT (W.heap.size+1) W.heap.size (W.heap.size+1+1) (64*ln) 64 8 Z∧Turns (fun k=>k=p) w Z∧KeepUp w4.heap.size W Z):=by
        have s1:=S1.out
        have h4:=S4.out
        rintro q X Y ⟨j1,j2,j3,j3',j4,j5⟩ bb
        exact ⟨(bb.block _ ω).trans j1,j2.up bb ω ω ω ω,j3.up bb ω ω ω,j3'.up bb ω ω ω,j4.up bb ω,j5.up bb ω⟩
      have hz5:(⟨M.V,M.D,flT M fun k=>decide (k / 8∈pre)||decide (k∈([]:List Nat))⟩:MemM)=⟨M.V,M.D,flT M fun k=>decide (k / 8∈pre)⟩:=by
        rw [FZ (f':=fun k=>decide (k / 8∈pre)) (fun k _=>by simp)]
      refine IK (l₀:=l) (r₀:=r) rfl hr5 ω (gf:=96) rfl trivial (enters_of func96 κ rfl) (by simp) (val:=fun x:Nat=>ν (x:Int))
        (SeqK.inRound l (Ht (8-1-1-1) w5 (64*ln) 64 8 (.inl rfl) ω ω (W.heap.size+1) W.heap.size (W.heap.size+1+1) _ (Nat.le_refl _))) (Below.refl _ _)
        _ (fun _ _ _=>False) hI5 (fun _ _ _ _ q _=>q)
        ⟨I1.out.mono B5.out,by rw [hz5];exact I2.out.mono B5.out,I3.out.mono B5.out,K5.out,I4.out.trans (Turns.of_below B5.out),(KeepUp.refl _ _).trans (KeepUp.of_below B5.out)⟩ (fun _ _ q=>q.2.2.2.1) ?body2 ?done2 ?stop2
      case body2=>
        rintro l2 q x Z _ _ ⟨j1,j2,j3,j3',j4,j5⟩ hlt2 _ hsp2
        have hxm:x∈Cm (64*ln) 64 8:=hsp2.subset (by simp)
        have hxl:x<M.A.length:=HLA.out x ((Qh x ln).1 hxm)
        have y0:Z.cell? ⟨w.heap.size,0,none⟩=some (π g):=j1.cell (i:=0) (by simp)
        have HD:=hid (US j2 x (by show x<(flT M _).length;rw [Ox];exact hxl))
        have J1:=hid j1;have J2:=hid j2;have J3:=hid j3;have J3':=hid j3';have J4:=hid j4;have J5:=hid j5
        clear j1 j2 j3 j3' j4 j5 hsp2 hxm h5
        simp only [List.setIfInBounds_toArray,List.set_cons_succ,List.set_cons_zero]
        by_cases hdx:DN M.V M.D x=true
        · have HDX:=hid hdx
          have hD2:=HD.out
          rw [show DN (⟨M.V,M.D,flT M fun k=>decide (k / 8∈pre)||decide (k∈q)⟩:MemM).V (⟨M.V,M.D,flT M fun k=>decide (k / 8∈pre)||decide (k∈q)⟩:MemM).D x=true from hdx] at hD2
          have HD2:=hid hD2
          clear hD2 HD hdx
          gi_wp2_with (first
            | ((try refine ⟨trivial,?_⟩);gi_at_call 67;refine (CallsIn.inRound l2 (CallsIn.inRound l (callsIn_wide.2 HD2.out))).mono ?_;rintro e w7 ⟨rfl,b7⟩;have x0:w7.cell? ⟨w.heap.size,0,none⟩=some (.pointer (some ⟨g,0,none⟩)):=(J1.out.mono b7).cell (i:=0) (by simp);have M7:=hid (J2.out.mono b7);have x2:=M7.out.cells.2.2;have B7:=hid b7;clear b7)
            | (gi_at_mapUpdate;refine Zq rfl _ _ _ rfl υ55 rfl rfl rfl (by rw [Ox];exact hxl) ω (by rw [Ox];omega) M7.out.2.2.2.2.2 ?_;intro w8 p8 g8;have P8:=hid p8;have G8:=hid g8;clear p8 g8))
          have t8:Turns (fun k=>k=p) w7 w8:=Turns.of_grown G8.out rfl
          have t78:Turns (fun k=>k=p) Z w8:=(Turns.of_below B7.out).trans t8
          have s1:=S1.out;have h4:=S4.out;have h5:=S5.out
          refine ⟨t78.keepUp ω,t78.blk J1.out ω,?_,J3.out.turns t78 ω ω ω,J3'.out.turns t78 ω ω ω,J4.out.trans t78,J5.out.trans ((t78.keepUp ω))⟩
          have:=M7.out.setA P8.out (by simp) t8
          rw [ZW _ _ _ HDX.out] at this
          rw [FZ (f':=fun k=>(decide (k / 8∈pre)||decide (k∈q))||k == x) (fun k _=>by rw [Bool.eq_iff_iff];simp [or_assoc])]
          exact this
        · have hdx':DN M.V M.D x=false:=by simpa using hdx
          have HDX:=hid hdx'
          have hD2:=HD.out
          rw [show DN (⟨M.V,M.D,flT M fun k=>decide (k / 8∈pre)||decide (k∈q)⟩:MemM).V (⟨M.V,M.D,flT M fun k=>decide (k / 8∈pre)||decide (k∈q)⟩:MemM).D x=false from hdx'] at hD2
          have HD2:=hid hD2
          clear hD2 HD hdx hdx'
          gi_wp2_with (first
            | ((try refine ⟨trivial,?_⟩);gi_at_call 67;refine (CallsIn.inRound l2 (CallsIn.inRound l (callsIn_wide.2 HD2.out))).mono ?_;rintro e w7 ⟨rfl,b7⟩;have M7:=hid (J2.out.mono b7);have B7:=hid b7;clear b7))
          have t78:Turns (fun k=>k=p) Z w7:=Turns.of_below B7.out
          have s1:=S1.out;have h4:=S4.out;have h5:=S5.out
          refine ⟨t78.keepUp ω,t78.blk J1.out ω,?_,J3.out.turns t78 ω ω ω,J3'.out.turns t78 ω ω ω,J4.out.trans t78,J5.out.trans ((t78.keepUp ω))⟩
          have:=M7.out
          rw [ZV _ _ _ HDX.out] at this
          rw [FZ (f':=fun k=>(decide (k / 8∈pre)||decide (k∈q))||k == x) (fun k _=>by rw [Bool.eq_iff_iff];simp [or_assoc])]
          exact this
      case done2=>
        rintro xs Z rfl ⟨j1,j2,j3,j3',j4,j5⟩
        rw [FZ (f':=fun k=>decide (k / 8∈pre++[ln])) (fun k _=>by rw [Bool.eq_iff_iff];simp [Qh])] at j2
        gi_wp2
        exact ⟨j5,j1,j2,j3,j4⟩
      case stop2=>
        rintro c q Z _ h
        exact h.elim
    case done=>
      rintro D xs W hD rfl ⟨i1,i2,i3,i4⟩ hk
      rw [← RZ] at i2
      have I2:=hid i2;have I4:=hid i4
      clear i1 i2 i3 i4
      gi_wp2
      refine ⟨by simp,.inl ⟨_,_,rfl,run_takeDeferred hk,?_⟩⟩
      have hb:∀ o,Below w4.heap.size W (W.putObj D o):=fun o=>BE (Below.refl _ _) o hD
      exact ⟨_,results_tmp rfl _ _ _,rfl,I2.out.up (hb _) ω ω ω ω,I4.out.up (hb _) ω⟩
    case stop=>
      rintro D c pre W _ _ h _
      exact h.elim
  · have hE:It g v d p M at_ n w=fun e w'=>e=.returned (ν 1)∧Below w.heap.size w w':=by
      funext e w';unfold It;rw [if_neg hi]
    rw [hE]
    rw [show inM M at_ n=false by simpa using hi] at HW
    have HW:=hid HW
    clear hE hi h m1 hw1 s1
    go_enter func27,ntmps27
    go_wp2_with (first | (go_at_call 36;rw [← HW1.out];refine HW.out.mono ?_;rintro e w2 ⟨rfl,rfl⟩))
    go_ret
    exact ⟨rfl,b1⟩
end
section
def Ahl (b:Bool):Value:=.bool b
end
section
end
section
end
section
attribute [local go_sem] Oper.semAt_some
def CL (kd T sz:Int) (c:Nat):List PartT:=(List.range c).map fun (j:Nat)=>⟨kd,(j:Int)+1,T+(j:Int)*sz,sz⟩
theorem Fc (kd T sz:Int) (c:Nat):CL kd T sz (c+1)=CL kd T sz c++[⟨kd,(c:Int)+1,T+(c:Int)*sz,sz⟩]:=by
  unfold CL;rw [List.range_succ,List.map_append];rfl
theorem DV (kd T sz:Int) (c:Nat):(CL kd T sz c).length=c:=by simp [CL]
theorem Ez (kd T sz:Int) {a c:Nat} (h:a≤c):CL kd T sz a <+: CL kd T sz c:=by
  obtain ⟨d,rfl⟩:∃ d,c=a+d:=⟨c-a,ω⟩
  unfold CL
  rw [List.range_add,List.map_append]
  exact List.prefix_append _ _
theorem Aec (F:Fence) (hd:F.depth=none) (hF:F.fn 106) (hF2:F.fn 107) (hro:F.round=none) (l B N A Y V:Nat) (Sp:List PartT→Prop) (J Jx:List PartT→World→Prop) (hJ:StabC B J) (hY:Oh F l B N Sp J Jx) (hA:B≤A) (hB:B≤Y) (hV:B≤V) (hne:Y≠A) (hneV:V≠A)
    (n:Nat) (pre:List PartT) (kd T sz:Int) (c:Nat) (W:World) (hAc:Blk W A 3 [ν T]) (hYc:Blk W Y 168 [.func (.yield l) #[] #[]])
    (hVc:Blk W V 169 [.func (.func 106) #[] #[π A,π Y]]) (h0:J pre W) (hlen:pre.length+c≤N) (hsp:∀ j,j<c→Sp (pre++CL kd T sz j++[⟨kd,(j:Int)+1,T+(j:Int)*sz,sz⟩]))
    (hT:0≤T) (hTc:T+(c:Int)*sz≤1000000000) (hs:0≤sz) (hs2:sz≤1000000000) (hc:c≤1000) :
    CallsIn F n prog 107 #[ν kd,ν c,ν sz,π V] W fun e W'=>
      (e=.returned (.bool true)∧J (pre++CL kd T sz c) W'∧Blk W' A 3 [ν (T+(c:Int)*sz)]∧KeepBut B A W W')∨(e=.returned (.bool false)∧∃ q,q <+: CL kd T sz c∧Jx (pre++q) W'):=by
  have hdd:∀ k:Nat,(F.depth.isSome=true→1≤k):=fun k h=>by rw [hd] at h;cases h
  have HJ:=hid hJ;have HY:=hid hY;have H0:=hid h0;have HAC:=hid hAc;have HYC:=hid hYc;have HVC:=hid hVc
  have HSP:=hid hsp
  clear hJ hY h0 hAc hYc hVc hsp
  refine callsIn_of_wp func107 rfl hF2 ?_ hro
  simp only [ntmps107,List.size_toArray,List.length_cons,List.length_nil,Nat.reduceAdd,Nat.reduceSub,Array.replicate_succ,Array.replicate_zero,List.push_toArray,List.append_toArray,List.nil_append,List.cons_append]
  gi_wp2
  gi_loopw [8,10] (fun _ i wr=>∃ (j:Nat) (U:Int),j≤c∧i=ν j∧U=T+(j:Int)*sz∧J (pre++CL kd T sz j) wr∧Blk wr A 3 [ν U]∧KeepBut B A W wr) (fun _ i _=>c-(intOf i).toNat)
  case atStart=>exact ⟨0,T,ω,rfl,by simp,by simpa [CL] using H0.out,HAC.out,KeepBut.refl _ _ _⟩
  case round=>
    obtain ⟨j,U,hj,rfl,hU,hJw,hAw,hKw⟩:=hrel
    have HU:=hid hU;have HJW:=hid hJw;have HAW:=hid hAw;have HKW:=hid hKw
    by_cases hjc:j<c
    · have hm:(j:Int)*sz≤(c:Int)*sz:=Int.mul_le_mul_of_nonneg_right ω hs
      have hm0:0≤(j:Int)*sz:=Int.mul_nonneg ω hs
      have hU0:0≤U:=ω
      have hU2:U≤1000000000:=ω
      have v0:wr.cell? ⟨V,0,none⟩=some (.func (.func 106) #[] #[π A,π Y]):=(hKw.blk hV hneV HVC.out).cell (i:=0) (by simp)
      have hv:=Rl F hd hF hro l B N A Y Sp J Jx HJ.out HY.out hA hB hne (n-1) (pre++CL kd T sz j) kd ((j:Int)+1) U sz wr hAw (hKw.blk hB hne HYC.out) hJw (by rw [List.length_append,DV];omega) (by rw [hU];exact HSP.out j hjc) hU0 hU2 hs hs2
      have hv':=hid hv
      have dj:decide ((j:Int)<(c:Int))=true:=decide_eq_true ω
      have ij:(j:Int)<(c:Int):=ω
      clear hU hJw hAw hKw hm hm0 hv
      gi_wp2_with ((try refine ⟨hdd _,?_⟩);gi_at_call 106;refine hv'.out.mono ?_;clear hv';rintro e W1 (⟨rfl,hJ1,hA1,hK1⟩ | ⟨rfl,hx1⟩);have HJ1:=hid hJ1;have HA1:=hid hA1;have HK1:=hid hK1;clear hJ1 hA1 hK1)
      · go_roundw
        case rel=>exact ⟨j+1,U+sz,ω,by go_num,by rw [HU.out];simp only [Int.natCast_add,Int.add_mul];omega,by rw [Fc,← List.append_assoc,← HU.out];exact HJ1.out,HA1.out,HKW.out.trans HK1.out⟩
        case measure=>simp [intOf];omega
      · go_ret
        refine .inr ⟨rfl,CL kd T sz (j+1),Ez _ _ _ ω,?_⟩
        rw [Fc,← List.append_assoc,← HU.out]
        exact hx1
    · obtain rfl:j=c:=ω
      clear hU hJw hAw hKw
      gi_wp2
      go_ret
      exact .inl ⟨rfl,HJW.out,by rw [← HU.out];exact HAW.out,HKW.out⟩
end
section
attribute [local go_sem] Oper.semAt_some
def Bq:List PartT:=[]++[⟨1,0,0,64⟩]++CL 2 64 64 8++[⟨3,0,576,64⟩]++CL 4 640 64 32++[⟨5,0,2688,4096⟩]++CL 6 6784 1024 8++CL 7 14976 64 128
theorem Do {F:Fence} {p:Prop} (h:p):(∀ f,(none:Option FuncId)=some f→F.fn f)∧p:=⟨fun _ h=>(by cases h),h⟩
theorem NI (F:Fence) (hd:F.depth=none) (hF0:F.fn 80) (hF:F.fn 106) (hF2:F.fn 107) (hro:F.round=none) (n:Nat) (w0:World) :
    Aco F n prog 80 #[] (fun p:PartT=>#[Mf p]) (fun xs=>xs=Bq) (fun q=>q <+: Bq) 179 w0:=by
  intro l J Jx W hW hJ hJx hY0 h0
  have hdd:∀ k:Nat,(F.depth.isSome=true→1≤k):=fun k h=>by rw [hd] at h;cases h
  have hY:Oh F l W.heap.size 179 (fun q=>q <+: Bq) J Jx:=fun m pre x W1 a b c=>GE hd m (hY0 pre x W1 a b c)
  have b0:Below W.heap.size W (((W.alloc (.cells #[.func (.yield l) #[] #[]] 168)).alloc (.cells #[ν 0] 3)).alloc (.cells #[.func (.func 106) #[] #[π (W.heap.size+1),π W.heap.size]] 169)):=((((Below.refl _ W).alloc (Nat.le_refl _) _).alloc (by simp) _).alloc (by simp;omega) _)
  have hJ0:J [] (((W.alloc (.cells #[.func (.yield l) #[] #[]] 168)).alloc (.cells #[ν 0] 3)).alloc (.cells #[.func (.func 106) #[] #[π (W.heap.size+1),π W.heap.size]] 169)):=hJ _ _ _ h0 b0
  have hYc:Blk (((W.alloc (.cells #[.func (.yield l) #[] #[]] 168)).alloc (.cells #[ν 0] 3)).alloc (.cells #[.func (.func 106) #[] #[π (W.heap.size+1),π W.heap.size]] 169)) W.heap.size 168 [.func (.yield l) #[] #[]]:=(Blk.mono (w:=(W.alloc (.cells #[.func (.yield l) #[] #[]] 168))) (heap_alloc_new W _) ((((Below.refl _ _).alloc (Nat.le_refl _) _).alloc (by simp) _)))
  have hAc:Blk (((W.alloc (.cells #[.func (.yield l) #[] #[]] 168)).alloc (.cells #[ν 0] 3)).alloc (.cells #[.func (.func 106) #[] #[π (W.heap.size+1),π W.heap.size]] 169)) (W.heap.size+1) 3 [ν 0]:=by
    have q:Blk ((W.alloc (.cells #[.func (.yield l) #[] #[]] 168)).alloc (.cells #[ν 0] 3)) (W.heap.size+1) 3 [ν 0]:=by
      have q:=heap_alloc_new (W.alloc (.cells #[.func (.yield l) #[] #[]] 168)) (.cells #[ν 0] 3)
      rw [show ((W.alloc (.cells #[.func (.yield l) #[] #[]] 168))).heap.size=W.heap.size+1 from by simp] at q;exact q
    exact q.mono ((Below.refl _ _).alloc (Nat.le_refl _) _)
  have hVc:Blk (((W.alloc (.cells #[.func (.yield l) #[] #[]] 168)).alloc (.cells #[ν 0] 3)).alloc (.cells #[.func (.func 106) #[] #[π (W.heap.size+1),π W.heap.size]] 169)) (W.heap.size+1+1) 169 [.func (.func 106) #[] #[π (W.heap.size+1),π W.heap.size]]:=by
    have q:=heap_alloc_new ((W.alloc (.cells #[.func (.yield l) #[] #[]] 168)).alloc (.cells #[ν 0] 3)) (.cells #[.func (.func 106) #[] #[π (W.heap.size+1),π W.heap.size]] 169)
    rw [show (((W.alloc (.cells #[.func (.yield l) #[] #[]] 168)).alloc (.cells #[ν 0] 3))).heap.size=W.heap.size+1+1 from by simp] at q;exact q
  have HJ:=hid hJ;have HY:=hid hY;have HJ0:=hid hJ0;have HYC:=hid hYc;have HA0:=hid hAc;have HVC:=hid hVc
  have v0:((((W.alloc (.cells #[.func (.yield l) #[] #[]] 168)).alloc (.cells #[ν 0] 3)).alloc (.cells #[.func (.func 106) #[] #[π (W.heap.size+1),π W.heap.size]] 169))).cell? ⟨W.heap.size+1+1,0,none⟩=some (.func (.func 106) #[] #[π (W.heap.size+1),π W.heap.size]):=hVc.cell (i:=0) (by simp)
  have HV:=hid (Rl F hd hF hro l W.heap.size 179 (W.heap.size+1) W.heap.size (fun q=>q <+: Bq) J Jx hJ hY ω ω ω)
  have HR:=hid (Aec F hd hF hF2 hro l W.heap.size 179 (W.heap.size+1) W.heap.size (W.heap.size+1+1) (fun q=>q <+: Bq) J Jx hJ hY ω ω ω ω ω)
  have hl:∀ (kd T sz:Int) (c:Nat),(CL kd T sz c).length=c:=DV
  clear hJ hY hJ0 hYc hAc hVc h0 hY0 hW b0
  have HL:=hid hl;clear hl
  refine callsIn_of_wp func80 rfl hF0 ?_ hro
  simp only [ntmps80,List.size_toArray,List.length_cons,List.length_nil,Nat.reduceAdd,Nat.reduceSub,Array.replicate_succ,Array.replicate_zero,List.push_toArray,List.append_toArray,List.nil_append,List.cons_append]
  gi_wp2
  have hc:=HV.out (n-1) ([]) 1 0 0 64 _ HA0.out HYC.out HJ0.out (by simp [DV]) (by unfold Bq;exact (List.prefix_append _ _).trans ((List.prefix_append _ _).trans ((List.prefix_append _ _).trans ((List.prefix_append _ _).trans ((List.prefix_append _ _).trans ((List.prefix_append _ _).trans (List.prefix_refl _))))))) ω ω ω ω
  have HC:=hid hc
  clear hc
  refine HC.out.mono ?_
  rintro e W1 (⟨rfl,hJ,hA,hK⟩ | ⟨rfl,hx⟩)
  rotate_left
  · clear HC
    have HX:=hid hx
    clear hx
    gi_wp2
    refine Do ?_
    gi_wp2
    refine Do ?_
    gi_wp2
    refine Do ?_
    gi_wp2
    refine Do ?_
    gi_wp2
    refine Do ?_
    gi_wp2
    refine Do ?_
    gi_wp2
    go_end0
    have hx:=HX.out
    exact ⟨⟨_,rfl⟩,.inr ⟨[]++[⟨1,0,0,64⟩],by unfold Bq;exact (List.prefix_append _ _).trans ((List.prefix_append _ _).trans ((List.prefix_append _ _).trans ((List.prefix_append _ _).trans ((List.prefix_append _ _).trans ((List.prefix_append _ _).trans (List.prefix_refl _)))))),hx⟩⟩
  clear HC
  have HA1:Hid (Blk W1 (W.heap.size+1) 3 [ν 64]):=hA
  have HJ1:=hid hJ
  have HYC1:=hid (hK.blk (Nat.le_refl _) ω HYC.out)
  have HVC1:=hid (hK.blk ω ω HVC.out)
  have v1:W1.cell? ⟨W.heap.size+1+1,0,none⟩=some (.func (.func 106) #[] #[π (W.heap.size+1),π W.heap.size]):=HVC1.out.cell (i:=0) (by simp)
  clear hJ hA hK
  gi_wp2
  have hc:=HR.out (n-1) ([]++[⟨1,0,0,64⟩]) 2 64 64 8 _ HA1.out HYC1.out HVC1.out HJ1.out (by simp [DV]) (fun j hj=>(by rw [List.append_assoc,← Fc];exact ((List.prefix_append_right_inj _).2 (Ez _ _ _ (Nat.succ_le_of_lt hj))).trans (by unfold Bq;exact (List.prefix_append _ _).trans ((List.prefix_append _ _).trans ((List.prefix_append _ _).trans ((List.prefix_append _ _).trans ((List.prefix_append _ _).trans (List.prefix_refl _)))))))) ω ω ω ω ω
  rw [show ((8:Nat):Int)=8 from rfl] at hc
  have HC:=hid hc
  clear hc
  refine HC.out.mono ?_
  rintro e W2 (⟨rfl,hJ,hA,hK⟩ | ⟨rfl,q,hq,hx⟩)
  rotate_left
  · clear HC
    have HX:=hid hx
    clear hx
    gi_wp2
    refine Do ?_
    gi_wp2
    refine Do ?_
    gi_wp2
    refine Do ?_
    gi_wp2
    refine Do ?_
    gi_wp2
    refine Do ?_
    gi_wp2
    go_end0
    have hx:=HX.out
    exact ⟨⟨_,rfl⟩,.inr ⟨([]++[⟨1,0,0,64⟩])++q,((List.prefix_append_right_inj _).2 hq).trans (by unfold Bq;exact (List.prefix_append _ _).trans ((List.prefix_append _ _).trans ((List.prefix_append _ _).trans ((List.prefix_append _ _).trans ((List.prefix_append _ _).trans (List.prefix_refl _)))))),hx⟩⟩
  clear HC
  have HA2:Hid (Blk W2 (W.heap.size+1) 3 [ν 576]):=hA
  have HJ2:=hid hJ
  have HYC2:=hid (hK.blk (Nat.le_refl _) ω HYC1.out)
  have HVC2:=hid (hK.blk ω ω HVC1.out)
  have v2:W2.cell? ⟨W.heap.size+1+1,0,none⟩=some (.func (.func 106) #[] #[π (W.heap.size+1),π W.heap.size]):=HVC2.out.cell (i:=0) (by simp)
  clear hJ hA hK
  gi_wp2
  have hc:=HV.out (n-1) ([]++[⟨1,0,0,64⟩]++CL 2 64 64 8) 3 0 576 64 _ HA2.out HYC2.out HJ2.out (by simp [DV]) (by unfold Bq;exact (List.prefix_append _ _).trans ((List.prefix_append _ _).trans ((List.prefix_append _ _).trans ((List.prefix_append _ _).trans (List.prefix_refl _))))) ω ω ω ω
  have HC:=hid hc
  clear hc
  refine HC.out.mono ?_
  rintro e W3 (⟨rfl,hJ,hA,hK⟩ | ⟨rfl,hx⟩)
  rotate_left
  · clear HC
    have HX:=hid hx
    clear hx
    gi_wp2
    refine Do ?_
    gi_wp2
    refine Do ?_
    gi_wp2
    refine Do ?_
    gi_wp2
    refine Do ?_
    gi_wp2
    go_end0
    have hx:=HX.out
    exact ⟨⟨_,rfl⟩,.inr ⟨[]++[⟨1,0,0,64⟩]++CL 2 64 64 8++[⟨3,0,576,64⟩],by unfold Bq;exact (List.prefix_append _ _).trans ((List.prefix_append _ _).trans ((List.prefix_append _ _).trans ((List.prefix_append _ _).trans (List.prefix_refl _)))),hx⟩⟩
  clear HC
  have HA3:Hid (Blk W3 (W.heap.size+1) 3 [ν 640]):=hA
  have HJ3:=hid hJ
  have HYC3:=hid (hK.blk (Nat.le_refl _) ω HYC2.out)
  have HVC3:=hid (hK.blk ω ω HVC2.out)
  have v3:W3.cell? ⟨W.heap.size+1+1,0,none⟩=some (.func (.func 106) #[] #[π (W.heap.size+1),π W.heap.size]):=HVC3.out.cell (i:=0) (by simp)
  clear hJ hA hK
  gi_wp2
  have hc:=HR.out (n-1) ([]++[⟨1,0,0,64⟩]++CL 2 64 64 8++[⟨3,0,576,64⟩]) 4 640 64 32 _ HA3.out HYC3.out HVC3.out HJ3.out (by simp [DV]) (fun j hj=>(by rw [List.append_assoc,← Fc];exact ((List.prefix_append_right_inj _).2 (Ez _ _ _ (Nat.succ_le_of_lt hj))).trans (by unfold Bq;exact (List.prefix_append _ _).trans ((List.prefix_append _ _).trans ((List.prefix_append _ _).trans (List.prefix_refl _)))))) ω ω ω ω ω
  rw [show ((32:Nat):Int)=32 from rfl] at hc
  have HC:=hid hc
  clear hc
  refine HC.out.mono ?_
  rintro e W4 (⟨rfl,hJ,hA,hK⟩ | ⟨rfl,q,hq,hx⟩)
  rotate_left
  · clear HC
    have HX:=hid hx
    clear hx
    gi_wp2
    refine Do ?_
    gi_wp2
    refine Do ?_
    gi_wp2
    refine Do ?_
    gi_wp2
    go_end0
    have hx:=HX.out
    exact ⟨⟨_,rfl⟩,.inr ⟨([]++[⟨1,0,0,64⟩]++CL 2 64 64 8++[⟨3,0,576,64⟩])++q,((List.prefix_append_right_inj _).2 hq).trans (by unfold Bq;exact (List.prefix_append _ _).trans ((List.prefix_append _ _).trans ((List.prefix_append _ _).trans (List.prefix_refl _)))),hx⟩⟩
  clear HC
  have HA4:Hid (Blk W4 (W.heap.size+1) 3 [ν 2688]):=hA
  have HJ4:=hid hJ
  have HYC4:=hid (hK.blk (Nat.le_refl _) ω HYC3.out)
  have HVC4:=hid (hK.blk ω ω HVC3.out)
  have v4:W4.cell? ⟨W.heap.size+1+1,0,none⟩=some (.func (.func 106) #[] #[π (W.heap.size+1),π W.heap.size]):=HVC4.out.cell (i:=0) (by simp)
  clear hJ hA hK
  gi_wp2
  have hc:=HV.out (n-1) ([]++[⟨1,0,0,64⟩]++CL 2 64 64 8++[⟨3,0,576,64⟩]++CL 4 640 64 32) 5 0 2688 4096 _ HA4.out HYC4.out HJ4.out (by simp [DV]) (by unfold Bq;exact (List.prefix_append _ _).trans ((List.prefix_append _ _).trans (List.prefix_refl _))) ω ω ω ω
  have HC:=hid hc
  clear hc
  refine HC.out.mono ?_
  rintro e W5 (⟨rfl,hJ,hA,hK⟩ | ⟨rfl,hx⟩)
  rotate_left
  · clear HC
    have HX:=hid hx
    clear hx
    gi_wp2
    refine Do ?_
    gi_wp2
    refine Do ?_
    gi_wp2
    go_end0
    have hx:=HX.out
    exact ⟨⟨_,rfl⟩,.inr ⟨[]++[⟨1,0,0,64⟩]++CL 2 64 64 8++[⟨3,0,576,64⟩]++CL 4 640 64 32++[⟨5,0,2688,4096⟩],by unfold Bq;exact (List.prefix_append _ _).trans ((List.prefix_append _ _).trans (List.prefix_refl _)),hx⟩⟩
  clear HC
  have HA5:Hid (Blk W5 (W.heap.size+1) 3 [ν 6784]):=hA
  have HJ5:=hid hJ
  have HYC5:=hid (hK.blk (Nat.le_refl _) ω HYC4.out)
  have HVC5:=hid (hK.blk ω ω HVC4.out)
  have v5:W5.cell? ⟨W.heap.size+1+1,0,none⟩=some (.func (.func 106) #[] #[π (W.heap.size+1),π W.heap.size]):=HVC5.out.cell (i:=0) (by simp)
  clear hJ hA hK
  gi_wp2
  have hc:=HR.out (n-1) ([]++[⟨1,0,0,64⟩]++CL 2 64 64 8++[⟨3,0,576,64⟩]++CL 4 640 64 32++[⟨5,0,2688,4096⟩]) 6 6784 1024 8 _ HA5.out HYC5.out HVC5.out HJ5.out (by simp [DV]) (fun j hj=>(by rw [List.append_assoc,← Fc];exact ((List.prefix_append_right_inj _).2 (Ez _ _ _ (Nat.succ_le_of_lt hj))).trans (by unfold Bq;exact (List.prefix_append _ _).trans (List.prefix_refl _)))) ω ω ω ω ω
  rw [show ((8:Nat):Int)=8 from rfl] at hc
  have HC:=hid hc
  clear hc
  refine HC.out.mono ?_
  rintro e W6 (⟨rfl,hJ,hA,hK⟩ | ⟨rfl,q,hq,hx⟩)
  rotate_left
  · clear HC
    have HX:=hid hx
    clear hx
    gi_wp2
    refine Do ?_
    gi_wp2
    go_end0
    have hx:=HX.out
    exact ⟨⟨_,rfl⟩,.inr ⟨([]++[⟨1,0,0,64⟩]++CL 2 64 64 8++[⟨3,0,576,64⟩]++CL 4 640 64 32++[⟨5,0,2688,4096⟩])++q,((List.prefix_append_right_inj _).2 hq).trans (by unfold Bq;exact (List.prefix_append _ _).trans (List.prefix_refl _)),hx⟩⟩
  clear HC
  have HA6:Hid (Blk W6 (W.heap.size+1) 3 [ν 14976]):=hA
  have HJ6:=hid hJ
  have HYC6:=hid (hK.blk (Nat.le_refl _) ω HYC5.out)
  have HVC6:=hid (hK.blk ω ω HVC5.out)
  have v6:W6.cell? ⟨W.heap.size+1+1,0,none⟩=some (.func (.func 106) #[] #[π (W.heap.size+1),π W.heap.size]):=HVC6.out.cell (i:=0) (by simp)
  clear hJ hA hK
  gi_wp2
  have hc:=HR.out (n-1) ([]++[⟨1,0,0,64⟩]++CL 2 64 64 8++[⟨3,0,576,64⟩]++CL 4 640 64 32++[⟨5,0,2688,4096⟩]++CL 6 6784 1024 8) 7 14976 64 128 _ HA6.out HYC6.out HVC6.out HJ6.out (by simp [DV]) (fun j hj=>(by rw [List.append_assoc,← Fc];exact ((List.prefix_append_right_inj _).2 (Ez _ _ _ (Nat.succ_le_of_lt hj))).trans (by unfold Bq;exact List.prefix_refl _))) ω ω ω ω ω
  rw [show ((128:Nat):Int)=128 from rfl] at hc
  have HC:=hid hc
  clear hc
  refine HC.out.mono ?_
  rintro e W7 (⟨rfl,hJ,hA,hK⟩ | ⟨rfl,q,hq,hx⟩)
  rotate_left
  · clear HC
    have HX:=hid hx
    clear hx
    gi_wp2
    go_end0
    have hx:=HX.out
    exact ⟨⟨_,rfl⟩,.inr ⟨([]++[⟨1,0,0,64⟩]++CL 2 64 64 8++[⟨3,0,576,64⟩]++CL 4 640 64 32++[⟨5,0,2688,4096⟩]++CL 6 6784 1024 8)++q,((List.prefix_append_right_inj _).2 hq).trans (by unfold Bq;exact List.prefix_refl _),hx⟩⟩
  clear HC
  have HJ7:=hid hJ
  clear hJ hA hK
  gi_wp2
  go_end0
  exact ⟨⟨_,rfl⟩,.inl ⟨_,rfl,HJ7.out⟩⟩
end
section
open Go.RowKit Go.Shelf
attribute [local go_sem] Oper.semAt_some
theorem XP:(prog.info? 82).map (·.size)=some 4:=κ
def Lw (l:List PartT):Int:=match l.getLast? with | none=>0 | some p=>wrap64 (p.a+p.s)
theorem RK (l:List PartT) (p:PartT):Lw (l++[p])=wrap64 (p.a+p.s):=by unfold Lw;simp
theorem UX:Lw Bq=23168:=by decide +kernel
def Zu (B:Nat) (mk:PartT→Nat→Act) (x:PartT) (a':Act) (W:World):Prop:=∃ Bx,B≤Bx∧Blk W Bx 82 (Eu x)∧a'=mk x Bx
theorem Pu {B:Nat} {mk:PartT→Nat→Act}:∀ (x:PartT) (a':Act) (X:World) (l:Nat) (o:Loop) (o':Obj),Zu B mk x a' X→X.heap[l]? = some (.loop o)→Zu B mk x a' (X.putObj l o'):=by
  rintro x a' X l o o' ⟨Bx,hB,hb,rfl⟩ hl
  refine ⟨Bx,hB,?_,rfl⟩
  have hne:Bx≠l:=by
    rintro rfl
    rw [show X.heap[Bx]? = _ from hb] at hl
    cases hl
  exact (World.putObj_heap_other hne).trans hb
theorem Ii (w:World):Calls prog 39 #[] w fun e w'=>e=.returned (ν 23168)∧Below w.heap.size w w':=by
  have hd:Fence.wide.depth=none:=rfl
  refine (callsIn_wide (n:=5)).1 ?_
  refine callsIn_of_wp_marks func39 rfl trivial ?_ rfl
  simp only [ntmps39,List.size_toArray,List.length_cons,List.length_nil,Nat.reduceAdd,Nat.reduceSub,Array.replicate_succ,Array.replicate_zero,List.push_toArray,List.append_toArray,List.nil_append,List.cons_append]
  gi_wp2
  have g0:Blk (w.alloc (.cells #[ν 0] 3)) w.heap.size 3 [ν (Lw [])]:=heap_alloc_new w _
  have b0:Below w.heap.size w (w.alloc (.cells #[ν 0] 3)):=(Below.refl _ w).alloc (Nat.le_refl _) _
  have hsz:(w.alloc (.cells #[ν 0] 3)).heap.size=w.heap.size+1:=by simp
  refine Dd rfl ω (gf:=80) (lb:=#[]) rfl trivial (enters_of func80 κ rfl)
    (NI Fence.wide rfl trivial trivial trivial rfl (5-1) w) b0 (fun _=>rfl)
    (fun pre W=>Blk W w.heap.size 3 [ν (Lw pre)]∧Below w.heap.size w W) (fun _ _ _=>False)
    ((StabC.blk (by rw [hsz];omega) (fun pre=>[ν (Lw pre)])).and (StabC.below (by rw [hsz];omega))) (fun _ _ _ _ h _=>h) ⟨g0,b0⟩
    (Zu (w.heap.size+1) (fun x Bx=>{ tmps:=#[ν 0,π w.heap.size,π Bx,Mf x,undef,undef,undef,undef,undef,undef],defers:=[] })) Pu ?assign ?body ?done ?stop
  case assign=>
    rintro l pre ⟨k,n,a,s⟩ W K ⟨hg,hb⟩ hlt hK
    simp only [Mf,Eu]
    gi_wp2
    exact hK _ _ ((KeepUp.refl _ W).alloc _) ⟨hg.mono ((Below.refl _ W).alloc (Nat.le_refl _) _),hb.alloc hb.size _⟩ ⟨W.heap.size,by rw [hsz] at hlt;exact hlt,heap_alloc_new W _,rfl⟩
  case body=>
    rintro l pre x a' W ⟨hg,hb⟩ ⟨Bx,hBx,hx,rfl⟩ hlt _ _
    have z2:W.cell? ⟨Bx,2,none⟩=some (ν x.a):=hx.cell (i:=2) (by simp [Eu])
    have z3:W.cell? ⟨Bx,3,none⟩=some (ν x.s):=hx.cell (i:=3) (by simp [Eu])
    have c0:W.cell? ⟨w.heap.size,0,none⟩=some (ν (Lw pre)):=hg.cell (i:=0) (by simp)
    have fz:W.frozen? ⟨w.heap.size,0,none⟩=false:=hg.frozen 0
    have HG:=hid hg;have HB:=hid hb
    clear hg hb hx
    gi_wp2
    refine ⟨(KeepUp.refl _ W).setCell (p:=⟨w.heap.size,0,none⟩) (by rw [hsz];exact Nat.lt_succ_self _) _,?_,HB.out.setCell (p:=⟨w.heap.size,0,none⟩) (Nat.le_refl _) _⟩
    rw [RK]
    exact HG.out.set 0 _
  case done=>
    rintro D xs W hD rfl ⟨hg,hb⟩ hk
    rw [UX] at hg
    have c0:W.cell? ⟨w.heap.size,0,none⟩=some (ν 23168):=hg.cell (i:=0) (by simp)
    have HB:=hid hb
    clear hg hb
    gi_wp2
    refine ⟨by simp,.inl ⟨_,_,rfl,run_takeDeferred hk,?_⟩⟩
    exact ⟨_,results_tmp rfl _ _ _,rfl,BE HB.out _ (by rw [hsz] at hD;omega)⟩
  case stop=>
    rintro D c pre W _ _ h _
    exact h.elim
end
section
def inF (p:PartT) (at_ n:Int):Bool:=decide (0≤n∧n≤p.s∧p.a≤at_∧at_-p.a≤p.s-n)
def wfI (n:Int):Prop:=-9223372036854775808≤n∧n≤9223372036854775807
end
section
open Go.RowKit Go.Shelf
attribute [local go_sem] Oper.semAt_some
theorem ZO (x0 x1 x2 x3 y0 y1 y2 y3:Int) (w:World):(Op.equalIn 10000 82 (.agg #[ν x0,ν x1,ν x2,ν x3]) (.agg #[ν y0,ν y1,ν y2,ν y3])).run prog w=.ok (decide ([x0,x1,x2,x3]=[y0,y1,y2,y3])) w:=by
  have u3:=υ3
  have a3:=Tryz.isAgg3
  have z3:=Tryz.sizeOf3
  have hS:prog.underlying 82=some (.struct (prog.fieldsOf 82)):=κ
  have hp:prog.stoodInHeld 82=false:=κ
  rw [show (10000:Nat)=9999+1 from rfl,run_equalIn_agg w 9999 82 _ _ hS hp]
  simp only [Program.fieldsOf,υ82]
  go_simp
  by_cases h0:x0=y0
  case neg=>simp [h0]
  by_cases h1:x1=y1
  case neg=>simp [h0,h1]
  by_cases h2:x2=y2
  case neg=>simp [h0,h1,h2]
  by_cases h3:x3=y3
  case neg=>simp [h0,h1,h2,h3]
  simp [h0,h1,h2,h3]
theorem Afx {w:World} {g:Nat} {e:TypeId} {L:List Value} (h:Blk w g e L) (hl:L.length=4) (v0 v1 v2 v3:Value) :
    Blk ((((w.setCell ⟨g,0,none⟩ v0).setCell ⟨g,1,none⟩ v1).setCell ⟨g,2,none⟩ v2).setCell ⟨g,3,none⟩ v3) g e [v0,v1,v2,v3]:=by
  match L,hl with
  | [a,b,c,d],_=>exact (((h.set 0 v0).set 1 v1).set 2 v2).set 3 v3
theorem Aeu {w0 w:World} {B g:Nat} (h:Below B w0 w) (hg:B≤g) (v0 v1 v2 v3:Value):Below B w0 ((((w.setCell ⟨g,0,none⟩ v0).setCell ⟨g,1,none⟩ v1).setCell ⟨g,2,none⟩ v2).setCell ⟨g,3,none⟩ v3):=
  (((h.setCell hg v0).setCell hg v1).setCell hg v2).setCell hg v3
theorem Afo {w:World} {g k:Nat} {e:TypeId} {L:List Value} (h:Blk w g e L) (hne:g≠k) (v0 v1 v2 v3:Value):Blk ((((w.setCell ⟨k,0,none⟩ v0).setCell ⟨k,1,none⟩ v1).setCell ⟨k,2,none⟩ v2).setCell ⟨k,3,none⟩ v3) g e L:=
  (((h.setOtherS hne 0 v0).setOtherS hne 1 v1).setOtherS hne 2 v2).setOtherS hne 3 v3
theorem Ae8 {W W':World} {B g:Nat} (h:KeepUp B W W') (hg:g<B) (v0 v1 v2 v3:Value):KeepUp B W ((((W'.setCell ⟨g,0,none⟩ v0).setCell ⟨g,1,none⟩ v1).setCell ⟨g,2,none⟩ v2).setCell ⟨g,3,none⟩ v3):=
  (((h.setCell (p:=⟨g,0,none⟩) hg v0).setCell (p:=⟨g,1,none⟩) hg v1).setCell (p:=⟨g,2,none⟩) hg v2).setCell (p:=⟨g,3,none⟩) hg v3
theorem Ae6 {w:World} {g g' D:Nat} (h:D≠g) (h':D≠g') (v0 v1 v2 v3 v4:Value):(((((w.setCell ⟨g,0,none⟩ v0).setCell ⟨g,1,none⟩ v1).setCell ⟨g,2,none⟩ v2).setCell ⟨g,3,none⟩ v3).setCell ⟨g',0,none⟩ v4).heap[D]? = w.heap[D]?:=by
  rw [Below.heap_setCell _ _ _ _ h',Below.heap_setCell _ _ _ _ h,Below.heap_setCell _ _ _ _ h,Below.heap_setCell _ _ _ _ h,Below.heap_setCell _ _ _ _ h]
theorem Ms {fn:Func} {c u:Tmp} (h:fn.results=#[.cell c 82,.cell u 4]) {tmps:Array Value} {w:World} {g g':Nat} {e e':TypeId} {L:List Value} {b:Bool} (hc:tmps.getD c undef=π g) (hu:tmps.getD u undef=π g') (hb:Blk w g e L) (hl:L.length=4) (hb':Blk w g' e' [.bool b]) :
    (results fn tmps).run prog w=.ok (.tuple #[.agg L.toArray,.bool b]) w:=by
  have hv:=run_loadVar_mid (P:=prog) w g 0 82 L _ hb.range υ82 rfl (by rw [XP,hl])
  have hc':tmps[c]?.getD undef=π g:=by simpa using hc
  have hu':tmps[u]?.getD undef=π g':=by simpa using hu
  have z:w.cell? ⟨g',0,none⟩=some (.bool b):=hb'.cell (i:=0) (by simp)
  have ub:=υ4
  have ib:(prog.info? 4).map (·.size)=some 1:=κ
  have hv2:(loadVar 4 ⟨g',0,none⟩).run prog w=.ok (.bool b) w:=by go_simp
  simp [results,h,hc',hu',asAddr,hv,hv2]
theorem RT {α:Type} {p:α→Bool} {l q:List α} {x:α} (h:q++[x] <+: l) (hq:∀ y∈q,p y=false) (hx:p x=true):l.find? p=some x:=by
  obtain ⟨r,rfl⟩:=h
  rw [List.append_assoc,List.find?_append]
  have:q.find? p=none:=List.find?_eq_none.2 (fun y hy=>by rw [hq y hy];simp)
  rw [this]
  simp [hx]
def Ac9 (kd nm:Int) (x:PartT):Bool:=decide (x.k=kd∧x.n=nm)
def AT (kd nm:Int):Option PartT:=Bq.find? (Ac9 kd nm)
def ofP (at_:Int):Option PartT:=Bq.find? (fun x=>inF x at_ 1)
def Qu:PartT:=⟨0,0,0,0⟩
def Acs (o:Option PartT):Value:=.tuple #[Mf (o.getD Qu),.bool o.isSome]
theorem Qv:∀ x∈Bq,0≤x.a∧x.a≤23104∧0≤x.s∧x.s≤4096:=by decide +kernel
theorem PI (kd nm:Int) (w:World):Calls prog 40 #[ν kd,ν nm] w fun e w'=>e=.returned (Acs (AT kd nm))∧Below w.heap.size w w':=by
  have hd:Fence.wide.depth=none:=rfl
  obtain ⟨w4,hw4⟩:∃ w4,w4=((((w.alloc (.cells #[ν kd] 3)).alloc (.cells #[ν nm] 3)).alloc (.cells #[ν 0,ν 0,ν 0,ν 0] 82)).alloc (.cells #[.bool false] 4)):=⟨_,rfl⟩
  have hsz:w4.heap.size=w.heap.size+4:=by rw [hw4];simp
  have b0:Below w.heap.size w w4:=by rw [hw4];exact (((((Below.refl _ w).alloc (Nat.le_refl _) _).alloc (by simp;try omega) _).alloc (by simp;try omega) _).alloc (by simp;try omega) _)
  have k0:Blk w4 (w.heap.size) 3 [ν kd]:=by
    rw [hw4]
    have q:Blk (w.alloc (.cells #[ν kd] 3)) (w.heap.size) 3 [ν kd]:=by
      have q:=heap_alloc_new w (.cells #[ν kd] 3)
      exact q
    exact (((q.mono ((Below.refl _ _).alloc (Nat.le_refl _) _)).mono ((Below.refl _ _).alloc (Nat.le_refl _) _)).mono ((Below.refl _ _).alloc (Nat.le_refl _) _))
  have k1:Blk w4 (w.heap.size+1) 3 [ν nm]:=by
    rw [hw4]
    have q:Blk ((w.alloc (.cells #[ν kd] 3)).alloc (.cells #[ν nm] 3)) (w.heap.size+1) 3 [ν nm]:=by
      have q:=heap_alloc_new (w.alloc (.cells #[ν kd] 3)) (.cells #[ν nm] 3)
      rw [show ((w.alloc (.cells #[ν kd] 3))).heap.size=w.heap.size+1 from by simp] at q;exact q
    exact ((q.mono ((Below.refl _ _).alloc (Nat.le_refl _) _)).mono ((Below.refl _ _).alloc (Nat.le_refl _) _))
  have k2:Blk w4 (w.heap.size+1+1) 82 [ν 0,ν 0,ν 0,ν 0]:=by
    rw [hw4]
    have q:Blk (((w.alloc (.cells #[ν kd] 3)).alloc (.cells #[ν nm] 3)).alloc (.cells #[ν 0,ν 0,ν 0,ν 0] 82)) (w.heap.size+1+1) 82 [ν 0,ν 0,ν 0,ν 0]:=by
      have q:=heap_alloc_new ((w.alloc (.cells #[ν kd] 3)).alloc (.cells #[ν nm] 3)) (.cells #[ν 0,ν 0,ν 0,ν 0] 82)
      rw [show (((w.alloc (.cells #[ν kd] 3)).alloc (.cells #[ν nm] 3))).heap.size=w.heap.size+1+1 from by simp] at q;exact q
    exact (q.mono ((Below.refl _ _).alloc (Nat.le_refl _) _))
  have k3:Blk w4 (w.heap.size+1+1+1) 4 [.bool false]:=by
    rw [hw4]
    have q:Blk ((((w.alloc (.cells #[ν kd] 3)).alloc (.cells #[ν nm] 3)).alloc (.cells #[ν 0,ν 0,ν 0,ν 0] 82)).alloc (.cells #[.bool false] 4)) (w.heap.size+1+1+1) 4 [.bool false]:=by
      have q:=heap_alloc_new (((w.alloc (.cells #[ν kd] 3)).alloc (.cells #[ν nm] 3)).alloc (.cells #[ν 0,ν 0,ν 0,ν 0] 82)) (.cells #[.bool false] 4)
      rw [show ((((w.alloc (.cells #[ν kd] 3)).alloc (.cells #[ν nm] 3)).alloc (.cells #[ν 0,ν 0,ν 0,ν 0] 82))).heap.size=w.heap.size+1+1+1 from by simp] at q;exact q
    exact q
  obtain ⟨hit,hhit⟩:∃ hit:PartT→Bool,hit=Ac9 kd nm:=⟨_,rfl⟩
  have HH:=hid hhit
  clear hhit
  refine (callsIn_wide (n:=5)).1 ?_
  refine callsIn_of_wp_marks func40 rfl trivial ?_ rfl
  simp only [ntmps40,List.size_toArray,List.length_cons,List.length_nil,Nat.reduceAdd,Nat.reduceSub,Array.replicate_succ,Array.replicate_zero,List.push_toArray,List.append_toArray,List.nil_append,List.cons_append]
  gi_wp2
  rw [← hw4]
  clear hw4
  have hI:StabC w4.heap.size (fun (pre:List PartT) W=>(Blk W (w.heap.size) 3 [ν kd]∧Blk W (w.heap.size+1) 3 [ν nm]∧Blk W (w.heap.size+1+1) 82 [ν 0,ν 0,ν 0,ν 0]∧Blk W (w.heap.size+1+1+1) 4 [.bool false])∧(∀ y∈pre,hit y=false)∧Below w.heap.size w W):=by
    rintro pre X Y ⟨⟨hb0,hb1,hhp,hho⟩,h1,h2⟩ b
    exact ⟨⟨(b.block _ (by rw [hsz];omega)).trans hb0,(b.block _ (by rw [hsz];omega)).trans hb1,(b.block _ (by rw [hsz];omega)).trans hhp,(b.block _ (by rw [hsz];omega)).trans hho⟩,h1,h2.trans (b.mono (by rw [hsz];omega))⟩
  have hIx:∀ c,StabC w4.heap.size (fun (pre:List PartT) W=>c=Code.ret∧∃ q x,pre=q++[x]∧(∀ y∈q,hit y=false)∧hit x=true∧Blk W (w.heap.size+1+1) 82 (Eu x)∧Blk W (w.heap.size+1+1+1) 4 [.bool true]∧Below w.heap.size w W):=by
    rintro c pre X Y ⟨h0,q,x,h1,h2,h3,h4,h5,h6⟩ b
    exact ⟨h0,q,x,h1,h2,h3,(b.block _ (by rw [hsz];omega)).trans h4,(b.block _ (by rw [hsz];omega)).trans h5,h6.trans (b.mono (by rw [hsz];omega))⟩
  refine Dd rfl ω (gf:=80) (lb:=#[]) rfl trivial (enters_of func80 κ rfl)
    (NI Fence.wide rfl trivial trivial trivial rfl (5-1) w) b0 (fun _=>rfl)
    _ _ hI hIx ⟨⟨k0,k1,k2,k3⟩,fun y hy=>absurd hy (by simp),b0⟩
    (Zu (w.heap.size+4) (fun x Bx=>{ tmps:=#[ν kd,ν nm,π w.heap.size,π (w.heap.size+1),π (w.heap.size+1+1),π (w.heap.size+1+1+1),π Bx,Mf x,undef,undef,undef,undef,undef,undef,undef,undef,undef,undef,undef],defers:=[] })) Pu ?assign ?body ?done ?stop
  case assign=>
    rintro l pre ⟨k,n,a,s⟩ W K hi hlt hK
    have hi':=hI (s:=pre) _ _ hi ((Below.refl w4.heap.size W).alloc hlt (.cells #[ν k,ν n,ν a,ν s] 82))
    have HI:=hid hi'
    clear hi hi'
    simp only [Mf,Eu]
    gi_wp2
    exact hK _ _ ((KeepUp.refl _ W).alloc _) HI.out ⟨W.heap.size,by rw [hsz] at hlt;exact hlt,heap_alloc_new W _,rfl⟩
  case body=>
    rintro l pre x a' W ⟨⟨hb0,hb1,hhp,hho⟩,hno,hb⟩ ⟨Bx,hBx,hx,rfl⟩ hlt _ hsp
    have hxm:x∈Bq:=hsp.subset (by simp)
    have hwf:=Qv x hxm
    clear hxm hsp
    have x0:W.cell? ⟨Bx,0,none⟩=some (ν x.k):=hx.cell (i:=0) (by simp [Eu])
    have x1:W.cell? ⟨Bx,1,none⟩=some (ν x.n):=hx.cell (i:=1) (by simp [Eu])
    have x2:W.cell? ⟨Bx,2,none⟩=some (ν x.a):=hx.cell (i:=2) (by simp [Eu])
    have x3:W.cell? ⟨Bx,3,none⟩=some (ν x.s):=hx.cell (i:=3) (by simp [Eu])
    have k0:W.cell? ⟨w.heap.size,0,none⟩=some (ν kd):=hb0.cell (i:=0) (by simp)
    have k1:W.cell? ⟨w.heap.size+1,0,none⟩=some (ν nm):=hb1.cell (i:=0) (by simp)
    have HX0:=hid hb0;have HX1:=hid hb1
    have p0:W.cell? ⟨w.heap.size+1+1,0,none⟩=some (ν 0):=hhp.cell (i:=0) (by simp)
    have p1:W.cell? ⟨w.heap.size+1+1,1,none⟩=some (ν 0):=hhp.cell (i:=1) (by simp)
    have p2:W.cell? ⟨w.heap.size+1+1,2,none⟩=some (ν 0):=hhp.cell (i:=2) (by simp)
    have p3:W.cell? ⟨w.heap.size+1+1,3,none⟩=some (ν 0):=hhp.cell (i:=3) (by simp)
    have pf0:W.frozen? ⟨w.heap.size+1+1,0,none⟩=false:=hhp.frozen 0
    have pf1:W.frozen? ⟨w.heap.size+1+1,1,none⟩=false:=hhp.frozen 1
    have pf2:W.frozen? ⟨w.heap.size+1+1,2,none⟩=false:=hhp.frozen 2
    have pf3:W.frozen? ⟨w.heap.size+1+1,3,none⟩=false:=hhp.frozen 3
    have o0:W.cell? ⟨w.heap.size+1+1+1,0,none⟩=some (.bool false):=hho.cell (i:=0) (by simp)
    have of0:W.frozen? ⟨w.heap.size+1+1+1,0,none⟩=false:=hho.frozen 0
    have HH0:=hid hhp;have HH1:=hid hho;have HNO:=hid hno;have HB:=hid hb
    clear hb0 hb1 hhp hho hno hb hx
    have E:=ZO x.k x.n x.a x.s kd nm x.a x.s
    by_cases hq:x.k=kd∧x.n=nm
    · have hh:hit x=true:=by rw [HH.out];exact decide_eq_true hq
      rw [decide_eq_true (by rw [hq.1,hq.2]:[x.k,x.n,x.a,x.s]=[kd,nm,x.a,x.s])] at E
      clear hq
      gi_wp2
      refine ⟨(Ae8 (KeepUp.refl _ W) (by rw [hsz];omega) _ _ _ _).setCell (p:=⟨w.heap.size+1+1+1,0,none⟩) (by rw [hsz];exact (ω:w.heap.size+1+1+1<w.heap.size+4)) _,rfl,pre,x,rfl,HNO.out,hh,?_,?_,?_⟩
      · exact (Afx HH0.out rfl _ _ _ _).setOtherS ω 0 _
      · exact (Afo HH1.out ω _ _ _ _).set 0 _
      · exact (Aeu HB.out ω _ _ _ _).setCell (p:=⟨w.heap.size+1+1+1,0,none⟩) (ω:w.heap.size≤w.heap.size+1+1+1) _
    · have hh:hit x=false:=by rw [HH.out];exact decide_eq_false hq
      rw [decide_eq_false (fun h=>hq (by simp only [List.cons.injEq,and_true] at h;exact h):¬ [x.k,x.n,x.a,x.s]=[kd,nm,x.a,x.s])] at E
      clear hq
      gi_wp2
      refine ⟨(KeepUp.refl _ W),⟨HX0.out,HX1.out,HH0.out,HH1.out⟩,fun y hy=>?_,HB.out⟩
      rcases List.mem_append.1 hy with h | h
      · exact HNO.out y h
      · rw [List.mem_singleton.1 h];exact hh
  case done=>
    rintro D xs W hD rfl ⟨⟨hb0,hb1,hhp,hho⟩,hno,hb⟩ hk
    have hans:Acs (AT kd nm)=.tuple #[.agg #[ν 0,ν 0,ν 0,ν 0],.bool false]:=by
      have:AT kd nm=none:=List.find?_eq_none.2 (fun y hy=>by have:=hno y hy;rw [HH.out] at this;simpa using this)
      rw [this];rfl
    have HANS:=hid hans
    clear hans
    have p0:W.cell? ⟨w.heap.size+1+1,0,none⟩=some (ν 0):=hhp.cell (i:=0) (by simp)
    have pf0:W.frozen? ⟨w.heap.size+1+1,0,none⟩=false:=hhp.frozen 0
    have p1:W.cell? ⟨w.heap.size+1+1,1,none⟩=some (ν 0):=hhp.cell (i:=1) (by simp)
    have pf1:W.frozen? ⟨w.heap.size+1+1,1,none⟩=false:=hhp.frozen 1
    have p2:W.cell? ⟨w.heap.size+1+1,2,none⟩=some (ν 0):=hhp.cell (i:=2) (by simp)
    have pf2:W.frozen? ⟨w.heap.size+1+1,2,none⟩=false:=hhp.frozen 2
    have p3:W.cell? ⟨w.heap.size+1+1,3,none⟩=some (ν 0):=hhp.cell (i:=3) (by simp)
    have pf3:W.frozen? ⟨w.heap.size+1+1,3,none⟩=false:=hhp.frozen 3
    have o0:W.cell? ⟨w.heap.size+1+1+1,0,none⟩=some (.bool false):=hho.cell (i:=0) (by simp)
    have of0:W.frozen? ⟨w.heap.size+1+1+1,0,none⟩=false:=hho.frozen 0
    have HH0:=hid hhp;have HH1:=hid hho;have HB:=hid hb;have HK:=hid hk
    clear hb0 hb1 hhp hho hno hb hk
    gi_wp2
    refine ⟨by simp,.inl ⟨_,_,rfl,run_takeDeferred (ds:=[]) (by rw [Ae6 (by rw [hsz] at hD;omega) (by rw [hsz] at hD;omega)];exact HK.out),?_⟩⟩
    refine ⟨_,Ms rfl rfl rfl ((World.putObj_heap_other (by rw [hsz] at hD;omega)).trans ((Afx HH0.out rfl _ _ _ _).setOtherS ω 0 _)) rfl ((World.putObj_heap_other (by rw [hsz] at hD;omega)).trans ((Afo HH1.out ω _ _ _ _).set 0 _)),by rw [HANS.out],BE ((Aeu HB.out ω _ _ _ _).setCell (p:=⟨w.heap.size+1+1+1,0,none⟩) (ω:w.heap.size≤w.heap.size+1+1+1) _) _ (by rw [hsz] at hD;omega)⟩
  case stop=>
    rintro D c pre W hD hsp ⟨rfl,q,x,rfl,hno,hx,hp,ho,hb⟩ hk
    have hans:Acs (AT kd nm)=.tuple #[.agg (Eu x).toArray,.bool true]:=by
      have:AT kd nm=some x:=RT hsp (fun y hy=>by have:=hno y hy;rw [HH.out] at this;exact this) (by rw [HH.out] at hx;exact hx)
      rw [this];rfl
    have HANS:=hid hans
    clear hans
    gi_wp2
    refine ⟨by simp,.inl ⟨_,_,rfl,run_takeDeferred hk,?_⟩⟩
    exact ⟨_,Ms rfl rfl rfl ((World.putObj_heap_other (by rw [hsz] at hD;omega)).trans hp) rfl ((World.putObj_heap_other (by rw [hsz] at hD;omega)).trans ho),by rw [HANS.out],BE hb _ (by rw [hsz] at hD;omega)⟩
end
section
def XS (p:PartT):Prop:=(p.k=1∧p.n=0∧p.a=0∧p.s=64)∨(p.k=2∧1≤p.n∧p.n≤8∧p.a=64+(p.n-1)*64∧p.s=64)∨(p.k=3∧p.n=0∧p.a=576∧p.s=64)∨(p.k=4∧1≤p.n∧p.n≤32∧p.a=640+(p.n-1)*64∧p.s=64)∨(p.k=5∧p.n=0∧p.a=2688∧p.s=4096)∨(p.k=6∧1≤p.n∧p.n≤8∧p.a=6784+(p.n-1)*1024∧p.s=1024)∨(p.k=7∧1≤p.n∧p.n≤128∧p.a=14976+(p.n-1)*64∧p.s=64)
instance (p:PartT):Decidable (XS p):=by unfold XS;infer_instance
def Agi (p q:PartT):Bool:=decide (p.a+p.s≤q.a)||decide (q.a+q.s≤p.a)||(decide (p.k=q.k)&&decide (p.n=q.n))
def Ahk (p:PartT):Bool:=if p.a+p.s=23168 then (ofP 23168).isNone else match ofP (p.a+p.s) with | none=>false | some q=>decide (q.a=p.a+p.s)
end
section
def Ah1 (o:Option PartT):Value:=.tuple #[ν (o.getD Qu).a,ν (o.getD Qu).s,.bool o.isSome]
def Ah0 (o:Option PartT):Value:=.tuple #[ν (o.getD Qu).k,ν (o.getD Qu).n]
end
section
theorem Hx {kd nm:Int} {k n a s:Int} (h:AT kd nm=some ⟨k,n,a,s⟩) (w:World):Calls prog 40 #[ν kd,ν nm] w fun e w'=>e=.returned (.tuple #[.agg #[ν k,ν n,ν a,ν s],.bool true])∧Below w.heap.size w w':=by
  have q:=PI kd nm w
  rw [h] at q
  exact q
theorem Ow {kd nm:Int} (h:AT kd nm=none) (w:World):Calls prog 40 #[ν kd,ν nm] w fun e w'=>e=.returned (.tuple #[.agg #[ν 0,ν 0,ν 0,ν 0],.bool false])∧Below w.heap.size w w':=by
  have q:=PI kd nm w
  rw [h] at q
  exact q
end
section
def Ca (g v d p:Nat) (M:MemM):Ch where
  F b:=b=g∨b=v∨b=d∨b=p
  P w:=MemP w g v d p M
  keep h t:=h.turns t (fun q=>q (.inl rfl)) (fun q=>q (.inr (.inl rfl))) (fun q=>q (.inr (.inr (.inl rfl)))) (fun q=>q (.inr (.inr (.inr rfl))))
  lt h b hb:=by
    obtain ⟨_,_,_,_,_,_,h1,h2,h3,h4⟩:=CQ h
    rcases hb with e | e | e | e<;>omega
theorem Sep.head {w w':World} {c c':Ch} {R:List Ch} (h:Sep w (c::R)) {X:Nat→Prop} (t:Turns X w w') (hX:∀ k,k<w.heap.size→X k→c.F k) (hc:c'.P w') (hF:∀ k,c'.F k→c.F k∨w.heap.size≤k):Sep w' (c'::R):=
  h.upd 0 rfl t hX hc hF
abbrev pG (g:Nat):Value:=π g
def Ec (x:Int):Prop:=-9223372036854775808≤x∧x≤9223372036854775807
section
variable {w:World} {g v d p:Nat} {M:MemM} {R:List Ch}
abbrev Oq (X:Λ) (at_ n:Int):Λ:=(X.drop at_.toNat).take n.toNat
theorem Lq {X:Λ} {M:MemM} {at_ n:Int} (hX:X.length=M.V.length) (hi:inM M at_ n=true):(Oq X at_ n).length=n.toNat:=by
  obtain ⟨a,m,rfl,rfl,h⟩:=Ha hi
  show ((X.drop a).take m).length=m
  rw [List.length_take,List.length_drop];omega
theorem YS {f:FuncId} {args:Array Value} {X:Λ} {at_ n:Int} (hS:Sep w R) (h:Calls prog f args w (GO X M at_ n w)) (hi:inM M at_ n=true) (hX:X.length=M.V.length) :
    CallsR prog f args w (fun x w'=>∃ a c,x=.tuple #[.slice a (Oq X at_ n).length c,ν 0]∧Sep w' (AG 0 5 1 a (Oq X at_ n).length c ((Oq X at_ n).map Ad)::R)):=
  Calls.mono h fun e w' h=>by
    unfold GO at h;rw [if_pos hi] at h
    obtain ⟨a,c,rfl,ho,b⟩:=h
    exact ⟨_,rfl,a,c,by rw [Lq hX hi],hS.push b (c:=AG 0 5 1 a _ c _) (Own.low ho (Nat.zero_le _)) fun k hk=>(World.ownsRow.lt ho k hk).1⟩
theorem XU (hS:Sep w (Ca g v d p M::R)) {at_ n:Int} (hi:inM M at_ n=true) (ha:Ec at_) (hn:Ec n) :
    CallsR prog 13 #[pG g,ν at_,ν n] w (fun x w'=>∃ a c,x=.tuple #[.slice a (Oq M.V at_ n).length c,ν 0]∧Sep w' (AG 0 5 1 a (Oq M.V at_ n).length c ((Oq M.V at_ n).map Ad)::Ca g v d p M::R)):=
  YS hS (Hf (hS.get 0 rfl:MemP _ _ _ _ _ _) at_ n ha hn) hi rfl
theorem Abx (hS:Sep w (Ca g v d p M::R)) {at_:Int} {a:Ω} {c:Nat} {b:Λ} (hr:RowB w a c b) (hi:inM M at_ b.length=true) (ha:Ec at_) :
    CallsR prog 26 #[pG g,ν at_,.slice a b.length c] w (fun x w'=>x=ν 0∧Sep w' (Ca g v d p (FQ M at_.toNat b)::R)):=
  Calls.mono (NY (hS.get 0 rfl:MemP _ _ _ _ _ _) at_ ha a c b hr) fun e w' h=>by
    unfold Iv at h;rw [if_pos hi] at h
    obtain ⟨rfl,hm,t⟩:=h
    exact ⟨_,rfl,rfl,hS.head t (fun k _ q=>q.elim (fun q=>.inr (.inl q)) (fun q=>.inr (.inr (.inr q)))) (c':=Ca g v d p _) hm fun k q=>.inl q⟩
theorem ZX (hS:Sep w (Ca g v d p M::R)) {at_ n:Int} (hi:inM M at_ n=true) (ha:Ec at_) (hn:Ec n) :
    CallsR prog 27 #[pG g,ν at_,ν n] w (fun x w'=>x=ν 0∧Sep w' (Ca g v d p (JV M at_.toNat n.toNat)::R)):=
  Calls.mono (Nu (hS.get 0 rfl:MemP _ _ _ _ _ _) at_ n ha hn) fun e w' h=>by
    unfold It at h;rw [if_pos hi] at h
    obtain ⟨rfl,hm,t⟩:=h
    exact ⟨_,rfl,rfl,hS.head t (fun k _ q=>.inr (.inr (.inr q))) (c':=Ca g v d p _) hm fun k q=>.inl q⟩
theorem ZS (hS:Sep w (Ca g v d p M::R)) :
    CallsR prog 28 #[pG g] w (fun x w'=>∃ y,x=y∧Sep w' (Ca g v d p (JT M)::R)):=
  Calls.mono (UZ (hS.get 0 rfl:MemP _ _ _ _ _ _)) fun e w' ⟨⟨x,e1⟩,hm,t⟩=>
    ⟨x,e1,x,rfl,hS.head t (fun k _ q=>q.elim (fun q=>.inr (.inr (.inl q))) (fun q=>.inr (.inr (.inr q)))) (c':=Ca g v d p _) hm fun k q=>.inl q⟩
theorem YW (hS:Sep w (Ca g v d p M::R)) :
    CallsR prog 38 #[pG g] w (fun x w'=>x=ν M.V.length∧Sep w' (Ca g v d p M::R)):=
  Calls.mono (Hp (hS.get 0 rfl:MemP _ _ _ _ _ _)) fun e w' ⟨e1,e2⟩=>⟨_,e1,rfl,e2 ▸ hS⟩
theorem Ads (hS:Sep w R) {n:Int} (hv:FR n) :
    CallsR prog 4 #[ν n] w (fun x w'=>∃ g v d p,x=pG g∧Sep w' (Ca g v d p (EV n.toNat)::R)):=
  Calls.mono (LT n w (by unfold FR at hv;omega)) fun e w' h=>by
    unfold Po at h;rw [if_pos hv] at h
    obtain ⟨g,v,d,p,rfl,hm,hb,b⟩:=h
    exact ⟨_,rfl,g,v,d,p,rfl,hS.push b (c:=Ca g v d p _) hm fun k q=>by rcases q with q | q | q | q<;>omega⟩
theorem AQ {f:FuncId} {args:Array Value} {x:Value} (hS:Sep w R) (h:Calls prog f args w fun e w'=>e=.returned x∧Below w.heap.size w w'):CallsR prog f args w (fun v w'=>v=x∧Sep w' R):=
  Calls.mono h fun e w' ⟨e1,b⟩=>⟨x,e1,rfl,hS.mono b⟩
end
end
section
theorem Fv (z:Value) (k:Nat):Builtin.zeroCells #[z] k=(List.replicate k z).toArray:=by
  apply Array.ext'
  apply List.ext_getElem
  · simp [Builtin.zeroCells]
  · intro i h1 h2
    simp [Builtin.zeroCells,Nat.mod_one]
theorem Ee {P:Program} (w:World) (t tn ty e:TypeId) (i:TypeInfo) (z:Value) (kq kn:IntKind) (ht:P.underlying t=some (.slice e)) (htn:P.underlying tn=some (.int kn)) (hi:P.info? e=some i) (hz:i.zero=some z) (hs1:i.size=1) (hzc:z.cells=#[z]) (hz1:z.oneCell'=true)
    (g sLen sCap:Nat) (cur:Array Value) (hg:w.heap[g]? = some (.cells cur e (0,0))) (k:Nat) (hroom:sLen+k≤sCap) (hfit:sLen+k≤cur.size) (h63:k≤9223372036854775807) (h48:k*i.bytes≤281474976710656) :
    (Builtin.append_ #[t,tn] ty #[.slice (some ⟨g,0,none⟩) sLen sCap,.int kq k]).run P w =
      .ok (.slice (some ⟨g,0,none⟩) (sLen+k) sCap) (w.setRow g (cur.toList.take sLen++List.replicate k z++cur.toList.drop (sLen+k)).toArray):=by
  have hw:IntKind.i64.wrap (k:Int)=k:=by rw [IntKind.wrap_i64];omega
  have hneg:¬ ((k:Int)<0):=ω
  have h48i:¬ (281474976710656<(k:Int)*(i.bytes:Int)):=by
    rw [← Int.natCast_mul];omega
  have hst:=run_storeCells_at P g sLen e (List.replicate k z) 0 cur w hg (by simpa using hfit) (by intro v hv;rw [(List.mem_replicate.1 hv).2];exact hz1)
  simp only [Nat.add_zero,List.length_replicate] at hst
  by_cases hk:k=0
  · subst hk
    simp only [List.replicate_zero,storeCells] at hst
    have hst':w=w.setRow g (cur.toList.take sLen++[]++cur.toList.drop (sLen+0)).toArray:=by
      simp only [List.append_nil,Nat.add_zero,List.take_append_drop,Array.toArray_toList]
      exact (setRow_self w g cur e (0,0) hg).symm
    simp only [List.replicate_zero]
    rw [← hst']
    have hw0:IntKind.i64.wrap 0=0:=by rw [IntKind.wrap_i64];rfl
    have hroom':sLen≤sCap:=ω
    simp [Builtin.append_,run_underlying ht,run_underlying htn,sizeOf,typeInfo,zeroValue,hi,hz,hs1,asInt,asIntOf,hw0,hroom',storeCells]
  · have hns:¬ (k*i.size=0):=Nat.mul_ne_zero hk ω
    have hzc':=Fv z k
    simp [Builtin.append_,run_underlying ht,run_underlying htn,sizeOf,typeInfo,zeroValue,hi,hz,hs1,asInt,asIntOf,hw,hneg,hk,h48i,hroom,hzc,hzc',Addr.add_lit,hst]
theorem EA {P:Program} (w:World) (base:Nat) (t tn ty e:TypeId) (i:TypeInfo) (z:Value) (kq kn:IntKind) (ht:P.underlying t=some (.slice e)) (htn:P.underlying tn=some (.int kn)) (hi:P.info? e=some i) (hz:i.zero=some z) (hs1:i.size=1) (hzc:z.cells=#[z]) (hz1:z.oneCell'=true)
    (v:Value) (n:Nat) (xs:List Value) (hown:w.ownsRow base e 1 v n xs) (k:Nat) (h63:n+k≤9223372036854775807) (hbytes:(n+k)*i.bytes≤140737488355328) (hbase:base≤w.heap.size) :
    ∃ v' w',(Builtin.append_ #[t,tn] ty #[v,.int kq k]).run P w=.ok v' w'∧w'.ownsRow base e 1 v' (n+k) (xs++List.replicate k z)∧w.grownBy w' v.ownBlock:=by
  have hxl:xs.length=n:=by simpa using hown.1
  have hk48:k*i.bytes≤281474976710656:=by
    have:k*i.bytes≤(n+k)*i.bytes:=Nat.mul_le_mul_right _ ω
    omega
  have hlen:(xs++List.replicate k z).length=(n+k)*1:=by simp [hxl]
  have grown:∀ (old:Nat),old<n+k→∀ (row:Option Nat),
      (w.drew.alloc (.cells (xs.toArray++Builtin.zeroCells z.cells k++Builtin.zeroCells z.cells (grownCap w (n+k) old e-(n+k))) e)).ownsRow base e 1
        (.slice (some ⟨w.heap.size,0,none⟩) (n+k) (grownCap w (n+k) old e)) (n+k) (xs++List.replicate k z) ∧
      w.grownBy (w.drew.alloc (.cells (xs.toArray++Builtin.zeroCells z.cells k++Builtin.zeroCells z.cells (grownCap w (n+k) old e-(n+k))) e)) row:=by
    intro old ho row
    have hge:=grownCap_ge w (n+k) old e
    have hcm:grownCap w (n+k) old e≤maxLen:=grownCap_le_maxLen w (n+k) old e (by unfold maxLen;omega)
    refine ⟨⟨hlen,.inr ⟨w.heap.size,_,_,rfl,hbase,heap_alloc_new w.drew _,hge,hcm,?_,?_⟩⟩,⟨rfl,rfl,rfl,by simp,fun k hk _=>Below.heap_alloc w.drew _ k hk⟩⟩
    · simp only [Array.size_append,List.size_toArray,size_zeroCells,hzc,hxl,List.size_toArray,List.length_singleton,Array.size_singleton]
      omega
    · rw [hzc,Fv,Fv]
      simp only [Array.toList_append,List.append_assoc]
      rw [← List.append_assoc,← hlen]
      exact List.take_left
  rcases hown.2 with ⟨rfl,rfl⟩ | ⟨g,cap,cur,rfl,hbg,hg,hnc,hcm,hcs,htake⟩
  · have hx:xs=[]:=List.eq_nil_of_length_eq_zero hxl
    subst hx
    by_cases hk:k=0
    · subst hk
      refine ⟨.slice none 0 0,w,?_,World.ownsRow_nil w base e 1,⟨rfl,rfl,rfl,Nat.le_refl _,fun _ _ _=>rfl⟩⟩
      simp [Builtin.append_,run_underlying ht,run_underlying htn,sizeOf,typeInfo,zeroValue,hi,hz,hs1,asInt,asIntOf,IntKind.wrap_i64]
    · have hr:=Lib.run_append_nil_zeros (P:=P) w t tn ty e i z kq kn ht htn hi hz k ω ω ω hk48
      have hgr:=grown 0 ω (Value.ownBlock (.slice none 0 0))
      simp only [Nat.zero_add,List.nil_append,Array.empty_append] at hgr ⊢
      exact ⟨_,_,hr,hgr.1,hgr.2⟩
  · by_cases hroom:n+k≤cap
    · have hcs':cur.size=cap:=by simpa using hcs
      have hr:=Ee (P:=P) w t tn ty e i z kq kn ht htn hi hz hs1 hzc hz1 g n cap cur hg k hroom ω ω hk48
      refine ⟨_,_,hr,⟨hlen,.inr ⟨g,cap,_,rfl,hbg,setRow_heap w g cur _ e _ hg,hroom,hcm,?_,?_⟩⟩,⟨rfl,rfl,rfl,by simp,fun k _ hk=>setRow_other w g k _ (fun e=>hk (by simp [Value.ownBlock,e]))⟩⟩
      · simp only [List.size_toArray,List.length_append,List.length_take,List.length_drop,Array.length_toList,List.length_replicate]
        omega
      · simp only [Nat.mul_one] at htake
        rw [htake,← hlen]
        exact List.take_left
    · have holds:∀ j u,xs[j]? = some u→w.cell? ((⟨g,0,none⟩:Addr).add j)=some u:=hown.cells (g:=g) rfl
      have hf:=run_firstCells_some (P:=P) w.drew i.size n ⟨g,0,none⟩ n cap xs (by rw [hs1];omega) (fun j u hu=>holds j u hu)
      have hr:=Lib.run_append_grow_zeros (P:=P) w t tn ty e i z kq kn ht htn hi hz (some ⟨g,0,none⟩) n cap xs hf k ω ω ω ω hk48 (growslice_fits ω hbytes)
      have hgr:=grown cap ω (Value.ownBlock (.slice (some ⟨g,0,none⟩) n cap))
      exact ⟨_,_,hr,hgr.1,hgr.2⟩
theorem De {P:Program} {w:World} {ops:Array Oper} {rest:List Oper} {o:Oper} {act:Act} {Q:Exit→Act→World→Prop} (hgd:o.guard=none) (s x:Operand) {t tn e:TypeId} {bytes:Nat} {z:Value} {kq kn:IntKind}
    (ho:o.op=.call { callee:=.builtin .append,args:=#[s,x],argTypes:=#[t,tn] }) (under:P.underlying t=some (.slice e)) (htn:P.underlying tn=some (.int kn)) (hinfo:(P.info? e).map (fun i=>(i.zero,i.size,i.bytes))=some (some z,1,bytes)) (hzc:z.cells=#[z]) (hz1:z.oneCell'=true) (B:Nat)
    {a1:Ω} {n c k:Nat} {K:Int} {cs:List Value} (hs:act.eval s=.slice a1 n c) (hx:act.eval x=.int kq K) (hK:K=(k:Int))
    (hown:Own w B e 1 a1 n c cs) (hbytes:(n+k)*bytes≤140737488355328) (h63:n+k≤9223372036854775807) (hbase:B≤w.heap.size)
    (h:∀ a' c' w',Own w' B e 1 a' (n+k) c' (cs++List.replicate k z)→w.grownBy w' (Value.slice a1 n c).ownBlock→Below B w w'→wpList P ops Q rest (act.put o.dst (.slice a' (n+k) c')) w') :
    wpList P ops Q (o::rest) act w:=by
  subst hK
  obtain ⟨i,hi,hz,hsz,hby⟩:=info_parts hinfo
  have hlt:∀ k,(Value.slice a1 n c).ownBlock=some k→B≤k:=fun k hk=>(World.ownsRow.lt hown k hk).1
  obtain ⟨v',w',hr,h2,h3⟩:=EA (P:=P) w B t tn o.type e i z kq kn under htn hi hz hsz hzc hz1 (.slice a1 n c) n cs hown k h63 (by rw [hby];exact hbytes) hbase
  obtain ⟨a',c',rfl,h5⟩:=CX h2
  exact Lib.wpList_append_run w hgd s x t tn ho _ _ hs hx _ _ hr (h a' c' w' h5 h3 ((Below.refl B w).grown h3 hbase (fun k hk=>hlt k hk)))
theorem MV {P:Program} {w:World} {ops:Array Oper} {rest:List Oper} {o:Oper} {act:Act} {Q:Exit→Act→World→Prop} (hgd:o.guard=none) (s x:Operand) {t u e:TypeId}
    (ho:o.op=.call { callee:=.builtin .append,args:=#[s,x],argTypes:=#[t,u] }) (under:P.underlying t=some (.slice e)) (hu:P.underlying u=some .string) (hinfo:(P.info? e).map (fun i=>(i.zero,i.size,i.bytes))=some (some (.int .u8 0),1,1)) (B:Nat)
    {a1:Ω} {n c:Nat} {st:ByteArray} {cs:List Value} (hs:act.eval s=.slice a1 n c) (hx:act.eval x=.string st)
    (hown:Own w B e 1 a1 n c cs) (hbytes:n+st.size≤140737488355328) (hbase:B≤w.heap.size)
    (h:∀ a' c' w',Own w' B e 1 a' (n+st.size) c' (cs++st.data.toList.map Ad)→w.grownBy w' (Value.slice a1 n c).ownBlock→Below B w w'→wpList P ops Q rest (act.put o.dst (.slice a' (n+st.size) c')) w') :
    wpList P ops Q (o::rest) act w:=by
  obtain ⟨i,hi,hz,hsz,hby⟩:=info_parts hinfo
  have hlt:∀ k,(Value.slice a1 n c).ownBlock=some k→B≤k:=fun k hk=>(World.ownsRow.lt hown k hk).1
  obtain ⟨v',w',hr,h2,h3,_⟩:=Lib.run_append_own_string (P:=P) w B t u o.type e i under hu hi hz hsz hby (.slice a1 n c) n cs hown st (by unfold maxLen;omega) hbytes hbase
  obtain ⟨a',c',rfl,h5⟩:=CX h2
  exact Lib.wpList_append_run w hgd s x t u ho _ _ hs hx _ _ hr (h a' c' w' h5 h3 ((Below.refl B w).grown h3 hbase (fun k hk=>hlt k hk)))
end
section
def Bp (n k:Int):Bool:=
  if k=1 then decide (0≤n)&&decide (n<256) else if k=2 then decide (0≤n)&&decide (n<65536)
  else if k=4 then decide (0≤n)&&decide (n<4294967296) else if k=8 then decide (0≤n) else false
theorem Fg (n k:Int) (w:World) :
    Calls prog 99 #[ν n,ν k] w fun e w'=>e=.returned (.bool (Bp n k))∧w=w':=by
  rcases (ω:k=1∨k=2∨k=4∨k=8∨(k≠1∧k≠2∧k≠4∧k≠8)) with rfl | rfl | rfl | rfl | ⟨k1,k2,k4,k8⟩
  all_goals
    by_cases h0:0≤n
    all_goals
      go_enter func99,ntmps99;go_wp2;go_ret
      refine ⟨AR ?_,rfl⟩
      simp [Bp, *]<;>omega
theorem Vf {n:Int} (k:Int) (h:n<0):Bp n k=false:=by
  unfold Bp
  repeat' split
  all_goals simp<;>omega
theorem RW (n:Int) {k:Int} (k1:k≠1) (k2:k≠2) (k4:k≠4) (k8:k≠8):Bp n k=false:=by
  simp [Bp, *]
def le:Nat→Nat→Λ
  | 0,_=>[]
  | k+1,n=>UInt8.ofNat n::le k (n / 256)
theorem Ay (k n:Nat):(le k n).length=k:=by
  induction k generalizing n with
  | zero=>rfl
  | succ k ih=>simp [le,ih]
def Ar (xs:Λ) (n k:Int):Λ:=if Bp n k then xs++le k.toNat n.toNat else xs
theorem Aag (j n:Nat):le (j+1) n=le j n++[UInt8.ofNat (n / 256 ^ j)]:=by
  induction j generalizing n with
  | zero=>simp [le]
  | succ j ih=>
    show UInt8.ofNat n::le (j+1) (n / 256)=UInt8.ofNat n::le j (n / 256)++[_]
    rw [ih,Nat.div_div_eq_div_mul,Nat.pow_succ,Nat.mul_comm 256];rfl
theorem GY {n k:Int} (h:Bp n k=true):0≤n∧1≤k∧k≤8:=by
  by_cases h0:0≤n
  · refine ⟨h0,?_⟩
    by_cases k1:k=1
    · omega
    by_cases k2:k=2
    · omega
    by_cases k4:k=4
    · omega
    by_cases k8:k=8
    · omega
    rw [RW n k1 k2 k4 k8] at h;cases h
  · rw [Vf k ω] at h;cases h
theorem LM (a:Ω) (n c:Nat) (at_ k:Int) (w:World) (hn:n≤9223372036854775807) (hk:1≤k∧k≤8) :
    Calls prog 100 #[.slice a n c,ν at_,ν k] w fun e w'=>e=.returned (.bool (decide (0≤at_)&&decide (at_+k≤n)))∧w=w':=by
  by_cases h0:0≤at_
  · go_enter func100,ntmps100
    go_wp2
    go_ret
    exact ⟨AR (by simp [h0];omega),rfl⟩
  · go_enter func100,ntmps100
    go_wp2
    go_ret
    exact ⟨AR (by simp;omega),rfl⟩
theorem TC {xs ys:Λ} (hl:xs.length=ys.length) (h:∀ i,i<ys.length→bAt xs i=bAt ys i):xs=ys:=by
  apply List.ext_getElem hl
  intro i h1 h2
  have:=h i h2
  rw [DL h1,DL h2] at this
  exact UInt8.toNat_inj.1 this
theorem YP (a b:Ω) (c d:Nat) (xs ys:Λ) (w:World) (ha:RowB w a c xs) (hb:RowB w b d ys) (hl:xs.length≤9223372036854775807) (hm:ys.length≤9223372036854775807) :
    Calls prog 14 #[.slice a xs.length c,.slice b ys.length d] w fun e w'=>e=.returned (.bool (decide (xs=ys)))∧Below w.heap.size w w':=by
  by_cases hne:xs.length=ys.length
  · rw [hne]
    have hne2:=hid hne
    go_enter func14,ntmps14
    clear hne
    go_wp2
    go_loopw [5] (fun i wr=>∃ j:Nat,j≤ys.length∧i=ν j∧(∀ i,i<j→bAt xs i=bAt ys i)∧Below w.heap.size w wr)
      (fun i _=>ys.length-(intOf i).toNat)
    case atStart=>exact ⟨0,Nat.zero_le _,rfl,fun i h=>absurd h ω,Below.refl _ _⟩
    case round=>
      obtain ⟨j,hj,rfl,hp,hbel⟩:=hrel
      have HP:=hid hp;clear hp
      by_cases hlt:j<ys.length
      · obtain ⟨ba,oa,rfl,hba,hca⟩:=(ha.mono hbel).bytes (by have:=hne2.out;omega)
        obtain ⟨bb,ob,rfl,hbb,hcb⟩:=(hb.mono hbel).bytes ω
        have ca:=hca j (by have:=hne2.out;omega)
        have cb:=hcb j hlt
        clear hca hcb ha hb
        have hlt':(j:Int)<(ys.length:Int):=ω
        by_cases hxy:bAt xs j=bAt ys j
        · have HX:=hid hxy
          rw [hxy] at ca
          clear hxy
          go_wp2
          go_quiet (fail)
          go_wp2
          go_roundw
          case rel=>exact ⟨j+1,ω,by go_num,fun i hi=>(by rcases Nat.lt_succ_iff_lt_or_eq.1 hi with h | rfl;exact HP.out i h;exact HX.out),Ef hbel _⟩
          case measure=>simp [intOf];omega
        · have hxy':((bAt xs j:Int) != (bAt ys j:Int))=true:=by simp;omega
          have HX:=hid hxy
          clear hxy
          go_wp2
          go_quiet (fail)
          go_wp2
          go_ret
          exact ⟨AR (decide_eq_false (by rintro rfl;exact HX.out rfl)).symm,Ef hbel _⟩
      · obtain rfl:j=ys.length:=ω
        go_wp2
        go_ret
        exact ⟨AR (decide_eq_true (TC hne2.out HP.out)).symm,hbel⟩
  · go_enter func14,ntmps14
    go_wp2
    go_ret
    exact ⟨AR (by simp;intro h;exact hne (by rw [h])),Below.refl _ _⟩
end
section
def BL:Λ→Nat
  | []=>0
  | x::xs=>x.toNat+256*BL xs
theorem Lb (xs:Λ):BL xs<256 ^ xs.length:=by
  induction xs with
  | nil=>simp [BL]
  | cons x xs ih=>
    have:=x.toNat_lt
    simp only [BL,List.length_cons,Nat.pow_succ]
    omega
theorem Ql (xs ys:Λ):BL (xs++ys)=BL xs+256 ^ xs.length*BL ys:=by
  induction xs with
  | nil=>simp [BL]
  | cons x xs ih=>
    simp only [List.cons_append,BL,ih,List.length_cons,Nat.pow_succ,Nat.mul_add]
    rw [Nat.mul_comm (256 ^ xs.length) 256,Nat.mul_assoc];omega
def EM (k:Int):Bool:=decide (k=1∨k=2∨k=4∨k=8)
def AC (xs:Λ) (at_ k:Int):Option Nat:=
  if EM k=true∧0≤at_∧at_+k≤xs.length then
    (if BL ((xs.drop at_.toNat).take k.toNat)≤9223372036854775807 then some (BL ((xs.drop at_.toNat).take k.toNat)) else none)
  else none
theorem Xs (k:Int):Bp 0 k=EM k:=by
  unfold Bp EM
  repeat' split
  all_goals simp [*]
theorem Jl (n:Int):BitVec.ofInt 64 (wrap64 n)=BitVec.ofInt 64 n:=by
  apply BitVec.eq_of_toNat_eq
  simp only [BitVec.toNat_ofInt]
  congr 1
  unfold wrap64
  omega
theorem Ts (n:Int):wrap64 (n % 18446744073709551616)=wrap64 n:=by unfold wrap64;omega
theorem wrap_i64 (n:Int):IntKind.i64.wrap n=wrap64 n:=by simp only [IntKind.wrap_i64,wrap64]
theorem Aa4 (i A B:Nat) (hA:A<2 ^ i) (hB:B % 2 ^ i=0):bits .or .i64 (wrap64 A) (wrap64 B)=wrap64 ((A+B:Nat):Int):=by
  unfold bits
  show IntKind.i64.wrap (((BitVec.ofInt 64 (wrap64 A) ||| BitVec.ofInt 64 (wrap64 B)).toNat:Nat):Int)=_
  rw [Jl,Jl,wrap_i64]
  rw [show BitVec.ofInt 64 (A:Int)=BitVec.ofNat 64 A from rfl,show BitVec.ofInt 64 (B:Int)=BitVec.ofNat 64 B from rfl,← BitVec.ofNat_or,Nat.or_comm,nat_join i B A hB hA,Nat.add_comm]
  rw [BitVec.toNat_ofNat,show ((((A+B) % 2 ^ 64:Nat)):Int)=((A+B:Nat):Int) % 18446744073709551616 from ω,Ts]
theorem MO {xs:Λ} {A j:Nat} (h:A+j<xs.length):(xs.drop A).take (j+1)=(xs.drop A).take j++[xs[A+j]]:=by
  rw [List.take_succ_eq_append_getElem (by simp;omega)];simp
theorem Uk (j:Nat):2 ^ (8*j)=256 ^ j:=by rw [Nat.pow_mul]
theorem XB {xs:Λ} {A j:Nat} (h:A+j<xs.length) :
    bits .or .i64 (wrap64 (BL ((xs.drop A).take j):Nat)) (wrap64 (wrap64 (bAt xs (A+j):Int)*2 ^ (8*j)))=wrap64 (BL ((xs.drop A).take (j+1)):Nat):=by
  have hx:=EH xs (A+j)
  rw [IntWalk.wrap64_in (bAt xs (A+j):Int) ω]
  have e:(bAt xs (A+j):Int)*2 ^ (8*j)=((bAt xs (A+j)*256 ^ j:Nat):Int):=by
    rw [← Uk];simp
  have hl:=Lb ((xs.drop A).take j)
  have hlen:((xs.drop A).take j).length=j:=by simp;omega
  rw [hlen] at hl
  rw [e,Aa4 (8*j) _ _ (by rw [Uk];exact hl) (by rw [Uk];simp),MO h,Ql,hlen]
  simp [BL,Nat.mul_comm,DL h]
theorem Vg (v k:Nat) (hk:EM k=true) (hv:v<256 ^ k):Bp (wrap64 (v:Int)) k=decide (v≤9223372036854775807):=by
  simp only [EM,decide_eq_true_eq] at hk
  have hk':k=1∨k=2∨k=4∨k=8:=ω
  rcases hk' with rfl | rfl | rfl | rfl
  · rw [IntWalk.wrap64_in _ ω];simp [Bp];omega
  · rw [IntWalk.wrap64_in _ ω];simp [Bp];omega
  · rw [IntWalk.wrap64_in _ ω];simp [Bp];omega
  · simp [Bp,wrap64];omega
theorem Wx {k:Int} (h:EM k=true):1≤k∧k≤8:=by
  simp only [EM,decide_eq_true_eq] at h;omega
def KN (o:Option Nat):Value:=.tuple #[ν ((o.getD 0:Nat):Int),.bool o.isSome]
theorem DP (a:Ω) (c:Nat) (xs:Λ) (at_ k:Int) (w:World) (ha:RowB w a c xs) (hl:xs.length≤9223372036854775807) :
    Calls prog 74 #[.slice a xs.length c,ν at_,ν k] w fun e w'=>e=.returned (KN (AC xs at_ k))∧w=w':=by
  by_cases hk:EM k=true
  case neg=>
    have hk':EM k=false:=by simpa using hk
    go_enter func74,ntmps74
    go_wp2_with fail
    refine (Fg _ _ _).mono ?_
    rintro e w' ⟨rfl,rfl⟩
    rw [Xs,hk']
    go_wp2_with fail
    go_ret2
    exact ⟨by simp [KN,AC,hk'],rfl⟩
  case pos=>
  have hk8:=Wx hk
  by_cases h1:0≤at_∧at_+k≤xs.length
  case neg=>
    have H1:=hid h1
    clear h1
    go_enter func74,ntmps74
    go_wp2_with fail
    refine (Fg _ _ _).mono ?_
    rintro e w' ⟨rfl,rfl⟩
    rw [Xs,hk]
    have HK:=hid hk;clear hk
    go_wp2_with fail
    refine (LM _ _ _ _ _ _ hl hk8).mono ?_
    rintro e w' ⟨rfl,rfl⟩
    rw [show (decide (0≤at_)&&decide (at_+k≤xs.length))=false from by simpa using H1.out]
    go_wp2_with fail
    go_ret2
    exact ⟨by simp [KN,AC,H1.out],rfl⟩
  case pos=>
  have hw:=hid hk
  have hv:=Vg (BL ((xs.drop at_.toNat).take k.toNat)) k.toNat (by rw [Int.toNat_of_nonneg ω];exact hk) (by
    have:=Lb ((xs.drop at_.toNat).take k.toNat)
    rwa [show ((xs.drop at_.toNat).take k.toNat).length=k.toNat from by simp;omega] at this)
  rw [Int.toNat_of_nonneg (ω:0≤k)] at hv
  have HV:=hid hv;clear hv
  go_enter func74,ntmps74
  go_wp2_with fail
  refine (Fg _ _ _).mono ?_
  rintro e w' ⟨rfl,rfl⟩
  rw [Xs,hk]
  clear hk
  go_wp2_with fail
  refine (LM _ _ _ _ _ _ hl hk8).mono ?_
  rintro e w' ⟨rfl,rfl⟩
  rw [show (decide (0≤at_)&&decide (at_+k≤xs.length))=true from by simp [h1]]
  go_wp2_with fail
  obtain ⟨K,rfl⟩:=Int.eq_ofNat_of_zero_le (ω:0≤k)
  obtain ⟨A,rfl⟩:=Int.eq_ofNat_of_zero_le (ω:0≤at_)
  obtain ⟨b,off,rfl,hlt,hc⟩:=ha.bytes ω
  clear ha
  simp only [Int.toNat_natCast] at HV
  go_loop [8,9,21] (fun n i j'=>∃ j:Nat,j≤K∧j'=ν j∧n=ν (wrap64 (BL ((xs.drop A).take j):Nat))) (fun _ _ i=>K-(intOf i).toNat)
  case atStart=>exact ⟨0,Nat.zero_le _,rfl,by simp [BL,wrap64]⟩
  case round=>
    obtain ⟨j,hj,rfl,rfl⟩:=hrel
    by_cases hjk:j<K
    · have hcj:=hc (A+j) ω
      have hst:=XB (xs:=xs) (A:=A) (j:=j) ω
      have HS:=hid hst;clear hst
      generalize wrap64 (BL ((xs.drop A).take j):Nat)=q at *
      generalize bAt xs (A+j)=x at *
      clear hc
      go_wp2
      go_round
      case rel=>exact ⟨j+1,ω,by go_num,by rw [HS.out]⟩
      case measure=>simp [intOf];omega
    · obtain rfl:j=K:=ω
      clear hc
      go_wp2_with fail
      refine (Fg _ _ _).mono ?_
      rintro e w' ⟨rfl,rfl⟩
      rw [HV.out]
      by_cases hbig:BL ((xs.drop A).take j)≤9223372036854775807
      · have hww:wrap64 (BL ((xs.drop A).take j):Nat)=(BL ((xs.drop A).take j):Nat):=IntWalk.wrap64_in _ ω
        rw [decide_eq_true hbig]
        rw [hww]
        have e:AC xs A j=some (BL ((xs.drop A).take j)):=by simp [AC,hw.out,hbig];omega
        have E:=hid e;clear e
        clear hww
        go_wp2
        go_ret2
        exact ⟨by simp [KN,E.out],rfl⟩
      · rw [decide_eq_false hbig]
        have e:AC xs A j=none:=by simp [AC,hbig]
        have E:=hid e;clear e
        go_wp2
        go_ret2
        exact ⟨by simp [KN,E.out],rfl⟩
end
section
theorem Sz {xs:Λ} (h:xs.length≤4):BL xs≤9223372036854775807:=by
  have h1:=Lb xs
  have h2:256 ^ xs.length≤256 ^ 4:=Nat.pow_le_pow_right ω h
  omega
end
section
theorem WC (g off m c n:Nat) (L:List Value) (w:World) (hb:Blk w g 5 L) (hm:off+m≤L.length) (hm8:m≤8) (hn:n≤9223372036854775807) (hc:L.length≤9223372036854775807) :
    Calls prog 112 #[.slice (some ⟨g,off,none⟩) m c,ν n] w fun e w'=>e=.returned (.tuple #[])∧Blk w' g 5 (splice L off ((le m n).map Ad))∧w.grownBy w' (some g)∧w'.heap.size=w.heap.size:=by
  go_enter func112,ntmps112
  go_wp2_with fail
  go_loopw [4,7] (fun i j' wr=>∃ j:Nat,j≤m∧j'=ν j∧Blk wr g 5 (splice L off ((le j n).map Ad))∧w.grownBy wr (some g)∧wr.heap.size=w.heap.size) (fun _ i _=>m-(intOf i).toNat)
  case atStart=>exact ⟨0,Nat.zero_le _,rfl,by simpa [le,splice] using hb,⟨rfl,rfl,rfl,Nat.le_refl _,fun _ _ _=>rfl⟩,rfl⟩
  case round=>
    obtain ⟨j,hj,rfl,hblk,hgrow,hsz⟩:=hrel
    by_cases hlt:j<m
    · have hl:((le j n).map Ad).length=j:=by simp [Ay]
      have hls:=length_splice L off ((le j n).map Ad) ω
      obtain ⟨old,hcell⟩:=hblk.someCell (i:=off+j) ω
      have hfr:=hblk.frozen (off+j)
      have hset:=hblk.set (off+j) (Ad (UInt8.ofNat (n / 256 ^ j)))
      rw [show off+j=off+((le j n).map Ad).length from by rw [hl],MK _ _ _ _ ω,hl] at hset
      rw [show (le j n).map Ad++[Ad (UInt8.ofNat (n / 256 ^ j))]=(le (j+1) n).map Ad from by rw [Aag];simp] at hset
      have hgs:w.grownBy (wr.setCell ⟨g,off+j,none⟩ (Ad (UInt8.ofNat (n / 256 ^ j)))) (some g):=
        ⟨hgrow.os,hgrow.tape,hgrow.output,by simp [World.setCell];exact hgrow.size,fun k hk hne=>by
          rw [Below.heap_setCell _ _ _ _ (by rintro rfl;exact hne rfl)];exact hgrow.block k hk hne⟩
      have hss:(wr.setCell ⟨g,off+j,none⟩ (Ad (UInt8.ofNat (n / 256 ^ j)))).heap.size=w.heap.size:=by simp [World.setCell];exact hsz
      have hby:Ad (UInt8.ofNat (n / 256 ^ j))=.int .u8 ((n:Int) / 2 ^ (8*j) % 256):=by
        have e:((n:Int) / 2 ^ (8*j))=((n / 256 ^ j:Nat):Int):=by rw [← Uk];simp
        rw [e];simp [Ad]
      rw [hby] at hset hgs hss
      have H:=hid (And.intro hset (And.intro hgs hss))
      clear hset hgs hss hls hl hblk hgrow hby
      go_wp2
      go_roundw
      case rel=>exact ⟨j+1,ω,by go_num,H.out.1,H.out.2.1,H.out.2.2⟩
      case measure=>simp [intOf];omega
    · obtain rfl:j=m:=ω
      go_wp2
      go_end0
      exact ⟨rfl,hblk,hgrow,hsz⟩
theorem Afy:(prog.info? 5).map (·.size)=some 1:=κ
theorem Ab9:(prog.info? 5).map (fun i=>(i.zero,i.size,i.bytes))=some (some (.int .u8 0),1,1):=κ
theorem Yz (xs:Λ) (N K:Nat) (Z:List Value) (hZ:Z.length=xs.length+K) :
    splice (splice Z 0 (xs.map Ad)) xs.length ((le K N).map Ad)=(xs++le K N).map Ad:=by
  have h1:splice Z 0 (xs.map Ad)=xs.map Ad++Z.drop xs.length:=by simp [splice]
  rw [h1]
  simp only [splice,List.length_map,Ay]
  rw [List.take_append_of_le_length (by simp),List.take_of_length_le (by simp),List.drop_of_length_le (by simp;omega)]
  simp
theorem DU (a:Ω) (c:Nat) (xs:Λ) (n k:Int) (w:World) (ha:RowB w a c xs) (hl:xs.length≤70368744177664) (hn9:n≤9223372036854775807) :
    Calls prog 84 #[.slice a xs.length c,ν n,ν k] w (UC w (Ar xs n k)):=by
  have t1:True:=trivial
  by_cases hf:Bp n k=true
  · have hk:=GY hf
    obtain ⟨N,rfl⟩:=Int.eq_ofNat_of_zero_le hk.1
    obtain ⟨K,rfl⟩:=Int.eq_ofNat_of_zero_le (ω:0≤k)
    go_enter func84,ntmps84
    go_wp2_with fail
    refine (Fg _ _ _).mono ?_
    rintro e w' ⟨rfl,rfl⟩
    rw [hf]
    have HF:=hid hf;clear hf
    go_wp2_with (first
      | (at_make;refine JD rfl (.tmp 17) (.tmp 17) rfl υ22 Ab9 rfl (n:=xs.length+K) rfl rfl ω ω ω ω ?_;intro w1 hblk hbel)
      | (with_reducible refine Zs rfl (.tmp 20) (.tmp 21) rfl υ22 Afy rfl rfl hblk (ha.mono hbel) (CN xs) (by simp) ?_;intro w2 hblk2 hbel2))
    go_goals
    rw [show List.take (min xs.length (xs.length+K)) (List.map Ad xs)=xs.map Ad from List.take_of_length_le (by simp)] at hblk2
    refine (WC w.heap.size xs.length K K N _ w2 hblk2 (by rw [length_splice _ _ _ (by simp)];simp) ω ω (by rw [length_splice _ _ _ (by simp)];simp;omega)).mono ?_
    rintro e w3 ⟨rfl,hblk3,hgrow3,hsz3⟩
    go_wp2_with fail
    go_ret
    rw [Yz xs N K _ (by simp)] at hblk3
    refine ⟨some ⟨w.heap.size,0,none⟩,xs.length+K,by simp [Ar,HF.out,Ay],?_,(hbel.trans hbel2).grown hgrow3 (by have:=hbel.size;have:=hbel2.size;omega) (fun k hk=>by cases hk;exact Nat.le_refl _)⟩
    have hown:=Own.of_blk (B:=w.heap.size) (sz:=1) (n:=xs.length+K) (c:=xs.length+K) hblk3 (Nat.le_refl _) (Nat.le_refl _) (by unfold maxLen;omega) (by simp [Ay])
    rw [List.take_of_length_le (by simp [Ay])] at hown
    simpa [Ar,HF.out,CF,Ay] using hown
  · have hf':Bp n k=false:=by simpa using hf
    clear hf
    go_enter func84,ntmps84
    go_wp2_with fail
    refine (Fg _ _ _).mono ?_
    rintro e w' ⟨rfl,rfl⟩
    rw [hf']
    have HF:=hid hf';clear hf'
    go_wp2_with (first
      | (at_builtin;have _t:=t1;refine CA rfl (.const (.slice none 0 0)) (.tmp 12) rfl E8 w.heap.size rfl rfl (Own.nil _ _ _ _) ha (CN xs) ω ω (Nat.le_refl _) ?_;clear t1;intro a1 c1 w1 hown hgrow hbel;simp only [Nat.zero_add,List.nil_append] at hown))
    go_ret
    exact ⟨a1,c1,by simp [Ar,HF.out],by simpa [Ar,HF.out,CF] using hown,hbel⟩
end
section
def Ds (n to:Int):Bool:=decide (0≤n)&&decide (n≤1152921504606846976)&&decide (1≤to)&&decide (to≤1073741824)
def upF (n to:Int):Int:=if Ds n to=true then (if n % to=0 then n else n-n % to+to) else n
def Ahm (n to:Int):Int:=if Ds n to=true then n-n % to else n
theorem Mu {n to:Int}:Ds n to=true↔0≤n∧n≤1152921504606846976∧1≤to∧to≤1073741824:=by
  simp [Ds,and_assoc]
theorem Mv (n to:Int) (w:World) :
    Calls prog 149 #[ν n,ν to] w fun e w'=>e=.returned (.bool (Ds n to))∧w=w':=by
  by_cases h0:0≤n
  · by_cases h1:n≤1152921504606846976
    · by_cases h2:1≤to
      · go_enter func149,ntmps149;go_wp2;go_ret;exact ⟨AR (by simp [Ds,h0,h1,h2]),rfl⟩
      · go_enter func149,ntmps149;go_wp2;go_ret;exact ⟨AR (by simp [Ds,h0,h1];omega),rfl⟩
    · go_enter func149,ntmps149;go_wp2;go_ret;exact ⟨AR (by simp [Ds,h0];omega),rfl⟩
  · go_enter func149,ntmps149;go_wp2;go_ret;exact ⟨AR (by simp [Ds];omega),rfl⟩
theorem Af9 {n to:Int} (h0:0≤n) (h:1≤to):(n+to-1) / to*to=if n % to=0 then n else n-n % to+to:=by
  have h1:=Int.emod_add_mul_ediv n to
  have h2:=Int.emod_nonneg n (ω:to≠0)
  have h3:=Int.emod_lt_of_pos n (ω:0<to)
  generalize n % to=r at *
  generalize n / to=q at *
  split
  · next hr=>
    subst hr
    have:(n+to-1) / to=q:=by
      rw [show n+to-1=(to-1)+to*q from ω,Int.add_mul_ediv_left _ _ ω,Int.ediv_eq_zero_of_lt ω ω];omega
    rw [this,Int.mul_comm];omega
  · next hr=>
    have:(n+to-1) / to=1+q:=by
      rw [show n+to-1=(r-1)+to*(1+q) from by rw [Int.mul_add];omega,Int.add_mul_ediv_left _ _ ω,Int.ediv_eq_zero_of_lt ω ω];omega
    rw [this,Int.mul_comm,Int.mul_add];omega
theorem Adp {n to:Int} (h:1≤to):0≤n % to∧n % to<to:=⟨Int.emod_nonneg n ω,Int.emod_lt_of_pos n ω⟩
theorem Aej (n to:Int) (w:World) :
    Calls prog 127 #[ν n,ν to] w fun e w'=>e=.returned (ν (upF n to))∧w=w':=by
  by_cases hr:Ds n to=true
  · have h:=Mu.1 hr
    have hb:=Adp (n:=n) h.2.2.1
    have e:=Af9 h.1 h.2.2.1
    have hle:(n+to-1) / to*to≤n+to-1∧0≤(n+to-1) / to*to:=by rw [e];split<;>omega
    have HE:=hid e;clear e
    go_enter func127,ntmps127
    go_wp2_with fail
    refine (Mv _ _ _).mono ?_
    rintro e w' ⟨rfl,rfl⟩
    rw [hr]
    have HR:=hid hr;clear hr
    go_wp2_with fail
    go_ret
    exact ⟨FE (by rw [upF,if_pos HR.out,← HE.out]),rfl⟩
  · have hr':Ds n to=false:=by simpa using hr
    have HR:=hid hr;clear hr
    go_enter func127,ntmps127
    go_wp2_with fail
    refine (Mv _ _ _).mono ?_
    rintro e w' ⟨rfl,rfl⟩
    rw [hr']
    clear hr'
    go_wp2_with fail
    go_ret
    exact ⟨FE (by rw [upF,if_neg HR.out]),rfl⟩
def Ag9 (x:Nat):Nat:=(2*x) % 4294967296+x / 2147483648
def Afw:Nat→Nat→Nat
  | 0,x=>x
  | m+1,x=>Ag9 (Afw m x)
def Ah6 (m x:Nat):Nat:=(x*2 ^ m) % 4294967296+x / 2 ^ (32-m)
def Ah5 (x:Nat) (n:Int):Nat:=Afw ((if n<0 then -(n+1) else n) % 32).toNat x
end
section
def Cr (q:Nat):Nat:=if q % 2=1 then (q / 2) ^^^ 3988292384 else q / 2
def BN:Nat→Nat→Nat
  | 0,q=>q
  | k+1,q=>Cr (BN k q)
def Gp (r:Nat) (x:UInt8):Nat:=BN 8 (r ^^^ x.toNat)
def Eh (r:Nat) (xs:Λ):Nat:=xs.foldl Gp r
def Cb (xs:Λ):Nat:=4294967295-Eh 4294967295 xs
theorem MX {a b:Nat} (ha:a<4294967296) (hb:b<4294967296):a ^^^ b<4294967296:=by
  have:=Nat.xor_lt_two_pow (n:=32) (x:=a) (y:=b) ω ω
  omega
theorem RD {q:Nat} (h:q<4294967296):Cr q<4294967296:=by
  unfold Cr
  split
  · exact MX ω ω
  · omega
theorem Kp {q:Nat} (h:q<4294967296) (k:Nat):BN k q<4294967296:=by
  induction k with
  | zero=>exact h
  | succ k ih=>exact RD ih
theorem Rz {r:Nat} (h:r<4294967296) (x:UInt8):Gp r x<4294967296:=
  Kp (MX h (by have:=x.toNat_lt;omega)) 8
theorem Nm {r:Nat} (h:r<4294967296) (xs:Λ):Eh r xs<4294967296:=by
  induction xs generalizing r with
  | nil=>exact h
  | cons x xs ih=>unfold Eh;rw [List.foldl_cons];exact ih (Rz h x)
theorem DM (xs:Λ):Cb xs<4294967296:=by unfold Cb;omega
theorem PB (r:Nat) (xs:Λ) (x:UInt8):Eh r (xs++[x])=Gp (Eh r xs) x:=by
  unfold Eh;rw [List.foldl_append,List.foldl_cons,List.foldl_nil]
def Agn (r c:Nat):Nat:=if r % 2≠c % 2 then (r / 2) ^^^ 3988292384 else r / 2
theorem RE (q:Nat):BN 0 q=q:=rfl
theorem FL (k q:Nat):BN (k+1) q=Cr (BN k q):=rfl
theorem Lp (r:Nat) (x:UInt8):Gp r x=BN 8 (r ^^^ x.toNat):=rfl
theorem RC (r:Nat):Eh r []=r:=List.foldl_nil
attribute [irreducible] Cr BN Gp Eh
def Ah3 (l:Λ) (k:Nat):Λ:=l.set (k / 8) ((l.getD (k / 8) 0) ^^^ UInt8.ofNat (2 ^ (k % 8)))
end
section
def Reg (w:World) (h r:Nat):Prop:=Blk w h 192 [.int .u32 (r:Int)]
theorem Reg.cell {w:World} {h r:Nat} (H:Reg w h r):w.cell? ⟨h,0,none⟩=some (.int .u32 (r:Int)):=Blk.cell (L:=[.int .u32 (r:Int)]) H (i:=0) (by simp)
theorem Reg.frozen {w:World} {h r:Nat} (H:Reg w h r):w.frozen? ⟨h,0,none⟩=false:=Blk.frozen H 0
theorem Reg.set {w:World} {h r:Nat} (H:Reg w h r) (q:Nat):Reg (w.setCell ⟨h,0,none⟩ (.int .u32 (q:Int))) h q:=Blk.set H 0 _
theorem Reg.lt {w:World} {h r:Nat} (H:Reg w h r):h<w.heap.size:=Blk.lt H
theorem Reg.mono {w w':World} {h r:Nat} (H:Reg w h r) (hb:Below w.heap.size w w'):Reg w' h r:=Blk.mono H hb
theorem CO {w w':World} {h:Nat} (g:w.grownBy w' (some h)) (i:Nat) (v:Value):w.grownBy (w'.setCell ⟨h,i,none⟩ v) (some h):=
  ⟨g.os,g.tape,g.output,by simp [World.setCell];exact g.size,fun k hk hne=>by
    rw [Below.heap_setCell _ _ _ _ (by rintro rfl;exact hne rfl)];exact g.block k hk hne⟩
theorem Fi (w:World) (r:Option Nat):w.grownBy w r:=⟨rfl,rfl,rfl,Nat.le_refl _,fun _ _ _=>rfl⟩
theorem PQ {w w1 w2:World} {r:Option Nat} (a:w.grownBy w1 r) (b:w1.grownBy w2 r):w.grownBy w2 r:=
  ⟨b.os.trans a.os,b.tape.trans a.tape,b.output.trans a.output,Nat.le_trans a.size b.size,fun k hk hne=>(b.block k (Nat.lt_of_lt_of_le hk a.size) hne).trans (a.block k hk hne)⟩
theorem UI (h r:Nat) (w:World) (H:Reg w h r) :
    Calls prog 124 #[π h] w fun e w'=>e=.returned (.tuple #[])∧Reg w' h 4294967295∧w.grownBy w' (some h):=by
  have hc:=H.cell
  have hf:=H.frozen
  have hs:=H.set 4294967295
  have HS:=hid hs;clear hs
  go_enter func124,ntmps124
  go_wp2
  go_end0
  exact ⟨rfl,HS.out,CO (Fi _ _) _ _⟩
theorem Ym {r:Nat} (h:r<4294967296):4294967295 ^^^ r=4294967295-r:=by
  have e:=congrArg BitVec.toNat (BitVec.allOnes_xor (x:=BitVec.ofNat 32 r))
  rw [BitVec.toNat_xor,BitVec.toNat_not,BitVec.toNat_allOnes,BitVec.toNat_ofNat,Nat.mod_eq_of_lt ω] at e
  exact e
theorem Adc {r:Nat} (h:r<4294967296):bits BinOp.xor IntKind.u32 IntKind.u32.max (r:Int)=((4294967295-r:Nat):Int):=by
  rw [← Ym h,← u32_xor_nat 4294967295 r ω h];rfl
theorem OF (h r:Nat) (w:World) (H:Reg w h r) (hr:r<4294967296) :
    Calls prog 126 #[π h] w fun e w'=>e=.returned (.int .u32 ((4294967295-r:Nat):Int))∧w=w':=by
  have hc:=H.cell
  go_enter func126,ntmps126
  go_wp2
  go_ret
  exact ⟨FE (Adc hr),rfl⟩
theorem Aep {q:Nat} (h:q<4294967296):bits .and .u32 (q:Int) 1=((q % 2:Nat):Int):=by
  have:=u32_and_nat q 1 h ω
  rw [nat_mask1] at this;exact this
theorem UB {q:Nat} (h:q<4294967296):bits .xor .u32 ((q:Int) / 2) 3988292384=((q / 2 ^^^ 3988292384:Nat):Int):=by
  have:=u32_xor_nat (q / 2) 3988292384 ω ω
  rw [← this];rfl
theorem QZ {q:Nat} (h:q % 2=1):Cr q=(q / 2) ^^^ 3988292384:=by unfold Cr;rw [if_pos h]
theorem NX {q:Nat} (h:¬ q % 2=1):Cr q=q / 2:=by unfold Cr;rw [if_neg h]
theorem Ei (q:Nat):((q / 2:Nat):Int)=(q:Int) / 2:=by simp
theorem Xo (h r:Nat) (x:UInt8) (w:World) (H:Reg w h r) (hr:r<4294967296) :
    Calls prog 125 #[π h,.int .u8 (x.toNat:Int)] w fun e w'=>e=.returned (.tuple #[])∧Reg w' h (Gp r x)∧w.grownBy w' (some h):=by
  have hx:=x.toNat_lt
  have hc:=H.cell
  have hf:=H.frozen
  have hxor:=u32_xor_nat r x.toNat hr ω
  have hq0:=MX hr (b:=x.toNat) ω
  go_enter func125,ntmps125
  go_wp2
  refine wp_scope_jumps 0 (fun a' w'=>∃ (m:Nat),1≤m∧m≤8∧(∃ (u5 u6 u7 u8 u9 u10 u11 u12 u13 u14 u15 u16 u17 u18 u19 u20 u21 u22 u23 u24 u25 u26 u27 u28 u29 u30 u31 u32 u33 u34 u35 u36 u37 u38 u39:Value),a'={ tmps:=#[π h,.int .u8 (x.toNat:Int),undef,undef,ν m,u5,u6,u7,u8,u9,u10,u11,u12,u13,u14,u15,u16,u17,u18,u19,u20,u21,u22,u23,u24,u25,u26,u27,u28,u29,u30,u31,u32,u33,u34,u35,u36,u37,u38,u39],defers:=[] })∧Reg w' h (BN (8-m) (r ^^^ x.toNat))∧w.grownBy w' (some h)) (fun a' _=>(intOf (a'.tmps.getD 4 undef)).toNat) rfl ?_ ?_
  · go_wp2
    have Hr:=H.set (r ^^^ x.toNat)
    have hgr:=CO (Fi w (some h)) 0 (.int .u32 ((r ^^^ x.toNat:Nat):Int))
    have HE:Hid (BN (8-7) (r ^^^ x.toNat)=Cr (r ^^^ x.toNat)):=by
      show BN (0+1) _=_;rw [FL,RE]
    clear hc hf hxor
    generalize w.setCell ⟨h,0,none⟩ (.int .u32 ((r ^^^ x.toNat:Nat):Int))=wr at *
    generalize hqe:r ^^^ x.toNat=q at *
    have HQ:=hid hqe;clear hqe
    have hq:=hq0
    clear hq0
    go_step3
    have hc:=Hr.cell
    have hf:=Hr.frozen
    have hand:=Aep hq
    have hxp:=UB hq
    by_cases hodd:q % 2=1
    · rw [hodd] at hand
      have hst:=QZ hodd
      have h1:=(Hr.set (q / 2)).set (q / 2 ^^^ 3988292384)
      have g1:=CO (CO hgr 0 (.int .u32 ((q / 2:Nat):Int))) 0 (.int .u32 ((q / 2 ^^^ 3988292384:Nat):Int))
      rw [Ei] at h1 g1
      rw [← hst] at h1 g1 hxp
      have H1:=hid h1;have G1:=hid g1
      clear h1 g1 hodd hst
      go_wp2
      go_step3
      exact ⟨rfl,7,ω,ω,⟨_,_,_,_,_,_,_,_,_,_,_,_,_,_,_,_,_,_,_,_,_,_,_,_,_,_,_,_,_,_,_,_,_,_,_,rfl⟩,by rw [HQ.out,HE.out];exact H1.out,G1.out⟩
    · have h0:q % 2=0:=ω
      rw [h0] at hand
      have hst:=NX hodd
      have h1:=Hr.set (q / 2)
      have g1:=CO hgr 0 (.int .u32 ((q / 2:Nat):Int))
      rw [Ei] at g1
      have h1':Reg (wr.setCell ⟨h,0,none⟩ (.int .u32 ((q:Int) / 2))) h (Cr q):=by rw [hst];rw [Ei] at h1;exact h1
      have H1:=hid h1';have G1:=hid g1
      clear h1 h1' g1 hodd h0 hst hxp
      go_wp2
      go_step3
      exact ⟨rfl,7,ω,ω,⟨_,_,_,_,_,_,_,_,_,_,_,_,_,_,_,_,_,_,_,_,_,_,_,_,_,_,_,_,_,_,_,_,_,_,_,rfl⟩,by rw [HQ.out,HE.out];exact H1.out,G1.out⟩
  · rintro a' wr ⟨m,hm1,hm8,⟨u5,u6,u7,u8,u9,u10,u11,u12,u13,u14,u15,u16,u17,u18,u19,u20,u21,u22,u23,u24,u25,u26,u27,u28,u29,u30,u31,u32,u33,u34,u35,u36,u37,u38,u39,rfl⟩,Hr,hgr⟩
    have hq:=Kp hq0 (8-m)
    have HE:Hid (2≤m→BN (8-(m-1)) (r ^^^ x.toNat)=Cr (BN (8-m) (r ^^^ x.toNat))):=fun h2=>by
      rw [← FL];congr 1;omega
    have HE8:Hid (m=1→BN 8 (r ^^^ x.toNat)=Cr (BN (8-m) (r ^^^ x.toNat))):=fun h2=>by
      subst h2;rw [← FL]
    have HM:Hid (2≤m→((m-1:Nat):Int)=(m:Int)-1):=fun h2=>ω
    generalize BN (8-m) (r ^^^ x.toNat)=q at *
    clear hc hf hxor hq0
    have hc:=Hr.cell
    have hf:=Hr.frozen
    have hand:=Aep hq
    have hxp:=UB hq
    by_cases hodd:q % 2=1
    · rw [hodd] at hand
      have hst:=QZ hodd
      have h1:=(Hr.set (q / 2)).set (q / 2 ^^^ 3988292384)
      have g1:=CO (CO hgr 0 (.int .u32 ((q / 2:Nat):Int))) 0 (.int .u32 ((q / 2 ^^^ 3988292384:Nat):Int))
      rw [Ei] at h1 g1
      rw [← hst] at h1 g1 hxp
      have H1:=hid h1;have G1:=hid g1
      clear h1 g1 hodd hst
      by_cases hm1:m=1
      · subst hm1
        go_wp2
        simp only [Exit.jump]
        go_end0
        exact ⟨rfl,by rw [Lp,show BN 8 (r ^^^ x.toNat)=Cr q from (by first | exact HE8.out trivial | exact HE8.out rfl)];exact H1.out,G1.out⟩
      · have hm2:(0:Int)<(m:Int)-1:=ω
        go_wp2
        go_step3
        exact ⟨rfl,⟨m-1,ω,ω,⟨_,_,_,_,_,_,_,_,_,_,_,_,_,_,_,_,_,_,_,_,_,_,_,_,_,_,_,_,_,_,_,_,_,_,_,by rw [HM.out ω]⟩,by rw [HE.out ω];exact H1.out,G1.out⟩,by simp [intOf];omega⟩
    · have h0:q % 2=0:=ω
      rw [h0] at hand
      have hst:=NX hodd
      have h1:=Hr.set (q / 2)
      have g1:=CO hgr 0 (.int .u32 ((q / 2:Nat):Int))
      have e2:((Cr q:Nat):Int)=(q:Int) / 2:=by rw [hst,Ei]
      rw [Ei] at g1
      have h1':Reg (wr.setCell ⟨h,0,none⟩ (.int .u32 ((q:Int) / 2))) h (Cr q):=by rw [hst];rw [Ei] at h1;exact h1
      have H1:=hid h1';have G1:=hid g1
      clear h1 h1' g1 hodd h0 hst e2 hxp
      by_cases hm1:m=1
      · subst hm1
        go_wp2
        simp only [Exit.jump]
        go_end0
        exact ⟨rfl,by rw [Lp,show BN 8 (r ^^^ x.toNat)=Cr q from (by first | exact HE8.out trivial | exact HE8.out rfl)];exact H1.out,G1.out⟩
      · have hm2:(0:Int)<(m:Int)-1:=ω
        go_wp2
        go_step3
        exact ⟨rfl,⟨m-1,ω,ω,⟨_,_,_,_,_,_,_,_,_,_,_,_,_,_,_,_,_,_,_,_,_,_,_,_,_,_,_,_,_,_,_,_,_,_,_,by rw [HM.out ω]⟩,by rw [HE.out ω];exact H1.out,G1.out⟩,by simp [intOf];omega⟩
theorem XL (h r:Nat) (w:World) (H:Reg w h r) (hr:r<4294967296) :
    Calls prog 103 #[π h] w fun e w'=>e=.returned (.int .u32 ((4294967295-r:Nat):Int))∧w=w':=by
  go_enter func103,ntmps103
  go_wp2_with fail
  refine (OF h r _ H hr).mono ?_
  rintro e w' ⟨rfl,rfl⟩
  go_wp2_with fail
  go_ret
  exact ⟨rfl,rfl⟩
theorem Aay (w:World) :
    Calls prog 101 #[] w fun e w'=>e=.returned (π w.heap.size)∧Reg w' w.heap.size 4294967295∧Below w.heap.size w w':=by
  have H0:Reg (w.alloc (.cells #[.int .u32 0] 192)) w.heap.size 0:=heap_alloc_new w _
  go_enter func101,ntmps101
  go_wp2_with fail
  refine (UI w.heap.size 0 _ H0).mono ?_
  rintro e w' ⟨rfl,H1,G1⟩
  go_wp2_with fail
  go_ret
  exact ⟨rfl,H1,((Below.refl _ w).alloc (Nat.le_refl _) _).grown G1 (by simp) (fun k hk=>by cases hk;exact Nat.le_refl _)⟩
theorem Abk {r:Nat} {xs:Λ} {j:Nat} (h:j<xs.length):Eh r (xs.take (j+1))=Gp (Eh r (xs.take j)) xs[j]:=by
  rw [List.take_succ_eq_append_getElem h,PB]
theorem Zv (h r:Nat) (a:Ω) (c:Nat) (xs:Λ) (w:World) (H:Reg w h r) (hr:r<4294967296) (ha:RowB w a c xs)
    (hap:∀ b off,a=some ⟨b,off,none⟩→b≠h∨xs=[]) :
    Calls prog 102 #[π h,.slice a xs.length c] w fun e w'=>e=.returned (.tuple #[])∧Reg w' h (Eh r xs)∧w.grownBy w' (some h):=by
  have hl:=Ce ha
  go_enter func102,ntmps102
  go_wp2
  go_loopw [5,8] (fun _ i wr=>∃ j:Nat,j≤xs.length∧i=ν j∧Reg wr h (Eh r (xs.take j))∧w.grownBy wr (some h)) (fun _ i _=>xs.length-(intOf i).toNat)
  case atStart=>exact ⟨0,Nat.zero_le _,rfl,by rw [List.take_zero,RC];exact H,Fi _ _⟩
  case round=>
    obtain ⟨j,hj,rfl,hR,hG⟩:=hrel
    by_cases hlt:j<xs.length
    · obtain ⟨b,off,rfl,hb,hc⟩:=ha.bytes ω
      have hne:b≠h:=by
        rcases hap b off rfl with h1 | h1
        · exact h1
        · subst h1;simp at hlt
      have hcj:=(World.cell?_of_block (a:=⟨b,off+j,none⟩) (hG.block b hb (by simpa using hne))).trans (hc j hlt)
      rw [DL hlt] at hcj
      have hst:=Abk (r:=r) hlt
      have HS:=hid hst;clear hst hc
      have hq:=Nm hr (xs.take j)
      clear ha hap
      go_wp2_with fail
      refine (Xo h (Eh r (xs.take j)) xs[j] wr hR hq).mono ?_
      rintro e w2 ⟨rfl,H2,G2⟩
      go_wp2_with fail
      go_roundw
      case rel=>exact ⟨j+1,ω,by go_num,by rw [HS.out];exact H2,PQ hG G2⟩
      case measure=>simp [intOf];omega
    · obtain rfl:j=xs.length:=ω
      go_wp2_with fail
      go_end0
      exact ⟨rfl,by rw [List.take_length] at hR;exact hR,hG⟩
theorem Ij (a:Ω) (c:Nat) (xs:Λ) (w:World) (ha:RowB w a c xs) :
    Calls prog 75 #[.slice a xs.length c] w fun e w'=>e=.returned (.int .u32 (Cb xs:Int))∧Below w.heap.size w w':=by
  go_enter func75,ntmps75
  go_wp2_with fail
  refine (Aay w).mono ?_
  rintro e w1 ⟨rfl,H1,b1⟩
  go_wp2_with fail
  refine (Zv w.heap.size 4294967295 a c xs w1 H1 ω (ha.mono b1) ?_).mono ?_
  · intro b off e
    by_cases hn:0<xs.length
    · obtain ⟨b',off',e',hlt,_⟩:=ha.at hn
      rw [e] at e';cases e'
      exact .inl ω
    · exact .inr (List.eq_nil_of_length_eq_zero ω)
  rintro e w2 ⟨rfl,H2,G2⟩
  go_wp2_with fail
  refine (XL w.heap.size _ w2 H2 (Nm ω xs)).mono ?_
  rintro e w' ⟨rfl,rfl⟩
  go_wp2_with fail
  go_ret
  exact ⟨rfl,b1.grown G2 b1.size (fun k hk=>by cases hk;exact Nat.le_refl _)⟩
end
section
end
section
theorem Gy {w:World} {a:Ω} {c:Nat} {xs:Λ} (h:RowB w a c xs):(convert 22 9 (.slice a xs.length c)).run prog w=.ok (.string ⟨xs.toArray⟩) w:=by
  cases a with
  | none=>
    have hc:c=0:=h.2.2.2.1 rfl
    have hl:xs=[]:=List.eq_nil_of_length_eq_zero (by have:=h.2.1;omega)
    subst hl
    exact Lib.run_convert_nil_bytes w 22 9 5 c υ22 υ5 υ9
  | some p=>
    refine run_convert_bytes_back w 22 9 5 p c xs υ22 υ5 υ9 (fun j hj=>?_)
    obtain ⟨b,off,e,_,hc⟩:=h.bytes ω
    cases e
    have:=hc j hj
    rw [DL hj] at this
    unfold Addr.add
    split
    · subst j;simpa using this
    · exact this
theorem Nq (a b:Ω) (c d:Nat) (xs ys:Λ) (w:World) (ha:RowB w a c xs) (hb:RowB w b d ys) :
    Calls prog 105 #[.slice a xs.length c,.slice b ys.length d] w fun e w'=>e=.returned (.bool (decide (xs=ys)))∧w=w':=by
  have h1:=Gy ha
  have h2:=Gy hb
  go_enter func105,ntmps105
  go_wp2
  go_ret
  exact ⟨AR (by rw [Bool.eq_iff_iff];simp),rfl⟩
theorem Iq (a b:Ω) (c d:Nat) (xs ys:Λ) (w:World) (ha:RowB w a c xs) (hb:RowB w b d ys) :
    Calls prog 79 #[.slice a xs.length c,.slice b ys.length d] w fun e w'=>e=.returned (.bool (decide (ys.length≤xs.length)&&decide (xs.take ys.length=ys)))∧w=w':=by
  have hl:=Ce ha
  have hm:=Ce hb
  have hc:xs.length≤c:=ha.2.1
  by_cases h:ys.length≤xs.length
  · have h':(ys.length:Int)≤(xs.length:Int):=ω
    have ht:=DC ha ys.length
    have he:=Nq a b c d (xs.take ys.length) ys w ht hb
    have hlen:(xs.take ys.length).length=ys.length:=by simp;omega
    rw [hlen] at he
    have HE:=hid he
    clear he hlen ht
    have HH:=hid h
    go_enter func79,ntmps79
    go_wp2_with fail
    refine HE.out.mono ?_
    rintro e w' ⟨rfl,rfl⟩
    go_wp2_with fail
    go_ret
    exact ⟨AR (by rw [decide_eq_true HH.out];rfl),rfl⟩
  · have h':(xs.length:Int)<(ys.length:Int):=ω
    have hd:decide ((ys.length:Int)≤(xs.length:Int))=false:=decide_eq_false ω
    have hd2:decide (ys.length≤xs.length)=false:=decide_eq_false h
    have HD:=hid hd2
    clear h
    go_enter func79,ntmps79
    go_wp2_with fail
    go_ret
    exact ⟨AR (by rw [HD.out];rfl),rfl⟩
end
section
structure PtM where
  at_:Int
  d:Λ
def bsB (l:Λ):ByteArray:=⟨l.toArray⟩
def Am (l:Λ):Value:=.string (bsB l)
theorem CJ (l:Λ):(bsB l).size=l.length:=by simp [bsB,ByteArray.size]
theorem GS (l:Λ):(bsB l).data.toList=l:=by simp [bsB]
def ptC (p:PtM):List Value:=[ν p.at_,Am p.d]
def ptV (p:PtM):Value:=.agg (ptC p).toArray
theorem Ie (p:PtM):(ptC p).length=2:=rfl
theorem Jp (p:PtM):∀ v∈ptC p,v.oneCell'=true:=by intro v hv;simp [ptC,Am] at hv;rcases hv with rfl | rfl<;>rfl
theorem Jq (L:List PtM):∀ v∈L.flatMap ptC,v.oneCell'=true:=by
  intro v hv
  obtain ⟨p,_,h⟩:=List.mem_flatMap.1 hv
  exact Jp p v h
theorem Aa9 (L:List PtM):(L.flatMap ptC).length=L.length*2:=LE ptC 2 Ie L
abbrev EN (w:World) (a:Ω) (c:Nat) (L:List PtM):Prop:=Row w 2 a L.length c (L.flatMap ptC)
abbrev By (w:World) (B:Nat) (a:Ω) (c:Nat) (L:List PtM):Prop:=Own w B 141 2 a L.length c (L.flatMap ptC)
theorem IB:(prog.info? 141).map (·.size)=some 2:=κ
theorem QM {w:World} {a:Ω} {c:Nat} {L:List PtM} (r:EN w a c L) (hn:0<L.length) :
    ∃ b off,a=some ⟨b,off,none⟩∧∀ i (hi:i<L.length),w.rangeAt b (off+i*2) (ptC L[i]):=by
  obtain ⟨b,off,e,_,h⟩:=QN Ie r hn
  exact ⟨b,off,e,fun i hi j u hu=>h i hi j u hu⟩
def okI (n:Int):Prop:=-9223372036854775808≤n∧n≤9223372036854775807
def Ir (L:List PtM):Prop:=∀ p∈L,okI p.at_
def Gw (p:PtM):Bool:=Bp p.at_ 4&&decide (p.d.length≤256)
def EO (b:Λ) (p:PtM):Λ:=Ar (Ar b p.at_ 4) p.d.length 2++p.d
def DG (L:List PtM):Λ:=L.foldl EO (Ar [] L.length 2)
def Bl (n:Nat):Nat:=(8-n % 8) % 8
def MA (b:Λ):Λ:=Ar b (Cb b:Int) 4
def Up (b:Λ):Λ:=MA b++List.replicate (Bl (MA b).length) 0
def CG (L:List PtM):Bool:=decide (L.length≤64)&&L.all Gw
def BP (L:List PtM):Λ:=if CG L=true then Up (DG L) else []
def FW (L:List PtM):Int:=if CG L=true then 0 else 1
theorem BK (b:Λ) (v:Int) (k:Nat):(Ar b v k).length≤b.length+k:=by
  unfold Ar;split
  · rw [List.length_append,Ay];simp
  · omega
theorem UU (b:Λ) (p:PtM) (h:p.d.length≤256):(EO b p).length≤b.length+262:=by
  unfold EO
  have h1:(Ar (Ar b p.at_ 4) p.d.length 2).length≤(Ar b p.at_ 4).length+2:=BK _ _ 2
  have h2:(Ar b p.at_ 4).length≤b.length+4:=BK _ _ 4
  rw [List.length_append]
  omega
theorem PD (L:List PtM) (b:Λ) (h:∀ p∈L,p.d.length≤256):(L.foldl EO b).length≤b.length+262*L.length:=by
  induction L generalizing b with
  | nil=>simp
  | cons p L ih=>
    have h1:=ih (EO b p) (fun q hq=>h q (List.mem_cons_of_mem _ hq))
    have h2:=UU b p (h p (List.mem_cons_self ..))
    rw [List.foldl_cons,List.length_cons];omega
theorem Yv (n:Nat):(((n:Int)+7) / 8*8-n)=(Bl n:Int):=by unfold Bl;omega
theorem Hn {o:Oper} (ho:o.op=.alloc 141) (ρ:Operand→Value) (w:World):(execOp ρ o).run prog w=.ok (.value (π w.heap.size)) (w.alloc (.cells (ptC ⟨0,[]⟩).toArray 141)):=by
  unfold execOp;rw [ho];rfl
theorem Cy {w:World} {g off:Nat} {x:Int} (h:w.cell? ⟨g,off,none⟩=some (ν x)):(Instr.loadAt 3 (.pointer (some ⟨g,off,none⟩))).run prog w=.ok (ν x) w:=by
  have u3:=υ3
  have a3:=Tryz.isAgg3
  have z3:=Tryz.sizeOf3
  go_simp
theorem LP {w:World} {g off:Nat} {x:ByteArray} (h:w.cell? ⟨g,off,none⟩=some (.string x)):(Instr.loadAt 9 (.pointer (some ⟨g,off,none⟩))).run prog w=.ok (.string x) w:=by
  have u3:=υ9
  have a3:=Tryz.isAgg9
  have z3:=Tryz.sizeOf9
  go_simp
theorem SF {w w':World} {B g:Nat} {e t:TypeId} {sz:Nat} {a:Ω} {n c:Nat} {cs L:List Value} (h:Own w B e sz a n c cs) (hb:Blk w g t L) (hne:e≠t) (t1:Turns (fun k=>k=g) w w'):Own w' B e sz a n c cs:=by
  refine ⟨h.1,?_⟩
  rcases h.2 with hn | ⟨b,cap,cur,hv,hB,hh,rest⟩
  · exact .inl hn
  · refine .inr ⟨b,cap,cur,hv,hB,(t1.block b (Array.getElem?_eq_some_iff.1 hh).1 (fun q=>?_)).trans hh,rest⟩
    subst q
    unfold Blk at hb
    rw [hb] at hh
    simp at hh
    exact hne hh.2.symm
end
end Go.Proofs.YtpnknncmacjdkaaGreatDoor
