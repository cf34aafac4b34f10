/- Parts of the proof. -/
import Derived.Deep.Slices
import Derived.Deep.Fields
import Derived.ChangeSame
import Derived.OpenShut
import Derived.Deep.MidRow
import Derived.Deep.RegionWith
import Derived.Laws.BitsAllLaws
import Derived.BigRegion
import Derived.Test.YtbfgjinpchbajaaGreatDoorQah
namespace Go.Proofs.YtbfgjinpchbajaaGreatDoor
open Go.RowKit
open _root_.Go.Proofs.Tryz
set_option linter.unusedSimpArgs false
set_option linter.unusedVariables false
set_option linter.unusedSectionVars false
set_option maxRecDepth 100000
set_option maxHeartbeats 8000000
section
open Go.RowKit Go.WideShapes
theorem Va (xs:Λ) (n:Int) (k:Nat):(AB xs n k).length≤xs.length+k:=by
  unfold AB
  split
  · rw [List.length_append,Az];omega
  · omega
theorem GC (xs:Λ) (n:Int):(AB xs n 1).length≤xs.length+1:=Va xs n 1
theorem Rj (xs:Λ) (n:Int):(AB xs n 2).length≤xs.length+2:=Va xs n 2
def IU:List Int:=[0,0,0,0,0,0,0,0,0,0,0,0,0,0,0]
def SW (i:InoT):Λ:=AB (AB (AB [] i.k 1) i.l 1) i.s 2
def IO (l:List Int):List (Int×Int):=l.map fun n=>(n,1)
def NO (i:InoT):Λ:=BU (SW i) (IO (i.B++i.O))
def Hy (i:InoT):Λ:=NO i++List.replicate (60-(NO i).length) 0
def WN (i:InoT):Λ:=AB (Hy i) (CN (Hy i):Nat) 4
def Ce (i:InoT):Λ:=if Cn i then (if JO i=IU then List.replicate 64 0 else WN i) else []
def Ez (i:InoT):Int:=if Cn i then 0 else 1
theorem Ab8 (l:List Int) (xs:Λ):(BU xs (IO l)).length≤xs.length+l.length:=by
  induction l generalizing xs with
  | nil=>simp [IO,BU]
  | cons n l ih=>
    have h1:=ih (AB xs n 1)
    have h2:=GC xs n
    simp only [IO,BU,List.map_cons,List.foldl_cons,List.length_cons] at h1 h2 ⊢
    simp only [IO,BU] at ih
    omega
theorem UQ (i:InoT):(NO i).length≤16:=by
  have h:=Ab8 (i.B++i.O) (SW i)
  have h1:=Rj (AB (AB [] i.k 1) i.l 1) i.s
  have h2:=GC (AB [] i.k 1) i.l
  have h3:=GC [] i.k
  have hl:(i.B++i.O).length=12:=rfl
  have h0:([]:Λ).length=0:=rfl
  unfold NO
  unfold SW at *
  rw [hl] at h
  omega
theorem JP (i:InoT):(Hy i).length=60:=by
  have:=UQ i
  unfold Hy;rw [List.length_append,List.length_replicate];omega
theorem Aci (i:InoT):WN i=Hy i++le 4 (CN (Hy i)):=PF _
theorem Kb (i:InoT):(WN i).length=64:=by rw [Aci,List.length_append,JP,Az]
def Adp (w:World) (xs:Λ) (er:Int) (e:Ending) (w':World):Prop:=
  ∃ a c,e=.returned (.tuple #[.slice a xs.length c,ν er])∧Cb w' w.heap.size a c xs∧Below w.heap.size w w'
theorem PW {w:World} {B g:Nat} {e:TypeId} {L:List Value} (h:Blk w g e L) (hB:B≤g) (hl:L.length≤maxLen):Own w B e 1 (some ⟨g,0,none⟩) L.length L.length L:=
  ⟨by simp,.inr ⟨g,L.length,L.toArray,rfl,hB,h,Nat.le_refl _,hl,by simp,by simp⟩⟩
theorem LI {i:InoT} (h:Cn i=true):i.k≤2∧i.l≤20∧i.s≤256∧∀ n∈i.B++i.O,n≤128:=by
  unfold Cn at h
  split at h
  · have h:=of_decide_eq_true h
    simp only [JO,List.cons.injEq,and_true] at h
    obtain ⟨h0,h1,h2,h3,h4,h5,h6,h7,h8,h9,h10,h11,h12,h13,h14⟩:=h
    refine ⟨ω,ω,ω,fun n hn=>?_⟩
    simp only [InoT.B,InoT.O,List.cons_append,List.nil_append,List.mem_cons,List.not_mem_nil,or_false] at hn
    omega
  · split at h
    · rw [Bool.and_eq_true] at h
      have hb:=JQ h.1
      have hF:=h.1
      unfold Dp Fr Mq okO at hF
      simp only [Bool.and_eq_true,decide_eq_true_eq] at hF
      refine ⟨ω,ω,ω,fun n hn=>?_⟩
      simp only [InoT.B,InoT.O,List.cons_append,List.nil_append,List.mem_cons,List.not_mem_nil,or_false] at hn
      omega
    · split at h
      · rw [Bool.and_eq_true] at h
        have hb:=Lg h.1
        have hF:=h.1
        unfold Jg It noO at hF
        simp only [Bool.and_eq_true,decide_eq_true_eq,List.cons.injEq,and_true] at hF
        refine ⟨ω,ω,ω,fun n hn=>?_⟩
        simp only [InoT.B,InoT.O,List.cons_append,List.nil_append,List.mem_cons,List.not_mem_nil,or_false] at hn
        omega
      · cases h
theorem SO (H:Λ) (l:List Int) (x:Int):BU H (IO (l++[x]))=AB (BU H (IO l)) x 1:=by simp [BU,IO]
theorem Jm (i:InoT) (w:World):Calls prog 67 #[Gk i] w (Adp w (Ce i) (Ez i)):=by
  have HC:=fun w1=>Tm i w1
  cases hm:Cn i
  · have h1:Ce i=[]:=by unfold Ce;rw [hm];rfl
    have h2:Ez i=1:=by unfold Ez;rw [hm];rfl
    rw [h1,h2]
    rw [hm] at HC
    obtain ⟨k,l,s,b0,b1,b2,b3,o0,o1,o2,o3,o4,o5,o6,o7⟩:=i
    unfold Gk Ao at *
    have HC:=hid HC
    have HB:Hid (Below w.heap.size w (w.alloc (.cells #[.int .i64 k,.int .i64 l,.int .i64 s,.int .i64 b0,.int .i64 b1,.int .i64 b2,.int .i64 b3,.int .i64 o0,.int .i64 o1,.int .i64 o2,.int .i64 o3,.int .i64 o4,.int .i64 o5,.int .i64 o6,.int .i64 o7] 45))):=(Below.refl w.heap.size w).alloc (Nat.le_refl _) _
    clear hm h1 h2
    go_enter func67,ntmps67
    go_wp2_with (go_at_call 100;refine (HC.out _).mono ?_;rintro e w4 ⟨rfl,b4⟩;have B4:=hid (Ae HB.out b4);clear b4)
    refine bodyPost_ret (Go.results_tmp2 rfl _ _ _) rfl ?_
    exact ⟨none,0,rfl,Own.nil _ _ _ _,B4.out⟩
  · by_cases hz:JO i=IU
    · have h1:Ce i=List.replicate 64 0:=by unfold Ce;rw [hm,if_pos hz];rfl
      have h2:Ez i=0:=by unfold Ez;rw [hm];rfl
      rw [h1,h2]
      rw [hm] at HC
      obtain ⟨k,l,s,b0,b1,b2,b3,o0,o1,o2,o3,o4,o5,o6,o7⟩:=i
      have E:=Yk k l s b0 b1 b2 b3 o0 o1 o2 o3 o4 o5 o6 o7 0 0 0 0 0 0 0 0 0 0 0 0 0 0 0
      have hd:decide ([k,l,s,b0,b1,b2,b3,o0,o1,o2,o3,o4,o5,o6,o7]=[0,0,0,0,0,0,0,0,0,0,0,0,0,0,0])=true:=decide_eq_true hz
      rw [hd] at E
      clear hz hd
      unfold Gk Ao at *
      have HC:=hid HC
      have K0:Hid (Blk (w.alloc (.cells #[.int .i64 k,.int .i64 l,.int .i64 s,.int .i64 b0,.int .i64 b1,.int .i64 b2,.int .i64 b3,.int .i64 o0,.int .i64 o1,.int .i64 o2,.int .i64 o3,.int .i64 o4,.int .i64 o5,.int .i64 o6,.int .i64 o7] 45)) w.heap.size 45 [.int .i64 k,.int .i64 l,.int .i64 s,.int .i64 b0,.int .i64 b1,.int .i64 b2,.int .i64 b3,.int .i64 o0,.int .i64 o1,.int .i64 o2,.int .i64 o3,.int .i64 o4,.int .i64 o5,.int .i64 o6,.int .i64 o7]):=heap_alloc_new w _
      have HB:Hid (Below w.heap.size w (w.alloc (.cells #[.int .i64 k,.int .i64 l,.int .i64 s,.int .i64 b0,.int .i64 b1,.int .i64 b2,.int .i64 b3,.int .i64 o0,.int .i64 o1,.int .i64 o2,.int .i64 o3,.int .i64 o4,.int .i64 o5,.int .i64 o6,.int .i64 o7] 45))):=(Below.refl w.heap.size w).alloc (Nat.le_refl _) _
      clear hm h1 h2
      go_enter func67,ntmps67
      go_wp2_with (first
        | (go_at_call 100;refine (HC.out _).mono ?_;rintro e w4 ⟨rfl,b4⟩;have B4:=hid (Ae HB.out b4);have k4:=K0.out.mono b4
           have z0:w4.cell? ⟨w.heap.size,0,none⟩=some (.int .i64 k):=Blk.cell k4 (i:=0) (by simp)
           have z1:w4.cell? ⟨w.heap.size,1,none⟩=some (.int .i64 l):=Blk.cell k4 (i:=1) (by simp)
           have z2:w4.cell? ⟨w.heap.size,2,none⟩=some (.int .i64 s):=Blk.cell k4 (i:=2) (by simp)
           have z3:w4.cell? ⟨w.heap.size,3,none⟩=some (.int .i64 b0):=Blk.cell k4 (i:=3) (by simp)
           have z4:w4.cell? ⟨w.heap.size,4,none⟩=some (.int .i64 b1):=Blk.cell k4 (i:=4) (by simp)
           have z5:w4.cell? ⟨w.heap.size,5,none⟩=some (.int .i64 b2):=Blk.cell k4 (i:=5) (by simp)
           have z6:w4.cell? ⟨w.heap.size,6,none⟩=some (.int .i64 b3):=Blk.cell k4 (i:=6) (by simp)
           have z7:w4.cell? ⟨w.heap.size,7,none⟩=some (.int .i64 o0):=Blk.cell k4 (i:=7) (by simp)
           have z8:w4.cell? ⟨w.heap.size,8,none⟩=some (.int .i64 o1):=Blk.cell k4 (i:=8) (by simp)
           have z9:w4.cell? ⟨w.heap.size,9,none⟩=some (.int .i64 o2):=Blk.cell k4 (i:=9) (by simp)
           have z10:w4.cell? ⟨w.heap.size,10,none⟩=some (.int .i64 o3):=Blk.cell k4 (i:=10) (by simp)
           have z11:w4.cell? ⟨w.heap.size,11,none⟩=some (.int .i64 o4):=Blk.cell k4 (i:=11) (by simp)
           have z12:w4.cell? ⟨w.heap.size,12,none⟩=some (.int .i64 o5):=Blk.cell k4 (i:=12) (by simp)
           have z13:w4.cell? ⟨w.heap.size,13,none⟩=some (.int .i64 o6):=Blk.cell k4 (i:=13) (by simp)
           have z14:w4.cell? ⟨w.heap.size,14,none⟩=some (.int .i64 o7):=Blk.cell k4 (i:=14) (by simp)
           clear k4 b4)
        | (at_make;refine Km rfl (.const (.int .i64 64)) (.const (.int .i64 64)) rfl Tryz.underlying74 Adg rfl (n:=64) rfl rfl rfl rfl (by omega) (by omega) ?_;intro w5 k5 b5;have O5:=hid (PW (B:=w.heap.size) k5 B4.out.size (by rw [List.length_replicate];unfold maxLen;omega));have B5:=hid (Ae B4.out b5);clear k5 b5))
      refine bodyPost_ret (Go.results_tmp2 rfl _ _ _) rfl ?_
      refine ⟨_,_,rfl,?_,B5.out⟩
      unfold Cb
      rw [List.map_replicate,List.length_replicate]
      have q:=O5.out
      rw [List.length_replicate] at q
      exact q
    · have h1:Ce i=WN i:=by unfold Ce;rw [hm,if_pos rfl,if_neg hz]
      have h2:Ez i=0:=by unfold Ez;rw [hm];rfl
      rw [h1,h2]
      rw [hm] at HC
      have hd:decide (JO i=IU)=false:=decide_eq_false hz
      have hXl:=UQ i
      have hYl:=JP i
      have hIl:=Kb i
      have hI:WN i=AB (Hy i) (CN (Hy i):Nat) 4:=rfl
      have hY:Hy i=NO i++List.replicate (60-(NO i).length) 0:=rfl
      have hX:NO i=BU (SW i) (IO (i.B++i.O)):=rfl
      have hH:SW i=AB (AB (AB [] i.k 1) i.l 1) i.s 2:=rfl
      have hL12:(i.B++i.O).length=12:=rfl
      obtain ⟨uk,ul,us,uBO⟩:=LI hm
      generalize WN i=R at *
      generalize Hy i=Y at *
      generalize NO i=X at *
      generalize hHH:SW i=H at *
      obtain ⟨k,l,s,b0,b1,b2,b3,o0,o1,o2,o3,o4,o5,o6,o7⟩:=i
      have E:=Yk k l s b0 b1 b2 b3 o0 o1 o2 o3 o4 o5 o6 o7 0 0 0 0 0 0 0 0 0 0 0 0 0 0 0
      have hd2:decide ([k,l,s,b0,b1,b2,b3,o0,o1,o2,o3,o4,o5,o6,o7]=[0,0,0,0,0,0,0,0,0,0,0,0,0,0,0])=false:=hd
      rw [hd2] at E
      clear hz hd hd2 h1 h2 hm hHH
      unfold Gk Ao at *
      simp only [InoT.B,InoT.O] at *
      obtain ⟨BO,hBO⟩:∃ BO,BO=[b0,b1,b2,b3]++[o0,o1,o2,o3,o4,o5,o6,o7]:=⟨_,rfl⟩
      rw [← hBO] at hL12 hX uBO
      have P1:=fun w1=>CZ none 0 [] k 1 w1 (Row.nil _ _) (by simp) (by omega)
      have l1:=GC [] k
      have l2:=GC (AB [] k 1) l
      have l3:=Rj (AB (AB [] k 1) l 1) s
      rw [← hH] at l3
      have P2:=fun a c w1 r=>CZ a c (AB [] k 1) l 1 w1 r (by have:([]:List UInt8).length=0:=rfl;omega) (by omega)
      have P3:=fun a c w1 r=>CZ a c (AB (AB [] k 1) l 1) s 2 w1 r (by have:([]:List UInt8).length=0:=rfl;omega) (by omega)
      rw [← hH] at P3
      rw [show ([]:Λ).length=0 from rfl] at l1
      generalize AB (AB [] k 1) l 1=X2 at *
      generalize AB [] k 1=X1 at *
      have HH4:H.length≤4:=by omega
      have HC:=hid HC;have P1:=hid P1;have P2:=hid P2;have P3:=hid P3
      have HX:=hid hX;have HY:=hid hY;have HI:=hid hI;have HBO:=hid hBO;have UBO:=hid uBO
      clear hX hY hI hH hBO uBO
      have K0:Hid (Blk (w.alloc (.cells #[.int .i64 k,.int .i64 l,.int .i64 s,.int .i64 b0,.int .i64 b1,.int .i64 b2,.int .i64 b3,.int .i64 o0,.int .i64 o1,.int .i64 o2,.int .i64 o3,.int .i64 o4,.int .i64 o5,.int .i64 o6,.int .i64 o7] 45)) w.heap.size 45 [.int .i64 k,.int .i64 l,.int .i64 s,.int .i64 b0,.int .i64 b1,.int .i64 b2,.int .i64 b3,.int .i64 o0,.int .i64 o1,.int .i64 o2,.int .i64 o3,.int .i64 o4,.int .i64 o5,.int .i64 o6,.int .i64 o7]):=heap_alloc_new w _
      have HB:Hid (Below w.heap.size w (w.alloc (.cells #[.int .i64 k,.int .i64 l,.int .i64 s,.int .i64 b0,.int .i64 b1,.int .i64 b2,.int .i64 b3,.int .i64 o0,.int .i64 o1,.int .i64 o2,.int .i64 o3,.int .i64 o4,.int .i64 o5,.int .i64 o6,.int .i64 o7] 45))):=(Below.refl w.heap.size w).alloc (Nat.le_refl _) _
      go_enter func67,ntmps67
      go_wp2_with (first
        | (go_at_call 100;refine (HC.out _).mono ?_;rintro e w4 ⟨rfl,b4⟩;have B4:=hid (Ae HB.out b4);have K4:=hid (K0.out.mono b4);have k4:=K4.out
           have z0:w4.cell? ⟨w.heap.size,0,none⟩=some (.int .i64 k):=Blk.cell k4 (i:=0) (by simp)
           have z1:w4.cell? ⟨w.heap.size,1,none⟩=some (.int .i64 l):=Blk.cell k4 (i:=1) (by simp)
           have z2:w4.cell? ⟨w.heap.size,2,none⟩=some (.int .i64 s):=Blk.cell k4 (i:=2) (by simp)
           have z3:w4.cell? ⟨w.heap.size,3,none⟩=some (.int .i64 b0):=Blk.cell k4 (i:=3) (by simp)
           have z4:w4.cell? ⟨w.heap.size,4,none⟩=some (.int .i64 b1):=Blk.cell k4 (i:=4) (by simp)
           have z5:w4.cell? ⟨w.heap.size,5,none⟩=some (.int .i64 b2):=Blk.cell k4 (i:=5) (by simp)
           have z6:w4.cell? ⟨w.heap.size,6,none⟩=some (.int .i64 b3):=Blk.cell k4 (i:=6) (by simp)
           have z7:w4.cell? ⟨w.heap.size,7,none⟩=some (.int .i64 o0):=Blk.cell k4 (i:=7) (by simp)
           have z8:w4.cell? ⟨w.heap.size,8,none⟩=some (.int .i64 o1):=Blk.cell k4 (i:=8) (by simp)
           have z9:w4.cell? ⟨w.heap.size,9,none⟩=some (.int .i64 o2):=Blk.cell k4 (i:=9) (by simp)
           have z10:w4.cell? ⟨w.heap.size,10,none⟩=some (.int .i64 o3):=Blk.cell k4 (i:=10) (by simp)
           have z11:w4.cell? ⟨w.heap.size,11,none⟩=some (.int .i64 o4):=Blk.cell k4 (i:=11) (by simp)
           have z12:w4.cell? ⟨w.heap.size,12,none⟩=some (.int .i64 o5):=Blk.cell k4 (i:=12) (by simp)
           have z13:w4.cell? ⟨w.heap.size,13,none⟩=some (.int .i64 o6):=Blk.cell k4 (i:=13) (by simp)
           have z14:w4.cell? ⟨w.heap.size,14,none⟩=some (.int .i64 o7):=Blk.cell k4 (i:=14) (by simp)
           clear k4 b4)
        | (go_at_call_of 87 (Value.slice none 0 0);refine (P1.out _).mono ?_;rintro e w5 ⟨a5,c5,rfl,o5,b5⟩;have B5:=hid (Ae B4.out b5);have K5:=hid (K4.out.mono b5);have k5:=K5.out;have O5:=hid o5.row
           have y1:w5.cell? ⟨w.heap.size,1,none⟩=some (.int .i64 l):=Blk.cell k5 (i:=1) (by simp)
           clear k5 b5 o5))
      refine (P2.out a5 c5 w5 O5.out).mono ?_
      rintro e w6 ⟨a6,c6,rfl,o6,b6⟩
      have B6:=hid (Ae B5.out b6);have K6:=hid (K5.out.mono b6);have k6:=K6.out;have O6:=hid o6.row
      have y2:w6.cell? ⟨w.heap.size,2,none⟩=some (.int .i64 s):=Blk.cell k6 (i:=2) (by simp)
      clear k6 b6 o6
      go_wp2_with fail
      refine (P3.out a6 c6 w6 O6.out).mono ?_
      rintro e w7 ⟨a7,c7,rfl,o7,b7⟩
      have B7:=hid (Ae B6.out b7);have K7:=hid (K6.out.mono b7);have O7:=hid (show Cb w7 w.heap.size a7 c7 H from Own.low o7 B6.out.size)
      clear b7 o7
      go_wp2_with fail
      have bx:=B7.out.size
      have hlt:=K7.out.lt
      have c7b:∀ (w':World) (q:Nat) (v:Value),([.int .i64 k,.int .i64 l,.int .i64 s,.int .i64 b0,.int .i64 b1,.int .i64 b2,.int .i64 b3,.int .i64 o0,.int .i64 o1,.int .i64 o2,.int .i64 o3,.int .i64 o4,.int .i64 o5,.int .i64 o6,.int .i64 o7]:List Value)[q]? = some v→Below w7.heap.size w7 w'→w'.cell? ⟨w.heap.size,q,none⟩=some v:=fun w' q v hq hb=>by
        have q1:=(K7.out.mono hb)
        obtain ⟨hq1,hq2⟩:=List.getElem?_eq_some_iff.1 hq
        rw [q1.cell hq1,hq2]
      have RB4:∀ w',Below w7.heap.size w7 w'→OS w' (some ⟨w.heap.size,3,none⟩) 4 [b0,b1,b2,b3]:=fun w' hb=>⟨rfl,Nat.le_refl _,(by unfold maxLen;omega),(fun h=>by cases h),fun _=>⟨w.heap.size,3,rfl,Nat.lt_of_lt_of_le hlt hb.size,fun j u hu=>by
        refine c7b w' (3+j) u ?_ hb
        have hj:j<4:=by have:=(List.getElem?_eq_some_iff.1 hu).1;simpa using this
        rcases (by omega:j=0∨j=1∨j=2∨j=3) with rfl | rfl | rfl | rfl<;>exact hu⟩⟩
      have RO8:∀ w',Below w7.heap.size w7 w'→OS w' (some ⟨w.heap.size,7,none⟩) 8 [o0,o1,o2,o3,o4,o5,o6,o7]:=fun w' hb=>⟨rfl,Nat.le_refl _,(by unfold maxLen;omega),(fun h=>by cases h),fun _=>⟨w.heap.size,7,rfl,Nat.lt_of_lt_of_le hlt hb.size,fun j u hu=>by
        refine c7b w' (7+j) u ?_ hb
        have hj:j<8:=by have:=(List.getElem?_eq_some_iff.1 hu).1;simpa using this
        rcases (by omega:j=0∨j=1∨j=2∨j=3∨j=4∨j=5∨j=6∨j=7) with rfl | rfl | rfl | rfl | rfl | rfl | rfl | rfl<;>exact hu⟩⟩
      have RB4:=hid RB4;have RO8:=hid RO8
      clear c7b
      have hbo2:=HBO.out
      have k8:Blk (w7.alloc (.cells #[.slice (some ⟨w.heap.size,3,none⟩) 4 4,.slice (some ⟨w.heap.size,7,none⟩) 8 8] 48)).drew w7.heap.size 48 [.slice (some ⟨w.heap.size,3,none⟩) 4 4,.slice (some ⟨w.heap.size,7,none⟩) 8 8]:=Blk.drew (show Blk (w7.alloc (.cells #[.slice (some ⟨w.heap.size,3,none⟩) 4 4,.slice (some ⟨w.heap.size,7,none⟩) 8 8] 48)) w7.heap.size 48 [.slice (some ⟨w.heap.size,3,none⟩) 4 4,.slice (some ⟨w.heap.size,7,none⟩) 8 8] from heap_alloc_new w7 _)
      have b8:Below w7.heap.size w7 (w7.alloc (.cells #[.slice (some ⟨w.heap.size,3,none⟩) 4 4,.slice (some ⟨w.heap.size,7,none⟩) 8 8] 48)).drew:=((Below.refl _ w7).alloc (Nat.le_refl _) _).drew
      have k8a:(w7.alloc (.cells #[.slice (some ⟨w.heap.size,3,none⟩) 4 4,.slice (some ⟨w.heap.size,7,none⟩) 8 8] 48)).drew.cell? ⟨w7.heap.size,0,none⟩=some (.slice (some ⟨w.heap.size,3,none⟩) 4 4):=Blk.cell k8 (i:=0) (by simp)
      have k8b:(w7.alloc (.cells #[.slice (some ⟨w.heap.size,3,none⟩) 4 4,.slice (some ⟨w.heap.size,7,none⟩) 8 8] 48)).drew.cell? ⟨w7.heap.size,1,none⟩=some (.slice (some ⟨w.heap.size,7,none⟩) 8 8):=Blk.cell k8 (i:=1) (by simp)
      have HCC:=hid (Sq w7.heap.size [b0,b1,b2,b3] [o0,o1,o2,o3,o4,o5,o6,o7] (some ⟨w.heap.size,3,none⟩) (some ⟨w.heap.size,7,none⟩) 4 8 (w7.alloc (.cells #[.slice (some ⟨w.heap.size,3,none⟩) 4 4,.slice (some ⟨w.heap.size,7,none⟩) 8 8] 48)).drew rfl rfl k8.lt k8a k8b (RB4.out _ b8) (RO8.out _ b8))
      have B8:=hid b8
      clear k8 k8a k8b b8
      go_region_with (go_at_call 101;refine (HCC.out).mono ?_;rintro e w9 ⟨a9,c9,rfl,o9,b9⟩;have C9:=hid (show Below w7.heap.size w7 w9 from AP B8.out b9 B8.out.size);have Z9:=hid (show OS w9 a9 c9 BO from by have q:=o9.row;rw [← hbo2] at q;unfold OS;rw [hL12];exact q);clear o9 b9)
      all_goals
        have O9:=hid (show Cb w9 w.heap.size a7 c7 H from O7.out.mono C9.out)
        have B9:=hid (Ae B7.out C9.out)
        clear C9 RB4 RO8 hbo2 HBO y1 y2 E HCC B8
        go_wp2_with fail
        simp only [List.getElem_toArray,List.getElem_cons_succ,List.getElem_cons_zero,Act.put,List.setIfInBounds_toArray,List.set_cons_zero,List.set_cons_succ]
        go_loopw [4,32] (fun b i wr=>∃ (j m c:Nat) (a:Option Addr) (T:List UInt8),j≤12∧i=.int .i64 j∧b=.slice a m c∧T.length=m∧m≤4+j∧T=BU H (IO (BO.take j))∧Cb wr w.heap.size a c T∧Below w9.heap.size w9 wr) (fun _ i _=>12-(intOf i).toNat)
        case atStart=>exact ⟨0,H.length,c7,a7,H,by omega,rfl,rfl,rfl,by omega,rfl,O9.out,Below.refl _ _⟩
        case round=>
        obtain ⟨j,m,c,a,T,hj,rfl,rfl,hTm,hm4,hT,oT,bT⟩:=hrel
        have HTM:=hid hTm;have HT:=hid hT;have OT:=hid oT;have BT:=hid bT
        by_cases hj12:j<12
        · obtain ⟨g9,off9,rfl,hg9,hca⟩:=TO Z9.out (by omega)
          have ca:=(bT.cell (p:=⟨g9,off9+j,none⟩) hg9).trans (hca j (by omega))
          clear hca
          have hx:=UBO.out (BO.getD j 0) (by rw [List.getD_eq_getElem?_getD,List.getElem?_eq_getElem (by omega)];exact List.getElem_mem _)
          have hsn:BU H (IO (BO.take (j+1)))=AB T (BO.getD j 0) 1:=by
            rw [hT,← SO,List.getD_eq_getElem?_getD,List.getElem?_eq_getElem (by omega),List.take_succ_eq_append_getElem (by omega)]
            rfl
          have HPT:=CZ a c T (BO.getD j 0) 1 wr oT.row (by omega) (by omega)
          rw [hTm] at HPT
          have hple:=GC T (BO.getD j 0)
          rw [← hsn] at HPT hple
          have HSN:=hid hsn
          generalize BO.getD j 0=x at *
          generalize hT2:BU H (IO (BO.take (j+1)))=T2 at *
          have HT2:=hid hT2
          clear hT2
          have HPT:=hid HPT
          have ij:(j:Int)<12:=by omega
          have dj:decide ((j:Int)<12)=true:=decide_eq_true ij
          clear oT bT hT hTm hsn
          have hrow:(j:Int)<(12:Int):=ij
          go_wp2_with (go_at_call 87;refine (HPT.out).mono ?_;rintro e w10 ⟨a10,c10,rfl,o10,b10⟩)
          go_roundw
          case rel=>exact ⟨j+1,T2.length,c10,a10,T2,by omega,by go_num,rfl,rfl,by have:=HTM.out;omega,HT2.out.symm,Own.low o10 (Nat.le_trans B9.out.size BT.out.size),AP BT.out b10 BT.out.size⟩
          case measure=>simp [intOf];omega
        · obtain rfl:j=12:=by omega
          have hTX:T=X:=by rw [hT,HX.out,List.take_of_length_le (by omega)]
          subst hTX
          have dj:decide ((12:Int)<12)=false:=by decide
          have ez:IntKind.i64.wrap (60-(m:Int))=((60-m:Nat):Int):=by rw [show (60-(m:Int))=((60-m:Nat):Int) by omega];exact IntWalk.i64_in _ (by omega)
          have hYY:=HY.out
          rw [hTm] at hYY
          have HYY:=hid hYY
          have hcl:=EE Y
          have HSum:=fun a c w1 r=>Kh a c Y w1 r
          rw [hYl] at HSum
          have HPut:=fun a c w1 r=>CZ a c Y (CN Y:Nat) 4 w1 r (by omega) (by omega)
          rw [hYl,← HI.out] at HPut
          have hm16:m≤16:=by omega
          generalize CN Y=z at *
          have ezz:IntKind.i64.wrap (z:Int)=z:=IntWalk.i64_in _ (by omega)
          have HSum:=hid HSum;have HPut:=hid HPut
          have t2:True:=trivial
          have hsz:=hid (Nat.le_trans B9.out.size BT.out.size)
          have OT2:Hid (Own wr w.heap.size 5 1 a m c (T.map Ag)):=by have q:=OT.out;unfold Cb at q;rw [HTM.out] at q;exact q
          clear oT bT hT hTm hYY HT
          go_wp2_with (at_builtin;have _t:=t2;refine CM rfl (.tmp 40) (.tmp 43) rfl Tryz.underlying74 Tryz.underlying3 (z:=.int .u8 0) (bytes:=1) (by kernel_rfl) rfl rfl w.heap.size (k:=60-m) rfl rfl (by omega) OT2.out (by omega) (by omega) hsz.out ?_;clear t2;intro a12 c12 w12 o12 g12 b12)
          rw [show m+(60-m)=60 by omega] at o12
          rw [show m+(60-m)=60 by omega]
          have O12:Hid (Bo w12 a12 c12 Y):=by
            have q:=o12.row
            have e:Y.map Ag=T.map Ag++List.replicate (60-m) (.int .u8 0):=by rw [HYY.out,List.map_append,List.map_replicate];rfl
            unfold Bo
            rw [hYl,e]
            exact q
          have B12:=hid (AP (AP B9.out BT.out B9.out.size) b12 (Nat.le_refl _))
          refine (HSum.out a12 c12 w12 O12.out).mono ?_
          rintro e w13 ⟨rfl,b13⟩
          go_wp2_with fail
          refine (HPut.out a12 c12 w13 (O12.out.mono b13)).mono ?_
          rintro e w14 ⟨a14,c14,rfl,o14,b14⟩
          have F14:=hid (show Cb w14 w.heap.size a14 c14 R from Own.low o14 (Nat.le_trans B12.out.size b13.size))
          have G14:=hid (Ae (Ae B12.out b13) b14)
          clear o14 b14 b13
          go_wp2_with fail
          refine bodyPost_ret (Go.results_tmp2 rfl _ _ _) rfl ?_
          exact ⟨a14,c14,by rw [hIl];rfl,F14.out,G14.out⟩
end
section
open Go.RowKit Go.WideShapes
theorem Afs (n0 n1 n2 n3:Nat):tw n0 n1 n2 n3=true↔(n1≠0∧n1=n0)∨(n2≠0∧(n2=n1∨n2=n0))∨(n3≠0∧(n3=n2∨n3=n1∨n3=n0)):=by
  unfold tw twC
  simp only [Bool.or_eq_true,Bool.and_eq_true,bne_iff_ne,decide_eq_true_eq,List.mem_cons,List.not_mem_nil,or_false,and_false,false_or,or_assoc]
def FQ (i:InoT):Prop:=(0≤i.b0∧i.b0≤128)∧(0≤i.b1∧i.b1≤128)∧(0≤i.b2∧i.b2≤128)∧(0≤i.b3∧i.b3≤128)
def Og (i:InoT):Prop:=¬ (i.b0≠0∧i.b0=i.b1)∧¬ (i.b0≠0∧i.b0=i.b2)∧¬ (i.b1≠0∧i.b1=i.b2)∧¬ (i.b0≠0∧i.b0=i.b3)∧¬ (i.b1≠0∧i.b1=i.b3)∧¬ (i.b2≠0∧i.b2=i.b3)
def DG (k n:Int):Prop:=0≤n∧n≤8∧(k≠1→n=0)
def IR (i:InoT):Prop:=DG i.k i.o0∧DG i.k i.o1∧DG i.k i.o2∧DG i.k i.o3∧DG i.k i.o4∧DG i.k i.o5∧DG i.k i.o6∧DG i.k i.o7
def KD (j n s:Int):Prop:=(n≠0↔j<s)
def YB (i:InoT):Prop:=KD 0 i.b0 i.s∧KD 64 i.b1 i.s∧KD 128 i.b2 i.s∧KD 192 i.b3 i.s
theorem Ab5 (j n s:Int):okB j n s=true↔KD j n s∧0≤n∧n≤128:=by
  unfold okB KD
  rw [Bool.and_eq_true,decide_eq_true_eq,beq_iff_eq]
  by_cases h1:j<s<;>by_cases h2:n=0<;>simp [h1,h2]
theorem Ab6 (n:Int):okO n=true↔0≤n∧n≤8:=by unfold okO;rw [decide_eq_true_eq]
theorem LS {i:InoT} (hB:FQ i):twI i=false↔Og i:=by
  unfold FQ at hB
  have h:=Afs i.b0.toNat i.b1.toNat i.b2.toNat i.b3.toNat
  have e:twI i=tw i.b0.toNat i.b1.toNat i.b2.toNat i.b3.toNat:=rfl
  rw [e]
  unfold Og
  cases ht:tw i.b0.toNat i.b1.toNat i.b2.toNat i.b3.toNat
  · rw [ht] at h
    simp only [Bool.false_eq_true,false_iff,not_or] at h
    simp only [true_iff]
    omega
  · rw [ht] at h
    simp only [true_iff] at h
    simp only [Bool.true_eq_false,false_iff]
    omega
theorem On {i:InoT} (hk:i.k=1):Cn i=true↔(0≤i.l∧i.l≤20∧0≤i.s∧i.s≤256)∧FQ i∧Og i∧IR i∧YB i:=by
  have hM:Cn i=(Dp i&&!twI i):=by unfold Cn;rw [if_neg ω,if_pos hk]
  rw [hM,Bool.and_eq_true]
  unfold Dp Fr La Mq
  simp only [Bool.and_eq_true,decide_eq_true_eq,Ab5,Ab6,Bool.not_eq_true']
  constructor
  · rintro ⟨⟨⟨h1,h2⟩,h3⟩,h4⟩
    have hB:FQ i:=by unfold FQ;omega
    refine ⟨h1,hB,(LS hB).1 h4,?_,?_⟩
    · unfold IR DG;omega
    · exact ⟨h2.1.1.1.1,h2.1.1.2.1,h2.1.2.1,h2.2.1⟩
  · rintro ⟨h1,hB,hD,hO,hF⟩
    have h4:=(LS hB).2 hD
    unfold FQ at hB
    unfold IR DG at hO
    unfold YB at hF
    exact ⟨⟨⟨h1,⟨⟨⟨⟨hF.1,hB.1⟩,⟨hF.2.1,hB.2.1⟩⟩,⟨hF.2.2.1,hB.2.2.1⟩⟩,⟨hF.2.2.2,hB.2.2.2⟩⟩⟩,ω⟩,h4⟩
theorem QG {i:InoT} (hk:i.k=2):Cn i=true↔(i.l=1∧0≤i.s∧i.s≤16)∧FQ i∧Og i∧IR i:=by
  have hM:Cn i=(Jg i&&!twI i):=by unfold Cn;rw [if_neg ω,if_neg ω,if_pos hk]
  rw [hM,Bool.and_eq_true]
  unfold Jg It noO Gm
  simp only [Bool.and_eq_true,decide_eq_true_eq,Bool.not_eq_true',List.cons.injEq,and_true]
  constructor
  · rintro ⟨⟨⟨h1,h2⟩,h3⟩,h4⟩
    have hB:FQ i:=by unfold FQ;omega
    refine ⟨h1,hB,(LS hB).1 h4,?_⟩
    unfold IR DG;omega
  · rintro ⟨h1,hB,hD,hO⟩
    have h4:=(LS hB).2 hD
    unfold FQ at hB
    unfold IR DG at hO
    exact ⟨⟨⟨h1,ω⟩,ω⟩,h4⟩
theorem IB {i:InoT} (h1:i.k≠1) (h2:i.k≠2):Cn i=decide (JO i=IU):=by
  unfold Cn
  by_cases h0:i.k=0
  · rw [if_pos h0];rfl
  · rw [if_neg h0,if_neg h1,if_neg h2]
    symm
    refine decide_eq_false (fun h=>h0 ?_)
    unfold JO IU at h
    simp only [List.cons.injEq] at h
    exact h.1
theorem Oo {i:InoT} (h:Cn i=true):FQ i∧Og i∧IR i∧(i.k=1→YB i):=by
  by_cases h1:i.k=1
  · obtain ⟨_,a,b,c,d⟩:=(On h1).1 h
    exact ⟨a,b,c,fun _=>d⟩
  · by_cases h2:i.k=2
    · obtain ⟨_,a,b,c⟩:=(QG h2).1 h
      exact ⟨a,b,c,fun e=>absurd e h1⟩
    · rw [IB h1 h2,decide_eq_true_eq] at h
      unfold JO IU at h
      simp only [List.cons.injEq,and_true] at h
      unfold FQ Og IR DG
      refine ⟨ω,ω,ω,fun e=>absurd e h1⟩
end
section
open Go.RowKit Go.WideShapes
end
section
open Go.RowKit Go.WideShapes
theorem TH {xs:Λ} {n:Int} (h0:0≤n) (h1:n<256):AB xs n 1=xs++[UInt8.ofNat n.toNat]:=by
  obtain ⟨m,rfl⟩:=Int.eq_ofNat_of_zero_le h0
  have hf:BC (m:Int) 1=true:=by unfold BC;simp;omega
  unfold AB
  rw [if_pos hf]
  simp [le]
theorem Ae6 {xs:Λ} {n:Int} (h0:0≤n) (h1:n<65536):AB xs n 2=xs++[UInt8.ofNat n.toNat,UInt8.ofNat (n.toNat / 256)]:=by
  obtain ⟨m,rfl⟩:=Int.eq_ofNat_of_zero_le h0
  have hf:BC (m:Int) 2=true:=by unfold BC;simp;omega
  unfold AB
  rw [if_pos hf]
  simp [le]
theorem Tu (l:List Int) (H:Λ) (h:∀ n∈l,0≤n∧n<256):BU H (IO l)=H++l.map fun n=>UInt8.ofNat n.toNat:=by
  induction l generalizing H with
  | nil=>simp [BU,IO]
  | cons n l ih=>
    have h1:=h n (by simp)
    have h2:=ih (AB H n 1) (fun x hx=>h x (by simp [hx]))
    have e:BU H (IO (n::l))=BU (AB H n 1) (IO l):=rfl
    rw [e,h2,TH h1.1 h1.2]
    simp
theorem Oq {i:InoT} (h:Cn i=true):0≤i.k∧i.k≤2∧0≤i.l∧i.l≤20∧0≤i.s∧i.s≤256:=by
  have hu:=LI h
  by_cases h1:i.k=1
  · have:=((On h1).1 h).1
    omega
  · by_cases h2:i.k=2
    · have:=((QG h2).1 h).1
      omega
    · rw [IB h1 h2,decide_eq_true_eq] at h
      unfold JO IU at h
      simp only [List.cons.injEq,and_true] at h
      omega
theorem SX {i:InoT} (h:Cn i=true):NO i=[UInt8.ofNat i.k.toNat,UInt8.ofNat i.l.toNat,UInt8.ofNat i.s.toNat,UInt8.ofNat (i.s.toNat / 256)]++(i.B++i.O).map fun n=>UInt8.ofNat n.toNat:=by
  have hk:=Oq h
  have hu:=(LI h).2.2.2
  obtain ⟨hB,_,hO,_⟩:=Oo h
  have hlow:∀ n∈i.B++i.O,0≤n∧n<256:=by
    intro n hn
    have h1:=hu n hn
    unfold FQ at hB
    unfold IR DG at hO
    simp only [InoT.B,InoT.O,List.cons_append,List.nil_append,List.mem_cons,List.not_mem_nil,or_false] at hn
    refine ⟨?_,ω⟩
    rcases hn with e | e | e | e | e | e | e | e | e | e | e | e<;>rw [e]
    · exact hB.1.1
    · exact hB.2.1.1
    · exact hB.2.2.1.1
    · exact hB.2.2.2.1
    · exact hO.1.1
    · exact hO.2.1.1
    · exact hO.2.2.1.1
    · exact hO.2.2.2.1.1
    · exact hO.2.2.2.2.1.1
    · exact hO.2.2.2.2.2.1.1
    · exact hO.2.2.2.2.2.2.1.1
    · exact hO.2.2.2.2.2.2.2.1
  unfold NO
  rw [Tu _ _ hlow]
  unfold SW
  rw [TH hk.1 ω,TH hk.2.2.1 ω,Ae6 hk.2.2.2.2.1 ω]
  simp
end
section
open Go.RowKit Go.WideShapes
def bs (l:List Int):Λ:=l.map fun n=>UInt8.ofNat n.toNat
theorem Zb {i:InoT} (h:Cn i=true):∀ n∈i.B++i.O,0≤n∧n≤255:=by
  have hu:=(LI h).2.2.2
  obtain ⟨hB,_,hO,_⟩:=Oo h
  intro n hn
  have h1:=hu n hn
  unfold FQ at hB
  unfold IR DG at hO
  simp only [InoT.B,InoT.O,List.cons_append,List.nil_append,List.mem_cons,List.not_mem_nil,or_false] at hn
  refine ⟨?_,ω⟩
  rcases hn with e | e | e | e | e | e | e | e | e | e | e | e<;>rw [e]
  · exact hB.1.1
  · exact hB.2.1.1
  · exact hB.2.2.1.1
  · exact hB.2.2.2.1
  · exact hO.1.1
  · exact hO.2.1.1
  · exact hO.2.2.1.1
  · exact hO.2.2.2.1.1
  · exact hO.2.2.2.2.1.1
  · exact hO.2.2.2.2.2.1.1
  · exact hO.2.2.2.2.2.2.1.1
  · exact hO.2.2.2.2.2.2.2.1
theorem KM {i:InoT} (h:Cn i=true) (hk:i.k=0):Ce i=List.replicate 64 0:=by
  have:=IB (i:=i) ω ω
  rw [h] at this
  unfold Ce
  rw [h,if_pos rfl,if_pos (of_decide_eq_true this.symm)]
theorem WO {i:InoT} (h:Cn i=true) (hk:i.k≠0):Ce i=AB (Hy i) (CN (Hy i):Nat) 4:=by
  unfold Ce
  rw [h,if_pos rfl,if_neg]
  · rfl
  · intro e
    apply hk
    unfold JO IU at e
    simp only [List.cons.injEq] at e
    exact e.1
theorem Ach {i:InoT} (h:Cn i=true):Ez i=0:=by unfold Ez;rw [h];rfl
end
section
open Go.RowKit Go.WideShapes Go.ChangeShapes Go.Deep
end
section
open Go.RowKit Go.WideShapes
def i65:InoT:=⟨1,1,65,3,4,0,0,0,0,0,0,0,0,0,0⟩
end
section
open Go.RowKit Go.WideShapes
theorem Fd:(prog.info? 45).map (·.size)=some 15:=κ
end
section
open Go.RowKit Go.WideShapes
def slI (xs:Λ) (a k:Nat):Λ:=(xs.drop a).take k
theorem Acy {xs:Λ} {a k:Nat} (h:a+k≤xs.length):(slI xs a k).length=k:=by simp [slI];omega
theorem Mv {xs:Λ} {a k:Nat} (h:a+k≤xs.length) (hk:FD k=true) (hv:BV (slI xs a k)≤9223372036854775807):AW xs a k=some (BV (slI xs a k)):=by
  unfold AW
  rw [if_pos ⟨hk,ω,ω⟩]
  simp only [Int.toNat_natCast]
  exact if_pos hv
theorem Ahg {xs:Λ} {a:Nat} (h:a<xs.length):slI xs a 1=[xs[a]]:=by
  unfold slI
  rw [List.drop_eq_getElem_cons h,List.take_succ_cons,List.take_zero]
theorem SP {xs:Λ} {a:Nat} (h:a<xs.length):AW xs a 1=some (bAt xs a):=by
  have e:BV (slI xs a 1)=bAt xs a:=by rw [Ahg h,Ea h];show (xs[a]).toNat+256*0=_;omega
  have hb:=Dr xs a
  have:=Mv (xs:=xs) (a:=a) (k:=1) ω rfl (by rw [e];omega)
  rwa [e] at this
theorem Aeb {xs:Λ} {a:Nat} (h:a+1<xs.length):AW xs a 2=some (bAt xs a+256*bAt xs (a+1)):=by
  have e:BV (slI xs a 2)=bAt xs a+256*bAt xs (a+1):=by
    rw [show (2:Nat)=1+1 from rfl]
    unfold slI
    rw [List.drop_eq_getElem_cons ω,List.take_succ_cons,List.drop_eq_getElem_cons h,List.take_succ_cons,List.take_zero,Ea ω,Ea h]
    show (xs[a]).toNat+256*((xs[a+1]).toNat+256*0)=_
    omega
  have hb:=Dr xs a
  have hb2:=Dr xs (a+1)
  have:=Mv (xs:=xs) (a:=a) (k:=2) ω rfl (by rw [e];omega)
  rwa [e] at this
theorem Aec {xs:Λ} {a:Nat} (h:a+4≤xs.length):AW xs a 4=some (BV (slI xs a 4)):=
  Mv h rfl (Tt (by rw [Acy h];omega))
def Bd (xs:Λ):InoT:=⟨bAt xs 0,bAt xs 1,(bAt xs 2:Int)+256*(bAt xs 3:Int),bAt xs 4,bAt xs 5,bAt xs 6,bAt xs 7,bAt xs 8,bAt xs 9,bAt xs 10,bAt xs 11,bAt xs 12,bAt xs 13,bAt xs 14,bAt xs 15⟩
theorem VW (xs:Λ) (j:Nat) (h:j<4):(Ao (Bd xs))[3+j]? = some (ν (bAt xs (4+j):Nat)):=by
  rcases (ω:j=0∨j=1∨j=2∨j=3) with rfl | rfl | rfl | rfl<;>rfl
theorem VX (xs:Λ) (j:Nat) (h:j<8):(Ao (Bd xs))[7+j]? = some (ν (bAt xs (8+j):Nat)):=by
  rcases (ω:j=0∨j=1∨j=2∨j=3∨j=4∨j=5∨j=6∨j=7) with rfl | rfl | rfl | rfl | rfl | rfl | rfl | rfl<;>rfl
theorem YN (i:InoT):∀ v∈Ao i,v.oneCell'=true:=by
  intro v hv
  unfold Ao at hv
  simp only [List.mem_cons,List.not_mem_nil,or_false] at hv
  rcases hv with e | e | e | e | e | e | e | e | e | e | e | e | e | e | e<;>rw [e]<;>rfl
def AS:InoT:=⟨0,0,0,0,0,0,0,0,0,0,0,0,0,0,0⟩
theorem Mm (a b:Ω) (c d:Nat) (xs ys:Λ) (w:World) (ha:Bo w a c xs) (hb:Bo w b d ys) :
    Calls prog 68 #[.slice a xs.length c,.slice b ys.length d] w fun e w'=>e=.returned (.bool (decide (xs=ys)))∧Below w.heap.size w w':=by
  have hl:=ER ha
  have hm:=ER hb
  by_cases hne:xs.length=ys.length
  · rw [hne]
    have hne2:=hid hne
    go_enter func68,ntmps68
    clear hne
    go_wp2
    go_loopw [5,13] (fun i13 i wr=>∃ j:Nat,j≤ys.length∧i=ν j∧(∀ i,i<j→bAt xs i=bAt ys i)∧Below w.heap.size w wr)
      (fun _ i _=>ys.length-(intOf i).toNat)
    case atStart=>exact ⟨0,Nat.zero_le _,rfl,fun i h=>absurd h ω,Below.refl _ _⟩
    case round=>
      obtain ⟨j,hj,rfl,hp,hbel⟩:=hrel
      have HP:=hid hp;clear hp
      by_cases hlt:j<ys.length
      · obtain ⟨ba,oa,rfl,hba,hca⟩:=(ha.mono hbel).bytes (by have:=hne2.out;omega)
        obtain ⟨bb,ob,rfl,hbb,hcb⟩:=(hb.mono hbel).bytes ω
        have ca:=hca j (by have:=hne2.out;omega)
        have cb:=hcb j hlt
        clear hca hcb ha hb
        have hlt':(j:Int)<(ys.length:Int):=ω
        by_cases hxy:bAt xs j=bAt ys j
        · have HX:=hid hxy
          rw [hxy] at ca
          clear hxy
          go_wp2
          go_quiet (fail)
          go_wp2
          go_roundw
          case rel=>exact ⟨j+1,ω,by go_num,fun i hi=>(by rcases Nat.lt_succ_iff_lt_or_eq.1 hi with h | rfl;exact HP.out i h;exact HX.out),Gp hbel _⟩
          case measure=>simp [intOf];omega
        · have hxy':((bAt xs j:Int) != (bAt ys j:Int))=true:=by simp;omega
          have HX:=hid hxy
          clear hxy
          go_wp2
          go_quiet (fail)
          go_wp2
          go_ret
          exact ⟨Bp (decide_eq_false (by rintro rfl;exact HX.out rfl)).symm,Gp hbel _⟩
      · obtain rfl:j=ys.length:=ω
        go_wp2
        go_ret
        exact ⟨Bp (decide_eq_true (Aay hne2.out HP.out)).symm,hbel⟩
  · go_enter func68,ntmps68
    go_wp2
    go_ret
    exact ⟨Bp (by simp;intro h;exact hne (by rw [h])),Below.refl _ _⟩
end
section
open Go.RowKit Go.WideShapes
theorem GJ {w:World} {ops:Array Oper} {rest:List Oper} {o:Oper} {act:Act} {Q:Exit→Act→World→Prop} (hgd:o.guard=none) (x:Operand)
    (ho:o.op=.load 45 x) (g:Nat) (hx:act.eval x=π g) {e:TypeId} (i:InoT) (hb:Blk w g e (Ao i))
    (h:wpList prog ops Q rest (act.put o.dst (.agg (Ao i).toArray)) w):wpList prog ops Q (o::rest) act w:=
  wpList_load_mid hgd 45 x ho g 0 hx (Ao i) _ hb.range υ45 rfl (by rw [Fd];rfl) h
theorem CE {w:World} {ops:Array Oper} {rest:List Oper} {o:Oper} {act:Act} {Q:Exit→Act→World→Prop} (hgd:o.guard=none) (x y:Operand)
    (ho:o.op=.store 45 x y) (g:Nat) (hx:act.eval x=π g) {e:TypeId} (i:InoT) {C:Array Value} (hy:act.eval y=.agg C) (hC:C=(Ao i).toArray) {j:InoT} (hb:Blk w g e (Ao j))
    (h:∀ w',Blk w' g e (Ao i)→w.grownBy w' (some g)→wpList prog ops Q rest (act.put o.dst undef) w'):wpList prog ops Q (o::rest) act w:=by
  subst hC
  exact NF hgd 45 x y ho g hx (Ao i) hy (by rw [Fd];rfl) (YN _) hb rfl h
theorem NN (a:Ω) (c:Nat) (xs:Λ) (w:World) (ha:Bo w a c xs) (h16:16≤xs.length) :
    Calls prog 71 #[.slice a xs.length c] w fun e w'=>e=.returned (Gk (Bd xs))∧Below w.heap.size w w':=by
  have hl:=ER ha
  have G0:=fun (w1:World) (r1:Bo w1 a c xs)=>Ef a c xs 0 1 w1 r1 hl
  have G1:=fun (w1:World) (r1:Bo w1 a c xs)=>Ef a c xs 1 1 w1 r1 hl
  have G2:=fun (w1:World) (r1:Bo w1 a c xs)=>Ef a c xs 2 2 w1 r1 hl
  have g0:=SP (xs:=xs) (a:=0) ω
  have g1:=SP (xs:=xs) (a:=1) ω
  have g2:=Aeb (xs:=xs) (a:=2) ω
  rw [show ((0:Nat):Int)=0 from rfl] at g0
  rw [show ((1:Nat):Int)=1 from rfl] at g1
  rw [show ((2:Nat):Int)=2 from rfl] at g2
  rw [g0] at G0;rw [g1] at G1;rw [g2] at G2
  have e256:((bAt xs 2+256*bAt xs (2+1):Nat):Int)=(bAt xs 2:Int)+256*(bAt xs 3:Int):=by show _=(bAt xs 2:Int)+256*(bAt xs (2+1):Int);omega
  have GB:∀ (m j:Nat) (w1:World),Bo w1 a c xs→m+j<16→Calls prog 69 #[.slice a xs.length c,ν ((m:Int)+(j:Int)),ν 1] w1 fun e w'=>e=.returned (.tuple #[ν (bAt xs (m+j):Nat),.bool true])∧w1=w':=by
    intro m j w1 r1 h
    have q:=Ef a c xs ((m+j:Nat):Int) 1 w1 r1 hl
    have g:=SP (xs:=xs) (a:=m+j) ω
    rw [g,show ((m+j:Nat):Int)=(m:Int)+(j:Int) by omega] at q
    exact q
  simp only [Lu,Option.getD_some,Option.isSome_some,e256] at G0 G1 G2
  have G0:=hid G0;have G1:=hid G1;have G2:=hid G2;have GB:=hid GB
  clear g0 g1 g2 e256
  have HR:=hid (fun w1 (hb:Below w.heap.size w w1)=>Row.mono ha hb)
  clear ha
  have HZ:Hid (Blk ((w.alloc (.cells #[ν 0,ν 0,ν 0,ν 0,ν 0,ν 0,ν 0,ν 0,ν 0,ν 0,ν 0,ν 0,ν 0,ν 0,ν 0] 45)).alloc (.cells #[ν 0,ν 0,ν 0,ν 0,ν 0,ν 0,ν 0,ν 0,ν 0,ν 0,ν 0,ν 0,ν 0,ν 0,ν 0] 45)) w.heap.size 45 (Ao AS)):=by
    have q:Blk (w.alloc (.cells #[ν 0,ν 0,ν 0,ν 0,ν 0,ν 0,ν 0,ν 0,ν 0,ν 0,ν 0,ν 0,ν 0,ν 0,ν 0] 45)) w.heap.size 45 (Ao AS):=heap_alloc_new w _
    exact q.mono ((Below.refl _ _).alloc (Nat.le_refl _) _)
  have HK:Hid (Blk ((w.alloc (.cells #[ν 0,ν 0,ν 0,ν 0,ν 0,ν 0,ν 0,ν 0,ν 0,ν 0,ν 0,ν 0,ν 0,ν 0,ν 0] 45)).alloc (.cells #[ν 0,ν 0,ν 0,ν 0,ν 0,ν 0,ν 0,ν 0,ν 0,ν 0,ν 0,ν 0,ν 0,ν 0,ν 0] 45)) (w.heap.size+1) 45 (Gy (Ao (Bd xs)) (ν 0) 0)):=by
    have q:=heap_alloc_new (w.alloc (.cells #[ν 0,ν 0,ν 0,ν 0,ν 0,ν 0,ν 0,ν 0,ν 0,ν 0,ν 0,ν 0,ν 0,ν 0,ν 0] 45)) (.cells #[ν 0,ν 0,ν 0,ν 0,ν 0,ν 0,ν 0,ν 0,ν 0,ν 0,ν 0,ν 0,ν 0,ν 0,ν 0] 45)
    rw [show (w.alloc (.cells #[ν 0,ν 0,ν 0,ν 0,ν 0,ν 0,ν 0,ν 0,ν 0,ν 0,ν 0,ν 0,ν 0,ν 0,ν 0] 45)).heap.size=w.heap.size+1 from by simp] at q
    exact q
  have HBl:Hid (Below w.heap.size w ((w.alloc (.cells #[ν 0,ν 0,ν 0,ν 0,ν 0,ν 0,ν 0,ν 0,ν 0,ν 0,ν 0,ν 0,ν 0,ν 0,ν 0] 45)).alloc (.cells #[ν 0,ν 0,ν 0,ν 0,ν 0,ν 0,ν 0,ν 0,ν 0,ν 0,ν 0,ν 0,ν 0,ν 0,ν 0] 45))):=((Below.refl _ w).alloc (Nat.le_refl _) _).alloc (by simp) _
  have hSw:w.heap.size≤w.heap.size+1:=ω
  go_enter func71,ntmps71
  go_wp2_with fail
  generalize hS:w.heap.size+1=S at *
  have hS':w.heap.size<S:=ω
  have HS:=hid hS
  clear hS
  refine (G0.out _ (HR.out _ HBl.out)).mono ?_
  rintro e wx ⟨rfl,rfl⟩
  have k0:=HK.out.atFill (ω:0<15)
  have fz0:=HK.out.frozen 0
  have HK2:=hid (HK.out.fill (ω:0<15) (show (Ao (Bd xs))[0]? = some (ν (bAt xs 0:Nat)) from rfl))
  have HZ2:=hid (HZ.out.setOtherS (ω:w.heap.size≠S) 0 (ν (bAt xs 0:Nat)))
  have HB2:=hid (HBl.out.setCell (p:=⟨S,0,none⟩) hSw (ν (bAt xs 0:Nat)))
  clear HK HZ HBl
  go_wp2_with fail
  have HK:=hid HK2.out;have HZ:=hid HZ2.out;have HBl:=hid HB2.out
  clear HK2 HZ2 HB2 k0 fz0
  generalize World.setCell _ _ _=w3 at *
  refine (G1.out _ (HR.out _ HBl.out)).mono ?_
  rintro e wx ⟨rfl,rfl⟩
  have k1:=HK.out.atFill (ω:1<15)
  have fz1:=HK.out.frozen 1
  have HK2:=hid (HK.out.fill (ω:1<15) (show (Ao (Bd xs))[1]? = some (ν (bAt xs 1:Nat)) from rfl))
  have HZ2:=hid (HZ.out.setOtherS (ω:w.heap.size≠S) 1 (ν (bAt xs 1:Nat)))
  have HB2:=hid (HBl.out.setCell (p:=⟨S,1,none⟩) hSw (ν (bAt xs 1:Nat)))
  clear HK HZ HBl
  go_wp2_with fail
  have HK:=hid HK2.out;have HZ:=hid HZ2.out;have HBl:=hid HB2.out
  clear HK2 HZ2 HB2 k1 fz1
  generalize World.setCell _ _ _=w4 at *
  refine (G2.out _ (HR.out _ HBl.out)).mono ?_
  rintro e wx ⟨rfl,rfl⟩
  have k2:=HK.out.atFill (ω:2<15)
  have fz2:=HK.out.frozen 2
  have HK2:=hid (HK.out.fill (ω:2<15) (show (Ao (Bd xs))[2]? = some (ν ((bAt xs 2:Int)+256*(bAt xs 3:Int))) from rfl))
  have HZ2:=hid (HZ.out.setOtherS (ω:w.heap.size≠S) 2 (ν ((bAt xs 2:Int)+256*(bAt xs 3:Int))))
  have HB2:=hid (HBl.out.setCell (p:=⟨S,2,none⟩) hSw (ν ((bAt xs 2:Int)+256*(bAt xs 3:Int))))
  clear HK HZ HBl
  go_wp2_with fail
  have HK:=hid HK2.out;have HZ:=hid HZ2.out;have HBl:=hid HB2.out
  clear HK2 HZ2 HB2 k2 fz2
  generalize World.setCell _ _ _=w5 at *
  go_loopw [4,24] (fun _ i wr=>∃ j:Nat,j≤4∧i=ν j∧Blk wr S 45 (Gy (Ao (Bd xs)) (ν 0) (3+j))∧Blk wr w.heap.size 45 (Ao AS)∧Below w.heap.size w wr) (fun _ i _=>4-(intOf i).toNat)
  case atStart=>exact ⟨0,ω,rfl,HK.out,HZ.out,HBl.out⟩
  case round=>
  clear HK HZ HBl
  obtain ⟨j,hj,rfl,hk,hz,hb⟩:=hrel
  by_cases hj4:j<4
  · have kj:=hk.atFill (ω:3+j<15)
    have fzj:=hk.frozen (3+j)
    have HK:=hid (hk.fill (ω:3+j<15) (VW xs j hj4))
    have HZ:=hid (hz.setOtherS (ω:w.heap.size≠S) (3+j) (ν (bAt xs (4+j):Nat)))
    have HBl:=hid (hb.setCell (p:=⟨S,3+j,none⟩) hSw (ν (bAt xs (4+j):Nat)))
    have HG:=hid (GB.out 4 j wr (HR.out _ hb) ω)
    have dj:decide ((j:Int)<4)=true:=decide_eq_true ω
    have ij:(j:Int)<4:=ω
    clear hk hz hb
    go_wp2_with (go_at_call 69;refine (HG.out).mono ?_;rintro e wx ⟨rfl,rfl⟩)
    go_roundw
    case rel=>exact ⟨j+1,ω,by go_num,HK.out,HZ.out,HBl.out⟩
    case measure=>simp [intOf];omega
  · obtain rfl:j=4:=ω
    rw [show ((4:Nat):Int)=4 from rfl]
    have HK:=hid hk;have HZ:=hid hz;have HBl:=hid hb
    clear hk hz hb
    obtain ⟨wo,hwo⟩:∃ x,x=wr:=⟨_,rfl⟩
    subst hwo
    go_wp2_with fail
    go_loopw [5,38] (fun _ i wr=>∃ j:Nat,j≤8∧i=ν j∧Blk wr S 45 (Gy (Ao (Bd xs)) (ν 0) (7+j))∧Blk wr w.heap.size 45 (Ao AS)∧Below w.heap.size w wr) (fun _ i _=>8-(intOf i).toNat)
    case atStart=>exact ⟨0,ω,rfl,HK.out,HZ.out,HBl.out⟩
    case round=>
    clear HK HZ HBl
    obtain ⟨j,hj,rfl,hk,hz,hb⟩:=hrel
    by_cases hj4:j<8
    · have kj:=hk.atFill (ω:7+j<15)
      have fzj:=hk.frozen (7+j)
      have HK:=hid (hk.fill (ω:7+j<15) (VX xs j hj4))
      have HZ:=hid (hz.setOtherS (ω:w.heap.size≠S) (7+j) (ν (bAt xs (8+j):Nat)))
      have HBl:=hid (hb.setCell (p:=⟨S,7+j,none⟩) hSw (ν (bAt xs (8+j):Nat)))
      have HG:=hid (GB.out 8 j wr (HR.out _ hb) ω)
      have dj:decide ((j:Int)<8)=true:=decide_eq_true ω
      have ij:(j:Int)<8:=ω
      clear hk hz hb
      go_wp2_with (go_at_call 69;refine (HG.out).mono ?_;rintro e wx ⟨rfl,rfl⟩)
      go_roundw
      case rel=>exact ⟨j+1,ω,by go_num,HK.out,HZ.out,HBl.out⟩
      case measure=>simp [intOf];omega
    · obtain rfl:j=8:=ω
      rw [show ((8:Nat):Int)=8 from rfl]
      have HK:Hid (Blk wr S 45 (Ao (Bd xs))):=hk
      have HZ:=hid hz;have HBl:=hid hb
      clear hk hz hb
      go_wp2_with (first
        | (with_reducible refine GJ rfl _ rfl S rfl (Bd xs) HK.out ?_)
        | ((with_reducible refine CE rfl _ _ rfl w.heap.size rfl (Bd xs) rfl rfl HZ.out ?_);intro w9 k9 g9;have K9:=hid k9;have G9:=hid g9;clear k9 g9))
      have hsz:=HBl.out.size
      refine bodyPost_ret (Dy rfl rfl K9.out υ45 rfl (by rw [Fd];rfl)) rfl ?_
      exact ⟨rfl,AH HBl.out G9.out (Nat.le_refl _) hsz⟩
end
section
open Go.RowKit Go.WideShapes
def Fc:Λ:=List.replicate 64 0
def Lp (ys:Λ):Bool:=decide (BV (slI ys 60 4)=CN (ys.take 60))
def KN (ys:Λ):Bool:=Cn (Bd ys)&&decide (Ce (Bd ys)=ys)
def rdI (xs:Λ):InoT:=if xs.length<64 then AS else if xs.take 64=Fc then AS else if Lp (xs.take 64)=false then AS else if KN (xs.take 64)=true then Bd (xs.take 64) else AS
def rdE (xs:Λ):Int:=if xs.length<64 then 3 else if xs.take 64=Fc then 0 else if Lp (xs.take 64)=false then 4 else if KN (xs.take 64)=true then 0 else 2
theorem Ag3:Ce AS=Fc:=by
  have hm:Cn AS=true:=by decide +kernel
  exact KM hm rfl
theorem Adk:Ez AS=0:=Ach (by decide +kernel)
theorem ZA {xs:Λ} (h:xs.length<64):rdI xs=AS∧rdE xs=3:=by unfold rdI rdE;rw [if_pos h,if_pos h];exact ⟨rfl,rfl⟩
theorem Vc {xs:Λ} (h:¬ xs.length<64) (hz:xs.take 64=Fc):rdI xs=AS∧rdE xs=0:=by unfold rdI rdE;rw [if_neg h,if_neg h,if_pos hz,if_pos hz];exact ⟨rfl,rfl⟩
theorem Afa {xs:Λ} (h:¬ xs.length<64) (hz:xs.take 64≠Fc) (hs:Lp (xs.take 64)=false):rdI xs=AS∧rdE xs=4:=by unfold rdI rdE;rw [if_neg h,if_neg h,if_neg hz,if_neg hz,if_pos hs,if_pos hs];exact ⟨rfl,rfl⟩
theorem Ae9 {xs:Λ} (h:¬ xs.length<64) (hz:xs.take 64≠Fc) (hs:Lp (xs.take 64)=true) (hg:KN (xs.take 64)=false):rdI xs=AS∧rdE xs=2:=by unfold rdI rdE;rw [if_neg h,if_neg h,if_neg hz,if_neg hz,hs,hg];exact ⟨rfl,rfl⟩
theorem Vb {xs:Λ} (h:¬ xs.length<64) (hz:xs.take 64≠Fc) (hs:Lp (xs.take 64)=true) (hg:KN (xs.take 64)=true):rdI xs=Bd (xs.take 64)∧rdE xs=0:=by unfold rdI rdE;rw [if_neg h,if_neg h,if_neg hz,if_neg hz,hs,hg];exact ⟨rfl,rfl⟩
theorem OU (w:World):Blk (w.alloc (.cells #[ν 0,ν 0,ν 0,ν 0,ν 0,ν 0,ν 0,ν 0,ν 0,ν 0,ν 0,ν 0,ν 0,ν 0,ν 0] 45)) w.heap.size 45 (Ao AS):=heap_alloc_new w _
theorem IW (w:World) (o:Obj):Below w.heap.size w (w.alloc o):=(Below.refl _ w).alloc (Nat.le_refl _) _
theorem Rl (a:Ω) (c:Nat) (xs:Λ) (w:World) (ha:Bo w a c xs) :
    Calls prog 39 #[.slice a xs.length c] w fun e w'=>e=.returned (.tuple #[Gk (rdI xs),ν (rdE xs)])∧Below w.heap.size w w':=by
  have hl:=ER ha
  have hcap:xs.length≤c:=ha.2.1
  have HZC:=hid (show (#[ν 0,ν 0,ν 0,ν 0,ν 0,ν 0,ν 0,ν 0,ν 0,ν 0,ν 0,ν 0,ν 0,ν 0,ν 0]:Array Value)=(Ao AS).toArray from rfl)
  have HZ:=hid (OU w)
  have HB:=hid (IW w (.cells #[ν 0,ν 0,ν 0,ν 0,ν 0,ν 0,ν 0,ν 0,ν 0,ν 0,ν 0,ν 0,ν 0,ν 0,ν 0] 45))
  by_cases h64:xs.length<64
  · obtain ⟨e1,e2⟩:=ZA h64
    rw [e1,e2]
    clear e1 e2
    go_enter func39,ntmps39
    go_wp2_with (((with_reducible refine CE rfl _ _ rfl w.heap.size rfl AS rfl HZC.out HZ.out ?_);intro w9 k9 g9;have K9:=hid k9;have G9:=hid g9;clear k9 g9))
    refine bodyPost_ret (Cc rfl rfl K9.out υ45 rfl (by rw [Fd];rfl)) rfl ?_
    exact ⟨rfl,AH HB.out G9.out (Nat.le_refl _) HB.out.size⟩
  have r0:=IF ha 64
  have hyl:(xs.take 64).length=64:=by simp;omega
  have hc64:64≤c:=ω
  have i64x:¬ ((xs.length:Int)<64):=ω
  have EQ:=fun a2 c2 zs w1 r1 r2=>Mm a a2 c c2 (xs.take 64) zs w1 r1 r2
  rw [hyl] at EQ
  have HR:=hid (fun w1 (hb:Below w.heap.size w w1)=>Row.mono r0 hb)
  have P0:=fun w1=>Jm AS w1
  unfold Adp at P0
  rw [Ag3,Adk,show Fc.length=64 from rfl] at P0
  have EZ:=fun a2 c2 w1 r1 r2=>EQ a2 c2 Fc w1 r1 r2
  rw [show Fc.length=64 from rfl] at EZ
  have P0:=hid P0
  have dn:decide ((xs.length:Int)<64)=false:=decide_eq_false i64x
  by_cases hz:xs.take 64=Fc
  · obtain ⟨e1,e2⟩:=Vc h64 hz
    rw [e1,e2]
    simp only [decide_eq_true hz] at EZ
    have EZ:=hid EZ
    generalize xs.take 64=ys at *
    clear e1 e2 hz EQ ha r0 hyl
    go_enter func39,ntmps39
    go_wp2_with fail
    refine (P0.out _).mono ?_
    rintro e w4 ⟨a4,c4,rfl,o4,b4⟩
    have HB4:=hid (Ae HB.out b4)
    have HZ4:=hid (HZ.out.mono b4)
    have HE:=hid (EZ.out a4 c4 w4 (HR.out _ HB4.out) o4.row)
    clear b4 o4
    go_wp2_with fail
    refine HE.out.mono ?_
    rintro e w5 ⟨rfl,b5⟩
    have HB5:=hid (Ae HB4.out b5)
    have HZ5:=hid (HZ4.out.mono b5)
    clear b5
    go_wp2_with (((with_reducible refine CE rfl _ _ rfl w.heap.size rfl AS rfl HZC.out HZ5.out ?_);intro w9 k9 g9;have K9:=hid k9;have G9:=hid g9;clear k9 g9))
    refine bodyPost_ret (Cc rfl rfl K9.out υ45 rfl (by rw [Fd];rfl)) rfl ?_
    exact ⟨rfl,AH HB5.out G9.out (Nat.le_refl _) HB5.out.size⟩
  simp only [decide_eq_false hz] at EZ
  have EZ:=hid EZ
  have hr1:=@Afa xs h64 hz
  have hr2:=@Ae9 xs h64 hz
  have hr3:=@Vb xs h64 hz
  have hr60:=IF r0 60
  have hl60:((xs.take 64).take 60).length=60:=by simp;omega
  have HR60:=hid (fun w1 (hb:Below w.heap.size w w1)=>Row.mono hr60 hb)
  have HSum:=fun w1 (r1:Bo w1 a c ((xs.take 64).take 60))=>Kh a c ((xs.take 64).take 60) w1 r1
  rw [hl60] at HSum
  have hG:=fun w1 r1=>Ef a c (xs.take 64) 60 4 w1 r1 ω
  have g4:=Aec (xs:=xs.take 64) (a:=60) ω
  rw [show ((60:Nat):Int)=60 from rfl] at g4
  rw [g4,hyl] at hG
  simp only [Lu,Option.getD_some,Option.isSome_some] at hG
  have hs:Lp (xs.take 64)=decide (BV (slI (xs.take 64) 60 4)=CN ((xs.take 64).take 60)):=rfl
  have HF:=fun w1 r1=>NN a c (xs.take 64) w1 r1 ω
  rw [hyl] at HF
  have hgd:KN (xs.take 64)=(Cn (Bd (xs.take 64))&&decide (Ce (Bd (xs.take 64))=xs.take 64)):=rfl
  have hP:=fun w1=>Jm (Bd (xs.take 64)) w1
  unfold Adp at hP
  have EP:=fun a2 c2 w1 (r1:Bo w1 a2 c2 (Ce (Bd (xs.take 64)))) r2=>Mm a2 a c2 c (Ce (Bd (xs.take 64))) (xs.take 64) w1 r1 r2
  rw [hyl] at EP
  have hcl:=EE ((xs.take 64).take 60)
  have hPE:Ez (Bd (xs.take 64))=if Cn (Bd (xs.take 64)) then 0 else 1:=rfl
  have hPL:(Ce (Bd (xs.take 64))).length≤64:=by unfold Ce;split;split;simp;rw [Kb];omega;simp
  rw [hs] at hr1 hr2 hr3
  rw [hgd] at hr2 hr3
  generalize CN ((xs.take 64).take 60)=z at *
  generalize BV (slI (xs.take 64) 60 4)=u at *
  generalize Ce (Bd (xs.take 64))=P at *
  generalize Ez (Bd (xs.take 64))=E at *
  generalize Cn (Bd (xs.take 64))=M at *
  generalize Bd (xs.take 64)=i at *
  generalize (xs.take 64).take 60=y60 at *
  generalize xs.take 64=ys at *
  have ez:IntKind.i64.wrap (z:Int)=z:=IntWalk.i64_in _ ω
  have HSum:=hid HSum;have hG:=hid hG;have HF:=hid HF;have hP:=hid hP;have EP:=hid EP
  clear hs hgd g4 r0 hr60 hl60 hyl ha EQ
  by_cases hu:u=z
  · rw [decide_eq_true hu] at hr1 hr2 hr3
    subst hu
    have hne:((u:Int) != (u:Int))=false:=by simp
    cases hM:M
    · rw [hM] at hr2 hPE
      obtain ⟨e1,e2⟩:=hr2 rfl rfl
      rw [e1,e2]
      rw [show E=1 from hPE] at hP
      clear e1 e2 hr1 hr2 hr3 hM hPE EP
      go_enter func39,ntmps39
      go_wp2_with fail
      refine (P0.out _).mono ?_
      rintro e w4 ⟨a4,c4,rfl,o4,b4⟩
      have HB4:=hid (Ae HB.out b4)
      have HZ4:=hid (HZ.out.mono b4)
      have HE:=hid (EZ.out a4 c4 w4 (HR.out _ HB4.out) o4.row)
      clear b4 o4
      go_wp2_with fail
      refine HE.out.mono ?_
      rintro e w5 ⟨rfl,b5⟩
      have HB5:=hid (Ae HB4.out b5)
      have HZ5:=hid (HZ4.out.mono b5)
      clear b5 HB4 HZ4 HE
      go_wp2_with fail
      refine (hG.out w5 (HR.out _ HB5.out)).mono ?_
      rintro e wx ⟨rfl,rfl⟩
      go_wp2_with fail
      refine (HSum.out w5 (HR60.out _ HB5.out)).mono ?_
      rintro e wy ⟨rfl,b6⟩
      have HBy:=hid (Ae HB5.out b6)
      have HZy:=hid (HZ5.out.mono b6)
      clear b6 HB5 HZ5
      go_wp2_with fail
      refine (HF.out wy (HR.out _ HBy.out)).mono ?_
      rintro e w6 ⟨rfl,b6⟩
      have HB6:=hid (Ae HBy.out b6)
      have HZ6:=hid (HZy.out.mono b6)
      clear b6 HBy HZy
      unfold Gk
      go_wp2_with (first
        | ((with_reducible refine CE rfl _ _ rfl w6.heap.size rfl i rfl rfl (OU w6) ?_);intro w10 k10 g10;have K10:=hid k10;have G10:=hid g10;clear k10 g10)
        | (with_reducible refine GJ rfl _ rfl w6.heap.size rfl i K10.out ?_))
      have HBa:=hid (AH (HB6.out.alloc HB6.out.size (.cells #[ν 0,ν 0,ν 0,ν 0,ν 0,ν 0,ν 0,ν 0,ν 0,ν 0,ν 0,ν 0,ν 0,ν 0,ν 0] 45)) G10.out HB6.out.size (Nat.le_trans HB6.out.size (IW w6 (.cells #[ν 0,ν 0,ν 0,ν 0,ν 0,ν 0,ν 0,ν 0,ν 0,ν 0,ν 0,ν 0,ν 0,ν 0,ν 0] 45)).size))
      have HZa:=hid ((HZ6.out.mono (IW w6 (.cells #[ν 0,ν 0,ν 0,ν 0,ν 0,ν 0,ν 0,ν 0,ν 0,ν 0,ν 0,ν 0,ν 0,ν 0,ν 0] 45))).grownS G10.out (show w.heap.size≠w6.heap.size from Nat.ne_of_lt HZ6.out.lt))
      refine (hP.out w10).mono ?_
      rintro e w8 ⟨a8,c8,rfl,o8,b8⟩
      have HB8:=hid (Ae HBa.out b8)
      have HZ8:=hid (HZa.out.mono b8)
      have K8:=hid (K10.out.mono b8)
      have O8:=hid o8.row
      clear b8 o8 HBa HZa HB6 HZ6
      go_wp2_with (((with_reducible refine CE rfl _ _ rfl w.heap.size rfl AS rfl HZC.out HZ8.out ?_);intro w9 k9 g9;have K9:=hid k9;have G9:=hid g9;clear k9 g9))
      refine bodyPost_ret (Cc rfl rfl K9.out υ45 rfl (by rw [Fd];rfl)) rfl ?_
      exact ⟨rfl,AH HB8.out G9.out (Nat.le_refl _) HB8.out.size⟩
    · rw [hM] at hr2 hr3 hPE
      rw [show E=0 from hPE] at hP
      by_cases hy:P=ys
      · obtain ⟨e1,e2⟩:=hr3 rfl (by rw [decide_eq_true hy];rfl)
        rw [e1,e2]
        have EPP:Hid (∀ (a2:Ω) (c2:Nat) (w1:World),Bo w1 a2 c2 P→Bo w1 a c ys→Calls prog 68 #[.slice a2 P.length c2,.slice a 64 c] w1 fun e w'=>e=.returned (.bool true)∧Below w1.heap.size w1 w'):=by
          have q:=EP.out
          simp only [decide_eq_true hy] at q
          exact q
        clear e1 e2 hr1 hr2 hr3 hM hPE EP hy
        go_enter func39,ntmps39
        go_wp2_with fail
        refine (P0.out _).mono ?_
        rintro e w4 ⟨a4,c4,rfl,o4,b4⟩
        have HB4:=hid (Ae HB.out b4)
        have HZ4:=hid (HZ.out.mono b4)
        have HE:=hid (EZ.out a4 c4 w4 (HR.out _ HB4.out) o4.row)
        clear b4 o4
        go_wp2_with fail
        refine HE.out.mono ?_
        rintro e w5 ⟨rfl,b5⟩
        have HB5:=hid (Ae HB4.out b5)
        have HZ5:=hid (HZ4.out.mono b5)
        clear b5 HB4 HZ4 HE
        go_wp2_with fail
        refine (hG.out w5 (HR.out _ HB5.out)).mono ?_
        rintro e wx ⟨rfl,rfl⟩
        go_wp2_with fail
        refine (HSum.out w5 (HR60.out _ HB5.out)).mono ?_
        rintro e wy ⟨rfl,b6⟩
        have HBy:=hid (Ae HB5.out b6)
        have HZy:=hid (HZ5.out.mono b6)
        clear b6 HB5 HZ5
        go_wp2_with fail
        refine (HF.out wy (HR.out _ HBy.out)).mono ?_
        rintro e w6 ⟨rfl,b6⟩
        have HB6:=hid (Ae HBy.out b6)
        have HZ6:=hid (HZy.out.mono b6)
        clear b6 HBy HZy
        unfold Gk
        go_wp2_with (first
          | ((with_reducible refine CE rfl _ _ rfl w6.heap.size rfl i rfl rfl (OU w6) ?_);intro w10 k10 g10;have K10:=hid k10;have G10:=hid g10;clear k10 g10)
          | (with_reducible refine GJ rfl _ rfl w6.heap.size rfl i K10.out ?_))
        have HBa:=hid (AH (HB6.out.alloc HB6.out.size (.cells #[ν 0,ν 0,ν 0,ν 0,ν 0,ν 0,ν 0,ν 0,ν 0,ν 0,ν 0,ν 0,ν 0,ν 0,ν 0] 45)) G10.out HB6.out.size (Nat.le_trans HB6.out.size (IW w6 (.cells #[ν 0,ν 0,ν 0,ν 0,ν 0,ν 0,ν 0,ν 0,ν 0,ν 0,ν 0,ν 0,ν 0,ν 0,ν 0] 45)).size))
        have HZa:=hid ((HZ6.out.mono (IW w6 (.cells #[ν 0,ν 0,ν 0,ν 0,ν 0,ν 0,ν 0,ν 0,ν 0,ν 0,ν 0,ν 0,ν 0,ν 0,ν 0] 45))).grownS G10.out (show w.heap.size≠w6.heap.size from Nat.ne_of_lt HZ6.out.lt))
        refine (hP.out w10).mono ?_
        rintro e w8 ⟨a8,c8,rfl,o8,b8⟩
        have HB8:=hid (Ae HBa.out b8)
        have HZ8:=hid (HZa.out.mono b8)
        have K8:=hid (K10.out.mono b8)
        have O8:=hid o8.row
        clear b8 o8 HBa HZa HB6 HZ6
        have HE:=hid (EPP.out a8 c8 w8 O8.out (HR.out _ HB8.out))
        go_wp2_with fail
        refine HE.out.mono ?_
        rintro e w7 ⟨rfl,b7⟩
        have HB7:=hid (Ae HB8.out b7)
        have HZ7:=hid (HZ8.out.mono b7)
        have K7:=hid (K8.out.mono b7)
        clear b7
        go_wp2_with (first
          | (with_reducible refine GJ rfl _ rfl w6.heap.size rfl i K7.out ?_)
          | ((with_reducible refine CE rfl _ _ rfl w.heap.size rfl i rfl rfl HZ7.out ?_);intro w9 k9 g9;have K9:=hid k9;have G9:=hid g9;clear k9 g9))
        refine bodyPost_ret (Cc rfl rfl K9.out υ45 rfl (by rw [Fd];rfl)) rfl ?_
        exact ⟨rfl,AH HB7.out G9.out (Nat.le_refl _) HB7.out.size⟩
      · obtain ⟨e1,e2⟩:=hr2 rfl (by rw [decide_eq_false hy];rfl)
        rw [e1,e2]
        have EPP:Hid (∀ (a2:Ω) (c2:Nat) (w1:World),Bo w1 a2 c2 P→Bo w1 a c ys→Calls prog 68 #[.slice a2 P.length c2,.slice a 64 c] w1 fun e w'=>e=.returned (.bool false)∧Below w1.heap.size w1 w'):=by
          have q:=EP.out
          simp only [decide_eq_false hy] at q
          exact q
        clear e1 e2 hr1 hr2 hr3 hM hPE EP hy
        go_enter func39,ntmps39
        go_wp2_with fail
        refine (P0.out _).mono ?_
        rintro e w4 ⟨a4,c4,rfl,o4,b4⟩
        have HB4:=hid (Ae HB.out b4)
        have HZ4:=hid (HZ.out.mono b4)
        have HE:=hid (EZ.out a4 c4 w4 (HR.out _ HB4.out) o4.row)
        clear b4 o4
        go_wp2_with fail
        refine HE.out.mono ?_
        rintro e w5 ⟨rfl,b5⟩
        have HB5:=hid (Ae HB4.out b5)
        have HZ5:=hid (HZ4.out.mono b5)
        clear b5 HB4 HZ4 HE
        go_wp2_with fail
        refine (hG.out w5 (HR.out _ HB5.out)).mono ?_
        rintro e wx ⟨rfl,rfl⟩
        go_wp2_with fail
        refine (HSum.out w5 (HR60.out _ HB5.out)).mono ?_
        rintro e wy ⟨rfl,b6⟩
        have HBy:=hid (Ae HB5.out b6)
        have HZy:=hid (HZ5.out.mono b6)
        clear b6 HB5 HZ5
        go_wp2_with fail
        refine (HF.out wy (HR.out _ HBy.out)).mono ?_
        rintro e w6 ⟨rfl,b6⟩
        have HB6:=hid (Ae HBy.out b6)
        have HZ6:=hid (HZy.out.mono b6)
        clear b6 HBy HZy
        unfold Gk
        go_wp2_with (first
          | ((with_reducible refine CE rfl _ _ rfl w6.heap.size rfl i rfl rfl (OU w6) ?_);intro w10 k10 g10;have K10:=hid k10;have G10:=hid g10;clear k10 g10)
          | (with_reducible refine GJ rfl _ rfl w6.heap.size rfl i K10.out ?_))
        have HBa:=hid (AH (HB6.out.alloc HB6.out.size (.cells #[ν 0,ν 0,ν 0,ν 0,ν 0,ν 0,ν 0,ν 0,ν 0,ν 0,ν 0,ν 0,ν 0,ν 0,ν 0] 45)) G10.out HB6.out.size (Nat.le_trans HB6.out.size (IW w6 (.cells #[ν 0,ν 0,ν 0,ν 0,ν 0,ν 0,ν 0,ν 0,ν 0,ν 0,ν 0,ν 0,ν 0,ν 0,ν 0] 45)).size))
        have HZa:=hid ((HZ6.out.mono (IW w6 (.cells #[ν 0,ν 0,ν 0,ν 0,ν 0,ν 0,ν 0,ν 0,ν 0,ν 0,ν 0,ν 0,ν 0,ν 0,ν 0] 45))).grownS G10.out (show w.heap.size≠w6.heap.size from Nat.ne_of_lt HZ6.out.lt))
        refine (hP.out w10).mono ?_
        rintro e w8 ⟨a8,c8,rfl,o8,b8⟩
        have HB8:=hid (Ae HBa.out b8)
        have HZ8:=hid (HZa.out.mono b8)
        have K8:=hid (K10.out.mono b8)
        have O8:=hid o8.row
        clear b8 o8 HBa HZa HB6 HZ6
        have HE:=hid (EPP.out a8 c8 w8 O8.out (HR.out _ HB8.out))
        go_wp2_with fail
        refine HE.out.mono ?_
        rintro e w7 ⟨rfl,b7⟩
        have HB7:=hid (Ae HB8.out b7)
        have HZ7:=hid (HZ8.out.mono b7)
        clear b7
        go_wp2_with (((with_reducible refine CE rfl _ _ rfl w.heap.size rfl AS rfl HZC.out HZ7.out ?_);intro w9 k9 g9;have K9:=hid k9;have G9:=hid g9;clear k9 g9))
        refine bodyPost_ret (Cc rfl rfl K9.out υ45 rfl (by rw [Fd];rfl)) rfl ?_
        exact ⟨rfl,AH HB7.out G9.out (Nat.le_refl _) HB7.out.size⟩
  · rw [decide_eq_false hu] at hr1
    obtain ⟨e1,e2⟩:=hr1 rfl
    rw [e1,e2]
    have hne:((u:Int) != (z:Int))=true:=by simp;omega
    clear e1 e2 hr1 hr2 hr3 hu
    go_enter func39,ntmps39
    go_wp2_with fail
    refine (P0.out _).mono ?_
    rintro e w4 ⟨a4,c4,rfl,o4,b4⟩
    have HB4:=hid (Ae HB.out b4)
    have HZ4:=hid (HZ.out.mono b4)
    have HE:=hid (EZ.out a4 c4 w4 (HR.out _ HB4.out) o4.row)
    clear b4 o4
    go_wp2_with fail
    refine HE.out.mono ?_
    rintro e w5 ⟨rfl,b5⟩
    have HB5:=hid (Ae HB4.out b5)
    have HZ5:=hid (HZ4.out.mono b5)
    clear b5 HB4 HZ4 HE
    go_wp2_with fail
    refine (hG.out w5 (HR.out _ HB5.out)).mono ?_
    rintro e wx ⟨rfl,rfl⟩
    go_wp2_with fail
    refine (HSum.out w5 (HR60.out _ HB5.out)).mono ?_
    rintro e w6 ⟨rfl,b6⟩
    have HB5z:=hid (Ae HB5.out b6)
    have HZ5z:=hid (HZ5.out.mono b6)
    clear b6 HB5 HZ5
    have HB5:=hid HB5z.out;have HZ5:=hid HZ5z.out
    go_wp2_with (((with_reducible refine CE rfl _ _ rfl w.heap.size rfl AS rfl HZC.out HZ5.out ?_);intro w9 k9 g9;have K9:=hid k9;have G9:=hid g9;clear k9 g9))
    refine bodyPost_ret (Cc rfl rfl K9.out υ45 rfl (by rw [Fd];rfl)) rfl ?_
    exact ⟨rfl,AH HB5.out G9.out (Nat.le_refl _) HB5.out.size⟩
end
section
open Go.RowKit Go.WideShapes
def Al (xs:Λ):Array Value:=(xs.map Ag).toArray
theorem Lh (xs:Λ):(Al xs).size=xs.length:=by simp [Al]
theorem Tk (xs:Λ):(Al xs).all (·.oneCell')=true:=all_oneCell_toArray (CH xs)
theorem SQ {w w':World} {h:Nat} (g:w.grownBy w' (some h)) (i:Nat) (v:Value):w.grownBy (w'.setCell ⟨h,i,none⟩ v) (some h):=
  ⟨g.os,g.tape,g.output,by simp [World.setCell];exact g.size,fun k hk hne=>by
    rw [Below.heap_setCell _ _ _ _ (by rintro rfl;exact hne rfl)];exact g.block k hk hne⟩
theorem Ld (w:World) (r:Option Nat):w.grownBy w r:=⟨rfl,rfl,rfl,Nat.le_refl _,fun _ _ _=>rfl⟩
theorem Pp {w w1 w2:World} {r:Option Nat} (a:w.grownBy w1 r) (b:w1.grownBy w2 r):w.grownBy w2 r:=
  ⟨b.os.trans a.os,b.tape.trans a.tape,b.output.trans a.output,Nat.le_trans a.size b.size,fun k hk hne=>(b.block k (Nat.lt_of_lt_of_le hk a.size) hne).trans (a.block k hk hne)⟩
def Ek (xs:Λ) (k:Nat):Bool:=(bAt xs (k / 8)).testBit (k % 8)
def CL (xs:Λ) (n:Int):Bool:=decide (1≤n∧n≤128)&&Ek xs (n-1).toNat
theorem Aau (x r:Nat):(((x &&& 2 ^ r:Nat):Int) != 0)=x.testBit r:=by
  rw [show (((x &&& 2 ^ r:Nat):Int) != 0)=decide (¬ ((x &&& 2 ^ r:Nat):Int)=0) from by simp [bne,BEq.beq]]
  have e:x &&& 2 ^ r=if x.testBit r then 2 ^ r else 0:=by
    apply Nat.eq_of_testBit_eq
    intro i
    rw [Nat.testBit_and,Nat.testBit_two_pow]
    by_cases h:r=i
    · subst h
      by_cases hb:x.testBit r=true
      · rw [if_pos hb];simp [hb]
      · rw [if_neg hb];simp [hb]
    · by_cases hb:x.testBit r=true
      · rw [if_pos hb];simp [h,Nat.testBit_two_pow]
      · rw [if_neg hb];simp [h]
  rw [e]
  have:=Nat.two_pow_pos r
  by_cases hb:x.testBit r=true
  · rw [if_pos hb,hb];exact decide_eq_true ω
  · rw [if_neg hb];simp [hb]
theorem JN:(prog.info? 52).map (·.size)=some 16:=κ
theorem Gr {w:World} {g:Nat} {e:TypeId} {L:List Value} (h:Blk w g e L):w.rangeAt g 0 L:=fun j v hv=>by
  have hj:=(List.getElem?_eq_some_iff.1 hv).1
  rw [Nat.zero_add,Blk.cell h hj,← hv,List.getElem?_eq_getElem hj]
theorem VD {w:World} {g:Nat} {e:TypeId} {L:List Value} (h:Blk w g e L):w.there g 0 L.length:=fun j hj=>by
  rw [Nat.zero_add,Blk.cell h hj];exact ⟨rfl,Blk.frozen h j⟩
theorem Jw {g:Nat} {e:TypeId}:∀ (vs:List Value) (o:Nat) (w:World) (L:List Value),Blk w g e L→o+vs.length≤L.length→Blk (w.setCells g o vs) g e (splice L o vs)∧w.grownBy (w.setCells g o vs) (some g)
  | [],o,w,L,h,_=>by
    refine ⟨?_,Ld w _⟩
    simp [splice];exact h
  | v::r,o,w,L,h,hl=>by
    simp only [List.length_cons] at hl
    have h1:=Blk.set h o v
    obtain ⟨h2,h3⟩:=Jw r (o+1) _ _ h1 (by simp;omega)
    refine ⟨?_,Pp (SQ (Ld w _) o v) h3⟩
    have e1:splice (L.set o v) (o+1) r=splice L o (v::r):=by
      apply List.ext_getElem?
      intro i
      rw [getElem?_splice _ _ _ (by simp;omega),getElem?_splice _ _ _ (by simp;omega)]
      by_cases h0:i=o
      · subst h0
        rw [if_neg ω,if_pos (by simp)]
        simp [List.getElem?_set,show i<L.length by omega]
      · by_cases h4:o+1≤i∧i<o+1+r.length
        · rw [if_pos h4,if_pos (by simp;omega),show i-o=(i-(o+1))+1 by omega,List.getElem?_cons_succ]
        · rw [if_neg h4,if_neg (by simp;omega),List.getElem?_set_ne ω]
    rw [← e1];exact h2
theorem ED {w:World} {ops:Array Oper} {rest:List Oper} {o:Oper} {act:Act} {Q:Exit→Act→World→Prop} (hgd:o.guard=none) (x:Operand)
    (ho:o.op=.load 52 x) (g:Nat) (hx:act.eval x=π g) {e:TypeId} (xs:Λ) (hl:xs.length=16) (hb:Blk w g e (xs.map Ag))
    (h:wpList prog ops Q rest (act.put o.dst (.agg (Al xs))) w):wpList prog ops Q (o::rest) act w:=
  wpList_load_mid hgd 52 x ho g 0 hx (xs.map Ag) _ (Gr hb) υ52 rfl (by rw [JN];simp [hl]) h
theorem DU {w:World} {ops:Array Oper} {rest:List Oper} {o:Oper} {act:Act} {Q:Exit→Act→World→Prop} (hgd:o.guard=none) (x y:Operand)
    (ho:o.op=.store 52 x y) (g:Nat) (hx:act.eval x=π g) {e:TypeId} (xs:Λ) (hy:act.eval y=.agg (Al xs)) (hl:xs.length=16) {L:List Value} (hb:Blk w g e L) (hL:L.length=16)
    (h:∀ w',Blk w' g e (xs.map Ag)→w.grownBy w' (some g)→wpList prog ops Q rest (act.put o.dst undef) w'):wpList prog ops Q (o::rest) act w:=by
  have ht:=VD hb
  rw [hL] at ht
  refine wpList_store_mid hgd 52 x y ho g 0 (Al xs) hx hy (by rw [Lh,hl];exact ht) (by rw [JN,Lh,hl]) (Tk xs) ?_
  obtain ⟨h1,h2⟩:=Jw (xs.map Ag) 0 w L hb (by simp;omega)
  have e1:splice L 0 (xs.map Ag)=xs.map Ag:=by
    unfold splice
    simp [List.drop_eq_nil_of_le,hL,hl]
  rw [e1] at h1
  exact h _ h1 h2
theorem FZ {fn:Func} {c:Tmp} (h:fn.results=#[.cell c 52]) {tmps:Array Value} {w:World} {g:Nat} {xs:Λ} (hc:tmps.getD c undef=π g) {e:TypeId} (hb:Blk w g e (xs.map Ag)) (hl:xs.length=16) :
    (results fn tmps).run prog w=.ok (.agg (Al xs)) w:=by
  have hv:=run_loadVar_mid (P:=prog) w g 0 52 (xs.map Ag) _ (Gr hb) υ52 rfl (by rw [JN];simp [hl])
  have hc':tmps[c]?.getD undef=π g:=by simpa using hc
  simp [results,h,hc',asAddr,hv,Al]
theorem map_set (xs:Λ) (q v:Nat) (hv:v<256):(xs.map Ag).set q (.int .u8 (v:Int))=(xs.set q (UInt8.ofNat v)).map Ag:=by
  rw [List.map_set]
  congr 1
  unfold Ag
  simp [Nat.mod_eq_of_lt hv]
theorem Uw (xs:Λ) (q j v:Nat) (hv:v<256) (hq:q<xs.length):bAt (xs.set q (UInt8.ofNat v)) j=if q=j then v else bAt xs j:=by
  unfold bAt
  rw [List.getD_eq_getElem?_getD,List.getElem?_set]
  by_cases h:q=j
  · subst h
    simp [hq,Nat.mod_eq_of_lt hv]
  · simp [h]
def RS (xs:Λ) (k:Nat):Λ:=xs.set (k / 8) (UInt8.ofNat (bAt xs (k / 8) ||| 2 ^ (k % 8)))
def Qv (xs:Λ) (k:Nat):Λ:=xs.set (k / 8) (UInt8.ofNat (bAt xs (k / 8) &&& (255-2 ^ (k % 8))))
def AT (xs:Λ) (n:Int):Λ:=if 1≤n∧n≤128 then RS xs (n-1).toNat else xs
def DL (xs:Λ) (n:Int):Λ:=if 1≤n∧n≤128 then Qv xs (n-1).toNat else xs
theorem GA (k:Nat):2 ^ (k % 8)<256:=by
  have:k % 8<8:=Nat.mod_lt _ ω
  calc 2 ^ (k % 8)≤2 ^ 7:=Nat.pow_le_pow_right ω ω
    _<256:=ω
theorem QU (a b:Nat) (ha:a<256) (hb:b<256):a ||| b<256:=Nat.or_lt_two_pow (n:=8) ha hb
theorem NV (a b:Nat) (ha:a<256):a &&& b<256:=Nat.lt_of_le_of_lt Nat.and_le_left ha
theorem Ku (xs:Λ) (k j:Nat) (hx:xs.length=16) (hk:k<128):Ek (RS xs k) j=(Ek xs j||decide (j=k)):=by
  unfold Ek RS
  rw [Uw _ _ _ _ (QU _ _ (Dr _ _) (GA _)) ω]
  by_cases h:k / 8=j / 8
  · rw [if_pos h,Nat.testBit_or,Nat.testBit_two_pow,h]
    congr 1
    apply decide_eq_decide.2
    constructor
    · intro h2;omega
    · intro h2;subst h2;rfl
  · rw [if_neg h,decide_eq_false (by intro h2;subst h2;exact h rfl),Bool.or_false]
theorem Kt (xs:Λ) (k j:Nat) (hx:xs.length=16) (hk:k<128):Ek (Qv xs k) j=(Ek xs j&&!decide (j=k)):=by
  unfold Ek Qv
  rw [Uw _ _ _ _ (NV _ _ (Dr _ _)) ω]
  by_cases h:k / 8=j / 8
  · have e1:255-2 ^ (k % 8)=2 ^ 8-(2 ^ (k % 8)+1):=ω
    rw [if_pos h,Nat.testBit_and,e1,Nat.testBit_two_pow_sub_succ (GA k),Nat.testBit_two_pow,h]
    have hj:j % 8<8:=Nat.mod_lt _ ω
    rw [decide_eq_true hj,Bool.true_and]
    congr 2
    apply decide_eq_decide.2
    constructor
    · intro h2;omega
    · intro h2;subst h2;rfl
  · rw [if_neg h,decide_eq_false (by intro h2;subst h2;exact h rfl)];simp
theorem AX (xs:Λ) (n:Int):(AT xs n).length=xs.length:=by unfold AT RS;split<;>simp
theorem Aw (xs:Λ) (n:Int):(DL xs n).length=xs.length:=by unfold DL Qv;split<;>simp
end
section
open Go.RowKit Go.WideShapes
theorem Dk (n:Int) (w:World) :
    Calls prog 109 #[ν n] w fun e w'=>e=.returned (.bool (decide (1≤n∧n≤128)))∧w=w':=by
  rcases (ω:n<1∨(1≤n∧n≤128)∨(1≤n∧128<n)) with h | ⟨h1,h2⟩ | ⟨h1,h2⟩
  · rw [decide_eq_false ω]
    go_enter func109,ntmps109
    go_wp2
    go_ret
    exact ⟨rfl,rfl⟩
  · rw [decide_eq_true ω]
    go_enter func109,ntmps109
    go_wp2
    go_ret
    exact ⟨Bp (by first | rfl | (simp;done) | (simp;omega)),rfl⟩
  · rw [decide_eq_false ω]
    go_enter func109,ntmps109
    go_wp2
    go_ret
    exact ⟨Bp (by first | rfl | (simp;done) | (simp;omega)),rfl⟩
theorem Pa (k:Nat) (w:World) (hk:k<128) :
    Calls prog 110 #[ν ((k:Int)+1)] w fun e w'=>e=.returned (.int .u8 ((2 ^ (k % 8):Nat):Int))∧w=w':=by
  have h1:(k:Int)+1-1=k:=ω
  have h2:(k:Int).tmod 8=((k % 8:Nat):Int):=rfl
  have h3:IntKind.i64.wrap (k:Int)=k:=IntWalk.i64_in _ ω
  have h4:k % 8<8:=Nat.mod_lt _ ω
  generalize k % 8=r at *
  have h5:IntKind.i64.wrap (r:Int)=r:=IntWalk.i64_in _ ω
  rcases (ω:r=0∨r=1∨r=2∨r=3∨r=4∨r=5∨r=6∨r=7) with rfl | rfl | rfl | rfl | rfl | rfl | rfl | rfl
  all_goals
    go_enter func110,ntmps110
    go_wp2
    go_ret
    exact ⟨rfl,rfl⟩
theorem YZ (xs:Λ) (w:World) {j:Nat} (hj:j<xs.length):∀ n,((w.alloc (.cells (Al xs) 52)).drewN n).cell? ⟨w.heap.size,j,none⟩=some (.int .u8 (bAt xs j:Int)):=by
  intro n
  have H:Blk ((w.alloc (.cells (Al xs) 52)).drewN n) w.heap.size 52 (xs.map Ag):=heap_alloc_new w _
  rw [Blk.cell H (i:=j) (by simpa using hj)]
  simp [Ag,Ea hj]
theorem Sa (xs:Λ) (n:Int) (w:World) (hx:xs.length=16) (hn:-9223372036854775808≤n∧n≤9223372036854775807) :
    Calls prog 76 #[.agg (Al xs),ν n] w fun e w'=>e=.returned (.bool (CL xs n))∧Below w.heap.size w w':=by
  by_cases h:1≤n∧n≤128
  · obtain ⟨k,rfl⟩:∃ k:Nat,n=(k:Int)+1:=⟨(n-1).toNat,ω⟩
    have hk:k<128:=ω
    have hU:CL xs ((k:Int)+1)=Ek xs k:=by
      unfold CL;rw [decide_eq_true h];simp
    rw [hU]
    have d1:decide (1≤(k:Int)+1∧(k:Int)+1≤128)=true:=decide_eq_true h
    have h1:(k:Int)+1-1=k:=ω
    have h2:(k:Int).tdiv 8=((k / 8:Nat):Int):=rfl
    have h3:IntKind.i64.wrap (k:Int)=k:=IntWalk.i64_in _ ω
    have h4:k / 8<16:=ω
    have h5:IntKind.i64.wrap ((k / 8:Nat):Int)=(k / 8:Nat):=IntWalk.i64_in _ ω
    have hc:=YZ xs w (ω:k / 8<xs.length) 0
    change (w.alloc (.cells (Al xs) 52)).cell? _=_ at hc
    have hand:=u8_and_nat (bAt xs (k / 8)) (2 ^ (k % 8)) (Dr _ _) (by have:k % 8<8:=Nat.mod_lt _ ω;calc 2 ^ (k % 8)≤2 ^ 7:=Nat.pow_le_pow_right ω ω
                                                                                 _<256:=ω)
    have hbit:=Aau (bAt xs (k / 8)) (k % 8)
    have hbb:Ek xs k=(bAt xs (k / 8)).testBit (k % 8):=rfl
    rw [hbb]
    have HB:=hid (fun w1=>Pa k w1 hk)
    generalize k / 8=q at *
    generalize k % 8=r at *
    generalize bAt xs q=x at *
    generalize (x.testBit r)=tb at *
    generalize ((2 ^ r:Nat):Int)=p at *
    go_enter func76,ntmps76
    go_wp2_with fail
    go_region_with (first
      | (go_at_call 109;refine (Dk _ _).mono ?_;rintro e w1 ⟨rfl,rfl⟩;rw [d1])
      | (go_at_call 110;refine (HB.out _).mono ?_;rintro e w1 ⟨rfl,rfl⟩))
    all_goals
      go_wp2_with fail
      go_ret
      exact ⟨rfl,((Below.refl _ w).alloc (Nat.le_refl _) _).drew⟩
  · have hU:CL xs n=false:=by unfold CL;rw [decide_eq_false h];rfl
    rw [hU]
    have d1:decide (1≤n∧n≤128)=false:=decide_eq_false h
    go_enter func76,ntmps76
    go_wp2_with fail
    first
    | (go_region_with (first
      | (go_at_call 109;refine (Dk _ _).mono ?_;rintro e w1 ⟨rfl,rfl⟩;rw [d1])))
    | fail
    all_goals
      go_wp2_with fail
      go_ret
      exact ⟨rfl,((Below.refl _ w).alloc (Nat.le_refl _) _).drew⟩
end
section
open Go.RowKit Go.WideShapes
theorem Ir (w:World) (xs:Λ) (o:Obj):Blk ((w.alloc (.cells (Al xs) 52)).alloc o) w.heap.size 52 (xs.map Ag):=
  Blk.mono (show Blk (w.alloc (.cells (Al xs) 52)) w.heap.size 52 (xs.map Ag) from heap_alloc_new w _) ((Below.refl _ _).alloc (Nat.le_refl _) o)
theorem PY (w:World) (xs:Λ) {j:Nat} (hj:j<xs.length) (o:Obj):((w.alloc (.cells (Al xs) 52)).alloc o).cell? ⟨w.heap.size,j,none⟩=some (.int .u8 (bAt xs j:Int)):=by
  rw [Blk.cell (Ir w xs o) (i:=j) (by simpa using hj)]
  simp [Ag,Ea hj]
theorem Ma (w:World) (xs:Λ) (j:Nat) (o:Obj):((w.alloc (.cells (Al xs) 52)).alloc o).frozen? ⟨w.heap.size,j,none⟩=false:=Blk.frozen (Ir w xs o) j
def AE:Λ:=List.replicate 16 0
theorem LJ (w:World) (xs:Λ):Blk ((w.alloc (.cells (Al xs) 52)).alloc (.cells (Al AE) 52)) (w.heap.size+1) 52 (AE.map Ag):=by
  have:=heap_alloc_new (w.alloc (.cells (Al xs) 52)) (.cells (Al AE) 52)
  rw [show (w.alloc (.cells (Al xs) 52)).heap.size=w.heap.size+1 from by simp] at this
  exact this
theorem NJ:(#[.int .u8 0,.int .u8 0,.int .u8 0,.int .u8 0,.int .u8 0,.int .u8 0,.int .u8 0,.int .u8 0,.int .u8 0,.int .u8 0,.int .u8 0,.int .u8 0,.int .u8 0,.int .u8 0,.int .u8 0,.int .u8 0]:Array Value)=Al AE:=rfl
theorem QF (xs:Λ) (q v:Nat) (hv:v<256):(Al xs).setIfInBounds q (.int .u8 (v:Int))=Al (xs.set q (UInt8.ofNat v)):=by
  unfold Al;rw [← map_set xs q v hv];simp
theorem RT (xs:Λ) (n:Int) (w:World) (hx:xs.length=16) (hn:-9223372036854775808≤n∧n≤9223372036854775807) :
    Calls prog 108 #[.agg (Al xs),ν n] w fun e w'=>e=.returned (.agg (Al (AT xs n)))∧Below w.heap.size w w':=by
  by_cases h:1≤n∧n≤128
  · obtain ⟨k,rfl⟩:∃ k:Nat,n=(k:Int)+1:=⟨(n-1).toNat,ω⟩
    have hk:k<128:=ω
    have hU:AT xs ((k:Int)+1)=xs.set (k / 8) (UInt8.ofNat (bAt xs (k / 8) ||| 2 ^ (k % 8))):=by
      unfold AT;rw [if_pos h];simp [RS]
    rw [hU]
    have d1:decide (1≤(k:Int)+1∧(k:Int)+1≤128)=true:=decide_eq_true h
    have h1:(k:Int)+1-1=k:=ω
    have h2:(k:Int).tdiv 8=((k / 8:Nat):Int):=rfl
    have h3:IntKind.i64.wrap (k:Int)=k:=IntWalk.i64_in _ ω
    have h4:k / 8<16:=ω
    have h5:IntKind.i64.wrap ((k / 8:Nat):Int)=(k / 8:Nat):=IntWalk.i64_in _ ω
    have hc:=PY w xs (ω:k / 8<xs.length)
    have hf:=Ma w xs (k / 8)
    have hop:=u8_or_nat (bAt xs (k / 8)) (2 ^ (k % 8)) (Dr _ _) (GA k)
    have hv:bAt xs (k / 8) ||| 2 ^ (k % 8)<256:=QU _ _ (Dr _ _) (GA k)
    have hset:=QF xs (k / 8) (bAt xs (k / 8) ||| 2 ^ (k % 8)) hv
    have hls:(xs.set (k / 8) (UInt8.ofNat (bAt xs (k / 8) ||| 2 ^ (k % 8)))).length=16:=by simpa using hx
    have HB:=hid (fun w1=>Pa k w1 hk)
    generalize xs.set (k / 8) (UInt8.ofNat (bAt xs (k / 8) ||| 2 ^ (k % 8)))=ys at *
    generalize k / 8=q at *
    generalize k % 8=r at *
    generalize bAt xs q=x at *
    generalize hval:(x ||| 2 ^ r:Nat)=val at *
    generalize ((2 ^ r:Nat):Int)=p at *
    have HS:=hid hset
    clear hset hval
    go_enter func108,ntmps108
    go_wp2_with fail
    refine (Dk _ _).mono ?_
    rintro e w1 ⟨rfl,rfl⟩
    rw [d1]
    go_wp2_with fail
    rw [NJ]
    first
    | (go_region_with (first
        | (go_at_call 110;refine (HB.out _).mono ?_;rintro e w1 ⟨rfl,rfl⟩)))
    | fail
    all_goals
      rw [HS.out]
      have K0:=Blk.drew (Ir w ys (.cells (Al AE) 52))
      have N0:=Blk.drew (LJ w ys)
      have B0:Below w.heap.size w ((w.alloc (.cells (Al ys) 52)).alloc (.cells (Al AE) 52)).drew:=(((Below.refl _ w).alloc (Nat.le_refl _) _).alloc (by simp) _).drew
      generalize ((w.alloc (.cells (Al ys) 52)).alloc (.cells (Al AE) 52)).drew=w2 at *
      go_wp2_with (first
        | (with_reducible refine ED rfl _ rfl w.heap.size rfl ys hls K0 ?_)
        | (with_reducible refine DU rfl _ _ rfl (w.heap.size+1) rfl ys rfl hls N0 rfl ?_;intro w3 k3 g3))
      refine bodyPost_ret (FZ rfl rfl k3 hls) rfl ⟨rfl,?_⟩
      exact B0.grown g3 B0.size (fun k hk=>by cases hk;omega)
  · have hU:AT xs n=xs:=by unfold AT;rw [if_neg h]
    rw [hU]
    have d1:decide (1≤n∧n≤128)=false:=decide_eq_false h
    go_enter func108,ntmps108
    go_wp2_with fail
    refine (Dk _ _).mono ?_
    rintro e w1 ⟨rfl,rfl⟩
    rw [d1,NJ]
    have K0:=Ir w xs (.cells (Al AE) 52)
    have N0:=LJ w xs
    have B0:Below w.heap.size w ((w.alloc (.cells (Al xs) 52)).alloc (.cells (Al AE) 52)):=(((Below.refl _ w).alloc (Nat.le_refl _) _).alloc (by simp) _)
    generalize ((w.alloc (.cells (Al xs) 52)).alloc (.cells (Al AE) 52))=w2 at *
    go_wp2_with (first
      | (with_reducible refine ED rfl _ rfl w.heap.size rfl xs hx K0 ?_)
      | (with_reducible refine DU rfl _ _ rfl (w.heap.size+1) rfl xs rfl hx N0 rfl ?_;intro w3 k3 g3))
    refine bodyPost_ret (FZ rfl rfl k3 hx) rfl ⟨rfl,?_⟩
    exact B0.grown g3 B0.size (fun k hk=>by cases hk;omega)
theorem YA (xs:Λ) (n:Int) (w:World) (hx:xs.length=16) (hn:-9223372036854775808≤n∧n≤9223372036854775807) :
    Calls prog 106 #[.agg (Al xs),ν n] w fun e w'=>e=.returned (.agg (Al (DL xs n)))∧Below w.heap.size w w':=by
  by_cases h:1≤n∧n≤128
  · obtain ⟨k,rfl⟩:∃ k:Nat,n=(k:Int)+1:=⟨(n-1).toNat,ω⟩
    have hk:k<128:=ω
    have hU:DL xs ((k:Int)+1)=xs.set (k / 8) (UInt8.ofNat (bAt xs (k / 8) &&& (255-2 ^ (k % 8)))):=by
      unfold DL;rw [if_pos h];simp [Qv]
    rw [hU]
    have d1:decide (1≤(k:Int)+1∧(k:Int)+1≤128)=true:=decide_eq_true h
    have h1:(k:Int)+1-1=k:=ω
    have h2:(k:Int).tdiv 8=((k / 8:Nat):Int):=rfl
    have h3:IntKind.i64.wrap (k:Int)=k:=IntWalk.i64_in _ ω
    have h4:k / 8<16:=ω
    have h5:IntKind.i64.wrap ((k / 8:Nat):Int)=(k / 8:Nat):=IntWalk.i64_in _ ω
    have hc:=PY w xs (ω:k / 8<xs.length)
    have hf:=Ma w xs (k / 8)
    have hop:=u8_andNot_nat (bAt xs (k / 8)) (2 ^ (k % 8)) (Dr _ _) (GA k)
    have hv:bAt xs (k / 8) &&& (255-2 ^ (k % 8))<256:=NV _ _ (Dr _ _)
    have hset:=QF xs (k / 8) (bAt xs (k / 8) &&& (255-2 ^ (k % 8))) hv
    have hls:(xs.set (k / 8) (UInt8.ofNat (bAt xs (k / 8) &&& (255-2 ^ (k % 8))))).length=16:=by simpa using hx
    have HB:=hid (fun w1=>Pa k w1 hk)
    generalize xs.set (k / 8) (UInt8.ofNat (bAt xs (k / 8) &&& (255-2 ^ (k % 8))))=ys at *
    generalize k / 8=q at *
    generalize k % 8=r at *
    generalize bAt xs q=x at *
    generalize hval:(x &&& (255-2 ^ r):Nat)=val at *
    generalize ((2 ^ r:Nat):Int)=p at *
    have HS:=hid hset
    clear hset hval
    go_enter func106,ntmps106
    go_wp2_with fail
    refine (Dk _ _).mono ?_
    rintro e w1 ⟨rfl,rfl⟩
    rw [d1]
    go_wp2_with fail
    rw [NJ]
    first
    | (go_region_with (first
        | (go_at_call 110;refine (HB.out _).mono ?_;rintro e w1 ⟨rfl,rfl⟩)))
    | fail
    all_goals
      rw [HS.out]
      have K0:=Blk.drew (Ir w ys (.cells (Al AE) 52))
      have N0:=Blk.drew (LJ w ys)
      have B0:Below w.heap.size w ((w.alloc (.cells (Al ys) 52)).alloc (.cells (Al AE) 52)).drew:=(((Below.refl _ w).alloc (Nat.le_refl _) _).alloc (by simp) _).drew
      generalize ((w.alloc (.cells (Al ys) 52)).alloc (.cells (Al AE) 52)).drew=w2 at *
      go_wp2_with (first
        | (with_reducible refine ED rfl _ rfl w.heap.size rfl ys hls K0 ?_)
        | (with_reducible refine DU rfl _ _ rfl (w.heap.size+1) rfl ys rfl hls N0 rfl ?_;intro w3 k3 g3))
      refine bodyPost_ret (FZ rfl rfl k3 hls) rfl ⟨rfl,?_⟩
      exact B0.grown g3 B0.size (fun k hk=>by cases hk;omega)
  · have hU:DL xs n=xs:=by unfold DL;rw [if_neg h]
    rw [hU]
    have d1:decide (1≤n∧n≤128)=false:=decide_eq_false h
    go_enter func106,ntmps106
    go_wp2_with fail
    refine (Dk _ _).mono ?_
    rintro e w1 ⟨rfl,rfl⟩
    rw [d1,NJ]
    have K0:=Ir w xs (.cells (Al AE) 52)
    have N0:=LJ w xs
    have B0:Below w.heap.size w ((w.alloc (.cells (Al xs) 52)).alloc (.cells (Al AE) 52)):=(((Below.refl _ w).alloc (Nat.le_refl _) _).alloc (by simp) _)
    generalize ((w.alloc (.cells (Al xs) 52)).alloc (.cells (Al AE) 52))=w2 at *
    go_wp2_with (first
      | (with_reducible refine ED rfl _ rfl w.heap.size rfl xs hx K0 ?_)
      | (with_reducible refine DU rfl _ _ rfl (w.heap.size+1) rfl xs rfl hx N0 rfl ?_;intro w3 k3 g3))
    refine bodyPost_ret (FZ rfl rfl k3 hx) rfl ⟨rfl,?_⟩
    exact B0.grown g3 B0.size (fun k hk=>by cases hk;omega)
end
section
open Go.RowKit Go.WideShapes
theorem OQ {w:World} {ops:Array Oper} {rest:List Oper} {o:Oper} {act:Act} {Q:Exit→Act→World→Prop} (x:Operand)
    (ho:o.op=.load 52 x) (g:Nat) (hx:act.eval x=π g) {e:TypeId} (xs:Λ) (hl:xs.length=16) (hb:Blk w g e (xs.map Ag))
    (hw:Region.wanted o (yielded ops act.tmps)=true)
    (h:wpList prog ops Q rest (act.put o.dst (.agg (Al xs))) w):wpList prog ops Q (o::rest) act w:=
  wpList_step fun K hK=>by
    simp only [hw,if_true]
    exact wp_load_mid 52 x ho g 0 hx (xs.map Ag) _ (Gr hb) υ52 rfl (by rw [JN];simp [hl]) (hK _ _ h)
def CI (xs:Λ) (frm:Int):Nat→Nat→Int
  | 0,_=>0
  | k+1,i=>if frm≤(i:Int)+1∧Ek xs i=false then (i:Int)+1 else CI xs frm k (i+1)
def Ar (xs:Λ) (frm:Int):Int:=CI xs frm 128 0
theorem SJ (xs:Λ) (frm:Int) {j:Nat} (h:j<128):CI xs frm (128-j) j=if frm≤(j:Int)+1∧Ek xs j=false then (j:Int)+1 else CI xs frm (128-(j+1)) (j+1):=by
  rw [show 128-j=(128-(j+1))+1 by omega];rfl
theorem NA (xs:Λ) {j:Nat} (h:j<128):CL xs ((j:Int)+1)=Ek xs j:=by
  unfold CL;rw [decide_eq_true ω];simp
theorem VZ (xs:Λ) (frm:Int) (w:World) (hx:xs.length=16) (hn:-9223372036854775808≤frm∧frm≤9223372036854775807) :
    Calls prog 107 #[.agg (Al xs),ν frm] w fun e w'=>e=.returned (ν (Ar xs frm))∧Below w.heap.size w w':=by
  have K0:Blk (w.alloc (.cells (Al xs) 52)) w.heap.size 52 (xs.map Ag):=heap_alloc_new w _
  have B0:Below w.heap.size w (w.alloc (.cells (Al xs) 52)):=(Below.refl _ w).alloc (Nat.le_refl _) _
  generalize hR:Ar xs frm=R
  have HR:=hid (show CI xs frm (128-0) 0=R from hR)
  clear hR
  go_enter func107,ntmps107
  go_wp2_with fail
  generalize (w.alloc (.cells (Al xs) 52))=w1 at *
  go_loopw [7] (fun i wr=>∃ j:Nat,j≤128∧i=ν j∧CI xs frm (128-j) j=R∧Blk wr w.heap.size 52 (xs.map Ag)∧Below w.heap.size w wr)
    (fun i _=>128-(intOf i).toNat)
  case atStart=>exact ⟨0,ω,rfl,HR.out,K0,B0⟩
  case round=>
    obtain ⟨j,hj,rfl,hp,kr,br⟩:=hrel
    by_cases hlt:j<128
    · rw [SJ xs frm hlt] at hp
      have HU:=hid (fun w1=>Sa xs ((j:Int)+1) w1 hx ω)
      rw [NA xs hlt] at HU
      by_cases hf:frm≤(j:Int)+1
      · cases hb:Ek xs j
        · rw [if_pos ⟨hf,hb⟩] at hp
          rw [hb] at HU
          have HP:=hid hp
          clear hb hp HR
          go_wp2_with (first
            | ((with_reducible refine OQ (.tmp 2) rfl w.heap.size rfl xs hx kr ?hw ?_);(case hw=>exact (Eq.refl true)))
            | (go_at_call 76;refine (HU.out _).mono ?_;rintro e w2 ⟨rfl,b2⟩))
          go_ret
          exact ⟨GW HP.out,AP br b2 br.size⟩
        · rw [if_neg (by rw [hb];simp)] at hp
          rw [hb] at HU
          have HP:=hid hp
          clear hb hp HR
          go_wp2_with (first
            | ((with_reducible refine OQ (.tmp 2) rfl w.heap.size rfl xs hx kr ?hw ?_);(case hw=>exact (Eq.refl true)))
            | (go_at_call 76;refine (HU.out _).mono ?_;rintro e w2 ⟨rfl,b2⟩))
          go_roundw
          case rel=>exact ⟨j+1,ω,by go_num,HP.out,Blk.mono kr b2,AP br b2 br.size⟩
          case measure=>simp [intOf];omega
      · rw [if_neg (fun h=>hf h.1)] at hp
        have HP:=hid hp
        clear hp HR HU
        go_wp2_with fail
        go_roundw
        case rel=>exact ⟨j+1,ω,by go_num,HP.out,kr,br⟩
        case measure=>simp [intOf];omega
    · obtain rfl:j=128:=ω
      have HP:=hid hp
      clear hp HR
      go_wp2_with fail
      go_ret
      exact ⟨GW HP.out,br⟩
def Du (xs:Λ) (n:Nat):List Nat:=(List.range n).filter (Ek xs)
def Aeh (n:Nat):Value:=ν ((n:Int)+1)
theorem XA (xs:Λ) (j:Nat):Du xs (j+1)=if Ek xs j=true then Du xs j++[j] else Du xs j:=by
  unfold Du
  rw [List.range_succ,List.filter_append]
  cases h:Ek xs j<;>simp [h]
theorem Ut (xs:Λ) (j:Nat):(Du xs j).length≤j:=by
  unfold Du
  have:=List.length_filter_le (Ek xs) (List.range j)
  simpa using this
theorem EI:ElemT prog 48 3 1 8:=Qj υ48 (z:=ν 0) κ rfl ω
theorem Aat (xs:Λ) (w:World) (hx:xs.length=16) :
    Calls prog 44 #[.agg (Al xs)] w fun e w'=>∃ a c,e=.returned (.slice a (Du xs 128).length c)∧Own w' w.heap.size 3 1 a (Du xs 128).length c ((Du xs 128).map Aeh)∧Below w.heap.size w w':=by
  have K0:Blk (w.alloc (.cells (Al xs) 52)) w.heap.size 52 (xs.map Ag):=heap_alloc_new w _
  have B0:Below w.heap.size w (w.alloc (.cells (Al xs) 52)):=(Below.refl _ w).alloc (Nat.le_refl _) _
  go_enter func44,ntmps44
  go_wp2_with fail
  generalize (w.alloc (.cells (Al xs) 52))=w1 at *
  have hsz1:w.heap.size+1≤w1.heap.size:=K0.lt
  go_loopw [3,5] (fun l i wr=>∃ (j:Nat) (a':Ω) (c':Nat),j≤128∧i=ν j∧l=.slice a' (Du xs j).length c'∧Own wr (w.heap.size+1) 3 1 a' (Du xs j).length c' ((Du xs j).map Aeh)∧Blk wr w.heap.size 52 (xs.map Ag)∧Below w.heap.size w wr)
    (fun _ i _=>128-(intOf i).toNat)
  case atStart=>exact ⟨0,none,0,ω,rfl,rfl,Own.nil _ _ _ _,K0,B0⟩
  case round=>
    obtain ⟨j,a',c',hj,rfl,rfl,ho,kr,br⟩:=hrel
    have hstep:=XA xs j
    have hll:=Ut xs j
    by_cases hlt:j<128
    · have HU:=hid (fun w1=>Sa xs ((j:Int)+1) w1 hx ω)
      rw [NA xs hlt] at HU
      cases hb:Ek xs j
      · rw [if_neg (by rw [hb];simp)] at hstep
        rw [hb] at HU
        have HS:=hid hstep
        clear hb hstep
        generalize Du xs j=L at *
        go_wp2_with (first
          | ((with_reducible refine ED rfl (.tmp 1) rfl w.heap.size rfl xs hx kr ?_))
          | (go_at_call 76;refine (HU.out _).mono ?_;rintro e w2 ⟨rfl,b2⟩))
        go_roundw
        case rel=>exact ⟨j+1,a',c',ω,by go_num,by rw [HS.out],by rw [HS.out];exact Own.mono ho b2,Blk.mono kr b2,AP br b2 br.size⟩
        case measure=>simp [intOf];omega
      · rw [if_pos hb] at hstep
        rw [hb] at HU
        have HS:=hid hstep
        clear hb hstep
        generalize Du xs j=L at *
        go_wp2_with (first
          | ((with_reducible refine ED rfl (.tmp 1) rfl w.heap.size rfl xs hx kr ?_))
          | (go_at_call 76;refine (HU.out _).mono ?_;rintro e w2 ⟨rfl,b2⟩;have b2s:=b2.size)
          | (at_builtin;refine CD rfl (.tmp 12) (.tmp 15) rfl EI (w.heap.size+1) rfl rfl ((Own.mono ho b2).alloc _) (ZI _ _ _) (by simp [Value.oneCell']) ω ω (by have:=kr.lt;simp;omega) ?_;intro a3 c3 w3 o3 g3 b3))
        go_roundw
        case rel=>
          refine ⟨j+1,a3,c3,ω,by go_num,?_,?_,?_,?_⟩
          · rw [HS.out];simp
          · rw [HS.out];simpa [Aeh] using o3
          · exact Blk.below ((Blk.mono kr b2).mono ((Below.refl _ _).alloc (Nat.le_refl _) _)) b3 ω
          · exact (AP br b2 br.size |>.alloc (by have:=kr.lt;omega) _).trans (b3.mono ω)
        case measure=>simp [intOf];omega
    · obtain rfl:j=128:=ω
      clear hstep
      go_wp2_with fail
      go_ret
      exact ⟨_,_,rfl,ho.low ω,br⟩
theorem VK (xs:Λ) (w:World) (hx:xs.length=16) :
    Calls prog 19 #[.agg (Al xs)] w fun e w'=>e=.returned (ν (Du xs 128).length)∧Below w.heap.size w w':=by
  have K0:Blk (w.alloc (.cells (Al xs) 52)) w.heap.size 52 (xs.map Ag):=heap_alloc_new w _
  have B0:Below w.heap.size w (w.alloc (.cells (Al xs) 52)):=(Below.refl _ w).alloc (Nat.le_refl _) _
  have HA:=hid (fun w1=>Aat xs w1 hx)
  have hll:=Ut xs 128
  generalize Du xs 128=L at *
  go_enter func19,ntmps19
  go_wp2_with (first
    | ((with_reducible refine ED rfl (.tmp 1) rfl w.heap.size rfl xs hx K0 ?_))
    | (go_at_call 44;refine (HA.out _).mono ?_;rintro e w2 ⟨a2,c2,rfl,o2,b2⟩))
  go_ret
  exact ⟨rfl,AP B0 b2 B0.size⟩
end
section
open Go.RowKit Go.WideShapes
def woB (xs ys:Λ) (j:Nat):Nat:=bAt xs j &&& (255-bAt ys j)
def Aai (xs ys:Λ) (i:Nat):Λ:=(List.range 16).map fun j=>UInt8.ofNat (if j<i then woB xs ys j else bAt xs j)
def Aho (xs ys:Λ):Λ:=Aai xs ys 16
end
section
open Go.RowKit Go.WideShapes
end
section
open Go.RowKit Go.WideShapes
theorem XG {w:World} {g:Nat} {e:TypeId} {xs:Λ} (h:Blk w g e (xs.map Ag)) (hl:xs.length=16):Bo w (some ⟨g,0,none⟩) 16 xs:=by
  refine ⟨by simp,ω,by unfold maxLen;omega,fun h=>by (cases h),fun _=>⟨g,0,rfl,h.lt,fun j u hu=>?_⟩⟩
  have:=Gr h j u hu
  exact this
theorem Tn (xs:Λ) (w:World) (hx:xs.length=16) :
    Calls prog 77 #[.agg (Al xs)] w fun e w'=>Vu w xs e w':=by
  have K0:Blk (w.alloc (.cells (Al xs) 52)) w.heap.size 52 (xs.map Ag):=heap_alloc_new w _
  have R0:=XG K0 hx
  have B0:Below w.heap.size w (w.alloc (.cells (Al xs) 52)):=(Below.refl _ w).alloc (Nat.le_refl _) _
  rw [← hx] at R0
  go_enter func77,ntmps77
  go_wp2_with (first
    | (at_builtin;refine CD rfl (.const (.slice none 0 0)) (.tmp 3) rfl E8 w.heap.size rfl (by first | rfl | (rw [← hx];rfl)) (Own.nil _ _ _ _) R0 (CH xs) ω ω (by simp) ?_;intro a1 c1 w1 o1 g1 b1))
  go_ret
  refine ⟨a1,c1,?_,?_,B0.trans b1⟩
  · first | rfl | (rw [hx];rfl)
  · simpa [Cb] using o1
theorem Ke {fn:Func} {c u:Tmp} (h:fn.results=#[.cell c 52,.tmp u]) {tmps:Array Value} {w:World} {g:Nat} {xs:Λ} (hc:tmps.getD c undef=π g) {e:TypeId} (hb:Blk w g e (xs.map Ag)) (hl:xs.length=16) :
    (results fn tmps).run prog w=.ok (.tuple #[.agg (Al xs),tmps.getD u undef]) w:=by
  have hv:=run_loadVar_mid (P:=prog) w g 0 52 (xs.map Ag) _ (Gr hb) υ52 rfl (by rw [JN];simp [hl])
  have hc':tmps[c]?.getD undef=π g:=by simpa using hc
  simp [results,h,hc',asAddr,hv,Al]
theorem Xt {w:World} {ops:Array Oper} {rest:List Oper} {o:Oper} {act:Act} {Q:Exit→Act→World→Prop} (hgd:o.guard=none) (x:Operand)
    (ho:o.op=.load 52 x) (b off:Nat) (hx:act.eval x=.pointer (some ⟨b,off,none⟩)) (xs:Λ) (hl:xs.length=16) {c:Nat} (hr:Bo w (some ⟨b,off,none⟩) c xs)
    (h:wpList prog ops Q rest (act.put o.dst (.agg (Al xs))) w):wpList prog ops Q (o::rest) act w:=
  wpList_load_mid hgd 52 x ho b off hx (xs.map Ag) _ (fun j v hv=>by
    obtain ⟨b',off',e,_,hc⟩:=hr.at ω
    cases e
    exact hc j v hv) υ52 rfl (by rw [JN];simp [hl]) h
theorem TT (a:Ω) (c:Nat) (w:World):(Instr.arrayAt 52 (.slice a 16 c)).run prog w=.ok (.pointer a) w:=by
  simp [Instr.arrayAt,run_underlying υ52]
def GE (xs:Λ):Λ:=if xs.length<16 then AE else xs.take 16
def ZB (xs:Λ):Int:=if xs.length<16 then 3 else 0
theorem Wu (a:Ω) (c:Nat) (xs:Λ) (w:World) (ha:Bo w a c xs) :
    Calls prog 43 #[.slice a xs.length c] w fun e w'=>e=.returned (.tuple #[.agg (Al (GE xs)),ν (ZB xs)])∧Below w.heap.size w w':=by
  have hl:=ER ha
  have hcap:xs.length≤c:=ha.2.1
  have N0:Blk (w.alloc (.cells (Al AE) 52)) w.heap.size 52 (AE.map Ag):=heap_alloc_new w _
  have B0:Below w.heap.size w (w.alloc (.cells (Al AE) 52)):=(Below.refl _ w).alloc (Nat.le_refl _) _
  have hr:=Row.alloc ha (.cells (Al AE) 52)
  rw [← NJ] at N0 B0 hr
  by_cases h:xs.length<16
  · have h1:GE xs=AE:=if_pos h
    have h2:ZB xs=3:=if_pos h
    rw [h1,h2]
    go_enter func43,ntmps43
    go_wp2_with (first
      | ((with_reducible refine DU rfl _ _ rfl w.heap.size rfl AE ?hy rfl N0 rfl ?_);(case hy=>rfl);intro w3 k3 g3))
    refine bodyPost_ret (Ke rfl rfl k3 rfl) rfl ⟨rfl,?_⟩
    exact B0.grown g3 B0.size (fun k hk=>by cases hk;omega)
  · have h1:GE xs=xs.take 16:=if_neg h
    have h2:ZB xs=0:=if_neg h
    rw [h1,h2]
    obtain ⟨b,off,rfl,hb,_⟩:=ha.bytes ω
    have hr:=IF hr 16
    have hl16:(xs.take 16).length=16:=by simp;omega
    have h16:¬ ((xs.length:Int)<16):=ω
    have h16':(16:Nat)≤c:=ω
    have harr:=TT (some ⟨b,off,none⟩) c
    generalize xs.take 16=ys at *
    go_enter func43,ntmps43
    go_wp2_with (first
      | (with_reducible refine Xt rfl _ rfl b off rfl ys hl16 hr ?_)
      | (with_reducible refine DU rfl _ _ rfl w.heap.size rfl ys rfl hl16 N0 rfl ?_;intro w3 k3 g3))
    refine bodyPost_ret (Ke rfl rfl k3 hl16) rfl ⟨rfl,?_⟩
    exact B0.grown g3 B0.size (fun k hk=>by cases hk;omega)
def Ahq (xs:Λ) (n:Nat):List Value:=(List.range n).map fun k=>Value.bool (Ek xs k)
end
section
theorem TC:∀ x∈Bz,x.a+x.s≤23168:=by decide +kernel
theorem DC {kd nm:Int} {q:PartT} (h:Bk kd nm=some q):0≤q.a∧0≤q.s∧q.s≤4096∧q.a+q.s≤23168:=by
  have hm:q∈Bz:=List.mem_of_find?_eq_some h
  have h1:=Rb q hm
  have h2:=TC q hm
  omega
theorem JM {M:MemM} {kd nm:Int} {q:PartT} (hM:M.V.length=23168) (h:Bk kd nm=some q):inM M q.a q.s=true:=by
  have:=DC h
  exact decide_eq_true ω
def Eu (kd nm:Int):Bool:=(Bk kd nm).isSome
def Bg (M:MemM) (P:List PtM) (kd nm:Int):Λ:=match Bk kd nm with
  | some q=>Fx M P q.a q.s
  | none=>[]
def ldE (kd nm:Int):Int:=if Eu kd nm then 0 else 1
def stE (M:MemM) (P:List PtM) (kd nm:Int) (n:Nat):Int:=match Bk kd nm with
  | some q=>NM M P q.a n
  | none=>1
def stP (M:MemM) (P:List PtM) (kd nm:Int) (xs:Λ):List PtM:=match Bk kd nm with
  | some q=>Ly M P q.a xs
  | none=>P
theorem CB {M:MemM} {P:List PtM} {kd nm:Int} {q:PartT} (h:Bk kd nm=some q):Bg M P kd nm=Fx M P q.a q.s:=by unfold Bg;rw [h]
theorem Dh {M:MemM} {P:List PtM} {kd nm:Int} (h:Bk kd nm=none):Bg M P kd nm=[]:=by unfold Bg;rw [h]
def Am (M:MemM) (P:List PtM) (i:Int):InoT:=rdI (Bg M P 4 i)
def AR (M:MemM) (P:List PtM) (i:Int):Int:=if Eu 4 i then (if rdE (Bg M P 4 i)=0 then 0 else 36) else 1
def Cp (M:MemM) (P:List PtM) (i:Int) (x:InoT):Int:=if Ez x=0 then stE M P 4 i (Ce x).length else Ez x
def BE (M:MemM) (P:List PtM) (i:Int) (x:InoT):List PtM:=if Ez x=0 then stP M P 4 i (Ce x) else P
def As (M:MemM) (P:List PtM):Λ:=GE (Bg M P 3 0)
theorem An (xs:Λ):(GE xs).length=16:=by
  unfold GE;split
  · rfl
  · rw [List.length_take];omega
theorem Aco {xs:Λ} (h:rdE xs≠0):rdI xs=AS:=by
  unfold rdE at h;unfold rdI
  split<;>rename_i q1
  · rfl
  · rw [if_neg q1] at h
    split<;>rename_i q2
    · rfl
    · rw [if_neg q2] at h
      split<;>rename_i q3
      · rfl
      · rw [if_neg q3] at h
        split<;>rename_i q4
        · rw [if_pos q4] at h;exact absurd rfl h
        · rfl
theorem Wg {M:MemM} {P:List PtM} {i:Int} (h:Eu 4 i=false):Am M P i=AS:=by
  unfold Eu at h
  have h2:Bk 4 i=none:=by cases q:Bk 4 i with
    | none=>rfl
    | some z=>rw [q] at h;cases h
  unfold Am;rw [Dh h2];unfold rdI;exact if_pos (by decide)
def AN (L:List Int):Int:=(L.find? fun e=>!decide (e=0)).getD 0
def PV (M:MemM) (P:List PtM):Int:=Ar (As M P) 1
def NX (M:MemM) (P:List PtM):List PtM:=stP M P 3 0 (AT (As M P) (PV M P))
def Af6 (M:MemM) (P:List PtM):List PtM:=stP M (NX M P) 7 (PV M P) (List.replicate 64 0)
def VC (M:MemM) (P:List PtM):Int:=AN [stE M P 3 0 16,stE M (NX M P) 7 (PV M P) 64]
def De (M:MemM) (P:List PtM) (spare:Int):Prop:=128-((Du (As M P) 128).length:Int)≤max spare 0
instance (M:MemM) (P:List PtM) (spare:Int):Decidable (De M P spare):=by unfold De;infer_instance
end
end Go.Proofs.YtbfgjinpchbajaaGreatDoor
