/- Parts of the proof. -/
import Derived.Deep.Slices
import Derived.Deep.Fields
import Derived.ChangeSame
import Derived.OpenShut
import Derived.Deep.MidRow
import Derived.Deep.RegionWith
import Derived.Laws.BitsAllLaws
import Derived.BigRegion
import Derived.Test.YtpnknncmacjdkaaGreatDoorQag
namespace Go.Proofs.YtpnknncmacjdkaaGreatDoor
open Go.RowKit
open _root_.Go.Proofs.Tryz
set_option linter.unusedSimpArgs false
set_option linter.unusedVariables false
set_option linter.unusedSectionVars false
set_option maxRecDepth 100000
set_option maxHeartbeats 8000000
section
open Go.RowKit Go.WideShapes
theorem Ul (xs:Λ) (n:Int) (k:Nat):(Ar xs n k).length≤xs.length+k:=by
  unfold Ar
  split
  · rw [List.length_append,Ay];omega
  · omega
theorem Gh (xs:Λ) (n:Int):(Ar xs n 1).length≤xs.length+1:=Ul xs n 1
theorem QB (xs:Λ) (n:Int):(Ar xs n 2).length≤xs.length+2:=Ul xs n 2
def Rp:List Int:=[0,0,0,0,0,0,0,0,0,0,0,0,0,0,0]
def Vm (i:InoT):Λ:=Ar (Ar (Ar [] i.k 1) i.l 1) i.s 2
def KQ (l:List Int):List (Int×Int):=l.map fun n=>(n,1)
def PT (i:InoT):Λ:=BQ (Vm i) (KQ (i.B++i.O))
def Na (i:InoT):Λ:=PT i++List.replicate (60-(PT i).length) 0
def VQ (i:InoT):Λ:=Ar (Na i) (Cb (Na i):Nat) 4
def Db (i:InoT):Λ:=if Fk i then (if OE i=Rp then List.replicate 64 0 else VQ i) else []
def Ew (i:InoT):Int:=if Fk i then 0 else 1
theorem Aa0 (l:List Int) (xs:Λ):(BQ xs (KQ l)).length≤xs.length+l.length:=by
  induction l generalizing xs with
  | nil=>simp [KQ,BQ]
  | cons n l ih=>
    have h1:=ih (Ar xs n 1)
    have h2:=Gh xs n
    simp only [KQ,BQ,List.map_cons,List.foldl_cons,List.length_cons] at h1 h2 ⊢
    simp only [KQ,BQ] at ih
    omega
theorem TY (i:InoT):(PT i).length≤16:=by
  have h:=Aa0 (i.B++i.O) (Vm i)
  have h1:=QB (Ar (Ar [] i.k 1) i.l 1) i.s
  have h2:=Gh (Ar [] i.k 1) i.l
  have h3:=Gh [] i.k
  have hl:(i.B++i.O).length=12:=rfl
  have h0:([]:Λ).length=0:=rfl
  unfold PT
  unfold Vm at *
  rw [hl] at h
  omega
theorem PU (i:InoT):(Na i).length=60:=by
  have:=TY i
  unfold Na;rw [List.length_append,List.length_replicate];omega
theorem Abc (i:InoT):VQ i=Na i++le 4 (Cb (Na i)):=Un _
theorem Mn (i:InoT):(VQ i).length=64:=by rw [Abc,List.length_append,PU,Ay]
def Acm (w:World) (xs:Λ) (er:Int) (e:Ending) (w':World):Prop:=
  ∃ a c,e=.returned (.tuple #[.slice a xs.length c,ν er])∧CF w' w.heap.size a c xs∧Below w.heap.size w w'
theorem Pt {w:World} {B g:Nat} {e:TypeId} {L:List Value} (h:Blk w g e L) (hB:B≤g) (hl:L.length≤maxLen):Own w B e 1 (some ⟨g,0,none⟩) L.length L.length L:=
  ⟨by simp,.inr ⟨g,L.length,L.toArray,rfl,hB,h,Nat.le_refl _,hl,by simp,by simp⟩⟩
theorem Aap {i:InoT} (h:Fk i=true):i.k≤2∧i.l≤20∧i.s≤256∧∀ n∈i.B++i.O,n≤128:=by
  unfold Fk at h
  split at h
  · have h:=of_decide_eq_true h
    simp only [OE,List.cons.injEq,and_true] at h
    obtain ⟨h0,h1,h2,h3,h4,h5,h6,h7,h8,h9,h10,h11,h12,h13,h14⟩:=h
    refine ⟨ω,ω,ω,fun n hn=>?_⟩
    simp only [InoT.B,InoT.O,List.cons_append,List.nil_append,List.mem_cons,List.not_mem_nil,or_false] at hn
    omega
  · split at h
    · rw [Bool.and_eq_true] at h
      have hb:=Jg h.1
      have hF:=h.1
      unfold Es IZ TU okO at hF
      simp only [Bool.and_eq_true,decide_eq_true_eq] at hF
      refine ⟨ω,ω,ω,fun n hn=>?_⟩
      simp only [InoT.B,InoT.O,List.cons_append,List.nil_append,List.mem_cons,List.not_mem_nil,or_false] at hn
      omega
    · split at h
      · rw [Bool.and_eq_true] at h
        have hb:=Kv h.1
        have hF:=h.1
        unfold Kb IU noO at hF
        simp only [Bool.and_eq_true,decide_eq_true_eq,List.cons.injEq,and_true] at hF
        refine ⟨ω,ω,ω,fun n hn=>?_⟩
        simp only [InoT.B,InoT.O,List.cons_append,List.nil_append,List.mem_cons,List.not_mem_nil,or_false] at hn
        omega
      · cases h
theorem Sa (H:Λ) (l:List Int) (x:Int):BQ H (KQ (l++[x]))=Ar (BQ H (KQ l)) x 1:=by simp [BQ,KQ]
theorem IF (i:InoT) (w:World):Calls prog 72 #[FM i] w (Acm w (Db i) (Ew i)):=by
  have HC:=fun w1=>St i w1
  cases hm:Fk i
  · have h1:Db i=[]:=by unfold Db;rw [hm];rfl
    have h2:Ew i=1:=by unfold Ew;rw [hm];rfl
    rw [h1,h2]
    rw [hm] at HC
    obtain ⟨k,l,s,b0,b1,b2,b3,o0,o1,o2,o3,o4,o5,o6,o7⟩:=i
    unfold FM AE at *
    have HC:=hid HC
    have HB:Hid (Below w.heap.size w (w.alloc (.cells #[ν k,ν l,ν s,ν b0,ν b1,ν b2,ν b3,ν o0,ν o1,ν o2,ν o3,ν o4,ν o5,ν o6,ν o7] 40))):=(Below.refl w.heap.size w).alloc (Nat.le_refl _) _
    clear hm h1 h2
    go_enter func72,ntmps72
    go_wp2_with (go_at_call 97;refine (HC.out _).mono ?_;rintro e w4 ⟨rfl,b4⟩;have B4:=hid (Ac HB.out b4);clear b4)
    refine bodyPost_ret (Go.results_tmp2 rfl _ _ _) rfl ?_
    exact ⟨none,0,rfl,Own.nil _ _ _ _,B4.out⟩
  · by_cases hz:OE i=Rp
    · have h1:Db i=List.replicate 64 0:=by unfold Db;rw [hm,if_pos hz];rfl
      have h2:Ew i=0:=by unfold Ew;rw [hm];rfl
      rw [h1,h2]
      rw [hm] at HC
      obtain ⟨k,l,s,b0,b1,b2,b3,o0,o1,o2,o3,o4,o5,o6,o7⟩:=i
      have E:=Xm k l s b0 b1 b2 b3 o0 o1 o2 o3 o4 o5 o6 o7 0 0 0 0 0 0 0 0 0 0 0 0 0 0 0
      have hd:decide ([k,l,s,b0,b1,b2,b3,o0,o1,o2,o3,o4,o5,o6,o7]=[0,0,0,0,0,0,0,0,0,0,0,0,0,0,0])=true:=decide_eq_true hz
      rw [hd] at E
      clear hz hd
      unfold FM AE at *
      have HC:=hid HC
      have K0:Hid (Blk (w.alloc (.cells #[ν k,ν l,ν s,ν b0,ν b1,ν b2,ν b3,ν o0,ν o1,ν o2,ν o3,ν o4,ν o5,ν o6,ν o7] 40)) w.heap.size 40 [ν k,ν l,ν s,ν b0,ν b1,ν b2,ν b3,ν o0,ν o1,ν o2,ν o3,ν o4,ν o5,ν o6,ν o7]):=heap_alloc_new w _
      have HB:Hid (Below w.heap.size w (w.alloc (.cells #[ν k,ν l,ν s,ν b0,ν b1,ν b2,ν b3,ν o0,ν o1,ν o2,ν o3,ν o4,ν o5,ν o6,ν o7] 40))):=(Below.refl w.heap.size w).alloc (Nat.le_refl _) _
      clear hm h1 h2
      go_enter func72,ntmps72
      go_wp2_with (first
        | (go_at_call 97;refine (HC.out _).mono ?_;rintro e w4 ⟨rfl,b4⟩;have B4:=hid (Ac HB.out b4);have k4:=K0.out.mono b4
           have z0:w4.cell? ⟨w.heap.size,0,none⟩=some (.int .i64 k):=Blk.cell k4 (i:=0) (by simp)
           have z1:w4.cell? ⟨w.heap.size,1,none⟩=some (.int .i64 l):=Blk.cell k4 (i:=1) (by simp)
           have z2:w4.cell? ⟨w.heap.size,2,none⟩=some (.int .i64 s):=Blk.cell k4 (i:=2) (by simp)
           have z3:w4.cell? ⟨w.heap.size,3,none⟩=some (.int .i64 b0):=Blk.cell k4 (i:=3) (by simp)
           have z4:w4.cell? ⟨w.heap.size,4,none⟩=some (.int .i64 b1):=Blk.cell k4 (i:=4) (by simp)
           have z5:w4.cell? ⟨w.heap.size,5,none⟩=some (.int .i64 b2):=Blk.cell k4 (i:=5) (by simp)
           have z6:w4.cell? ⟨w.heap.size,6,none⟩=some (.int .i64 b3):=Blk.cell k4 (i:=6) (by simp)
           have z7:w4.cell? ⟨w.heap.size,7,none⟩=some (.int .i64 o0):=Blk.cell k4 (i:=7) (by simp)
           have z8:w4.cell? ⟨w.heap.size,8,none⟩=some (.int .i64 o1):=Blk.cell k4 (i:=8) (by simp)
           have z9:w4.cell? ⟨w.heap.size,9,none⟩=some (.int .i64 o2):=Blk.cell k4 (i:=9) (by simp)
           have z10:w4.cell? ⟨w.heap.size,10,none⟩=some (.int .i64 o3):=Blk.cell k4 (i:=10) (by simp)
           have z11:w4.cell? ⟨w.heap.size,11,none⟩=some (.int .i64 o4):=Blk.cell k4 (i:=11) (by simp)
           have z12:w4.cell? ⟨w.heap.size,12,none⟩=some (.int .i64 o5):=Blk.cell k4 (i:=12) (by simp)
           have z13:w4.cell? ⟨w.heap.size,13,none⟩=some (.int .i64 o6):=Blk.cell k4 (i:=13) (by simp)
           have z14:w4.cell? ⟨w.heap.size,14,none⟩=some (.int .i64 o7):=Blk.cell k4 (i:=14) (by simp)
           clear k4 b4)
        | (at_make;refine JD rfl (.const (.int .i64 64)) (.const (.int .i64 64)) rfl υ22 Ab9 rfl (n:=64) rfl rfl rfl rfl ω ω ?_;intro w5 k5 b5;have O5:=hid (Pt (B:=w.heap.size) k5 B4.out.size (by rw [List.length_replicate];unfold maxLen;omega));have B5:=hid (Ac B4.out b5);clear k5 b5))
      refine bodyPost_ret (Go.results_tmp2 rfl _ _ _) rfl ?_
      refine ⟨_,_,rfl,?_,B5.out⟩
      unfold CF
      rw [List.map_replicate,List.length_replicate]
      have q:=O5.out
      rw [List.length_replicate] at q
      exact q
    · have h1:Db i=VQ i:=by unfold Db;rw [hm,if_pos rfl,if_neg hz]
      have h2:Ew i=0:=by unfold Ew;rw [hm];rfl
      rw [h1,h2]
      rw [hm] at HC
      have hd:decide (OE i=Rp)=false:=decide_eq_false hz
      have hXl:=TY i
      have hYl:=PU i
      have hIl:=Mn i
      have hI:VQ i=Ar (Na i) (Cb (Na i):Nat) 4:=rfl
      have hY:Na i=PT i++List.replicate (60-(PT i).length) 0:=rfl
      have hX:PT i=BQ (Vm i) (KQ (i.B++i.O)):=rfl
      have hH:Vm i=Ar (Ar (Ar [] i.k 1) i.l 1) i.s 2:=rfl
      have hL12:(i.B++i.O).length=12:=rfl
      obtain ⟨uk,ul,us,uBO⟩:=Aap hm
      generalize VQ i=R at *
      generalize Na i=Y at *
      generalize PT i=X at *
      generalize hHH:Vm i=H at *
      obtain ⟨k,l,s,b0,b1,b2,b3,o0,o1,o2,o3,o4,o5,o6,o7⟩:=i
      have E:=Xm k l s b0 b1 b2 b3 o0 o1 o2 o3 o4 o5 o6 o7 0 0 0 0 0 0 0 0 0 0 0 0 0 0 0
      have hd2:decide ([k,l,s,b0,b1,b2,b3,o0,o1,o2,o3,o4,o5,o6,o7]=[0,0,0,0,0,0,0,0,0,0,0,0,0,0,0])=false:=hd
      rw [hd2] at E
      clear hz hd hd2 h1 h2 hm hHH
      unfold FM AE at *
      simp only [InoT.B,InoT.O] at *
      obtain ⟨BO,hBO⟩:∃ BO,BO=[b0,b1,b2,b3]++[o0,o1,o2,o3,o4,o5,o6,o7]:=⟨_,rfl⟩
      rw [← hBO] at hL12 hX uBO
      have P1:=fun w1=>DU none 0 [] k 1 w1 (Row.nil _ _) (by simp) (by omega)
      have l1:=Gh [] k
      have l2:=Gh (Ar [] k 1) l
      have l3:=QB (Ar (Ar [] k 1) l 1) s
      rw [← hH] at l3
      have P2:=fun a c w1 r=>DU a c (Ar [] k 1) l 1 w1 r (by have:([]:List UInt8).length=0:=rfl;omega) (by omega)
      have P3:=fun a c w1 r=>DU a c (Ar (Ar [] k 1) l 1) s 2 w1 r (by have:([]:List UInt8).length=0:=rfl;omega) (by omega)
      rw [← hH] at P3
      rw [show ([]:Λ).length=0 from rfl] at l1
      generalize Ar (Ar [] k 1) l 1=X2 at *
      generalize Ar [] k 1=X1 at *
      have HH4:H.length≤4:=by omega
      have HC:=hid HC;have P1:=hid P1;have P2:=hid P2;have P3:=hid P3
      have HX:=hid hX;have HY:=hid hY;have HI:=hid hI;have HBO:=hid hBO;have UBO:=hid uBO
      clear hX hY hI hH hBO uBO
      have K0:Hid (Blk (w.alloc (.cells #[ν k,ν l,ν s,ν b0,ν b1,ν b2,ν b3,ν o0,ν o1,ν o2,ν o3,ν o4,ν o5,ν o6,ν o7] 40)) w.heap.size 40 [ν k,ν l,ν s,ν b0,ν b1,ν b2,ν b3,ν o0,ν o1,ν o2,ν o3,ν o4,ν o5,ν o6,ν o7]):=heap_alloc_new w _
      have HB:Hid (Below w.heap.size w (w.alloc (.cells #[ν k,ν l,ν s,ν b0,ν b1,ν b2,ν b3,ν o0,ν o1,ν o2,ν o3,ν o4,ν o5,ν o6,ν o7] 40))):=(Below.refl w.heap.size w).alloc (Nat.le_refl _) _
      go_enter func72,ntmps72
      go_wp2_with (first
        | (go_at_call 97;refine (HC.out _).mono ?_;rintro e w4 ⟨rfl,b4⟩;have B4:=hid (Ac HB.out b4);have K4:=hid (K0.out.mono b4);have k4:=K4.out
           have z0:w4.cell? ⟨w.heap.size,0,none⟩=some (.int .i64 k):=Blk.cell k4 (i:=0) (by simp)
           have z1:w4.cell? ⟨w.heap.size,1,none⟩=some (.int .i64 l):=Blk.cell k4 (i:=1) (by simp)
           have z2:w4.cell? ⟨w.heap.size,2,none⟩=some (.int .i64 s):=Blk.cell k4 (i:=2) (by simp)
           have z3:w4.cell? ⟨w.heap.size,3,none⟩=some (.int .i64 b0):=Blk.cell k4 (i:=3) (by simp)
           have z4:w4.cell? ⟨w.heap.size,4,none⟩=some (.int .i64 b1):=Blk.cell k4 (i:=4) (by simp)
           have z5:w4.cell? ⟨w.heap.size,5,none⟩=some (.int .i64 b2):=Blk.cell k4 (i:=5) (by simp)
           have z6:w4.cell? ⟨w.heap.size,6,none⟩=some (.int .i64 b3):=Blk.cell k4 (i:=6) (by simp)
           have z7:w4.cell? ⟨w.heap.size,7,none⟩=some (.int .i64 o0):=Blk.cell k4 (i:=7) (by simp)
           have z8:w4.cell? ⟨w.heap.size,8,none⟩=some (.int .i64 o1):=Blk.cell k4 (i:=8) (by simp)
           have z9:w4.cell? ⟨w.heap.size,9,none⟩=some (.int .i64 o2):=Blk.cell k4 (i:=9) (by simp)
           have z10:w4.cell? ⟨w.heap.size,10,none⟩=some (.int .i64 o3):=Blk.cell k4 (i:=10) (by simp)
           have z11:w4.cell? ⟨w.heap.size,11,none⟩=some (.int .i64 o4):=Blk.cell k4 (i:=11) (by simp)
           have z12:w4.cell? ⟨w.heap.size,12,none⟩=some (.int .i64 o5):=Blk.cell k4 (i:=12) (by simp)
           have z13:w4.cell? ⟨w.heap.size,13,none⟩=some (.int .i64 o6):=Blk.cell k4 (i:=13) (by simp)
           have z14:w4.cell? ⟨w.heap.size,14,none⟩=some (.int .i64 o7):=Blk.cell k4 (i:=14) (by simp)
           clear k4 b4)
        | (go_at_call_of 84 (Value.slice none 0 0);refine (P1.out _).mono ?_;rintro e w5 ⟨a5,c5,rfl,o5,b5⟩;have B5:=hid (Ac B4.out b5);have K5:=hid (K4.out.mono b5);have k5:=K5.out;have O5:=hid o5.row
           have y1:w5.cell? ⟨w.heap.size,1,none⟩=some (.int .i64 l):=Blk.cell k5 (i:=1) (by simp)
           clear k5 b5 o5))
      refine (P2.out a5 c5 w5 O5.out).mono ?_
      rintro e w6 ⟨a6,c6,rfl,o6,b6⟩
      have B6:=hid (Ac B5.out b6);have K6:=hid (K5.out.mono b6);have k6:=K6.out;have O6:=hid o6.row
      have y2:w6.cell? ⟨w.heap.size,2,none⟩=some (.int .i64 s):=Blk.cell k6 (i:=2) (by simp)
      clear k6 b6 o6
      go_wp2_with fail
      refine (P3.out a6 c6 w6 O6.out).mono ?_
      rintro e w7 ⟨a7,c7,rfl,o7,b7⟩
      have B7:=hid (Ac B6.out b7);have K7:=hid (K6.out.mono b7);have O7:=hid (show CF w7 w.heap.size a7 c7 H from Own.low o7 B6.out.size)
      clear b7 o7
      go_wp2_with fail
      have bx:=B7.out.size
      have hlt:=K7.out.lt
      have c7b:∀ (w':World) (q:Nat) (v:Value),([.int .i64 k,.int .i64 l,.int .i64 s,.int .i64 b0,.int .i64 b1,.int .i64 b2,.int .i64 b3,.int .i64 o0,.int .i64 o1,.int .i64 o2,.int .i64 o3,.int .i64 o4,.int .i64 o5,.int .i64 o6,.int .i64 o7]:List Value)[q]? = some v→Below w7.heap.size w7 w'→w'.cell? ⟨w.heap.size,q,none⟩=some v:=fun w' q v hq hb=>by
        have q1:=(K7.out.mono hb)
        obtain ⟨hq1,hq2⟩:=List.getElem?_eq_some_iff.1 hq
        rw [q1.cell hq1,hq2]
      have RB4:∀ w',Below w7.heap.size w7 w'→Oi w' (some ⟨w.heap.size,3,none⟩) 4 [b0,b1,b2,b3]:=fun w' hb=>⟨rfl,Nat.le_refl _,(by unfold maxLen;omega),(fun h=>by cases h),fun _=>⟨w.heap.size,3,rfl,Nat.lt_of_lt_of_le hlt hb.size,fun j u hu=>by
        refine c7b w' (3+j) u ?_ hb
        have hj:j<4:=by have:=(List.getElem?_eq_some_iff.1 hu).1;simpa using this
        rcases (by omega:j=0∨j=1∨j=2∨j=3) with rfl | rfl | rfl | rfl<;>exact hu⟩⟩
      have RO8:∀ w',Below w7.heap.size w7 w'→Oi w' (some ⟨w.heap.size,7,none⟩) 8 [o0,o1,o2,o3,o4,o5,o6,o7]:=fun w' hb=>⟨rfl,Nat.le_refl _,(by unfold maxLen;omega),(fun h=>by cases h),fun _=>⟨w.heap.size,7,rfl,Nat.lt_of_lt_of_le hlt hb.size,fun j u hu=>by
        refine c7b w' (7+j) u ?_ hb
        have hj:j<8:=by have:=(List.getElem?_eq_some_iff.1 hu).1;simpa using this
        rcases (by omega:j=0∨j=1∨j=2∨j=3∨j=4∨j=5∨j=6∨j=7) with rfl | rfl | rfl | rfl | rfl | rfl | rfl | rfl<;>exact hu⟩⟩
      have RB4:=hid RB4;have RO8:=hid RO8
      clear c7b
      have hbo2:=HBO.out
      have k8:Blk (w7.alloc (.cells #[.slice (some ⟨w.heap.size,3,none⟩) 4 4,.slice (some ⟨w.heap.size,7,none⟩) 8 8] 161)).drew w7.heap.size 161 [.slice (some ⟨w.heap.size,3,none⟩) 4 4,.slice (some ⟨w.heap.size,7,none⟩) 8 8]:=Blk.drew (show Blk (w7.alloc (.cells #[.slice (some ⟨w.heap.size,3,none⟩) 4 4,.slice (some ⟨w.heap.size,7,none⟩) 8 8] 161)) w7.heap.size 161 [.slice (some ⟨w.heap.size,3,none⟩) 4 4,.slice (some ⟨w.heap.size,7,none⟩) 8 8] from heap_alloc_new w7 _)
      have b8:Below w7.heap.size w7 (w7.alloc (.cells #[.slice (some ⟨w.heap.size,3,none⟩) 4 4,.slice (some ⟨w.heap.size,7,none⟩) 8 8] 161)).drew:=((Below.refl _ w7).alloc (Nat.le_refl _) _).drew
      have k8a:(w7.alloc (.cells #[.slice (some ⟨w.heap.size,3,none⟩) 4 4,.slice (some ⟨w.heap.size,7,none⟩) 8 8] 161)).drew.cell? ⟨w7.heap.size,0,none⟩=some (.slice (some ⟨w.heap.size,3,none⟩) 4 4):=Blk.cell k8 (i:=0) (by simp)
      have k8b:(w7.alloc (.cells #[.slice (some ⟨w.heap.size,3,none⟩) 4 4,.slice (some ⟨w.heap.size,7,none⟩) 8 8] 161)).drew.cell? ⟨w7.heap.size,1,none⟩=some (.slice (some ⟨w.heap.size,7,none⟩) 8 8):=Blk.cell k8 (i:=1) (by simp)
      have HCC:=hid (Ry w7.heap.size [b0,b1,b2,b3] [o0,o1,o2,o3,o4,o5,o6,o7] (some ⟨w.heap.size,3,none⟩) (some ⟨w.heap.size,7,none⟩) 4 8 (w7.alloc (.cells #[.slice (some ⟨w.heap.size,3,none⟩) 4 4,.slice (some ⟨w.heap.size,7,none⟩) 8 8] 161)).drew rfl rfl k8.lt k8a k8b (RB4.out _ b8) (RO8.out _ b8))
      have B8:=hid b8
      clear k8 k8a k8b b8
      go_region_with (go_at_call 98;refine (HCC.out).mono ?_;rintro e w9 ⟨a9,c9,rfl,o9,b9⟩;have C9:=hid (show Below w7.heap.size w7 w9 from Av B8.out b9 B8.out.size);have Z9:=hid (show Oi w9 a9 c9 BO from by have q:=o9.row;rw [← hbo2] at q;unfold Oi;rw [hL12];exact q);clear o9 b9)
      all_goals
        have O9:=hid (show CF w9 w.heap.size a7 c7 H from O7.out.mono C9.out)
        have B9:=hid (Ac B7.out C9.out)
        clear C9 RB4 RO8 hbo2 HBO y1 y2 E HCC B8
        go_wp2_with fail
        simp only [List.getElem_toArray,List.getElem_cons_succ,List.getElem_cons_zero,Act.put,List.setIfInBounds_toArray,List.set_cons_zero,List.set_cons_succ]
        go_loopw [4,32] (fun b i wr=>∃ (j m c:Nat) (a:Option Addr) (T:List UInt8),j≤12∧i=.int .i64 j∧b=.slice a m c∧T.length=m∧m≤4+j∧T=BQ H (KQ (BO.take j))∧CF wr w.heap.size a c T∧Below w9.heap.size w9 wr) (fun _ i _=>12-(intOf i).toNat)
        case atStart=>exact ⟨0,H.length,c7,a7,H,by omega,rfl,rfl,rfl,by omega,rfl,O9.out,Below.refl _ _⟩
        case round=>
        obtain ⟨j,m,c,a,T,hj,rfl,rfl,hTm,hm4,hT,oT,bT⟩:=hrel
        have HTM:=hid hTm;have HT:=hid hT;have OT:=hid oT;have BT:=hid bT
        by_cases hj12:j<12
        · obtain ⟨g9,off9,rfl,hg9,hca⟩:=SO Z9.out (by omega)
          have ca:=(bT.cell (p:=⟨g9,off9+j,none⟩) hg9).trans (hca j (by omega))
          clear hca
          have hx:=UBO.out (BO.getD j 0) (by rw [List.getD_eq_getElem?_getD,List.getElem?_eq_getElem (by omega)];exact List.getElem_mem _)
          have hsn:BQ H (KQ (BO.take (j+1)))=Ar T (BO.getD j 0) 1:=by
            rw [hT,← Sa,List.getD_eq_getElem?_getD,List.getElem?_eq_getElem (by omega),List.take_succ_eq_append_getElem (by omega)]
            rfl
          have HPT:=DU a c T (BO.getD j 0) 1 wr oT.row (by omega) (by omega)
          rw [hTm] at HPT
          have hple:=Gh T (BO.getD j 0)
          rw [← hsn] at HPT hple
          have HSN:=hid hsn
          generalize BO.getD j 0=x at *
          generalize hT2:BQ H (KQ (BO.take (j+1)))=T2 at *
          have HT2:=hid hT2
          clear hT2
          have HPT:=hid HPT
          have ij:(j:Int)<12:=by omega
          have dj:decide ((j:Int)<12)=true:=decide_eq_true ij
          clear oT bT hT hTm hsn
          have hrow:(j:Int)<(12:Int):=ij
          go_wp2_with (go_at_call 84;refine (HPT.out).mono ?_;rintro e w10 ⟨a10,c10,rfl,o10,b10⟩)
          go_roundw
          case rel=>exact ⟨j+1,T2.length,c10,a10,T2,by omega,by go_num,rfl,rfl,by have:=HTM.out;omega,HT2.out.symm,Own.low o10 (Nat.le_trans B9.out.size BT.out.size),Av BT.out b10 BT.out.size⟩
          case measure=>simp [intOf];omega
        · obtain rfl:j=12:=by omega
          have hTX:T=X:=by rw [hT,HX.out,List.take_of_length_le (by omega)]
          subst hTX
          have dj:decide ((12:Int)<12)=false:=by decide
          have ez:IntKind.i64.wrap (60-(m:Int))=((60-m:Nat):Int):=by rw [show (60-(m:Int))=((60-m:Nat):Int) by omega];exact IntWalk.i64_in _ (by omega)
          have hYY:=HY.out
          rw [hTm] at hYY
          have HYY:=hid hYY
          have hcl:=DM Y
          have HSum:=fun a c w1 r=>Ij a c Y w1 r
          rw [hYl] at HSum
          have HPut:=fun a c w1 r=>DU a c Y (Cb Y:Nat) 4 w1 r (by omega) (by omega)
          rw [hYl,← HI.out] at HPut
          have hm16:m≤16:=by omega
          generalize Cb Y=z at *
          have ezz:IntKind.i64.wrap (z:Int)=z:=IntWalk.i64_in _ (by omega)
          have HSum:=hid HSum;have HPut:=hid HPut
          have t2:True:=trivial
          have hsz:=hid (Nat.le_trans B9.out.size BT.out.size)
          have OT2:Hid (Own wr w.heap.size 5 1 a m c (T.map Ad)):=by have q:=OT.out;unfold CF at q;rw [HTM.out] at q;exact q
          clear oT bT hT hTm hYY HT
          go_wp2_with (at_builtin;have _t:=t2;refine De rfl (.tmp 40) (.tmp 43) rfl υ22 υ3 (z:=.int .u8 0) (bytes:=1) κ rfl rfl w.heap.size (k:=60-m) rfl rfl ω OT2.out ω ω hsz.out ?_;clear t2;intro a12 c12 w12 o12 g12 b12)
          rw [show m+(60-m)=60 by omega] at o12
          rw [show m+(60-m)=60 by omega]
          have O12:Hid (RowB w12 a12 c12 Y):=by
            have q:=o12.row
            have e:Y.map Ad=T.map Ad++List.replicate (60-m) (.int .u8 0):=by rw [HYY.out,List.map_append,List.map_replicate];rfl
            unfold RowB
            rw [hYl,e]
            exact q
          have B12:=hid (Av (Av B9.out BT.out B9.out.size) b12 (Nat.le_refl _))
          refine (HSum.out a12 c12 w12 O12.out).mono ?_
          rintro e w13 ⟨rfl,b13⟩
          go_wp2_with fail
          refine (HPut.out a12 c12 w13 (O12.out.mono b13)).mono ?_
          rintro e w14 ⟨a14,c14,rfl,o14,b14⟩
          have F14:=hid (show CF w14 w.heap.size a14 c14 R from Own.low o14 (Nat.le_trans B12.out.size b13.size))
          have G14:=hid (Ac (Ac B12.out b13) b14)
          clear o14 b14 b13
          go_wp2_with fail
          refine bodyPost_ret (Go.results_tmp2 rfl _ _ _) rfl ?_
          exact ⟨a14,c14,by rw [hIl];rfl,F14.out,G14.out⟩
end
section
open Go.RowKit Go.WideShapes
def Aho (i:InoT):Prop:=(0≤i.b0∧i.b0≤128)∧(0≤i.b1∧i.b1≤128)∧(0≤i.b2∧i.b2≤128)∧(0≤i.b3∧i.b3≤128)
def Ahp (i:InoT):Prop:=¬ (i.b0≠0∧i.b0=i.b1)∧¬ (i.b0≠0∧i.b0=i.b2)∧¬ (i.b1≠0∧i.b1=i.b2)∧¬ (i.b0≠0∧i.b0=i.b3)∧¬ (i.b1≠0∧i.b1=i.b3)∧¬ (i.b2≠0∧i.b2=i.b3)
def GZ (k n:Int):Prop:=0≤n∧n≤8∧(k≠1→n=0)
def Ahr (i:InoT):Prop:=GZ i.k i.o0∧GZ i.k i.o1∧GZ i.k i.o2∧GZ i.k i.o3∧GZ i.k i.o4∧GZ i.k i.o5∧GZ i.k i.o6∧GZ i.k i.o7
def OB (j n s:Int):Prop:=(n≠0↔j<s)
def Ahq (i:InoT):Prop:=OB 0 i.b0 i.s∧OB 64 i.b1 i.s∧OB 128 i.b2 i.s∧OB 192 i.b3 i.s
theorem Vu {i:InoT} (h1:i.k≠1) (h2:i.k≠2):Fk i=decide (OE i=Rp):=by
  unfold Fk
  by_cases h0:i.k=0
  · rw [if_pos h0];rfl
  · rw [if_neg h0,if_neg h1,if_neg h2]
    symm
    refine decide_eq_false (fun h=>h0 ?_)
    unfold OE Rp at h
    simp only [List.cons.injEq] at h
    exact h.1
end
section
open Go.RowKit Go.WideShapes
end
section
open Go.RowKit Go.WideShapes
end
section
open Go.RowKit Go.WideShapes
def bs (l:List Int):Λ:=l.map fun n=>UInt8.ofNat n.toNat
theorem VR {i:InoT} (h:Fk i=true) (hk:i.k=0):Db i=List.replicate 64 0:=by
  have:=Vu (i:=i) ω ω
  rw [h] at this
  unfold Db
  rw [h,if_pos rfl,if_pos (of_decide_eq_true this.symm)]
theorem Aba {i:InoT} (h:Fk i=true):Ew i=0:=by unfold Ew;rw [h];rfl
end
section
open Go.RowKit Go.WideShapes Go.ChangeShapes Go.Deep
end
section
open Go.RowKit Go.WideShapes
def i65:InoT:=⟨1,1,65,3,4,0,0,0,0,0,0,0,0,0,0⟩
end
section
open Go.RowKit Go.WideShapes
theorem ES:(prog.info? 40).map (·.size)=some 15:=κ
end
section
open Go.RowKit Go.WideShapes
def slI (xs:Λ) (a k:Nat):Λ:=(xs.drop a).take k
theorem Abt {xs:Λ} {a k:Nat} (h:a+k≤xs.length):(slI xs a k).length=k:=by simp [slI];omega
theorem LI {xs:Λ} {a k:Nat} (h:a+k≤xs.length) (hk:EM k=true) (hv:BL (slI xs a k)≤9223372036854775807):AC xs a k=some (BL (slI xs a k)):=by
  unfold AC
  rw [if_pos ⟨hk,ω,ω⟩]
  simp only [Int.toNat_natCast]
  exact if_pos hv
theorem Af0 {xs:Λ} {a:Nat} (h:a<xs.length):slI xs a 1=[xs[a]]:=by
  unfold slI
  rw [List.drop_eq_getElem_cons h,List.take_succ_cons,List.take_zero]
theorem Sb {xs:Λ} {a:Nat} (h:a<xs.length):AC xs a 1=some (bAt xs a):=by
  have e:BL (slI xs a 1)=bAt xs a:=by rw [Af0 h,DL h];show (xs[a]).toNat+256*0=_;omega
  have hb:=EH xs a
  have:=LI (xs:=xs) (a:=a) (k:=1) ω rfl (by rw [e];omega)
  rwa [e] at this
theorem Ac5 {xs:Λ} {a:Nat} (h:a+1<xs.length):AC xs a 2=some (bAt xs a+256*bAt xs (a+1)):=by
  have e:BL (slI xs a 2)=bAt xs a+256*bAt xs (a+1):=by
    rw [show (2:Nat)=1+1 from rfl]
    unfold slI
    rw [List.drop_eq_getElem_cons ω,List.take_succ_cons,List.drop_eq_getElem_cons h,List.take_succ_cons,List.take_zero,DL ω,DL h]
    show (xs[a]).toNat+256*((xs[a+1]).toNat+256*0)=_
    omega
  have hb:=EH xs a
  have hb2:=EH xs (a+1)
  have:=LI (xs:=xs) (a:=a) (k:=2) ω rfl (by rw [e];omega)
  rwa [e] at this
theorem Ac6 {xs:Λ} {a:Nat} (h:a+4≤xs.length):AC xs a 4=some (BL (slI xs a 4)):=
  LI h rfl (Sz (by rw [Abt h];omega))
def Be (xs:Λ):InoT:=⟨bAt xs 0,bAt xs 1,(bAt xs 2:Int)+256*(bAt xs 3:Int),bAt xs 4,bAt xs 5,bAt xs 6,bAt xs 7,bAt xs 8,bAt xs 9,bAt xs 10,bAt xs 11,bAt xs 12,bAt xs 13,bAt xs 14,bAt xs 15⟩
theorem Va (xs:Λ) (j:Nat) (h:j<4):(AE (Be xs))[3+j]? = some (ν (bAt xs (4+j):Nat)):=by
  rcases (ω:j=0∨j=1∨j=2∨j=3) with rfl | rfl | rfl | rfl<;>rfl
theorem Vb (xs:Λ) (j:Nat) (h:j<8):(AE (Be xs))[7+j]? = some (ν (bAt xs (8+j):Nat)):=by
  rcases (ω:j=0∨j=1∨j=2∨j=3∨j=4∨j=5∨j=6∨j=7) with rfl | rfl | rfl | rfl | rfl | rfl | rfl | rfl<;>rfl
theorem XQ (i:InoT):∀ v∈AE i,v.oneCell'=true:=by
  intro v hv
  unfold AE at hv
  simp only [List.mem_cons,List.not_mem_nil,or_false] at hv
  rcases hv with e | e | e | e | e | e | e | e | e | e | e | e | e | e | e<;>rw [e]<;>rfl
def BS:InoT:=⟨0,0,0,0,0,0,0,0,0,0,0,0,0,0,0⟩
theorem Lx (a b:Ω) (c d:Nat) (xs ys:Λ) (w:World) (ha:RowB w a c xs) (hb:RowB w b d ys) :
    Calls prog 73 #[.slice a xs.length c,.slice b ys.length d] w fun e w'=>e=.returned (.bool (decide (xs=ys)))∧Below w.heap.size w w':=by
  have hl:=Ce ha
  have hm:=Ce hb
  by_cases hne:xs.length=ys.length
  · rw [hne]
    have hne2:=hid hne
    go_enter func73,ntmps73
    clear hne
    go_wp2
    go_loopw [5,13] (fun i13 i wr=>∃ j:Nat,j≤ys.length∧i=ν j∧(∀ i,i<j→bAt xs i=bAt ys i)∧Below w.heap.size w wr)
      (fun _ i _=>ys.length-(intOf i).toNat)
    case atStart=>exact ⟨0,Nat.zero_le _,rfl,fun i h=>absurd h ω,Below.refl _ _⟩
    case round=>
      obtain ⟨j,hj,rfl,hp,hbel⟩:=hrel
      have HP:=hid hp;clear hp
      by_cases hlt:j<ys.length
      · obtain ⟨ba,oa,rfl,hba,hca⟩:=(ha.mono hbel).bytes (by have:=hne2.out;omega)
        obtain ⟨bb,ob,rfl,hbb,hcb⟩:=(hb.mono hbel).bytes ω
        have ca:=hca j (by have:=hne2.out;omega)
        have cb:=hcb j hlt
        clear hca hcb ha hb
        have hlt':(j:Int)<(ys.length:Int):=ω
        by_cases hxy:bAt xs j=bAt ys j
        · have HX:=hid hxy
          rw [hxy] at ca
          clear hxy
          go_wp2
          go_quiet (fail)
          go_wp2
          go_roundw
          case rel=>exact ⟨j+1,ω,by go_num,fun i hi=>(by rcases Nat.lt_succ_iff_lt_or_eq.1 hi with h | rfl;exact HP.out i h;exact HX.out),Ef hbel _⟩
          case measure=>simp [intOf];omega
        · have hxy':((bAt xs j:Int) != (bAt ys j:Int))=true:=by simp;omega
          have HX:=hid hxy
          clear hxy
          go_wp2
          go_quiet (fail)
          go_wp2
          go_ret
          exact ⟨AR (decide_eq_false (by rintro rfl;exact HX.out rfl)).symm,Ef hbel _⟩
      · obtain rfl:j=ys.length:=ω
        go_wp2
        go_ret
        exact ⟨AR (decide_eq_true (TC hne2.out HP.out)).symm,hbel⟩
  · go_enter func73,ntmps73
    go_wp2
    go_ret
    exact ⟨AR (by simp;intro h;exact hne (by rw [h])),Below.refl _ _⟩
end
section
open Go.RowKit Go.WideShapes
theorem Gk {w:World} {ops:Array Oper} {rest:List Oper} {o:Oper} {act:Act} {Q:Exit→Act→World→Prop} (hgd:o.guard=none) (x:Operand)
    (ho:o.op=.load 40 x) (g:Nat) (hx:act.eval x=π g) {e:TypeId} (i:InoT) (hb:Blk w g e (AE i))
    (h:wpList prog ops Q rest (act.put o.dst (.agg (AE i).toArray)) w):wpList prog ops Q (o::rest) act w:=
  wpList_load_mid hgd 40 x ho g 0 hx (AE i) _ hb.range υ40 rfl (by rw [ES];rfl) h
theorem CB {w:World} {ops:Array Oper} {rest:List Oper} {o:Oper} {act:Act} {Q:Exit→Act→World→Prop} (hgd:o.guard=none) (x y:Operand)
    (ho:o.op=.store 40 x y) (g:Nat) (hx:act.eval x=π g) {e:TypeId} (i:InoT) {C:Array Value} (hy:act.eval y=.agg C) (hC:C=(AE i).toArray) {j:InoT} (hb:Blk w g e (AE j))
    (h:∀ w',Blk w' g e (AE i)→w.grownBy w' (some g)→wpList prog ops Q rest (act.put o.dst undef) w'):wpList prog ops Q (o::rest) act w:=by
  subst hC
  exact MW hgd 40 x y ho g hx (AE i) hy (by rw [ES];rfl) (XQ _) hb rfl h
theorem MZ (a:Ω) (c:Nat) (xs:Λ) (w:World) (ha:RowB w a c xs) (h16:16≤xs.length) :
    Calls prog 76 #[.slice a xs.length c] w fun e w'=>e=.returned (FM (Be xs))∧Below w.heap.size w w':=by
  have hl:=Ce ha
  have G0:=fun (w1:World) (r1:RowB w1 a c xs)=>DP a c xs 0 1 w1 r1 hl
  have G1:=fun (w1:World) (r1:RowB w1 a c xs)=>DP a c xs 1 1 w1 r1 hl
  have G2:=fun (w1:World) (r1:RowB w1 a c xs)=>DP a c xs 2 2 w1 r1 hl
  have g0:=Sb (xs:=xs) (a:=0) ω
  have g1:=Sb (xs:=xs) (a:=1) ω
  have g2:=Ac5 (xs:=xs) (a:=2) ω
  rw [show ((0:Nat):Int)=0 from rfl] at g0
  rw [show ((1:Nat):Int)=1 from rfl] at g1
  rw [show ((2:Nat):Int)=2 from rfl] at g2
  rw [g0] at G0;rw [g1] at G1;rw [g2] at G2
  have e256:((bAt xs 2+256*bAt xs (2+1):Nat):Int)=(bAt xs 2:Int)+256*(bAt xs 3:Int):=by show _=(bAt xs 2:Int)+256*(bAt xs (2+1):Int);omega
  have GB:∀ (m j:Nat) (w1:World),RowB w1 a c xs→m+j<16→Calls prog 74 #[.slice a xs.length c,ν ((m:Int)+(j:Int)),ν 1] w1 fun e w'=>e=.returned (.tuple #[ν (bAt xs (m+j):Nat),.bool true])∧w1=w':=by
    intro m j w1 r1 h
    have q:=DP a c xs ((m+j:Nat):Int) 1 w1 r1 hl
    have g:=Sb (xs:=xs) (a:=m+j) ω
    rw [g,show ((m+j:Nat):Int)=(m:Int)+(j:Int) by omega] at q
    exact q
  simp only [KN,Option.getD_some,Option.isSome_some,e256] at G0 G1 G2
  have G0:=hid G0;have G1:=hid G1;have G2:=hid G2;have GB:=hid GB
  clear g0 g1 g2 e256
  have HR:=hid (fun w1 (hb:Below w.heap.size w w1)=>Row.mono ha hb)
  clear ha
  have HZ:Hid (Blk ((w.alloc (.cells #[ν 0,ν 0,ν 0,ν 0,ν 0,ν 0,ν 0,ν 0,ν 0,ν 0,ν 0,ν 0,ν 0,ν 0,ν 0] 40)).alloc (.cells #[ν 0,ν 0,ν 0,ν 0,ν 0,ν 0,ν 0,ν 0,ν 0,ν 0,ν 0,ν 0,ν 0,ν 0,ν 0] 40)) w.heap.size 40 (AE BS)):=by
    have q:Blk (w.alloc (.cells #[ν 0,ν 0,ν 0,ν 0,ν 0,ν 0,ν 0,ν 0,ν 0,ν 0,ν 0,ν 0,ν 0,ν 0,ν 0] 40)) w.heap.size 40 (AE BS):=heap_alloc_new w _
    exact q.mono ((Below.refl _ _).alloc (Nat.le_refl _) _)
  have HK:Hid (Blk ((w.alloc (.cells #[ν 0,ν 0,ν 0,ν 0,ν 0,ν 0,ν 0,ν 0,ν 0,ν 0,ν 0,ν 0,ν 0,ν 0,ν 0] 40)).alloc (.cells #[ν 0,ν 0,ν 0,ν 0,ν 0,ν 0,ν 0,ν 0,ν 0,ν 0,ν 0,ν 0,ν 0,ν 0,ν 0] 40)) (w.heap.size+1) 40 (Gf (AE (Be xs)) (ν 0) 0)):=by
    have q:=heap_alloc_new (w.alloc (.cells #[ν 0,ν 0,ν 0,ν 0,ν 0,ν 0,ν 0,ν 0,ν 0,ν 0,ν 0,ν 0,ν 0,ν 0,ν 0] 40)) (.cells #[ν 0,ν 0,ν 0,ν 0,ν 0,ν 0,ν 0,ν 0,ν 0,ν 0,ν 0,ν 0,ν 0,ν 0,ν 0] 40)
    rw [show (w.alloc (.cells #[ν 0,ν 0,ν 0,ν 0,ν 0,ν 0,ν 0,ν 0,ν 0,ν 0,ν 0,ν 0,ν 0,ν 0,ν 0] 40)).heap.size=w.heap.size+1 from by simp] at q
    exact q
  have HBl:Hid (Below w.heap.size w ((w.alloc (.cells #[ν 0,ν 0,ν 0,ν 0,ν 0,ν 0,ν 0,ν 0,ν 0,ν 0,ν 0,ν 0,ν 0,ν 0,ν 0] 40)).alloc (.cells #[ν 0,ν 0,ν 0,ν 0,ν 0,ν 0,ν 0,ν 0,ν 0,ν 0,ν 0,ν 0,ν 0,ν 0,ν 0] 40))):=((Below.refl _ w).alloc (Nat.le_refl _) _).alloc (by simp) _
  have hSw:w.heap.size≤w.heap.size+1:=ω
  go_enter func76,ntmps76
  go_wp2_with fail
  generalize hS:w.heap.size+1=S at *
  have hS':w.heap.size<S:=ω
  have HS:=hid hS
  clear hS
  refine (G0.out _ (HR.out _ HBl.out)).mono ?_
  rintro e wx ⟨rfl,rfl⟩
  have k0:=HK.out.atFill (ω:0<15)
  have fz0:=HK.out.frozen 0
  have HK2:=hid (HK.out.fill (ω:0<15) (show (AE (Be xs))[0]? = some (ν (bAt xs 0:Nat)) from rfl))
  have HZ2:=hid (HZ.out.setOtherS (ω:w.heap.size≠S) 0 (ν (bAt xs 0:Nat)))
  have HB2:=hid (HBl.out.setCell (p:=⟨S,0,none⟩) hSw (ν (bAt xs 0:Nat)))
  clear HK HZ HBl
  go_wp2_with fail
  have HK:=hid HK2.out;have HZ:=hid HZ2.out;have HBl:=hid HB2.out
  clear HK2 HZ2 HB2 k0 fz0
  generalize World.setCell _ _ _=w3 at *
  refine (G1.out _ (HR.out _ HBl.out)).mono ?_
  rintro e wx ⟨rfl,rfl⟩
  have k1:=HK.out.atFill (ω:1<15)
  have fz1:=HK.out.frozen 1
  have HK2:=hid (HK.out.fill (ω:1<15) (show (AE (Be xs))[1]? = some (ν (bAt xs 1:Nat)) from rfl))
  have HZ2:=hid (HZ.out.setOtherS (ω:w.heap.size≠S) 1 (ν (bAt xs 1:Nat)))
  have HB2:=hid (HBl.out.setCell (p:=⟨S,1,none⟩) hSw (ν (bAt xs 1:Nat)))
  clear HK HZ HBl
  go_wp2_with fail
  have HK:=hid HK2.out;have HZ:=hid HZ2.out;have HBl:=hid HB2.out
  clear HK2 HZ2 HB2 k1 fz1
  generalize World.setCell _ _ _=w4 at *
  refine (G2.out _ (HR.out _ HBl.out)).mono ?_
  rintro e wx ⟨rfl,rfl⟩
  have k2:=HK.out.atFill (ω:2<15)
  have fz2:=HK.out.frozen 2
  have HK2:=hid (HK.out.fill (ω:2<15) (show (AE (Be xs))[2]? = some (ν ((bAt xs 2:Int)+256*(bAt xs 3:Int))) from rfl))
  have HZ2:=hid (HZ.out.setOtherS (ω:w.heap.size≠S) 2 (ν ((bAt xs 2:Int)+256*(bAt xs 3:Int))))
  have HB2:=hid (HBl.out.setCell (p:=⟨S,2,none⟩) hSw (ν ((bAt xs 2:Int)+256*(bAt xs 3:Int))))
  clear HK HZ HBl
  go_wp2_with fail
  have HK:=hid HK2.out;have HZ:=hid HZ2.out;have HBl:=hid HB2.out
  clear HK2 HZ2 HB2 k2 fz2
  generalize World.setCell _ _ _=w5 at *
  go_loopw [4,24] (fun _ i wr=>∃ j:Nat,j≤4∧i=ν j∧Blk wr S 40 (Gf (AE (Be xs)) (ν 0) (3+j))∧Blk wr w.heap.size 40 (AE BS)∧Below w.heap.size w wr) (fun _ i _=>4-(intOf i).toNat)
  case atStart=>exact ⟨0,ω,rfl,HK.out,HZ.out,HBl.out⟩
  case round=>
  clear HK HZ HBl
  obtain ⟨j,hj,rfl,hk,hz,hb⟩:=hrel
  by_cases hj4:j<4
  · have kj:=hk.atFill (ω:3+j<15)
    have fzj:=hk.frozen (3+j)
    have HK:=hid (hk.fill (ω:3+j<15) (Va xs j hj4))
    have HZ:=hid (hz.setOtherS (ω:w.heap.size≠S) (3+j) (ν (bAt xs (4+j):Nat)))
    have HBl:=hid (hb.setCell (p:=⟨S,3+j,none⟩) hSw (ν (bAt xs (4+j):Nat)))
    have HG:=hid (GB.out 4 j wr (HR.out _ hb) ω)
    have dj:decide ((j:Int)<4)=true:=decide_eq_true ω
    have ij:(j:Int)<4:=ω
    clear hk hz hb
    go_wp2_with (go_at_call 74;refine (HG.out).mono ?_;rintro e wx ⟨rfl,rfl⟩)
    go_roundw
    case rel=>exact ⟨j+1,ω,by go_num,HK.out,HZ.out,HBl.out⟩
    case measure=>simp [intOf];omega
  · obtain rfl:j=4:=ω
    rw [show ((4:Nat):Int)=4 from rfl]
    have HK:=hid hk;have HZ:=hid hz;have HBl:=hid hb
    clear hk hz hb
    obtain ⟨wo,hwo⟩:∃ x,x=wr:=⟨_,rfl⟩
    subst hwo
    go_wp2_with fail
    go_loopw [5,38] (fun _ i wr=>∃ j:Nat,j≤8∧i=ν j∧Blk wr S 40 (Gf (AE (Be xs)) (ν 0) (7+j))∧Blk wr w.heap.size 40 (AE BS)∧Below w.heap.size w wr) (fun _ i _=>8-(intOf i).toNat)
    case atStart=>exact ⟨0,ω,rfl,HK.out,HZ.out,HBl.out⟩
    case round=>
    clear HK HZ HBl
    obtain ⟨j,hj,rfl,hk,hz,hb⟩:=hrel
    by_cases hj4:j<8
    · have kj:=hk.atFill (ω:7+j<15)
      have fzj:=hk.frozen (7+j)
      have HK:=hid (hk.fill (ω:7+j<15) (Vb xs j hj4))
      have HZ:=hid (hz.setOtherS (ω:w.heap.size≠S) (7+j) (ν (bAt xs (8+j):Nat)))
      have HBl:=hid (hb.setCell (p:=⟨S,7+j,none⟩) hSw (ν (bAt xs (8+j):Nat)))
      have HG:=hid (GB.out 8 j wr (HR.out _ hb) ω)
      have dj:decide ((j:Int)<8)=true:=decide_eq_true ω
      have ij:(j:Int)<8:=ω
      clear hk hz hb
      go_wp2_with (go_at_call 74;refine (HG.out).mono ?_;rintro e wx ⟨rfl,rfl⟩)
      go_roundw
      case rel=>exact ⟨j+1,ω,by go_num,HK.out,HZ.out,HBl.out⟩
      case measure=>simp [intOf];omega
    · obtain rfl:j=8:=ω
      rw [show ((8:Nat):Int)=8 from rfl]
      have HK:Hid (Blk wr S 40 (AE (Be xs))):=hk
      have HZ:=hid hz;have HBl:=hid hb
      clear hk hz hb
      go_wp2_with (first
        | (with_reducible refine Gk rfl _ rfl S rfl (Be xs) HK.out ?_)
        | ((with_reducible refine CB rfl _ _ rfl w.heap.size rfl (Be xs) rfl rfl HZ.out ?_);intro w9 k9 g9;have K9:=hid k9;have G9:=hid g9;clear k9 g9))
      have hsz:=HBl.out.size
      refine bodyPost_ret (Dm rfl rfl K9.out υ40 rfl (by rw [ES];rfl)) rfl ?_
      exact ⟨rfl,AS HBl.out G9.out (Nat.le_refl _) hsz⟩
end
section
open Go.RowKit Go.WideShapes
def Fu:Λ:=List.replicate 64 0
def NZ (ys:Λ):Bool:=decide (BL (slI ys 60 4)=Cb (ys.take 60))
def Mq (ys:Λ):Bool:=Fk (Be ys)&&decide (Db (Be ys)=ys)
def rdI (xs:Λ):InoT:=if xs.length<64 then BS else if xs.take 64=Fu then BS else if NZ (xs.take 64)=false then BS else if Mq (xs.take 64)=true then Be (xs.take 64) else BS
def rdE (xs:Λ):Int:=if xs.length<64 then 3 else if xs.take 64=Fu then 0 else if NZ (xs.take 64)=false then 4 else if Mq (xs.take 64)=true then 0 else 2
theorem Afq:Db BS=Fu:=by
  have hm:Fk BS=true:=by decide +kernel
  exact VR hm rfl
theorem Ace:Ew BS=0:=Aba (by decide +kernel)
theorem YC {xs:Λ} (h:xs.length<64):rdI xs=BS∧rdE xs=3:=by unfold rdI rdE;rw [if_pos h,if_pos h];exact ⟨rfl,rfl⟩
theorem Abj {xs:Λ} (h:¬ xs.length<64) (hz:xs.take 64=Fu):rdI xs=BS∧rdE xs=0:=by unfold rdI rdE;rw [if_neg h,if_neg h,if_pos hz,if_pos hz];exact ⟨rfl,rfl⟩
theorem Ad8 {xs:Λ} (h:¬ xs.length<64) (hz:xs.take 64≠Fu) (hs:NZ (xs.take 64)=false):rdI xs=BS∧rdE xs=4:=by unfold rdI rdE;rw [if_neg h,if_neg h,if_neg hz,if_neg hz,if_pos hs,if_pos hs];exact ⟨rfl,rfl⟩
theorem Ad7 {xs:Λ} (h:¬ xs.length<64) (hz:xs.take 64≠Fu) (hs:NZ (xs.take 64)=true) (hg:Mq (xs.take 64)=false):rdI xs=BS∧rdE xs=2:=by unfold rdI rdE;rw [if_neg h,if_neg h,if_neg hz,if_neg hz,hs,hg];exact ⟨rfl,rfl⟩
theorem Abi {xs:Λ} (h:¬ xs.length<64) (hz:xs.take 64≠Fu) (hs:NZ (xs.take 64)=true) (hg:Mq (xs.take 64)=true):rdI xs=Be (xs.take 64)∧rdE xs=0:=by unfold rdI rdE;rw [if_neg h,if_neg h,if_neg hz,if_neg hz,hs,hg];exact ⟨rfl,rfl⟩
theorem Oj (w:World):Blk (w.alloc (.cells #[ν 0,ν 0,ν 0,ν 0,ν 0,ν 0,ν 0,ν 0,ν 0,ν 0,ν 0,ν 0,ν 0,ν 0,ν 0] 40)) w.heap.size 40 (AE BS):=heap_alloc_new w _
theorem Iw (w:World) (o:Obj):Below w.heap.size w (w.alloc o):=(Below.refl _ w).alloc (Nat.le_refl _) _
theorem QC (a:Ω) (c:Nat) (xs:Λ) (w:World) (ha:RowB w a c xs) :
    Calls prog 33 #[.slice a xs.length c] w fun e w'=>e=.returned (.tuple #[FM (rdI xs),ν (rdE xs)])∧Below w.heap.size w w':=by
  have hl:=Ce ha
  have hcap:xs.length≤c:=ha.2.1
  have HZC:=hid (show (#[ν 0,ν 0,ν 0,ν 0,ν 0,ν 0,ν 0,ν 0,ν 0,ν 0,ν 0,ν 0,ν 0,ν 0,ν 0]:Array Value)=(AE BS).toArray from rfl)
  have HZ:=hid (Oj w)
  have HB:=hid (Iw w (.cells #[ν 0,ν 0,ν 0,ν 0,ν 0,ν 0,ν 0,ν 0,ν 0,ν 0,ν 0,ν 0,ν 0,ν 0,ν 0] 40))
  by_cases h64:xs.length<64
  · obtain ⟨e1,e2⟩:=YC h64
    rw [e1,e2]
    clear e1 e2
    go_enter func33,ntmps33
    go_wp2_with (((with_reducible refine CB rfl _ _ rfl w.heap.size rfl BS rfl HZC.out HZ.out ?_);intro w9 k9 g9;have K9:=hid k9;have G9:=hid g9;clear k9 g9))
    refine bodyPost_ret (BX rfl rfl K9.out υ40 rfl (by rw [ES];rfl)) rfl ?_
    exact ⟨rfl,AS HB.out G9.out (Nat.le_refl _) HB.out.size⟩
  have r0:=DC ha 64
  have hyl:(xs.take 64).length=64:=by simp;omega
  have hc64:64≤c:=ω
  have i64x:¬ ((xs.length:Int)<64):=ω
  have EQ:=fun a2 c2 zs w1 r1 r2=>Lx a a2 c c2 (xs.take 64) zs w1 r1 r2
  rw [hyl] at EQ
  have HR:=hid (fun w1 (hb:Below w.heap.size w w1)=>Row.mono r0 hb)
  have P0:=fun w1=>IF BS w1
  unfold Acm at P0
  rw [Afq,Ace,show Fu.length=64 from rfl] at P0
  have EZ:=fun a2 c2 w1 r1 r2=>EQ a2 c2 Fu w1 r1 r2
  rw [show Fu.length=64 from rfl] at EZ
  have P0:=hid P0
  have dn:decide ((xs.length:Int)<64)=false:=decide_eq_false i64x
  by_cases hz:xs.take 64=Fu
  · obtain ⟨e1,e2⟩:=Abj h64 hz
    rw [e1,e2]
    simp only [decide_eq_true hz] at EZ
    have EZ:=hid EZ
    generalize xs.take 64=ys at *
    clear e1 e2 hz EQ ha r0 hyl
    go_enter func33,ntmps33
    go_wp2_with fail
    refine (P0.out _).mono ?_
    rintro e w4 ⟨a4,c4,rfl,o4,b4⟩
    have HB4:=hid (Ac HB.out b4)
    have HZ4:=hid (HZ.out.mono b4)
    have HE:=hid (EZ.out a4 c4 w4 (HR.out _ HB4.out) o4.row)
    clear b4 o4
    go_wp2_with fail
    refine HE.out.mono ?_
    rintro e w5 ⟨rfl,b5⟩
    have HB5:=hid (Ac HB4.out b5)
    have HZ5:=hid (HZ4.out.mono b5)
    clear b5
    go_wp2_with (((with_reducible refine CB rfl _ _ rfl w.heap.size rfl BS rfl HZC.out HZ5.out ?_);intro w9 k9 g9;have K9:=hid k9;have G9:=hid g9;clear k9 g9))
    refine bodyPost_ret (BX rfl rfl K9.out υ40 rfl (by rw [ES];rfl)) rfl ?_
    exact ⟨rfl,AS HB5.out G9.out (Nat.le_refl _) HB5.out.size⟩
  simp only [decide_eq_false hz] at EZ
  have EZ:=hid EZ
  have hr1:=@Ad8 xs h64 hz
  have hr2:=@Ad7 xs h64 hz
  have hr3:=@Abi xs h64 hz
  have hr60:=DC r0 60
  have hl60:((xs.take 64).take 60).length=60:=by simp;omega
  have HR60:=hid (fun w1 (hb:Below w.heap.size w w1)=>Row.mono hr60 hb)
  have HSum:=fun w1 (r1:RowB w1 a c ((xs.take 64).take 60))=>Ij a c ((xs.take 64).take 60) w1 r1
  rw [hl60] at HSum
  have hG:=fun w1 r1=>DP a c (xs.take 64) 60 4 w1 r1 ω
  have g4:=Ac6 (xs:=xs.take 64) (a:=60) ω
  rw [show ((60:Nat):Int)=60 from rfl] at g4
  rw [g4,hyl] at hG
  simp only [KN,Option.getD_some,Option.isSome_some] at hG
  have hs:NZ (xs.take 64)=decide (BL (slI (xs.take 64) 60 4)=Cb ((xs.take 64).take 60)):=rfl
  have HF:=fun w1 r1=>MZ a c (xs.take 64) w1 r1 ω
  rw [hyl] at HF
  have hgd:Mq (xs.take 64)=(Fk (Be (xs.take 64))&&decide (Db (Be (xs.take 64))=xs.take 64)):=rfl
  have hP:=fun w1=>IF (Be (xs.take 64)) w1
  unfold Acm at hP
  have EP:=fun a2 c2 w1 (r1:RowB w1 a2 c2 (Db (Be (xs.take 64)))) r2=>Lx a2 a c2 c (Db (Be (xs.take 64))) (xs.take 64) w1 r1 r2
  rw [hyl] at EP
  have hcl:=DM ((xs.take 64).take 60)
  have hPE:Ew (Be (xs.take 64))=if Fk (Be (xs.take 64)) then 0 else 1:=rfl
  have hPL:(Db (Be (xs.take 64))).length≤64:=by unfold Db;split;split;simp;rw [Mn];omega;simp
  rw [hs] at hr1 hr2 hr3
  rw [hgd] at hr2 hr3
  generalize Cb ((xs.take 64).take 60)=z at *
  generalize BL (slI (xs.take 64) 60 4)=u at *
  generalize Db (Be (xs.take 64))=P at *
  generalize Ew (Be (xs.take 64))=E at *
  generalize Fk (Be (xs.take 64))=M at *
  generalize Be (xs.take 64)=i at *
  generalize (xs.take 64).take 60=y60 at *
  generalize xs.take 64=ys at *
  have ez:IntKind.i64.wrap (z:Int)=z:=IntWalk.i64_in _ ω
  have HSum:=hid HSum;have hG:=hid hG;have HF:=hid HF;have hP:=hid hP;have EP:=hid EP
  clear hs hgd g4 r0 hr60 hl60 hyl ha EQ
  by_cases hu:u=z
  · rw [decide_eq_true hu] at hr1 hr2 hr3
    subst hu
    have hne:((u:Int) != (u:Int))=false:=by simp
    cases hM:M
    · rw [hM] at hr2 hPE
      obtain ⟨e1,e2⟩:=hr2 rfl rfl
      rw [e1,e2]
      rw [show E=1 from hPE] at hP
      clear e1 e2 hr1 hr2 hr3 hM hPE EP
      go_enter func33,ntmps33
      go_wp2_with fail
      refine (P0.out _).mono ?_
      rintro e w4 ⟨a4,c4,rfl,o4,b4⟩
      have HB4:=hid (Ac HB.out b4)
      have HZ4:=hid (HZ.out.mono b4)
      have HE:=hid (EZ.out a4 c4 w4 (HR.out _ HB4.out) o4.row)
      clear b4 o4
      go_wp2_with fail
      refine HE.out.mono ?_
      rintro e w5 ⟨rfl,b5⟩
      have HB5:=hid (Ac HB4.out b5)
      have HZ5:=hid (HZ4.out.mono b5)
      clear b5 HB4 HZ4 HE
      go_wp2_with fail
      refine (hG.out w5 (HR.out _ HB5.out)).mono ?_
      rintro e wx ⟨rfl,rfl⟩
      go_wp2_with fail
      refine (HSum.out w5 (HR60.out _ HB5.out)).mono ?_
      rintro e wy ⟨rfl,b6⟩
      have HBy:=hid (Ac HB5.out b6)
      have HZy:=hid (HZ5.out.mono b6)
      clear b6 HB5 HZ5
      go_wp2_with fail
      refine (HF.out wy (HR.out _ HBy.out)).mono ?_
      rintro e w6 ⟨rfl,b6⟩
      have HB6:=hid (Ac HBy.out b6)
      have HZ6:=hid (HZy.out.mono b6)
      clear b6 HBy HZy
      unfold FM
      go_wp2_with (first
        | ((with_reducible refine CB rfl _ _ rfl w6.heap.size rfl i rfl rfl (Oj w6) ?_);intro w10 k10 g10;have K10:=hid k10;have G10:=hid g10;clear k10 g10)
        | (with_reducible refine Gk rfl _ rfl w6.heap.size rfl i K10.out ?_))
      have HBa:=hid (AS (HB6.out.alloc HB6.out.size (.cells #[ν 0,ν 0,ν 0,ν 0,ν 0,ν 0,ν 0,ν 0,ν 0,ν 0,ν 0,ν 0,ν 0,ν 0,ν 0] 40)) G10.out HB6.out.size (Nat.le_trans HB6.out.size (Iw w6 (.cells #[ν 0,ν 0,ν 0,ν 0,ν 0,ν 0,ν 0,ν 0,ν 0,ν 0,ν 0,ν 0,ν 0,ν 0,ν 0] 40)).size))
      have HZa:=hid ((HZ6.out.mono (Iw w6 (.cells #[ν 0,ν 0,ν 0,ν 0,ν 0,ν 0,ν 0,ν 0,ν 0,ν 0,ν 0,ν 0,ν 0,ν 0,ν 0] 40))).grownS G10.out (show w.heap.size≠w6.heap.size from Nat.ne_of_lt HZ6.out.lt))
      refine (hP.out w10).mono ?_
      rintro e w8 ⟨a8,c8,rfl,o8,b8⟩
      have HB8:=hid (Ac HBa.out b8)
      have HZ8:=hid (HZa.out.mono b8)
      have K8:=hid (K10.out.mono b8)
      have O8:=hid o8.row
      clear b8 o8 HBa HZa HB6 HZ6
      go_wp2_with (((with_reducible refine CB rfl _ _ rfl w.heap.size rfl BS rfl HZC.out HZ8.out ?_);intro w9 k9 g9;have K9:=hid k9;have G9:=hid g9;clear k9 g9))
      refine bodyPost_ret (BX rfl rfl K9.out υ40 rfl (by rw [ES];rfl)) rfl ?_
      exact ⟨rfl,AS HB8.out G9.out (Nat.le_refl _) HB8.out.size⟩
    · rw [hM] at hr2 hr3 hPE
      rw [show E=0 from hPE] at hP
      by_cases hy:P=ys
      · obtain ⟨e1,e2⟩:=hr3 rfl (by rw [decide_eq_true hy];rfl)
        rw [e1,e2]
        have EPP:Hid (∀ (a2:Ω) (c2:Nat) (w1:World),RowB w1 a2 c2 P→RowB w1 a c ys→Calls prog 73 #[.slice a2 P.length c2,.slice a 64 c] w1 fun e w'=>e=.returned (.bool true)∧Below w1.heap.size w1 w'):=by
          have q:=EP.out
          simp only [decide_eq_true hy] at q
          exact q
        clear e1 e2 hr1 hr2 hr3 hM hPE EP hy
        go_enter func33,ntmps33
        go_wp2_with fail
        refine (P0.out _).mono ?_
        rintro e w4 ⟨a4,c4,rfl,o4,b4⟩
        have HB4:=hid (Ac HB.out b4)
        have HZ4:=hid (HZ.out.mono b4)
        have HE:=hid (EZ.out a4 c4 w4 (HR.out _ HB4.out) o4.row)
        clear b4 o4
        go_wp2_with fail
        refine HE.out.mono ?_
        rintro e w5 ⟨rfl,b5⟩
        have HB5:=hid (Ac HB4.out b5)
        have HZ5:=hid (HZ4.out.mono b5)
        clear b5 HB4 HZ4 HE
        go_wp2_with fail
        refine (hG.out w5 (HR.out _ HB5.out)).mono ?_
        rintro e wx ⟨rfl,rfl⟩
        go_wp2_with fail
        refine (HSum.out w5 (HR60.out _ HB5.out)).mono ?_
        rintro e wy ⟨rfl,b6⟩
        have HBy:=hid (Ac HB5.out b6)
        have HZy:=hid (HZ5.out.mono b6)
        clear b6 HB5 HZ5
        go_wp2_with fail
        refine (HF.out wy (HR.out _ HBy.out)).mono ?_
        rintro e w6 ⟨rfl,b6⟩
        have HB6:=hid (Ac HBy.out b6)
        have HZ6:=hid (HZy.out.mono b6)
        clear b6 HBy HZy
        unfold FM
        go_wp2_with (first
          | ((with_reducible refine CB rfl _ _ rfl w6.heap.size rfl i rfl rfl (Oj w6) ?_);intro w10 k10 g10;have K10:=hid k10;have G10:=hid g10;clear k10 g10)
          | (with_reducible refine Gk rfl _ rfl w6.heap.size rfl i K10.out ?_))
        have HBa:=hid (AS (HB6.out.alloc HB6.out.size (.cells #[ν 0,ν 0,ν 0,ν 0,ν 0,ν 0,ν 0,ν 0,ν 0,ν 0,ν 0,ν 0,ν 0,ν 0,ν 0] 40)) G10.out HB6.out.size (Nat.le_trans HB6.out.size (Iw w6 (.cells #[ν 0,ν 0,ν 0,ν 0,ν 0,ν 0,ν 0,ν 0,ν 0,ν 0,ν 0,ν 0,ν 0,ν 0,ν 0] 40)).size))
        have HZa:=hid ((HZ6.out.mono (Iw w6 (.cells #[ν 0,ν 0,ν 0,ν 0,ν 0,ν 0,ν 0,ν 0,ν 0,ν 0,ν 0,ν 0,ν 0,ν 0,ν 0] 40))).grownS G10.out (show w.heap.size≠w6.heap.size from Nat.ne_of_lt HZ6.out.lt))
        refine (hP.out w10).mono ?_
        rintro e w8 ⟨a8,c8,rfl,o8,b8⟩
        have HB8:=hid (Ac HBa.out b8)
        have HZ8:=hid (HZa.out.mono b8)
        have K8:=hid (K10.out.mono b8)
        have O8:=hid o8.row
        clear b8 o8 HBa HZa HB6 HZ6
        have HE:=hid (EPP.out a8 c8 w8 O8.out (HR.out _ HB8.out))
        go_wp2_with fail
        refine HE.out.mono ?_
        rintro e w7 ⟨rfl,b7⟩
        have HB7:=hid (Ac HB8.out b7)
        have HZ7:=hid (HZ8.out.mono b7)
        have K7:=hid (K8.out.mono b7)
        clear b7
        go_wp2_with (first
          | (with_reducible refine Gk rfl _ rfl w6.heap.size rfl i K7.out ?_)
          | ((with_reducible refine CB rfl _ _ rfl w.heap.size rfl i rfl rfl HZ7.out ?_);intro w9 k9 g9;have K9:=hid k9;have G9:=hid g9;clear k9 g9))
        refine bodyPost_ret (BX rfl rfl K9.out υ40 rfl (by rw [ES];rfl)) rfl ?_
        exact ⟨rfl,AS HB7.out G9.out (Nat.le_refl _) HB7.out.size⟩
      · obtain ⟨e1,e2⟩:=hr2 rfl (by rw [decide_eq_false hy];rfl)
        rw [e1,e2]
        have EPP:Hid (∀ (a2:Ω) (c2:Nat) (w1:World),RowB w1 a2 c2 P→RowB w1 a c ys→Calls prog 73 #[.slice a2 P.length c2,.slice a 64 c] w1 fun e w'=>e=.returned (.bool false)∧Below w1.heap.size w1 w'):=by
          have q:=EP.out
          simp only [decide_eq_false hy] at q
          exact q
        clear e1 e2 hr1 hr2 hr3 hM hPE EP hy
        go_enter func33,ntmps33
        go_wp2_with fail
        refine (P0.out _).mono ?_
        rintro e w4 ⟨a4,c4,rfl,o4,b4⟩
        have HB4:=hid (Ac HB.out b4)
        have HZ4:=hid (HZ.out.mono b4)
        have HE:=hid (EZ.out a4 c4 w4 (HR.out _ HB4.out) o4.row)
        clear b4 o4
        go_wp2_with fail
        refine HE.out.mono ?_
        rintro e w5 ⟨rfl,b5⟩
        have HB5:=hid (Ac HB4.out b5)
        have HZ5:=hid (HZ4.out.mono b5)
        clear b5 HB4 HZ4 HE
        go_wp2_with fail
        refine (hG.out w5 (HR.out _ HB5.out)).mono ?_
        rintro e wx ⟨rfl,rfl⟩
        go_wp2_with fail
        refine (HSum.out w5 (HR60.out _ HB5.out)).mono ?_
        rintro e wy ⟨rfl,b6⟩
        have HBy:=hid (Ac HB5.out b6)
        have HZy:=hid (HZ5.out.mono b6)
        clear b6 HB5 HZ5
        go_wp2_with fail
        refine (HF.out wy (HR.out _ HBy.out)).mono ?_
        rintro e w6 ⟨rfl,b6⟩
        have HB6:=hid (Ac HBy.out b6)
        have HZ6:=hid (HZy.out.mono b6)
        clear b6 HBy HZy
        unfold FM
        go_wp2_with (first
          | ((with_reducible refine CB rfl _ _ rfl w6.heap.size rfl i rfl rfl (Oj w6) ?_);intro w10 k10 g10;have K10:=hid k10;have G10:=hid g10;clear k10 g10)
          | (with_reducible refine Gk rfl _ rfl w6.heap.size rfl i K10.out ?_))
        have HBa:=hid (AS (HB6.out.alloc HB6.out.size (.cells #[ν 0,ν 0,ν 0,ν 0,ν 0,ν 0,ν 0,ν 0,ν 0,ν 0,ν 0,ν 0,ν 0,ν 0,ν 0] 40)) G10.out HB6.out.size (Nat.le_trans HB6.out.size (Iw w6 (.cells #[ν 0,ν 0,ν 0,ν 0,ν 0,ν 0,ν 0,ν 0,ν 0,ν 0,ν 0,ν 0,ν 0,ν 0,ν 0] 40)).size))
        have HZa:=hid ((HZ6.out.mono (Iw w6 (.cells #[ν 0,ν 0,ν 0,ν 0,ν 0,ν 0,ν 0,ν 0,ν 0,ν 0,ν 0,ν 0,ν 0,ν 0,ν 0] 40))).grownS G10.out (show w.heap.size≠w6.heap.size from Nat.ne_of_lt HZ6.out.lt))
        refine (hP.out w10).mono ?_
        rintro e w8 ⟨a8,c8,rfl,o8,b8⟩
        have HB8:=hid (Ac HBa.out b8)
        have HZ8:=hid (HZa.out.mono b8)
        have K8:=hid (K10.out.mono b8)
        have O8:=hid o8.row
        clear b8 o8 HBa HZa HB6 HZ6
        have HE:=hid (EPP.out a8 c8 w8 O8.out (HR.out _ HB8.out))
        go_wp2_with fail
        refine HE.out.mono ?_
        rintro e w7 ⟨rfl,b7⟩
        have HB7:=hid (Ac HB8.out b7)
        have HZ7:=hid (HZ8.out.mono b7)
        clear b7
        go_wp2_with (((with_reducible refine CB rfl _ _ rfl w.heap.size rfl BS rfl HZC.out HZ7.out ?_);intro w9 k9 g9;have K9:=hid k9;have G9:=hid g9;clear k9 g9))
        refine bodyPost_ret (BX rfl rfl K9.out υ40 rfl (by rw [ES];rfl)) rfl ?_
        exact ⟨rfl,AS HB7.out G9.out (Nat.le_refl _) HB7.out.size⟩
  · rw [decide_eq_false hu] at hr1
    obtain ⟨e1,e2⟩:=hr1 rfl
    rw [e1,e2]
    have hne:((u:Int) != (z:Int))=true:=by simp;omega
    clear e1 e2 hr1 hr2 hr3 hu
    go_enter func33,ntmps33
    go_wp2_with fail
    refine (P0.out _).mono ?_
    rintro e w4 ⟨a4,c4,rfl,o4,b4⟩
    have HB4:=hid (Ac HB.out b4)
    have HZ4:=hid (HZ.out.mono b4)
    have HE:=hid (EZ.out a4 c4 w4 (HR.out _ HB4.out) o4.row)
    clear b4 o4
    go_wp2_with fail
    refine HE.out.mono ?_
    rintro e w5 ⟨rfl,b5⟩
    have HB5:=hid (Ac HB4.out b5)
    have HZ5:=hid (HZ4.out.mono b5)
    clear b5 HB4 HZ4 HE
    go_wp2_with fail
    refine (hG.out w5 (HR.out _ HB5.out)).mono ?_
    rintro e wx ⟨rfl,rfl⟩
    go_wp2_with fail
    refine (HSum.out w5 (HR60.out _ HB5.out)).mono ?_
    rintro e w6 ⟨rfl,b6⟩
    have HB5z:=hid (Ac HB5.out b6)
    have HZ5z:=hid (HZ5.out.mono b6)
    clear b6 HB5 HZ5
    have HB5:=hid HB5z.out;have HZ5:=hid HZ5z.out
    go_wp2_with (((with_reducible refine CB rfl _ _ rfl w.heap.size rfl BS rfl HZC.out HZ5.out ?_);intro w9 k9 g9;have K9:=hid k9;have G9:=hid g9;clear k9 g9))
    refine bodyPost_ret (BX rfl rfl K9.out υ40 rfl (by rw [ES];rfl)) rfl ?_
    exact ⟨rfl,AS HB5.out G9.out (Nat.le_refl _) HB5.out.size⟩
end
section
open Go.RowKit Go.WideShapes
def Al (xs:Λ):Array Value:=(xs.map Ad).toArray
theorem Kw (xs:Λ):(Al xs).size=xs.length:=by simp [Al]
theorem Sr (xs:Λ):(Al xs).all (·.oneCell')=true:=all_oneCell_toArray (CN xs)
theorem Sd {w w':World} {h:Nat} (g:w.grownBy w' (some h)) (i:Nat) (v:Value):w.grownBy (w'.setCell ⟨h,i,none⟩ v) (some h):=
  ⟨g.os,g.tape,g.output,by simp [World.setCell];exact g.size,fun k hk hne=>by
    rw [Below.heap_setCell _ _ _ _ (by rintro rfl;exact hne rfl)];exact g.block k hk hne⟩
theorem Kt (w:World) (r:Option Nat):w.grownBy w r:=⟨rfl,rfl,rfl,Nat.le_refl _,fun _ _ _=>rfl⟩
theorem OC {w w1 w2:World} {r:Option Nat} (a:w.grownBy w1 r) (b:w1.grownBy w2 r):w.grownBy w2 r:=
  ⟨b.os.trans a.os,b.tape.trans a.tape,b.output.trans a.output,Nat.le_trans a.size b.size,fun k hk hne=>(b.block k (Nat.lt_of_lt_of_le hk a.size) hne).trans (a.block k hk hne)⟩
def JI (xs:Λ) (k:Nat):Bool:=(bAt xs (k / 8)).testBit (k % 8)
def MQ (xs:Λ) (n:Int):Bool:=decide (1≤n∧n≤128)&&JI xs (n-1).toNat
theorem Zz (x r:Nat):(((x &&& 2 ^ r:Nat):Int) != 0)=x.testBit r:=by
  rw [show (((x &&& 2 ^ r:Nat):Int) != 0)=decide (¬ ((x &&& 2 ^ r:Nat):Int)=0) from by simp [bne,BEq.beq]]
  have e:x &&& 2 ^ r=if x.testBit r then 2 ^ r else 0:=by
    apply Nat.eq_of_testBit_eq
    intro i
    rw [Nat.testBit_and,Nat.testBit_two_pow]
    by_cases h:r=i
    · subst h
      by_cases hb:x.testBit r=true
      · rw [if_pos hb];simp [hb]
      · rw [if_neg hb];simp [hb]
    · by_cases hb:x.testBit r=true
      · rw [if_pos hb];simp [h,Nat.testBit_two_pow]
      · rw [if_neg hb];simp [h]
  rw [e]
  have:=Nat.two_pow_pos r
  by_cases hb:x.testBit r=true
  · rw [if_pos hb,hb];exact decide_eq_true ω
  · rw [if_neg hb];simp [hb]
theorem Jf:(prog.info? 100).map (·.size)=some 16:=κ
theorem FU {w:World} {g:Nat} {e:TypeId} {L:List Value} (h:Blk w g e L):w.rangeAt g 0 L:=fun j v hv=>by
  have hj:=(List.getElem?_eq_some_iff.1 hv).1
  rw [Nat.zero_add,Blk.cell h hj,← hv,List.getElem?_eq_getElem hj]
theorem UK {w:World} {g:Nat} {e:TypeId} {L:List Value} (h:Blk w g e L):w.there g 0 L.length:=fun j hj=>by
  rw [Nat.zero_add,Blk.cell h hj];exact ⟨rfl,Blk.frozen h j⟩
theorem IP {g:Nat} {e:TypeId}:∀ (vs:List Value) (o:Nat) (w:World) (L:List Value),Blk w g e L→o+vs.length≤L.length→Blk (w.setCells g o vs) g e (splice L o vs)∧w.grownBy (w.setCells g o vs) (some g)
  | [],o,w,L,h,_=>by
    refine ⟨?_,Kt w _⟩
    simp [splice];exact h
  | v::r,o,w,L,h,hl=>by
    simp only [List.length_cons] at hl
    have h1:=Blk.set h o v
    obtain ⟨h2,h3⟩:=IP r (o+1) _ _ h1 (by simp;omega)
    refine ⟨?_,OC (Sd (Kt w _) o v) h3⟩
    have e1:splice (L.set o v) (o+1) r=splice L o (v::r):=by
      apply List.ext_getElem?
      intro i
      rw [getElem?_splice _ _ _ (by simp;omega),getElem?_splice _ _ _ (by simp;omega)]
      by_cases h0:i=o
      · subst h0
        rw [if_neg ω,if_pos (by simp)]
        simp [List.getElem?_set,show i<L.length by omega]
      · by_cases h4:o+1≤i∧i<o+1+r.length
        · rw [if_pos h4,if_pos (by simp;omega),show i-o=(i-(o+1))+1 by omega,List.getElem?_cons_succ]
        · rw [if_neg h4,if_neg (by simp;omega),List.getElem?_set_ne ω]
    rw [← e1];exact h2
theorem Gl {w:World} {ops:Array Oper} {rest:List Oper} {o:Oper} {act:Act} {Q:Exit→Act→World→Prop} (hgd:o.guard=none) (x:Operand)
    (ho:o.op=.load 100 x) (g:Nat) (hx:act.eval x=π g) {e:TypeId} (xs:Λ) (hl:xs.length=16) (hb:Blk w g e (xs.map Ad))
    (h:wpList prog ops Q rest (act.put o.dst (.agg (Al xs))) w):wpList prog ops Q (o::rest) act w:=
  wpList_load_mid hgd 100 x ho g 0 hx (xs.map Ad) _ (FU hb) υ100 rfl (by rw [Jf];simp [hl]) h
theorem FJ {w:World} {ops:Array Oper} {rest:List Oper} {o:Oper} {act:Act} {Q:Exit→Act→World→Prop} (hgd:o.guard=none) (x y:Operand)
    (ho:o.op=.store 100 x y) (g:Nat) (hx:act.eval x=π g) {e:TypeId} (xs:Λ) (hy:act.eval y=.agg (Al xs)) (hl:xs.length=16) {L:List Value} (hb:Blk w g e L) (hL:L.length=16)
    (h:∀ w',Blk w' g e (xs.map Ad)→w.grownBy w' (some g)→wpList prog ops Q rest (act.put o.dst undef) w'):wpList prog ops Q (o::rest) act w:=by
  have ht:=UK hb
  rw [hL] at ht
  refine wpList_store_mid hgd 100 x y ho g 0 (Al xs) hx hy (by rw [Kw,hl];exact ht) (by rw [Jf,Kw,hl]) (Sr xs) ?_
  obtain ⟨h1,h2⟩:=IP (xs.map Ad) 0 w L hb (by simp;omega)
  have e1:splice L 0 (xs.map Ad)=xs.map Ad:=by
    unfold splice
    simp [List.drop_eq_nil_of_le,hL,hl]
  rw [e1] at h1
  exact h _ h1 h2
theorem KD {fn:Func} {c:Tmp} (h:fn.results=#[.cell c 100]) {tmps:Array Value} {w:World} {g:Nat} {xs:Λ} (hc:tmps.getD c undef=π g) {e:TypeId} (hb:Blk w g e (xs.map Ad)) (hl:xs.length=16) :
    (results fn tmps).run prog w=.ok (.agg (Al xs)) w:=by
  have hv:=run_loadVar_mid (P:=prog) w g 0 100 (xs.map Ad) _ (FU hb) υ100 rfl (by rw [Jf];simp [hl])
  have hc':tmps[c]?.getD undef=π g:=by simpa using hc
  simp [results,h,hc',asAddr,hv,Al]
theorem map_set (xs:Λ) (q v:Nat) (hv:v<256):(xs.map Ad).set q (.int .u8 (v:Int))=(xs.set q (UInt8.ofNat v)).map Ad:=by
  rw [List.map_set]
  congr 1
  unfold Ad
  simp [Nat.mod_eq_of_lt hv]
def Zh (xs:Λ) (k:Nat):Λ:=xs.set (k / 8) (UInt8.ofNat (bAt xs (k / 8) ||| 2 ^ (k % 8)))
def Ab7 (xs:Λ) (k:Nat):Λ:=xs.set (k / 8) (UInt8.ofNat (bAt xs (k / 8) &&& (255-2 ^ (k % 8))))
def Bm (xs:Λ) (n:Int):Λ:=if 1≤n∧n≤128 then Zh xs (n-1).toNat else xs
def Ab8 (xs:Λ) (n:Int):Λ:=if 1≤n∧n≤128 then Ab7 xs (n-1).toNat else xs
theorem NM (k:Nat):2 ^ (k % 8)<256:=by
  have:k % 8<8:=Nat.mod_lt _ ω
  calc 2 ^ (k % 8)≤2 ^ 7:=Nat.pow_le_pow_right ω ω
    _<256:=ω
theorem Yq (a b:Nat) (ha:a<256) (hb:b<256):a ||| b<256:=Nat.or_lt_two_pow (n:=8) ha hb
theorem AX (xs:Λ) (n:Int):(Bm xs n).length=xs.length:=by unfold Bm Zh;split<;>simp
theorem Br (xs:Λ) (n:Int):(Ab8 xs n).length=xs.length:=by unfold Ab8 Ab7;split<;>simp
end
section
open Go.RowKit Go.WideShapes
theorem ET (n:Int) (w:World) :
    Calls prog 164 #[ν n] w fun e w'=>e=.returned (.bool (decide (1≤n∧n≤128)))∧w=w':=by
  rcases (ω:n<1∨(1≤n∧n≤128)∨(1≤n∧128<n)) with h | ⟨h1,h2⟩ | ⟨h1,h2⟩
  · rw [decide_eq_false ω]
    go_enter func164,ntmps164
    go_wp2
    go_ret
    exact ⟨rfl,rfl⟩
  · rw [decide_eq_true ω]
    go_enter func164,ntmps164
    go_wp2
    go_ret
    exact ⟨AR (by first | rfl | (simp;done) | (simp;omega)),rfl⟩
  · rw [decide_eq_false ω]
    go_enter func164,ntmps164
    go_wp2
    go_ret
    exact ⟨AR (by first | rfl | (simp;done) | (simp;omega)),rfl⟩
theorem TE (k:Nat) (w:World) (hk:k<128) :
    Calls prog 165 #[ν ((k:Int)+1)] w fun e w'=>e=.returned (.int .u8 ((2 ^ (k % 8):Nat):Int))∧w=w':=by
  have h1:(k:Int)+1-1=k:=ω
  have h2:(k:Int).tmod 8=((k % 8:Nat):Int):=rfl
  have h3:IntKind.i64.wrap (k:Int)=k:=IntWalk.i64_in _ ω
  have h4:k % 8<8:=Nat.mod_lt _ ω
  generalize k % 8=r at *
  have h5:IntKind.i64.wrap (r:Int)=r:=IntWalk.i64_in _ ω
  rcases (ω:r=0∨r=1∨r=2∨r=3∨r=4∨r=5∨r=6∨r=7) with rfl | rfl | rfl | rfl | rfl | rfl | rfl | rfl
  all_goals
    go_enter func165,ntmps165
    go_wp2
    go_ret
    exact ⟨rfl,rfl⟩
theorem XY (xs:Λ) (w:World) {j:Nat} (hj:j<xs.length):∀ n,((w.alloc (.cells (Al xs) 100)).drewN n).cell? ⟨w.heap.size,j,none⟩=some (.int .u8 (bAt xs j:Int)):=by
  intro n
  have H:Blk ((w.alloc (.cells (Al xs) 100)).drewN n) w.heap.size 100 (xs.map Ad):=heap_alloc_new w _
  rw [Blk.cell H (i:=j) (by simpa using hj)]
  simp [Ad,DL hj]
theorem Rk (xs:Λ) (n:Int) (w:World) (hx:xs.length=16) (hn:-9223372036854775808≤n∧n≤9223372036854775807) :
    Calls prog 163 #[.agg (Al xs),ν n] w fun e w'=>e=.returned (.bool (MQ xs n))∧Below w.heap.size w w':=by
  by_cases h:1≤n∧n≤128
  · obtain ⟨k,rfl⟩:∃ k:Nat,n=(k:Int)+1:=⟨(n-1).toNat,ω⟩
    have hk:k<128:=ω
    have hU:MQ xs ((k:Int)+1)=JI xs k:=by
      unfold MQ;rw [decide_eq_true h];simp
    rw [hU]
    have d1:decide (1≤(k:Int)+1∧(k:Int)+1≤128)=true:=decide_eq_true h
    have h1:(k:Int)+1-1=k:=ω
    have h2:(k:Int).tdiv 8=((k / 8:Nat):Int):=rfl
    have h3:IntKind.i64.wrap (k:Int)=k:=IntWalk.i64_in _ ω
    have h4:k / 8<16:=ω
    have h5:IntKind.i64.wrap ((k / 8:Nat):Int)=(k / 8:Nat):=IntWalk.i64_in _ ω
    have hc:=XY xs w (ω:k / 8<xs.length) 0
    change (w.alloc (.cells (Al xs) 100)).cell? _=_ at hc
    have hand:=u8_and_nat (bAt xs (k / 8)) (2 ^ (k % 8)) (EH _ _) (by have:k % 8<8:=Nat.mod_lt _ ω;calc 2 ^ (k % 8)≤2 ^ 7:=Nat.pow_le_pow_right ω ω
                                                                                 _<256:=ω)
    have hbit:=Zz (bAt xs (k / 8)) (k % 8)
    have hbb:JI xs k=(bAt xs (k / 8)).testBit (k % 8):=rfl
    rw [hbb]
    have HB:=hid (fun w1=>TE k w1 hk)
    generalize k / 8=q at *
    generalize k % 8=r at *
    generalize bAt xs q=x at *
    generalize (x.testBit r)=tb at *
    generalize ((2 ^ r:Nat):Int)=p at *
    go_enter func163,ntmps163
    go_wp2_with fail
    go_region_with (first
      | (go_at_call 164;refine (ET _ _).mono ?_;rintro e w1 ⟨rfl,rfl⟩;rw [d1])
      | (go_at_call 165;refine (HB.out _).mono ?_;rintro e w1 ⟨rfl,rfl⟩))
    all_goals
      go_wp2_with fail
      go_ret
      exact ⟨rfl,((Below.refl _ w).alloc (Nat.le_refl _) _).drew⟩
  · have hU:MQ xs n=false:=by unfold MQ;rw [decide_eq_false h];rfl
    rw [hU]
    have d1:decide (1≤n∧n≤128)=false:=decide_eq_false h
    go_enter func163,ntmps163
    go_wp2_with fail
    first
    | (go_region_with (first
      | (go_at_call 164;refine (ET _ _).mono ?_;rintro e w1 ⟨rfl,rfl⟩;rw [d1])))
    | fail
    all_goals
      go_wp2_with fail
      go_ret
      exact ⟨rfl,((Below.refl _ w).alloc (Nat.le_refl _) _).drew⟩
end
section
open Go.RowKit Go.WideShapes
theorem KU (w:World) (xs:Λ) (o:Obj):Blk ((w.alloc (.cells (Al xs) 100)).alloc o) w.heap.size 100 (xs.map Ad):=
  Blk.mono (show Blk (w.alloc (.cells (Al xs) 100)) w.heap.size 100 (xs.map Ad) from heap_alloc_new w _) ((Below.refl _ _).alloc (Nat.le_refl _) o)
theorem WM (w:World) (xs:Λ) {j:Nat} (hj:j<xs.length) (o:Obj):((w.alloc (.cells (Al xs) 100)).alloc o).cell? ⟨w.heap.size,j,none⟩=some (.int .u8 (bAt xs j:Int)):=by
  rw [Blk.cell (KU w xs o) (i:=j) (by simpa using hj)]
  simp [Ad,DL hj]
theorem Rw (w:World) (xs:Λ) (j:Nat) (o:Obj):((w.alloc (.cells (Al xs) 100)).alloc o).frozen? ⟨w.heap.size,j,none⟩=false:=Blk.frozen (KU w xs o) j
def AM:Λ:=List.replicate 16 0
theorem Uf (w:World) (xs:Λ):Blk ((w.alloc (.cells (Al xs) 100)).alloc (.cells (Al AM) 100)) (w.heap.size+1) 100 (AM.map Ad):=by
  have:=heap_alloc_new (w.alloc (.cells (Al xs) 100)) (.cells (Al AM) 100)
  rw [show (w.alloc (.cells (Al xs) 100)).heap.size=w.heap.size+1 from by simp] at this
  exact this
theorem Tv:(#[.int .u8 0,.int .u8 0,.int .u8 0,.int .u8 0,.int .u8 0,.int .u8 0,.int .u8 0,.int .u8 0,.int .u8 0,.int .u8 0,.int .u8 0,.int .u8 0,.int .u8 0,.int .u8 0,.int .u8 0,.int .u8 0]:Array Value)=Al AM:=rfl
theorem Ya (xs:Λ) (q v:Nat) (hv:v<256):(Al xs).setIfInBounds q (.int .u8 (v:Int))=Al (xs.set q (UInt8.ofNat v)):=by
  unfold Al;rw [← map_set xs q v hv];simp
theorem Rh (xs:Λ) (n:Int) (w:World) (hx:xs.length=16) (hn:-9223372036854775808≤n∧n≤9223372036854775807) :
    Calls prog 143 #[.agg (Al xs),ν n] w fun e w'=>e=.returned (.agg (Al (Bm xs n)))∧Below w.heap.size w w':=by
  by_cases h:1≤n∧n≤128
  · obtain ⟨k,rfl⟩:∃ k:Nat,n=(k:Int)+1:=⟨(n-1).toNat,ω⟩
    have hk:k<128:=ω
    have hU:Bm xs ((k:Int)+1)=xs.set (k / 8) (UInt8.ofNat (bAt xs (k / 8) ||| 2 ^ (k % 8))):=by
      unfold Bm;rw [if_pos h];simp [Zh]
    rw [hU]
    have d1:decide (1≤(k:Int)+1∧(k:Int)+1≤128)=true:=decide_eq_true h
    have h1:(k:Int)+1-1=k:=ω
    have h2:(k:Int).tdiv 8=((k / 8:Nat):Int):=rfl
    have h3:IntKind.i64.wrap (k:Int)=k:=IntWalk.i64_in _ ω
    have h4:k / 8<16:=ω
    have h5:IntKind.i64.wrap ((k / 8:Nat):Int)=(k / 8:Nat):=IntWalk.i64_in _ ω
    have hc:=WM w xs (ω:k / 8<xs.length)
    have hf:=Rw w xs (k / 8)
    have hop:=u8_or_nat (bAt xs (k / 8)) (2 ^ (k % 8)) (EH _ _) (NM k)
    have hv:bAt xs (k / 8) ||| 2 ^ (k % 8)<256:=Yq _ _ (EH _ _) (NM k)
    have hset:=Ya xs (k / 8) (bAt xs (k / 8) ||| 2 ^ (k % 8)) hv
    have hls:(xs.set (k / 8) (UInt8.ofNat (bAt xs (k / 8) ||| 2 ^ (k % 8)))).length=16:=by simpa using hx
    have HB:=hid (fun w1=>TE k w1 hk)
    generalize xs.set (k / 8) (UInt8.ofNat (bAt xs (k / 8) ||| 2 ^ (k % 8)))=ys at *
    generalize k / 8=q at *
    generalize k % 8=r at *
    generalize bAt xs q=x at *
    generalize hval:(x ||| 2 ^ r:Nat)=val at *
    generalize ((2 ^ r:Nat):Int)=p at *
    have HS:=hid hset
    clear hset hval
    go_enter func143,ntmps143
    go_wp2_with fail
    refine (ET _ _).mono ?_
    rintro e w1 ⟨rfl,rfl⟩
    rw [d1]
    go_wp2_with fail
    rw [Tv]
    first
    | (go_region_with (first
        | (go_at_call 165;refine (HB.out _).mono ?_;rintro e w1 ⟨rfl,rfl⟩)))
    | fail
    all_goals
      rw [HS.out]
      have K0:=Blk.drew (KU w ys (.cells (Al AM) 100))
      have N0:=Blk.drew (Uf w ys)
      have B0:Below w.heap.size w ((w.alloc (.cells (Al ys) 100)).alloc (.cells (Al AM) 100)).drew:=(((Below.refl _ w).alloc (Nat.le_refl _) _).alloc (by simp) _).drew
      generalize ((w.alloc (.cells (Al ys) 100)).alloc (.cells (Al AM) 100)).drew=w2 at *
      go_wp2_with (first
        | (with_reducible refine Gl rfl _ rfl w.heap.size rfl ys hls K0 ?_)
        | (with_reducible refine FJ rfl _ _ rfl (w.heap.size+1) rfl ys rfl hls N0 rfl ?_;intro w3 k3 g3))
      refine bodyPost_ret (KD rfl rfl k3 hls) rfl ⟨rfl,?_⟩
      exact B0.grown g3 B0.size (fun k hk=>by cases hk;omega)
  · have hU:Bm xs n=xs:=by unfold Bm;rw [if_neg h]
    rw [hU]
    have d1:decide (1≤n∧n≤128)=false:=decide_eq_false h
    go_enter func143,ntmps143
    go_wp2_with fail
    refine (ET _ _).mono ?_
    rintro e w1 ⟨rfl,rfl⟩
    rw [d1,Tv]
    have K0:=KU w xs (.cells (Al AM) 100)
    have N0:=Uf w xs
    have B0:Below w.heap.size w ((w.alloc (.cells (Al xs) 100)).alloc (.cells (Al AM) 100)):=(((Below.refl _ w).alloc (Nat.le_refl _) _).alloc (by simp) _)
    generalize ((w.alloc (.cells (Al xs) 100)).alloc (.cells (Al AM) 100))=w2 at *
    go_wp2_with (first
      | (with_reducible refine Gl rfl _ rfl w.heap.size rfl xs hx K0 ?_)
      | (with_reducible refine FJ rfl _ _ rfl (w.heap.size+1) rfl xs rfl hx N0 rfl ?_;intro w3 k3 g3))
    refine bodyPost_ret (KD rfl rfl k3 hx) rfl ⟨rfl,?_⟩
    exact B0.grown g3 B0.size (fun k hk=>by cases hk;omega)
end
section
open Go.RowKit Go.WideShapes
theorem Of {w:World} {ops:Array Oper} {rest:List Oper} {o:Oper} {act:Act} {Q:Exit→Act→World→Prop} (x:Operand)
    (ho:o.op=.load 100 x) (g:Nat) (hx:act.eval x=π g) {e:TypeId} (xs:Λ) (hl:xs.length=16) (hb:Blk w g e (xs.map Ad))
    (hw:Region.wanted o (yielded ops act.tmps)=true)
    (h:wpList prog ops Q rest (act.put o.dst (.agg (Al xs))) w):wpList prog ops Q (o::rest) act w:=
  wpList_step fun K hK=>by
    simp only [hw,if_true]
    exact wp_load_mid 100 x ho g 0 hx (xs.map Ad) _ (FU hb) υ100 rfl (by rw [Jf];simp [hl]) (hK _ _ h)
def Da (xs:Λ) (frm:Int):Nat→Nat→Int
  | 0,_=>0
  | k+1,i=>if frm≤(i:Int)+1∧JI xs i=false then (i:Int)+1 else Da xs frm k (i+1)
def Aq (xs:Λ) (frm:Int):Int:=Da xs frm 128 0
theorem RV (xs:Λ) (frm:Int) {j:Nat} (h:j<128):Da xs frm (128-j) j=if frm≤(j:Int)+1∧JI xs j=false then (j:Int)+1 else Da xs frm (128-(j+1)) (j+1):=by
  rw [show 128-j=(128-(j+1))+1 by omega];rfl
theorem MR (xs:Λ) {j:Nat} (h:j<128):MQ xs ((j:Int)+1)=JI xs j:=by
  unfold MQ;rw [decide_eq_true ω];simp
theorem Ve (xs:Λ) (frm:Int) (w:World) (hx:xs.length=16) (hn:-9223372036854775808≤frm∧frm≤9223372036854775807) :
    Calls prog 142 #[.agg (Al xs),ν frm] w fun e w'=>e=.returned (ν (Aq xs frm))∧Below w.heap.size w w':=by
  have K0:Blk (w.alloc (.cells (Al xs) 100)) w.heap.size 100 (xs.map Ad):=heap_alloc_new w _
  have B0:Below w.heap.size w (w.alloc (.cells (Al xs) 100)):=(Below.refl _ w).alloc (Nat.le_refl _) _
  generalize hR:Aq xs frm=R
  have HR:=hid (show Da xs frm (128-0) 0=R from hR)
  clear hR
  go_enter func142,ntmps142
  go_wp2_with fail
  generalize (w.alloc (.cells (Al xs) 100))=w1 at *
  go_loopw [7] (fun i wr=>∃ j:Nat,j≤128∧i=ν j∧Da xs frm (128-j) j=R∧Blk wr w.heap.size 100 (xs.map Ad)∧Below w.heap.size w wr)
    (fun i _=>128-(intOf i).toNat)
  case atStart=>exact ⟨0,ω,rfl,HR.out,K0,B0⟩
  case round=>
    obtain ⟨j,hj,rfl,hp,kr,br⟩:=hrel
    by_cases hlt:j<128
    · rw [RV xs frm hlt] at hp
      have HU:=hid (fun w1=>Rk xs ((j:Int)+1) w1 hx ω)
      rw [MR xs hlt] at HU
      by_cases hf:frm≤(j:Int)+1
      · cases hb:JI xs j
        · rw [if_pos ⟨hf,hb⟩] at hp
          rw [hb] at HU
          have HP:=hid hp
          clear hb hp HR
          go_wp2_with (first
            | ((with_reducible refine Of (.tmp 2) rfl w.heap.size rfl xs hx kr ?hw ?_);(case hw=>exact (Eq.refl true)))
            | (go_at_call 163;refine (HU.out _).mono ?_;rintro e w2 ⟨rfl,b2⟩))
          go_ret
          exact ⟨FE HP.out,Av br b2 br.size⟩
        · rw [if_neg (by rw [hb];simp)] at hp
          rw [hb] at HU
          have HP:=hid hp
          clear hb hp HR
          go_wp2_with (first
            | ((with_reducible refine Of (.tmp 2) rfl w.heap.size rfl xs hx kr ?hw ?_);(case hw=>exact (Eq.refl true)))
            | (go_at_call 163;refine (HU.out _).mono ?_;rintro e w2 ⟨rfl,b2⟩))
          go_roundw
          case rel=>exact ⟨j+1,ω,by go_num,HP.out,Blk.mono kr b2,Av br b2 br.size⟩
          case measure=>simp [intOf];omega
      · rw [if_neg (fun h=>hf h.1)] at hp
        have HP:=hid hp
        clear hp HR HU
        go_wp2_with fail
        go_roundw
        case rel=>exact ⟨j+1,ω,by go_num,HP.out,kr,br⟩
        case measure=>simp [intOf];omega
    · obtain rfl:j=128:=ω
      have HP:=hid hp
      clear hp HR
      go_wp2_with fail
      go_ret
      exact ⟨FE HP.out,br⟩
def Ep (xs:Λ) (n:Nat):List Nat:=(List.range n).filter (JI xs)
def Adb (n:Nat):Value:=ν ((n:Int)+1)
theorem WF (xs:Λ) (j:Nat):Ep xs (j+1)=if JI xs j=true then Ep xs j++[j] else Ep xs j:=by
  unfold Ep
  rw [List.range_succ,List.filter_append]
  cases h:JI xs j<;>simp [h]
theorem TA (xs:Λ) (j:Nat):(Ep xs j).length≤j:=by
  unfold Ep
  have:=List.length_filter_le (JI xs) (List.range j)
  simpa using this
theorem EI:ElemT prog 161 3 1 8:=Lv υ161 (z:=ν 0) κ rfl ω
theorem Zx (xs:Λ) (w:World) (hx:xs.length=16) :
    Calls prog 162 #[.agg (Al xs)] w fun e w'=>∃ a c,e=.returned (.slice a (Ep xs 128).length c)∧Own w' w.heap.size 3 1 a (Ep xs 128).length c ((Ep xs 128).map Adb)∧Below w.heap.size w w':=by
  have K0:Blk (w.alloc (.cells (Al xs) 100)) w.heap.size 100 (xs.map Ad):=heap_alloc_new w _
  have B0:Below w.heap.size w (w.alloc (.cells (Al xs) 100)):=(Below.refl _ w).alloc (Nat.le_refl _) _
  go_enter func162,ntmps162
  go_wp2_with fail
  generalize (w.alloc (.cells (Al xs) 100))=w1 at *
  have hsz1:w.heap.size+1≤w1.heap.size:=K0.lt
  go_loopw [3,5] (fun l i wr=>∃ (j:Nat) (a':Ω) (c':Nat),j≤128∧i=ν j∧l=.slice a' (Ep xs j).length c'∧Own wr (w.heap.size+1) 3 1 a' (Ep xs j).length c' ((Ep xs j).map Adb)∧Blk wr w.heap.size 100 (xs.map Ad)∧Below w.heap.size w wr)
    (fun _ i _=>128-(intOf i).toNat)
  case atStart=>exact ⟨0,none,0,ω,rfl,rfl,Own.nil _ _ _ _,K0,B0⟩
  case round=>
    obtain ⟨j,a',c',hj,rfl,rfl,ho,kr,br⟩:=hrel
    have hstep:=WF xs j
    have hll:=TA xs j
    by_cases hlt:j<128
    · have HU:=hid (fun w1=>Rk xs ((j:Int)+1) w1 hx ω)
      rw [MR xs hlt] at HU
      cases hb:JI xs j
      · rw [if_neg (by rw [hb];simp)] at hstep
        rw [hb] at HU
        have HS:=hid hstep
        clear hb hstep
        generalize Ep xs j=L at *
        go_wp2_with (first
          | ((with_reducible refine Gl rfl (.tmp 1) rfl w.heap.size rfl xs hx kr ?_))
          | (go_at_call 163;refine (HU.out _).mono ?_;rintro e w2 ⟨rfl,b2⟩))
        go_roundw
        case rel=>exact ⟨j+1,a',c',ω,by go_num,by rw [HS.out],by rw [HS.out];exact Own.mono ho b2,Blk.mono kr b2,Av br b2 br.size⟩
        case measure=>simp [intOf];omega
      · rw [if_pos hb] at hstep
        rw [hb] at HU
        have HS:=hid hstep
        clear hb hstep
        generalize Ep xs j=L at *
        go_wp2_with (first
          | ((with_reducible refine Gl rfl (.tmp 1) rfl w.heap.size rfl xs hx kr ?_))
          | (go_at_call 163;refine (HU.out _).mono ?_;rintro e w2 ⟨rfl,b2⟩;have b2s:=b2.size)
          | (at_builtin;refine CA rfl (.tmp 12) (.tmp 15) rfl EI (w.heap.size+1) rfl rfl ((Own.mono ho b2).alloc _) (YJ _ _ _) (by simp [Value.oneCell']) ω ω (by have:=kr.lt;simp;omega) ?_;intro a3 c3 w3 o3 g3 b3))
        go_roundw
        case rel=>
          refine ⟨j+1,a3,c3,ω,by go_num,?_,?_,?_,?_⟩
          · rw [HS.out];simp
          · rw [HS.out];simpa [Adb] using o3
          · exact Blk.below ((Blk.mono kr b2).mono ((Below.refl _ _).alloc (Nat.le_refl _) _)) b3 ω
          · exact (Av br b2 br.size |>.alloc (by have:=kr.lt;omega) _).trans (b3.mono ω)
        case measure=>simp [intOf];omega
    · obtain rfl:j=128:=ω
      clear hstep
      go_wp2_with fail
      go_ret
      exact ⟨_,_,rfl,ho.low ω,br⟩
theorem UQ (xs:Λ) (w:World) (hx:xs.length=16) :
    Calls prog 141 #[.agg (Al xs)] w fun e w'=>e=.returned (ν (Ep xs 128).length)∧Below w.heap.size w w':=by
  have K0:Blk (w.alloc (.cells (Al xs) 100)) w.heap.size 100 (xs.map Ad):=heap_alloc_new w _
  have B0:Below w.heap.size w (w.alloc (.cells (Al xs) 100)):=(Below.refl _ w).alloc (Nat.le_refl _) _
  have HA:=hid (fun w1=>Zx xs w1 hx)
  have hll:=TA xs 128
  generalize Ep xs 128=L at *
  go_enter func141,ntmps141
  go_wp2_with (first
    | ((with_reducible refine Gl rfl (.tmp 1) rfl w.heap.size rfl xs hx K0 ?_))
    | (go_at_call 162;refine (HA.out _).mono ?_;rintro e w2 ⟨a2,c2,rfl,o2,b2⟩))
  go_ret
  exact ⟨rfl,Av B0 b2 B0.size⟩
end
section
open Go.RowKit Go.WideShapes
def woB (xs ys:Λ) (j:Nat):Nat:=bAt xs j &&& (255-bAt ys j)
def Zo (xs ys:Λ) (i:Nat):Λ:=(List.range 16).map fun j=>UInt8.ofNat (if j<i then woB xs ys j else bAt xs j)
def Aga (xs ys:Λ):Λ:=Zo xs ys 16
end
section
open Go.RowKit Go.WideShapes
end
section
open Go.RowKit Go.WideShapes
theorem WL {w:World} {g:Nat} {e:TypeId} {xs:Λ} (h:Blk w g e (xs.map Ad)) (hl:xs.length=16):RowB w (some ⟨g,0,none⟩) 16 xs:=by
  refine ⟨by simp,ω,by unfold maxLen;omega,fun h=>by (cases h),fun _=>⟨g,0,rfl,h.lt,fun j u hu=>?_⟩⟩
  have:=FU h j u hu
  exact this
theorem Su (xs:Λ) (w:World) (hx:xs.length=16) :
    Calls prog 85 #[.agg (Al xs)] w fun e w'=>UC w xs e w':=by
  have K0:Blk (w.alloc (.cells (Al xs) 100)) w.heap.size 100 (xs.map Ad):=heap_alloc_new w _
  have R0:=WL K0 hx
  have B0:Below w.heap.size w (w.alloc (.cells (Al xs) 100)):=(Below.refl _ w).alloc (Nat.le_refl _) _
  rw [← hx] at R0
  go_enter func85,ntmps85
  go_wp2_with (first
    | (at_builtin;refine CA rfl (.const (.slice none 0 0)) (.tmp 3) rfl E8 w.heap.size rfl (by first | rfl | (rw [← hx];rfl)) (Own.nil _ _ _ _) R0 (CN xs) ω ω (by simp) ?_;intro a1 c1 w1 o1 g1 b1))
  go_ret
  refine ⟨a1,c1,?_,?_,B0.trans b1⟩
  · first | rfl | (rw [hx];rfl)
  · simpa [CF] using o1
theorem Js {fn:Func} {c u:Tmp} (h:fn.results=#[.cell c 100,.tmp u]) {tmps:Array Value} {w:World} {g:Nat} {xs:Λ} (hc:tmps.getD c undef=π g) {e:TypeId} (hb:Blk w g e (xs.map Ad)) (hl:xs.length=16) :
    (results fn tmps).run prog w=.ok (.tuple #[.agg (Al xs),tmps.getD u undef]) w:=by
  have hv:=run_loadVar_mid (P:=prog) w g 0 100 (xs.map Ad) _ (FU hb) υ100 rfl (by rw [Jf];simp [hl])
  have hc':tmps[c]?.getD undef=π g:=by simpa using hc
  simp [results,h,hc',asAddr,hv,Al]
theorem WA {w:World} {ops:Array Oper} {rest:List Oper} {o:Oper} {act:Act} {Q:Exit→Act→World→Prop} (hgd:o.guard=none) (x:Operand)
    (ho:o.op=.load 100 x) (b off:Nat) (hx:act.eval x=.pointer (some ⟨b,off,none⟩)) (xs:Λ) (hl:xs.length=16) {c:Nat} (hr:RowB w (some ⟨b,off,none⟩) c xs)
    (h:wpList prog ops Q rest (act.put o.dst (.agg (Al xs))) w):wpList prog ops Q (o::rest) act w:=
  wpList_load_mid hgd 100 x ho b off hx (xs.map Ad) _ (fun j v hv=>by
    obtain ⟨b',off',e,_,hc⟩:=hr.at ω
    cases e
    exact hc j v hv) υ100 rfl (by rw [Jf];simp [hl]) h
theorem SV (a:Ω) (c:Nat) (w:World):(Instr.arrayAt 100 (.slice a 16 c)).run prog w=.ok (.pointer a) w:=by
  simp [Instr.arrayAt,run_underlying υ100]
def GI (xs:Λ):Λ:=if xs.length<16 then AM else xs.take 16
def YD (xs:Λ):Int:=if xs.length<16 then 3 else 0
theorem Vy (a:Ω) (c:Nat) (xs:Λ) (w:World) (ha:RowB w a c xs) :
    Calls prog 161 #[.slice a xs.length c] w fun e w'=>e=.returned (.tuple #[.agg (Al (GI xs)),ν (YD xs)])∧Below w.heap.size w w':=by
  have hl:=Ce ha
  have hcap:xs.length≤c:=ha.2.1
  have N0:Blk (w.alloc (.cells (Al AM) 100)) w.heap.size 100 (AM.map Ad):=heap_alloc_new w _
  have B0:Below w.heap.size w (w.alloc (.cells (Al AM) 100)):=(Below.refl _ w).alloc (Nat.le_refl _) _
  have hr:=Row.alloc ha (.cells (Al AM) 100)
  rw [← Tv] at N0 B0 hr
  by_cases h:xs.length<16
  · have h1:GI xs=AM:=if_pos h
    have h2:YD xs=3:=if_pos h
    rw [h1,h2]
    go_enter func161,ntmps161
    go_wp2_with (first
      | ((with_reducible refine FJ rfl _ _ rfl w.heap.size rfl AM ?hy rfl N0 rfl ?_);(case hy=>rfl);intro w3 k3 g3))
    refine bodyPost_ret (Js rfl rfl k3 rfl) rfl ⟨rfl,?_⟩
    exact B0.grown g3 B0.size (fun k hk=>by cases hk;omega)
  · have h1:GI xs=xs.take 16:=if_neg h
    have h2:YD xs=0:=if_neg h
    rw [h1,h2]
    obtain ⟨b,off,rfl,hb,_⟩:=ha.bytes ω
    have hr:=DC hr 16
    have hl16:(xs.take 16).length=16:=by simp;omega
    have h16:¬ ((xs.length:Int)<16):=ω
    have h16':(16:Nat)≤c:=ω
    have harr:=SV (some ⟨b,off,none⟩) c
    generalize xs.take 16=ys at *
    go_enter func161,ntmps161
    go_wp2_with (first
      | (with_reducible refine WA rfl _ rfl b off rfl ys hl16 hr ?_)
      | (with_reducible refine FJ rfl _ _ rfl w.heap.size rfl ys rfl hl16 N0 rfl ?_;intro w3 k3 g3))
    refine bodyPost_ret (Js rfl rfl k3 hl16) rfl ⟨rfl,?_⟩
    exact B0.grown g3 B0.size (fun k hk=>by cases hk;omega)
def Age (xs:Λ) (n:Nat):List Value:=(List.range n).map fun k=>Value.bool (JI xs k)
end
section
theorem SI:∀ x∈Bq,x.a+x.s≤23168:=by decide +kernel
theorem Dq {kd nm:Int} {q:PartT} (h:AT kd nm=some q):0≤q.a∧0≤q.s∧q.s≤4096∧q.a+q.s≤23168:=by
  have hm:q∈Bq:=List.mem_of_find?_eq_some h
  have h1:=Qv q hm
  have h2:=SI q hm
  omega
theorem Je {M:MemM} {kd nm:Int} {q:PartT} (hM:M.V.length=23168) (h:AT kd nm=some q):inM M q.a q.s=true:=by
  have:=Dq h
  exact decide_eq_true ω
def DI (kd nm:Int):Bool:=(AT kd nm).isSome
def As (M:MemM) (P:List PtM) (kd nm:Int):Λ:=match AT kd nm with
  | some q=>Dj M P q.a q.s
  | none=>[]
def ldE (kd nm:Int):Int:=if DI kd nm then 0 else 1
def stE (M:MemM) (P:List PtM) (kd nm:Int) (n:Nat):Int:=match AT kd nm with
  | some q=>Ly M P q.a n
  | none=>1
def stP (M:MemM) (P:List PtM) (kd nm:Int) (xs:Λ):List PtM:=match AT kd nm with
  | some q=>Kg M P q.a xs
  | none=>P
theorem BV {M:MemM} {P:List PtM} {kd nm:Int} {q:PartT} (h:AT kd nm=some q):As M P kd nm=Dj M P q.a q.s:=by unfold As;rw [h]
theorem Cc {M:MemM} {P:List PtM} {kd nm:Int} (h:AT kd nm=none):As M P kd nm=[]:=by unfold As;rw [h]
def Aj (M:MemM) (P:List PtM) (i:Int):InoT:=rdI (As M P 4 i)
def AU (M:MemM) (P:List PtM) (i:Int):Int:=if DI 4 i then (if rdE (As M P 4 i)=0 then 0 else 36) else 1
def CD (M:MemM) (P:List PtM) (i:Int) (x:InoT):Int:=if Ew x=0 then stE M P 4 i (Db x).length else Ew x
def BC (M:MemM) (P:List PtM) (i:Int) (x:InoT):List PtM:=if Ew x=0 then stP M P 4 i (Db x) else P
def Aw (M:MemM) (P:List PtM):Λ:=GI (As M P 3 0)
theorem AZ (xs:Λ):(GI xs).length=16:=by
  unfold GI;split
  · rfl
  · rw [List.length_take];omega
theorem Abh {xs:Λ} (h:rdE xs≠0):rdI xs=BS:=by
  unfold rdE at h;unfold rdI
  split<;>rename_i q1
  · rfl
  · rw [if_neg q1] at h
    split<;>rename_i q2
    · rfl
    · rw [if_neg q2] at h
      split<;>rename_i q3
      · rfl
      · rw [if_neg q3] at h
        split<;>rename_i q4
        · rw [if_pos q4] at h;exact absurd rfl h
        · rfl
theorem Vn {M:MemM} {P:List PtM} {i:Int} (h:DI 4 i=false):Aj M P i=BS:=by
  unfold DI at h
  have h2:AT 4 i=none:=by cases q:AT 4 i with
    | none=>rfl
    | some z=>rw [q] at h;cases h
  unfold Aj;rw [Cc h2];unfold rdI;exact if_pos (by decide)
def AJ (L:List Int):Int:=(L.find? fun e=>!decide (e=0)).getD 0
def Ps (M:MemM) (P:List PtM):Int:=Aq (Aw M P) 1
def Ll (M:MemM) (P:List PtM):List PtM:=stP M P 3 0 (Bm (Aw M P) (Ps M P))
def Acy (M:MemM) (P:List PtM):List PtM:=stP M (Ll M P) 7 (Ps M P) (List.replicate 64 0)
def UJ (M:MemM) (P:List PtM):Int:=AJ [stE M P 3 0 16,stE M (Ll M P) 7 (Ps M P) 64]
def Dg (M:MemM) (P:List PtM) (spare:Int):Prop:=128-((Ep (Aw M P) 128).length:Int)≤max spare 0
instance (M:MemM) (P:List PtM) (spare:Int):Decidable (Dg M P spare):=by unfold Dg;infer_instance
end
section
theorem BJ {kd nm:Int} (h:DI kd nm=true):∃ q,AT kd nm=some q:=Option.isSome_iff_exists.1 h
theorem JW {kd nm:Int} (h:DI kd nm=false):AT kd nm=none:=by
 unfold DI at h;cases q:AT kd nm with
 | none=>rfl
 | some z=>rw [q] at h;cases h
theorem Aca {kd nm:Int}:∀ {b:Bool},(if b then ¬ (ldE kd nm≠0) else ldE kd nm≠0)→DI kd nm=b
 | true,h=>by
  unfold ldE at h
  cases q:DI kd nm with
  | true=>rfl
  | false=>rw [q] at h;exact absurd (show ¬ ((1:Int)≠0) from h) (by decide)
 | false,h=>by
  unfold ldE at h
  cases q:DI kd nm with
  | false=>rfl
  | true=>rw [q] at h;exact absurd rfl (show (0:Int)≠0 from h)
theorem Yh {w:World} {cs:List Ch} (h:Sep w cs):Sep w (AG 0 5 1 none 0 0 []::cs):=
 h.push (Below.refl _ _) (c:=AG 0 5 1 none 0 0 []) (Own.nil _ _ _ _) fun k hk=>by cases hk
theorem PY {k:TypeDesc} (hu:prog.underlying 100=some k) {w:World} {g:Nat} {e:TypeId} {xs:Λ} (h:Blk w g e (xs.map Ad)) (hl:xs.length=16) (hk:k.isRow=true:=by rfl):(Instr.loadAt 100 (π g)).run prog w=.ok (.agg (Al xs)) w:=
 ldA hu hk Jf h (by rw [List.drop_zero,List.take_of_length_le (by rw [List.length_map,hl];exact Nat.le_refl _)]) (by rw [List.length_map,hl])
theorem Za {Q:Exit→Act→World→Prop} {Kk:Act→World→Prop} {o:Oper} {a:Act} {w:World} {N:Nat} {l:List (Nat×Value)} {cs cs':List Ch} (h:Kn N l a) (hd:o.dst=none) {x y:Operand} (ho:o.op=.store 100 x y) (hS:Sep w cs) (i:Nat) {g:Nat} {e:TypeId} {xs ys:Λ} (hi:cs[i]? = some (Ab g e (xs.map Ad))) (h0:xs.length=16) (h1:ys.length=16) (hx:opv l x=some (π g)) (hy:opv l y=some (.agg (Al ys)))
  (hcs:cs.set i (Ab g e (ys.map Ad))=cs') (k:∀ a' w',Kn N l a'→Sep w' cs'→Turns (fun k=>k=g) w w'→Kk a' w'):Oper.wp prog o a w Kk Q:=
 FS h hd ho hS i hi hx hy (ys.map Ad) rfl (by rw [List.length_map,h1];exact Jf) (by rw [List.all_eq_true];exact CN ys) (by rw [List.length_map,List.length_map,h0,h1];exact Nat.le_refl _) (L':=ys.map Ad) (by
  unfold splice;rw [List.take_zero,List.nil_append,List.drop_of_length_le (by rw [List.length_map,List.length_map,h0,h1];exact Nat.le_refl _),List.append_nil]) hcs k
theorem Ad9 {fn:Func} {N:Nat} {l:List (Nat×Value)} {a:Act} {w:World} (hK:Kn N l a) {c:Nat} (h:fn.results=#[.cell c 100]) {g:Nat} {e:TypeId} {xs:Λ} {k:TypeDesc} (hc:opv l (.tmp c)=some (π g)) (hb:Blk w g e (xs.map Ad)) (hu:prog.underlying 100=some k) (hl:xs.length=16) (hk:k.isRow=true:=by rfl):(results fn a.tmps).run prog w=.ok (.agg (Al xs)) w:=
 Ag6 hK h hc hb hu hk (by rw [List.length_map,hl];exact Jf)
theorem Abd (x:InoT):(Db x).length≤1000000:=by
 unfold Db;split
 ·split
  ·decide
  ·rename_i h _;have:=Mn x;omega
 ·exact Nat.zero_le _
theorem Abf {w:World} {R:List Ch} (hS:Sep w R) (x:InoT):CallsR prog 72 #[.agg (AE x).toArray] w (fun v w'=>∃ a c,v=.tuple #[.slice a (Db x).length c,ν (Ew x)]∧Sep w' (AG 0 5 1 a (Db x).length c ((Db x).map Ad)::R)):=
 Calls.mono (IF x w) fun e w' ⟨a,c,e1,o,b⟩=>⟨_,e1,a,c,rfl,hS.push b (c:=AG 0 5 1 a _ c _) (Own.low o (Nat.zero_le _)) fun k hk=>(World.ownsRow.lt o k hk).1⟩
theorem UN {w:World} {R:List Ch} {xs:Λ} (hS:Sep w R) (h:xs.length=16):CallsR prog 85 #[.agg (Al xs)] w (fun v w'=>∃ a c,v=.slice a xs.length c∧Sep w' (AG 0 5 1 a xs.length c (xs.map Ad)::R)):=
 Calls.mono (Su xs w h) fun e w' z=>by
  obtain ⟨a,c,e1,o,b⟩:=z
  exact ⟨_,e1,a,c,rfl,hS.push b (c:=AG 0 5 1 a _ c _) (Own.low o (Nat.zero_le _)) fun k hk=>(World.ownsRow.lt o k hk).1⟩
theorem PL {L:List Int} {k:Nat} (h:AJ (L.drop k)=AJ L) (hk:k<L.length) (h0:L.getD k 0=0):AJ (L.drop (k+1))=AJ L:=by
 rw [List.drop_eq_getElem_cons hk] at h
 rw [List.getD_eq_getElem?_getD,List.getElem?_eq_getElem hk] at h0
 rw [← h]
 have h0:L[k]=0:=h0
 unfold AJ;rw [List.find?_cons_of_neg (by rw [h0];decide)]
theorem PK {L:List Int} {k:Nat} (h:AJ (L.drop k)=AJ L) (hk:k<L.length) (h0:L.getD k 0≠0):AJ L=L.getD k 0:=by
 rw [List.drop_eq_getElem_cons hk] at h
 rw [List.getD_eq_getElem?_getD,List.getElem?_eq_getElem hk] at h0 ⊢
 have h0:L[k]≠0:=h0
 rw [← h]
 unfold AJ;rw [List.find?_cons_of_pos (by simpa using h0)]
theorem OM {w:World} {R:List Ch} {mx:Nat} {K:VolK} {ta:Ω} {tc:Nat} {M:MemM} {P:List PtM} {kd nm:Int} (hS0:Sep w ([Ab mx 125 [π K.tg],txP K ta tc M P]++R)) (hM:M.V.length=23168)  :
  CallsR prog 32 #[π mx,ν kd,ν nm] w (fun v w'=>∃ a c,v=.tuple #[.slice a (As M P kd nm).length c,ν (ldE kd nm)]∧Sep w' ([AG 0 5 1 a ((As M P kd nm)).length c (((As M P kd nm)).map Ad),Ab mx 125 [π K.tg],txP K ta tc M P]++R)):=by
 have hS:Sep w [Ab mx 125 [π K.tg],txP K ta tc M P,Ch.many R]:=Sep.tail_many (xs:=[_,_]) hS0;clear hS0
 refine AB func32 rfl (N:=29) ntmps32 (by show 3≤29;decide) [(0,π mx),(1,ν kd),(2,ν nm)] rfl fun _ h1=>sqr fun _ hK3=>mvs 2 h1 rfl fun _ h6=>wpList_nil<|hK3 _ _<|sqr fun _ hK8=>mvs 2 h6 rfl fun _ h2=>?_
 rcases bC (DI kd nm) with hc1 | hc1
 ·skip
  obtain ⟨q15,hq1⟩:=BJ hc1
  have hq16i:=Dq hq1
  refine cl h2 rfl (cF func40) (AQ hS (Hx (k:=q15.k) (n:=q15.n) (a:=q15.a) (s:=q15.s) hq1 _)) fun _ v1 w2 r1 h3=>?_
  obtain ⟨rfl,s1⟩:=r1
  refine mvs 3 h3 rfl fun _ h4=>so (wn rfl) fun _ hK1=>AO h4 rfl rfl rfl rfl (z:=[ν 0,ν 0,ν 0,ν 0]) (fun _=>rfl) s1 fun _ g1 w3 h5 s2 _ _=>hK1 _ _ ?_
  refine stA h5 s2 0 rfl rfl rfl κ rfl rfl rfl rfl fun _ w4 h7 s3 _=>mv h7 rfl fun _ h8=>h8.sn [9,8,7,6,0,1,2] rfl fun h9=>hK8 _ _<|sq fun _ hK2=>sqr fun _ hK4=>mvs 2 h9 rfl fun _ h10=>h10.sn [17,9,8,7,6,0,1,2] rfl fun h11=>hK4 _ _<|wcF h11 rfl rfl<|h11.sk [9,8,7,6,0,1,2] rfl fun h12=>?_
  refine wp_skip<|hK2 _ _<|sq fun _ hK5=>?_
  have s4:=s3.drew
  refine wp_region_held_drew (S:=fun w'=>Sep w' [Ab g1 82 [ν q15.k,ν q15.n,ν q15.a,ν q15.s],Ab mx 125 [π K.tg],txP K ta tc M P,Ch.many R]) κ s4 (fun hq2=>?_)
  refine tv1 hq2 h12 0 rfl rfl (v:=π mx) (fun w1 _=>(Au h12 rfl rfl) w1) fun _ h13=>?_
  refine tv1 hq2 h13 1 rfl rfl (v:=π mx) (fun w1 _=>(Hl h13 rfl rfl) w1) fun _ h14=>?_
  refine tv1 hq2 h14 2 rfl rfl (v:=π mx) (fun w1 _=>(rfa h14 rfl rfl (fQ 0)) w1) fun _ h15=>?_
  refine tv1 hq2 h15 3 rfl rfl (v:=π K.tg) (fun w1 hSw=>(rld h15 rfl rfl (ldB υ63 rfl (hSw.get 1 rfl:Blk _ _ _ _) rfl))) fun _ h16=>?_
  refine tv1 hq2 h16 4 rfl rfl (v:=.pointer (some ⟨g1,2,none⟩)) (fun w1 _=>(rfa h16 rfl rfl (fQ 2)) w1) fun _ h17=>?_
  refine tv1 hq2 h17 5 rfl rfl (v:=ν q15.a) (fun w1 hSw=>(rld h17 rfl rfl (ldB υ3 rfl (hSw.get 0 rfl:Blk _ _ _ _) rfl))) fun _ h18=>?_
  refine tv1 hq2 h18 6 rfl rfl (v:=.pointer (some ⟨g1,3,none⟩)) (fun w1 _=>(rfa h18 rfl rfl (fQ 3)) w1) fun _ h19=>?_
  refine tv1 hq2 h19 7 rfl rfl (v:=ν q15.s) (fun w1 hSw=>(rld h19 rfl rfl (ldB υ3 rfl (hSw.get 0 rfl:Blk _ _ _ _) rfl))) fun _ h20=>?_
  refine to_ 8 rfl (wn rfl) κ fun _ hK6=>BD h20 rfl rfl rfl (xs:=[.tmp 21,.tmp 23,.tmp 25]) rfl (cF func71) rfl (vs:=[π K.tg,ν q15.a,ν q15.s]) rfl (args:=#[π K.tg,ν q15.a,ν q15.s]) rfl (Sn (at_:=q15.a) (n:=q15.s) (s4.pk [2,0,1,3] rfl) (Je hM hq1) (by unfold Ec;omega) (by unfold Ec;omega)) fun _ v2 w5 r2 h21=>?_
  obtain ⟨ra_x75,rc_x76,rfl,s5⟩:=r2
  refine hK6 _ _ (s5.pk [2,3,1,4] rfl) fun hq3=>?_
  refine tv1 hq3 h21 9 rfl rfl (v:=.slice ra_x75 ((Dj M P q15.a q15.s).length) rc_x76) (fun w1 _=>(OY h21 rfl rfl rfl) w1) fun _ h22=>?_
  refine tv1 hq3 h22 10 rfl rfl (v:=ν 0) (fun w1 _=>(OY h22 rfl rfl rfl) w1) fun _ h23=>?_
  refine h23.sk [28,27,26,25,24,23,22,21,20,19,18,9,8,7,0,1,2] rfl fun h24=>?_
  refine tv1 hq3 h24 11 rfl rfl (v:=.slice ra_x75 ((Dj M P q15.a q15.s).length) rc_x76) (fun w1 _=>(Bv h24 rfl rfl) w1) fun _ h25=>?_
  refine h25.sk [6,28,27,26,25,24,23,22,21,20,19,18,9,8,0,1,2] rfl fun h26=>?_
  refine tv1 hq3 h26 12 rfl rfl (v:=ν 0) (fun w1 _=>(Bv h26 rfl rfl) w1) fun _ h27=>?_
  refine h27.sk [7,6,9,8,0,1,2] rfl fun h28=>?_
  refine wpAnyH_done κ ?_ _
  refine hK5 _ _ ?_
  refine wp_ret ?_
  try simp only [Exit.then,Exit.inBlock]
  refine AW (v:=.tuple #[.slice ra_x75 ((Dj M P q15.a q15.s).length) rc_x76,ν 0]) (DK h28 rfl rfl rfl) h28.defs ?_
  exact ⟨ra_x75,rc_x76,by rw [BV hq1];unfold ldE;rw [hc1];rfl,by rw [BV hq1];exact Sep.tail_un (xs:=[_,_,_]) (s5.pk [0,3,1,4] rfl)⟩
 ·skip
  have hq4:=JW hc1
  refine cl h2 rfl (cF func40) (AQ hS (Ow hq4 _)) fun _ v3 w6 r3 h29=>?_
  obtain ⟨rfl,s6⟩:=r3
  refine mvs 3 h29 rfl fun _ h30=>so (wn rfl) fun _ hK7=>AO h30 rfl rfl rfl rfl (z:=[ν 0,ν 0,ν 0,ν 0]) (fun _=>rfl) s6 fun _ g2 w7 h31 s7 _ _=>hK7 _ _ ?_
  refine stA h31 s7 0 rfl rfl rfl κ rfl rfl rfl rfl fun _ w8 h32 s8 _=>mv h32 rfl fun _ h33=>h33.sn [9,8,7,6,0,1,2] rfl fun h34=>hK8 _ _<|sq fun _ hK9=>sqr fun _ hK10=>mvs 2 h34 rfl fun _ h35=>h35.sn [17,9,8,7,6,0,1,2] rfl fun h36=>hK10 _ _<|wcT h36 rfl rfl<|h36.sk [9,8,7,6,0,1,2] rfl fun h37=>?_
  refine sqr fun _ hK11=>h37.sk [9,8,7,0,1,2] rfl fun h38=>mv h38 rfl fun _ h39=>h39.sk [6,9,8,0,1,2] rfl fun h40=>mv h40 rfl fun _ h41=>wpList_nil<|hK11 _ _<|wp_ret ?_
  try simp only [Exit.then,Exit.inBlock]
  refine AW (v:=.tuple #[.slice none 0 0,.int .i64 1]) (DK h41 rfl rfl rfl) h41.defs ?_
  exact ⟨none,0,by rw [Cc hq4];unfold ldE;rw [hc1];rfl,by rw [Cc hq4];exact Yh (Sep.tail_un (xs:=[_,_]) (s8.pk [1,2,3] rfl))⟩
theorem CW {w:World} {R:List Ch} {mx:Nat} {K:VolK} {ta:Ω} {tc:Nat} {M:MemM} {P:List PtM} {kd nm:Int} {ba:Ω} {bc:Nat} {xs:Λ} (hS0:Sep w ([AG 0 5 1 ba (xs).length bc ((xs).map Ad),Ab mx 125 [π K.tg],txP K ta tc M P]++R)) (hM:M.V.length=23168) (hx:xs.length≤1000000) :
  CallsR prog 54 #[π mx,ν kd,ν nm,.slice ba xs.length bc] w (fun v w'=>∃ ta' tc',v=ν (stE M P kd nm xs.length)∧Sep w' ([AG 0 5 1 ba (xs).length bc ((xs).map Ad),Ab mx 125 [π K.tg],txP K ta' tc' M (stP M P kd nm xs)]++R)):=by
 have hS:Sep w [AG 0 5 1 ba (xs).length bc ((xs).map Ad),Ab mx 125 [π K.tg],txP K ta tc M P,Ch.many R]:=Sep.tail_many (xs:=[_,_,_]) hS0;clear hS0
 refine AB func54 rfl (N:=27) ntmps54 (by show 4≤27;decide) [(0,π mx),(1,ν kd),(2,ν nm),(3,.slice ba xs.length bc)] rfl fun _ h1=>sqr fun _ hK3=>mv h1 rfl fun _ h4=>wpList_nil<|hK3 _ _<|sqr fun _ hK6=>mvs 2 h4 rfl fun _ h9=>?_
 rcases bC (DI kd nm) with hc1 | hc1
 ·skip
  obtain ⟨q13,hq1⟩:=BJ hc1
  have hq14i:=Dq hq1
  refine cl h9 rfl (cF func40) (AQ hS (Hx (k:=q13.k) (n:=q13.n) (a:=q13.a) (s:=q13.s) hq1 _)) fun _ v1 w2 r1 h2=>?_
  obtain ⟨rfl,s1⟩:=r1
  refine mvs 3 h2 rfl fun _ h3=>so (wn rfl) fun _ hK1=>AO h3 rfl rfl rfl rfl (z:=[ν 0,ν 0,ν 0,ν 0]) (fun _=>rfl) s1 fun _ g1 w3 h5 s2 _ _=>hK1 _ _ ?_
  refine stA h5 s2 0 rfl rfl rfl κ rfl rfl rfl rfl fun _ w4 h6 s3 _=>mv h6 rfl fun _ h7=>h7.sn [10,9,8,0,1,2,3] rfl fun h8=>hK6 _ _<|sq fun _ hK2=>sqr fun _ hK4=>mvs 2 h8 rfl fun _ h10=>h10.sn [18,10,9,8,0,1,2,3] rfl fun h11=>hK4 _ _<|wcF h11 rfl rfl<|h11.sk [10,9,8,0,1,2,3] rfl fun h12=>?_
  refine wp_skip<|hK2 _ _<|sq fun _ hK5=>?_
  have s4:=s3.drew
  refine wp_region_held_drew (S:=fun w'=>Sep w' [Ab g1 82 [ν q13.k,ν q13.n,ν q13.a,ν q13.s],AG 0 5 1 ba (xs).length bc ((xs).map Ad),Ab mx 125 [π K.tg],Ch.many R]) κ (s4.pk [0,1,2,4] rfl) (fun hq2=>?_)
  refine tv1 hq2 h12 0 rfl rfl (v:=π mx) (fun w1 _=>(Au h12 rfl rfl) w1) fun _ h13=>?_
  refine tv1 hq2 h13 1 rfl rfl (v:=π mx) (fun w1 _=>(Hl h13 rfl rfl) w1) fun _ h14=>?_
  refine tv1 hq2 h14 2 rfl rfl (v:=π mx) (fun w1 _=>(rfa h14 rfl rfl (fQ 0)) w1) fun _ h15=>?_
  refine tv1 hq2 h15 3 rfl rfl (v:=π K.tg) (fun w1 hSw=>(rld h15 rfl rfl (ldB υ63 rfl (hSw.get 2 rfl:Blk _ _ _ _) rfl))) fun _ h16=>?_
  refine tv1 hq2 h16 4 rfl rfl (v:=.pointer (some ⟨g1,2,none⟩)) (fun w1 _=>(rfa h16 rfl rfl (fQ 2)) w1) fun _ h17=>?_
  refine tv1 hq2 h17 5 rfl rfl (v:=ν q13.a) (fun w1 hSw=>(rld h17 rfl rfl (ldB υ3 rfl (hSw.get 0 rfl:Blk _ _ _ _) rfl))) fun _ h18=>?_
  refine tv1 hq2 h18 6 rfl rfl (v:=.slice ba xs.length bc) (fun w1 _=>(Au h18 rfl rfl) w1) fun _ h19=>?_
  refine to_ 7 rfl (wn rfl) κ fun _ hK7=>BD h19 rfl rfl rfl (xs:=[.tmp 22,.tmp 24,.tmp 25]) rfl (cF func69) rfl (vs:=[π K.tg,ν q13.a,.slice ba xs.length bc]) rfl (args:=#[π K.tg,ν q13.a,.slice ba xs.length bc]) rfl (Pl (at_:=q13.a) (xs:=xs) (s4.pk [3,0,1,2,4] rfl) (s4.get 1 rfl:Own _ _ _ _ _ _ _ _).row (by unfold Ec;omega) hx) fun _ v2 w5 r2 h20=>?_
  obtain ⟨tax71,tcx72,rfl,s5⟩:=r2
  refine hK7 _ _ (s5.pk [1,2,3,4] rfl) fun hq3=>h20.sk [26,25,24,23,22,21,20,19,10,9,0,1,2,3] rfl fun h21=>?_
  refine tv1 hq3 h21 8 rfl rfl (v:=ν (Ly M P q13.a xs.length)) (fun w1 _=>(Bv h21 rfl rfl) w1) fun _ h22=>?_
  refine h22.sk [8,10,9,0,1,2,3] rfl fun h23=>?_
  refine wpAnyH_done κ ?_ _
  refine hK5 _ _ ?_
  refine wp_ret ?_
  try simp only [Exit.then,Exit.inBlock]
  refine AW (v:=ν (Ly M P q13.a xs.length)) (Cz h23 rfl rfl) h23.defs ?_
  exact ⟨tax71,tcx72,by unfold stE;rw [hq1],by unfold stP;rw [hq1];exact Sep.tail_un (xs:=[_,_,_]) (s5.pk [2,3,0,4] rfl)⟩
 ·skip
  have hq4:=JW hc1
  refine cl h9 rfl (cF func40) (AQ hS (Ow hq4 _)) fun _ v3 w6 r3 h24=>?_
  obtain ⟨rfl,s6⟩:=r3
  refine mvs 3 h24 rfl fun _ h25=>so (wn rfl) fun _ hK8=>AO h25 rfl rfl rfl rfl (z:=[ν 0,ν 0,ν 0,ν 0]) (fun _=>rfl) s6 fun _ g2 w7 h26 s7 _ _=>hK8 _ _ ?_
  refine stA h26 s7 0 rfl rfl rfl κ rfl rfl rfl rfl fun _ w8 h27 s8 _=>mv h27 rfl fun _ h28=>h28.sn [10,9,8,0,1,2,3] rfl fun h29=>hK6 _ _<|sq fun _ hK9=>sqr fun _ hK10=>mvs 2 h29 rfl fun _ h30=>h30.sn [18,10,9,8,0,1,2,3] rfl fun h31=>hK10 _ _<|wcT h31 rfl rfl<|h31.sk [10,9,8,0,1,2,3] rfl fun h32=>?_
  refine sqr fun _ hK11=>h32.sk [10,9,0,1,2,3] rfl fun h33=>mv h33 rfl fun _ h34=>wpList_nil<|hK11 _ _<|wp_ret ?_
  try simp only [Exit.then,Exit.inBlock]
  refine AW (v:=.int .i64 1) (Cz h34 rfl rfl) h34.defs ?_
  exact ⟨ta,tc,by unfold stE;rw [hq4],by unfold stP;rw [hq4];exact Sep.tail_un (xs:=[_,_,_]) (s8.pk [1,2,3,4] rfl)⟩
theorem En {w:World} {R:List Ch} {mx:Nat} {K:VolK} {ta:Ω} {tc:Nat} {M:MemM} {P:List PtM} {i:Int} (hS0:Sep w ([Ab mx 125 [π K.tg],txP K ta tc M P]++R)) (hM:M.V.length=23168)  :
  CallsR prog 11 #[π mx,ν i] w (fun v w'=>v=.tuple #[.agg (AE (Aj M P i)).toArray,ν (AU M P i)]∧Sep w' ([Ab mx 125 [π K.tg],txP K ta tc M P]++R)):=by
 have hS:Sep w [Ab mx 125 [π K.tg],txP K ta tc M P,Ch.many R]:=Sep.tail_many (xs:=[_,_]) hS0;clear hS0
 refine AB func11 rfl (N:=28) ntmps11 (by show 2≤28;decide) [(0,π mx),(1,ν i)] rfl fun _ h1=>sqr fun _ hK3=>so (wn rfl) fun _ hK1=>AO h1 rfl rfl rfl rfl (z:=[ν 0,ν 0,ν 0,ν 0,ν 0,ν 0,ν 0,ν 0,ν 0,ν 0,ν 0,ν 0,ν 0,ν 0,ν 0]) (fun _=>rfl) hS fun _ g4 w7 h5 s8 _ _=>hK1 _ _ ?_
 refine mv h5 rfl fun _ h2=>wpList_nil<|hK3 _ _<|sqr fun _ hK2=>mvs 2 h2 rfl fun _ h3=>cl h3 rfl (cF func32) (OM (kd:=4) (nm:=i) (s8.pk [1,2,0,3] rfl) hM) fun _ v1 w1 r1 h4=>?_
 obtain ⟨ra_x19,rc_x20,rfl,s1⟩:=r1
 refine mvs 5 h4 rfl fun _ h6=>h6.sn [7,6,5,4,0,1] rfl fun h7=>hK2 _ _<|sq fun _ hK4=>sqr fun _ hK5=>mv h7 rfl fun _ h8=>bv h8 (z:=.bool (decide (ldE 4 i≠0))) rfl (cNe _ _ _ _ rfl) fun _ h9=>h9.sn [16,7,6,5,4,0,1] rfl fun h10=>hK5 _ _ ?_
 rcases bC (decide (ldE 4 i≠0)) with hc1 | hc1
 ·skip
  have hp1:ldE 4 i≠0:=(dT hc1)
  have hh:=Aca (b:=false) (dT hc1)
  refine wcT h10 rfl hc1<|h10.sk [7,6,5,4,0,1] rfl fun h11=>sqr fun _ hK6=>bu h11 (v:=.agg (AE BS).toArray) rfl (fun w=>κ) fun _ h12=>mv h12 rfl fun _ h13=>stA h13 s1 3 rfl rfl rfl κ rfl rfl rfl rfl fun _ w2 h14 s2 _=>h14.sk [18,17,7,6,4,0,1] rfl fun h15=>mv h15 rfl fun _ h16=>h16.sn [5,7,6,4,0,1] rfl fun h17=>hK6 _ _ ?_
  refine wp_ret ?_
  try simp only [Exit.then,Exit.inBlock]
  refine rCt h17 s2 3 υ40 rfl rfl rfl rfl rfl ?_
  exact ⟨by rw [Vn hh];unfold AU ldE;rw [hh];rfl,Sep.tail_un (xs:=[_,_]) (s2.pk [1,2,4] rfl)⟩
 ·skip
  have hp2:¬ (ldE 4 i≠0):=(dF hc1)
  have hh:=Aca (b:=true) (dF hc1)
  refine wcF h10 rfl hc1<|h10.sk [7,6,5,4,0,1] rfl fun h18=>wp_skip<|hK4 _ _<|sqr fun _ hK7=>mv h18 rfl fun _ h19=>cl h19 rfl (cF func33) (AQ s1 (QC _ _ (As M P 4 i) _ (s1.get 0 rfl:Own _ _ _ _ _ _ _ _).row)) fun _ v2 w3 r2 h20=>?_
  obtain ⟨rfl,s3⟩:=r2
  refine mvs 3 h20 rfl fun _ h21=>so (wn rfl) fun _ hK8=>AO h21 rfl rfl rfl rfl (z:=[ν 0,ν 0,ν 0,ν 0,ν 0,ν 0,ν 0,ν 0,ν 0,ν 0,ν 0,ν 0,ν 0,ν 0,ν 0]) (fun _=>rfl) s3 fun _ g1 w4 h22 s4 _ _=>hK8 _ _ ?_
  refine stA h22 s4 0 rfl rfl rfl κ rfl rfl rfl rfl fun _ w5 h23 s5 _=>h23.sk [8,23,22,19,21,20,6,5,4,0,1] rfl fun h24=>mv h24 rfl fun _ h25=>h25.sn [7,8,6,5,4,0,1] rfl fun h26=>hK7 _ _<|sq fun _ hK9=>sqr fun _ hK10=>mv h26 rfl fun _ h27=>bv h27 (z:=.bool (decide (rdE (As M P 4 i)≠0))) rfl (cNe _ _ _ _ rfl) fun _ h28=>h28.sn [25,7,8,6,5,4,0,1] rfl fun h29=>hK10 _ _ ?_
  rcases bC (decide (rdE (As M P 4 i)≠0)) with hc2 | hc2
  ·skip
   have hp3:rdE (As M P 4 i)≠0:=(dT hc2)
   refine wcT h29 rfl hc2<|h29.sk [7,8,6,5,4,0,1] rfl fun h30=>sqr fun _ hK11=>bu h30 (v:=.agg (AE BS).toArray) rfl (fun w=>κ) fun _ h31=>stA h31 s5 4 rfl rfl rfl κ rfl rfl rfl rfl fun _ w6 h32 s6 _=>h32.sk [26,7,8,6,4,0,1] rfl fun h33=>mv h33 rfl fun _ h34=>h34.sn [5,7,8,6,4,0,1] rfl fun h35=>hK11 _ _<|wp_ret ?_
   try simp only [Exit.then,Exit.inBlock]
   refine rCt h35 s6 4 υ40 rfl rfl rfl rfl rfl ?_
   exact ⟨by unfold AU Aj;rw [hh,Abh hp3,if_neg hp3];rfl,Sep.tail_un (xs:=[_,_]) (s6.pk [2,3,5] rfl)⟩
  ·skip
   have hp4:¬ (rdE (As M P 4 i)≠0):=(dF hc2)
   refine wcF h29 rfl hc2<|h29.sk [7,8,6,5,4,0,1] rfl fun h36=>wp_skip<|hK9 _ _<|sqr fun _ hK12=>sw1 h36 rfl (v:=.agg (AE (rdI (As M P 4 i))).toArray) (rld h36 rfl rfl (ldA υ40 rfl (n:=15) κ (s5.get 0 rfl:Blk _ _ _ _) rfl rfl)) fun _ h37=>stA h37 s5 4 rfl rfl rfl κ rfl rfl rfl rfl fun _ w8 h38 s7 _=>h38.sk [27,7,8,6,4,0,1] rfl fun h39=>mv h39 rfl fun _ h40=>h40.sn [5,7,8,6,4,0,1] rfl fun h41=>hK12 _ _ ?_
   refine wp_ret ?_
   try simp only [Exit.then,Exit.inBlock]
   refine rCt h41 s7 4 υ40 rfl rfl rfl rfl rfl ?_
   exact ⟨by unfold AU Aj;rw [hh,if_pos (Classical.not_not.1 hp4)];rfl,Sep.tail_un (xs:=[_,_]) (s7.pk [2,3,5] rfl)⟩
theorem Gz {w:World} {R:List Ch} {mx:Nat} {K:VolK} {ta:Ω} {tc:Nat} {M:MemM} {P:List PtM} {i:Int} {x:InoT} (hS0:Sep w ([Ab mx 125 [π K.tg],txP K ta tc M P]++R)) (hM:M.V.length=23168)  :
  CallsR prog 49 #[π mx,ν i,.agg (AE x).toArray] w (fun v w'=>∃ ta' tc',v=ν (CD M P i x)∧Sep w' ([Ab mx 125 [π K.tg],txP K ta' tc' M (BC M P i x)]++R)):=by
 have hS:Sep w [Ab mx 125 [π K.tg],txP K ta tc M P,Ch.many R]:=Sep.tail_many (xs:=[_,_]) hS0;clear hS0
 refine AB func49 rfl (N:=21) ntmps49 (by show 3≤21;decide) [(0,π mx),(1,ν i),(2,.agg (AE x).toArray)] rfl fun _ h1=>sqr fun _ hK3=>so (wn rfl) fun _ hK1=>JE h1 rfl rfl rfl rfl rfl (z:=(AE x)) rfl hS fun _ g4 w7 h5 s8 _ _=>hK1 _ _ ?_
 refine mv h5 rfl fun _ h2=>wpList_nil<|hK3 _ _<|sqr fun _ hK2=>sw1 h2 rfl (v:=.agg (AE x).toArray) (rld h2 rfl rfl (ldA υ40 rfl (n:=15) κ (s8.get 0 rfl:Blk _ _ _ _) rfl rfl)) fun _ h3=>cl h3 rfl (cF func72) (Abf s8 x) fun _ v1 w1 r1 h4=>?_
 obtain ⟨pa_x17,pc_x18,rfl,s1⟩:=r1
 refine mvs 5 h4 rfl fun _ h6=>h6.sn [8,7,6,5,0,1,2] rfl fun h7=>hK2 _ _<|sq fun _ hK4=>sqr fun _ hK5=>mv h7 rfl fun _ h8=>bv h8 (z:=.bool (decide (Ew x≠0))) rfl (cNe _ _ _ _ rfl) fun _ h9=>h9.sn [15,8,7,6,5,0,1,2] rfl fun h10=>hK5 _ _ ?_
 rcases bC (decide (Ew x≠0)) with hc1 | hc1
 ·skip
  have hp1:Ew x≠0:=(dT hc1)
  refine wcT h10 rfl hc1<|h10.sk [8,7,6,5,0,1,2] rfl fun h11=>sqr fun _ hK6=>mv h11 rfl fun _ h12=>h12.sk [16,8,7,5,0,1,2] rfl fun h13=>mv h13 rfl fun _ h14=>h14.sn [6,8,7,5,0,1,2] rfl fun h15=>hK6 _ _<|wp_ret ?_
  try simp only [Exit.then,Exit.inBlock]
  refine AW (v:=.int .i64 (Ew x)) (Cz h15 rfl rfl) h15.defs ?_
  exact ⟨ta,tc,by unfold CD;rw [if_neg hp1],by unfold BC;rw [if_neg hp1];exact Sep.tail_un (xs:=[_,_]) (s1.pk [2,3,4] rfl)⟩
 ·skip
  have hp2:¬ (Ew x≠0):=(dF hc1)
  refine wcF h10 rfl hc1<|h10.sk [8,7,6,5,0,1,2] rfl fun h16=>wp_skip<|hK4 _ _<|sqr fun _ hK7=>mvs 3 h16 rfl fun _ h17=>cl h17 rfl (cF func54) (CW (kd:=4) (nm:=i) (xs:=(Db x)) (s1.pk [0,2,3,1,4] rfl) hM (Abd _)) fun _ v2 w2 r2 h18=>?_
  obtain ⟨tax63,tcx64,rfl,s2⟩:=r2
  refine h18.sk [20,19,18,17,8,7,5,0,1,2] rfl fun h19=>mv h19 rfl fun _ h20=>h20.sn [6,8,7,5,0,1,2] rfl fun h21=>hK7 _ _<|wp_ret ?_
  try simp only [Exit.then,Exit.inBlock]
  refine AW (v:=ν (stE M P 4 i (Db x).length)) (Cz h21 rfl rfl) h21.defs ?_
  exact ⟨tax63,tcx64,by unfold CD;rw [if_pos (Classical.not_not.1 hp2)],by unfold BC;rw [if_pos (Classical.not_not.1 hp2)];exact Sep.tail_un (xs:=[_,_]) (s2.pk [1,2,4] rfl)⟩
theorem Afh {w:World} {R:List Ch} {mx:Nat} {K:VolK} {ta:Ω} {tc:Nat} {M:MemM} {P:List PtM} (hS0:Sep w ([Ab mx 125 [π K.tg],txP K ta tc M P]++R)) (hM:M.V.length=23168)  :
  CallsR prog 140 #[π mx] w (fun v w'=>v=.agg (Al (Aw M P))∧Sep w' ([Ab mx 125 [π K.tg],txP K ta tc M P]++R)):=by
 have hS:Sep w [Ab mx 125 [π K.tg],txP K ta tc M P,Ch.many R]:=Sep.tail_many (xs:=[_,_]) hS0;clear hS0
 refine AB func140 rfl (N:=18) ntmps140 (by show 1≤18;decide) [(0,π mx)] rfl fun _ h1=>sqr fun _ hK3=>so (wn rfl) fun _ hK1=>AO h1 rfl rfl rfl rfl (z:=(AM).map Ad) (fun _=>rfl) hS fun _ g4 w7 h5 s8 _ _=>hK1 _ _ ?_
 refine wpList_nil<|hK3 _ _<|sqr fun _ hK2=>mv h5 rfl fun _ h2=>cl h2 rfl (cF func32) (OM (kd:=3) (nm:=0) (s8.pk [1,2,0,3] rfl) hM) fun _ v1 w1 r1 h3=>?_
 obtain ⟨ra_x15,rc_x16,rfl,s1⟩:=r1
 refine mvs 5 h3 rfl fun _ h4=>h4.sn [3,2,0] rfl fun h6=>hK2 _ _<|sqr fun _ hK4=>mv h6 rfl fun _ h7=>cl h7 rfl (cF func161) (AQ s1 (Vy _ _ (As M P 3 0) _ (s1.get 0 rfl:Own _ _ _ _ _ _ _ _).row)) fun _ v2 w2 r2 h8=>?_
 obtain ⟨rfl,s2⟩:=r2
 refine mvs 3 h8 rfl fun _ h9=>so (wn rfl) fun _ hK5=>AO h9 rfl rfl rfl rfl (z:=(AM).map Ad) (fun _=>rfl) s2 fun _ g1 w3 h10 s3 _ _=>hK5 _ _ ?_
 refine so (wn rfl) fun _ hK6=>Za h10 rfl rfl s3 0 rfl (by first | exact AZ _ | rfl | simp) (by first | exact AZ _ | rfl | simp) rfl rfl (cs':=[Ab g1 100 (((GI (As M P 3 0))).map Ad),AG 0 5 1 ra_x15 ((As M P 3 0)).length rc_x16 (((As M P 3 0)).map Ad),Ab mx 125 [π K.tg],txP K ta tc M P,Ab g4 100 ((AM).map Ad),Ch.many R]) rfl fun _ w4 h11 s4 _=>hK6 _ _ ?_
 refine mv h11 rfl fun _ h12=>h12.sn [5,3,2,0] rfl fun h13=>hK4 _ _<|sqr fun _ hK7=>sw1 h13 rfl (v:=.agg (Al (GI (As M P 3 0)))) (rld h13 rfl rfl (PY υ100 (s4.get 0 rfl:Blk _ _ _ _) (by first | exact AZ _ | rfl | simp))) fun _ h14=>so (wn rfl) fun _ hK8=>Za h14 rfl rfl s4 4 rfl (by first | exact AZ _ | rfl | simp) (by first | exact AZ _ | rfl | simp) rfl rfl (cs':=[Ab g1 100 (((GI (As M P 3 0))).map Ad),AG 0 5 1 ra_x15 ((As M P 3 0)).length rc_x16 (((As M P 3 0)).map Ad),Ab mx 125 [π K.tg],txP K ta tc M P,Ab g4 100 (((GI (As M P 3 0))).map Ad),Ch.many R]) rfl fun _ w5 h15 s5 _=>hK8 _ _ ?_
 refine h15.sn [5,3,2,0] rfl fun h16=>hK7 _ _<|wp_ret ?_
 try simp only [Exit.then,Exit.inBlock]
 refine Hk (v:=.agg (Al (GI (As M P 3 0)))) (Ad9 h16 rfl rfl (s5.get 4 rfl:Blk _ _ _ _) υ100 (AZ _)) h16.defs ?_
 exact ⟨rfl,Sep.tail_un (xs:=[_,_]) (s5.pk [2,3,5] rfl)⟩
theorem Ju {w:World} {R:List Ch} {mx:Nat} {K:VolK} {ta:Ω} {tc:Nat} {M:MemM} {P:List PtM} {xs:Λ} (hS0:Sep w ([Ab mx 125 [π K.tg],txP K ta tc M P]++R)) (hM:M.V.length=23168) (h2:xs.length=16) :
  CallsR prog 51 #[π mx,.agg (Al xs)] w (fun v w'=>∃ ta' tc',v=ν (stE M P 3 0 16)∧Sep w' ([Ab mx 125 [π K.tg],txP K ta' tc' M (stP M P 3 0 xs)]++R)):=by
 have hS:Sep w [Ab mx 125 [π K.tg],txP K ta tc M P,Ch.many R]:=Sep.tail_many (xs:=[_,_]) hS0;clear hS0
 refine AB func51 rfl (N:=9) ntmps51 (by show 2≤9;decide) [(0,π mx),(1,.agg (Al xs))] rfl fun _ h1=>sqr fun _ hK3=>so (wn rfl) fun _ hK1=>JE h1 rfl rfl rfl rfl rfl (z:=(xs).map Ad) rfl hS fun _ g4 w7 h5 s8 _ _=>hK1 _ _ ?_
 refine mv h5 rfl fun _ h3=>wpList_nil<|hK3 _ _<|sqr fun _ hK2=>mv h3 rfl fun _ h4=>sw1 h4 rfl (v:=.agg (Al xs)) (rld h4 rfl rfl (PY υ100 (s8.get 0 rfl:Blk _ _ _ _) h2)) fun _ h6=>cl h6 rfl (cF func85) (UN s8 h2) fun _ v1 w1 r1 h7=>?_
 obtain ⟨pa_x19,pc_x20,rfl,s1⟩:=r1
 refine cl h7 rfl (cF func54) (CW (kd:=3) (nm:=0) (xs:=xs) (s1.pk [0,2,3,1,4] rfl) hM ω) fun _ v2 w2 r2 h8=>?_
 obtain ⟨tax28,tcx29,rfl,s2⟩:=r2
 refine h8.sk [8,7,6,5,3,0,1] rfl fun h9=>mv h9 rfl fun _ h10=>h10.sn [4,3,0,1] rfl fun h11=>hK2 _ _<|wp_ret ?_
 try simp only [Exit.then,Exit.inBlock]
 refine AW (v:=ν (stE M P 3 0 xs.length)) (Cz h11 rfl rfl) h11.defs ?_
 exact ⟨tax28,tcx29,by rw [h2],Sep.tail_un (xs:=[_,_]) (s2.pk [1,2,4] rfl)⟩
theorem DO {w:World} {R:List Ch} {lg:Nat} {L:List Int} (hS0:Sep w ([Ab lg 26 (L.map iV)]++R)) (hl:L.length≤1000) :
  CallsR prog 50 #[.slice (some ⟨lg,0,none⟩) L.length L.length] w (fun v w'=>v=ν (AJ L)∧Sep w' ([Ab lg 26 (L.map iV)]++R)):=by
 have hS:Sep w [Ab lg 26 (L.map iV),Ch.many R]:=Sep.tail_many (xs:=[_]) hS0;clear hS0
 refine AB func50 rfl (N:=15) ntmps50 (by show 1≤15;decide) [(0,.slice (some ⟨lg,0,none⟩) L.length L.length)] rfl fun _ h1=>sqr fun _ hK3=>mv h1 rfl fun _ h4=>wpList_nil<|hK3 _ _<|sq fun _ hK6=>sqr fun _ hK7=>mv h4 rfl fun _ h8=>sv1 h8 rfl (v:=ν (L.length:Int)) (Jt h8 rfl rfl υ146) fun _ h2=>mv h2 rfl fun _ h3=>wpList_nil<|hK7 _ _<|wp_block ?_
 refine DZ (fun (k:Nat) a' w'=>Kn 15 [(7,ν (k:Int)),(6,ν (L.length:Int)),(5,.slice (some ⟨lg,0,none⟩) L.length L.length),(2,ν 0),(0,.slice (some ⟨lg,0,none⟩) L.length L.length)] a'∧Sep w' [Ab lg 26 (L.map iV),Ch.many R]∧(k≤L.length)∧(AJ (L.drop k)=AJ L)) (fun (k:Nat)=>L.length-k) 0 ⟨h3.subs rfl,hS,Nat.zero_le _,(by rw [List.drop_zero])⟩ ?_
 rintro k1 a1 w1 ⟨h5,s1,hk19,hf20⟩ K1 hK1
 refine sqr fun _ hK2=>bv h5 (z:=.bool (decide ((k1:Int)<(L.length:Int)))) rfl (cLt _ _ _ _ rfl) fun _ h6=>wpList_nil<|hK2 _ _<|sq fun _ hK4=>?_
 rcases bC (decide ((k1:Int)<(L.length:Int))) with hc1 | hc1
 ·skip
  have hp1:(k1:Int)<(L.length:Int):=(dT hc1)
  refine wcT h6 rfl hc1<|h6.sk [7,6,5,2,0] rfl fun h7=>wp_skip<|hK4 _ _<|sq fun _ hK5=>wp_block ?_
  refine sqr fun _ hK8=>sv1 h7 rfl (v:=.pointer (some ⟨lg,k1,none⟩)) (Eo h7 rfl rfl rfl (fun w=>ixS υ146 κ (sz:=1) (j:=k1) rfl ω (Nat.mul_one _) w)) fun _ h9=>sw1 h9 rfl (v:=ν (L.getD k1 0)) (rld h9 rfl rfl (ldB υ26 rfl (s1.get 0 rfl:Blk _ _ _ _) (Adg ω))) fun _ h10=>mv h10 rfl fun _ h11=>h11.sn [4,7,6,5,2,0] rfl fun h12=>hK8 _ _<|sqr fun _ hK9=>mv h12 rfl fun _ h13=>bv h13 (z:=.bool (decide (L.getD k1 0≠0))) rfl (cNe _ _ _ _ rfl) fun _ h14=>h14.sk [12,4,7,6,5,2,0] rfl fun h15=>?_
  refine wpList_nil<|hK9 _ _ ?_
  rcases bC (decide (L.getD k1 0≠0)) with hc2 | hc2
  ·skip
   have hp2:L.getD k1 0≠0:=(dT hc2)
   refine wcT h15 rfl hc2<|h15.sk [4,7,6,5,2,0] rfl fun h16=>sqr fun _ hK10=>mv h16 rfl fun _ h17=>h17.sk [13,4,7,6,5,0] rfl fun h18=>mv h18 rfl fun _ h19=>h19.sn [2,4,7,6,5,0] rfl fun h20=>hK10 _ _<|wp_ret ?_
   try simp only [Exit.then,Exit.inBlock]
   refine AW (v:=.int .i64 (L.getD k1 0)) (Cz h20 rfl rfl) h20.defs ?_
   exact ⟨by rw [PK hf20 ω ω],Sep.tail_un (xs:=[_]) s1⟩
  ·skip
   have hp3:¬ (L.getD k1 0≠0):=(dF hc2)
   refine wcF h15 rfl hc2<|h15.sk [4,7,6,5,2,0] rfl fun h21=>wp_skip<|hK5 _ _<|wp_region_lit<|bv h21 (z:=ν ((k1+1:Nat):Int)) rfl (CT _ _ _ ω ω ω) fun _ h22=>h22.sk [14,4,6,5,2,0] rfl fun h23=>mv h23 rfl fun _ h24=>h24.sk [7,4,6,5,2,0] rfl fun h25=>wpList_nil ?_
   exact hK1 (k1+1) _ _ ⟨h25.subs rfl,s1,ω,(PL hf20 ω ω)⟩ ω
 ·skip
  have hp4:¬ ((k1:Int)<(L.length:Int)):=(dF hc1)
  refine wcF h6 rfl hc1<|h6.sk [7,6,5,2,0] rfl fun h26=>wp_exit ?_
  refine hK6 _ _ ?_
  refine sqr fun _ hK11=>h26.sk [7,6,5,0] rfl fun h27=>mv h27 rfl fun _ h28=>wpList_nil<|hK11 _ _<|wp_ret ?_
  try simp only [Exit.then,Exit.inBlock]
  refine AW (v:=ν 0) (Cz h28 rfl rfl) h28.defs ?_
  exact ⟨by rw [← hf20,List.drop_of_length_le ω];rfl,Sep.tail_un (xs:=[_]) s1⟩
end
section
def Zb (p M h:Nat) (c:UInt8):Nat:=((h ^^^ c.toNat)*p) % M
def PR (s p M:Nat) (l:Λ):Nat:=l.foldl (Zb p M) s
theorem LK (s p M:Nat) (l:Λ) (c:UInt8):PR s p M (l++[c])=Zb p M (PR s p M l) c:=by
  simp only [PR,List.foldl_append,List.foldl_cons,List.foldl_nil]
theorem XE (s p M:Nat) (h:s<M) (l:Λ):PR s p M l<M:=by
  rcases List.eq_nil_or_concat l with e | ⟨q,c,e⟩
  · rw [e];exact h
  · rw [e,List.concat_eq_append,LK];exact Nat.mod_lt _ ω
abbrev XF:Nat→UInt8→Nat:=Zb 16777619 4294967296
abbrev Ku:Λ→Nat:=PR 2166136261 16777619 4294967296
def DQ (l:Λ):Nat:=Ku l / 268435456
theorem Se (l:Λ) (c:UInt8):Ku (l++[c])=XF (Ku l) c:=LK _ _ _ l c
theorem PS (l:Λ):Ku l<4294967296:=XE _ _ _ ω l
theorem XD (l:Λ):DQ l<16:=by have:=PS l;unfold DQ;omega
theorem Tl (s:ByteArray) (k:Nat) (h:k<s.size):s.data.toList.take (k+1)=s.data.toList.take k++[s[k]]:=by
  rw [List.take_succ_eq_append_getElem (by simpa using h)];rfl
end
section
theorem XG (s:ByteArray) (hs:s.size≤1000) (w:World) :
    Calls prog 160 #[.string s] w fun e w'=>e=.returned (ν (DQ s.data.toList:Int))∧w=w':=by
  go_enter func160,ntmps160
  go_wp2_with fail
  go_loopw [3,7] (fun x k wr=>∃ j:Nat,j≤s.size∧k=ν j∧x=.int .u32 (Ku (s.data.toList.take j):Int)∧wr=w) (fun _ k _=>s.size-(intOf k).toNat)
  case atStart=>exact ⟨0,ω,rfl,rfl,rfl⟩
  case round=>
    obtain ⟨j,hj,rfl,rfl,rfl⟩:=hrel
    have hr:=PS (s.data.toList.take j)
    by_cases hlt:j<s.size
    · have hltd:decide ((j:Int)<(s.size:Int))=true:=decide_eq_true ω
      have htk:=Tl s j hlt
      have hst:=Se (s.data.toList.take j) s[j]
      rw [← htk] at hst
      generalize Ku (s.data.toList.take j)=h at *
      go_wp2_with fail
      go_roundw
      case rel=>
        refine ⟨j+1,ω,by go_num,?_,by first | rfl | trivial⟩
        rw [hst]
        have hc:=(s[j]).toNat_lt
        have hx:=u32_xor_nat h (s[j]).toNat hr ω
        have em:(((s[j]).toNat:Int) % 4294967296)=((s[j]).toNat:Int):=ω
        rw [em,hx]
        exact congrArg (Value.int IntKind.u32) rfl
      case measure=>simp [intOf];omega
    · obtain rfl:j=s.size:=ω
      have hltd:decide ((s.size:Int)<(s.size:Int))=false:=decide_eq_false ω
      have htk:s.data.toList.take s.size=s.data.toList:=List.take_of_length_le (by rw [Array.length_toList];exact Nat.le_refl _)
      have HF:Hid (DQ s.data.toList=Ku (s.data.toList.take s.size) / 268435456):=by rw [htk];rfl
      clear htk
      generalize Ku (s.data.toList.take s.size)=h at *
      go_wp2_with fail
      go_ret
      exact ⟨FE (by rw [HF.out];rfl),by first | rfl | trivial⟩
end
section
attribute [local go_sem] Oper.semAt_some
def BF (f:Nat):List Nat:=(List.range 16).map fun i=>(f+i) % 16
theorem KB (f:Nat):(BF f).length=16:=by simp [BF]
theorem Qz (f:Nat) {i:Nat} (h:i<16):(BF f)[i]? = some ((f+i) % 16):=by simp [BF,h]
theorem Jo (f:Nat) {i:Nat} (h:i<16):(BF f).take (i+1)=(BF f).take i++[(f+i) % 16]:=by
  rw [List.take_add_one,Qz f h];rfl
theorem Mi (f:Nat):∀ x∈BF f,x<16:=by
  intro x hx
  simp only [BF,List.mem_map] at hx
  obtain ⟨i,_,rfl⟩:=hx
  exact Nat.mod_lt _ ω
theorem Ml (n:Nat) (w0:World) (s:ByteArray) (hs:s.size≤1000) (B:Nat) (hB:Blk w0 B 9 [.string s]) :
    Aco Fence.wide n prog 159 #[π B] (fun x:Nat=>#[ν (x:Int)]) (fun xs=>xs=BF (DQ s.data.toList)) (fun q=>q <+: BF (DQ s.data.toList)) 16 w0:=by
  have hd:Fence.wide.depth=none:=rfl
  intro l J Jx W hW hJ hJx hY0 h0
  have hdd:∀ k:Nat,(Fence.wide.depth.isSome=true→1≤k):=fun k h=>by rw [hd] at h;cases h
  have hY:∀ (m:Nat) (pre:List Nat) (x:Nat) (W1:World),J pre W1→pre.length<16→pre++[x] <+: BF (DQ s.data.toList)→YieldAt Fence.wide m prog l #[ν (x:Int)] W1 fun e W'=>
    (e=.returned (.bool true)∧J (pre++[x]) W'∧KeepUp W.heap.size W1 W')∨(e=.returned (.bool false)∧Jx (pre++[x]) W'):=fun m pre x W1 a b c=>GE hd m (hY0 pre x W1 a b c)
  have c0:W.cell? ⟨B,0,none⟩=some (.string s):=((hB.mono hW).cell (i:=0) (by simp))
  have HC:=hid (fun w1=>(callsIn_wide (n:=n-1)).2 (XG s hs w1))
  have hf:=XD s.data.toList
  generalize DQ s.data.toList=f at *
  have HY:=hid hY;have H0:=hid h0
  clear hY hY0 h0 hW hB hJ hJx
  refine callsIn_of_wp func159 rfl trivial ?_ rfl
  simp only [ntmps159,List.size_toArray,List.length_cons,List.length_nil,Nat.reduceAdd,Nat.reduceSub,Array.replicate_succ,Array.replicate_zero,List.push_toArray,List.append_toArray,List.nil_append,List.cons_append]
  gi_wp2_with ((try refine ⟨hdd _,?_⟩);(try refine ⟨trivial,?_⟩);gi_at_call 160;refine (HC.out _).mono ?_;rintro e W1 ⟨rfl,rfl⟩)
  gi_loopw [7] (fun i wr=>∃ j:Nat,j≤16∧i=ν j∧J ((BF f).take j) wr) (fun i _=>16-(intOf i).toNat)
  case atStart=>exact ⟨0,ω,rfl,by simpa using H0.out⟩
  case round=>
    obtain ⟨j,hj,rfl,hJw⟩:=hrel
    by_cases hjc:j<16
    · have dj:decide ((j:Int)<16)=true:=decide_eq_true ω
      have ij:(j:Int)<16:=ω
      obtain ⟨fn,tmps,assign,body,hy,hR⟩:=HY.out (n-1) ((BF f).take j) ((f+j) % 16) wr hJw (by rw [List.length_take,KB];omega) (by rw [← Jo f hjc];exact List.take_prefix _ _)
      rw [← Jo f hjc] at hR
      have hq:(f+j) % 16<16:=Nat.mod_lt _ ω
      have e1:IntKind.i64.wrap ((f:Int)+j)=f+j:=IntWalk.i64_in _ ω
      have e2:((f:Int)+j).tmod 16=(((f+j) % 16:Nat):Int):=by rw [show (f:Int)+j=((f+j:Nat):Int) by omega];rfl
      have HPr:Hid ((BF f).take (j+1) <+: BF f):=List.take_prefix _ _
      generalize (f+j) % 16=q at *
      have e3:IntKind.i64.wrap (q:Int)=q:=IntWalk.i64_in _ ω
      have HR:=hid hR
      clear hR hJw
      gi_wp2
      refine HR.out.mono ?_
      rintro e W3 (⟨rfl,hJ3,hk3⟩ | ⟨rfl,hJx3⟩)
      · have HJ3:=hid hJ3
        clear hJ3 hk3
        gi_wp2
        go_roundw
        case rel=>exact ⟨j+1,ω,by go_num,HJ3.out⟩
        case measure=>simp [intOf];omega
      · have HJX:=hid hJx3
        clear hJx3
        gi_wp2
        (try simp only [Exit.inBlock,Exit.then]);refine bodyPost_ret (results_none rfl _ _ _) rfl ?_
        exact ⟨⟨_,rfl⟩,.inr ⟨_,HPr.out,HJX.out⟩⟩
    · obtain rfl:j=16:=ω
      have HJ:=hid hJw
      clear hJw
      gi_wp2
      go_end0
      exact ⟨⟨_,rfl⟩,.inl ⟨_,rfl,by have:=HJ.out;rwa [List.take_of_length_le (by rw [KB];omega)] at this⟩⟩
end
end Go.Proofs.YtpnknncmacjdkaaGreatDoor
