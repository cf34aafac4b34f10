/- Parts of the proof. -/
import Derived.Deep.Slices
import Derived.Deep.Fields
import Derived.ChangeSame
import Derived.OpenShut
import Derived.Deep.MidRow
import Derived.Deep.RegionWith
import Derived.Laws.BitsAllLaws
import Derived.BigRegion
import Derived.Test.YtbfgjinpchbajaaGreatDoorQah
namespace Go.Proofs.YtbfgjinpchbajaaGreatDoor
open Go.RowKit
set_option linter.unusedSimpArgs false
set_option linter.unusedVariables false
set_option linter.unusedSectionVars false
set_option maxRecDepth 100000
set_option maxHeartbeats 8000000
section
open Go.RowKit Go.WideShapes
def Oe (i:InoT):List Int:=[i.k,i.l,i.s,i.b0,i.b1,i.b2,i.b3,i.o0,i.o1,i.o2,i.o3,i.o4,i.o5,i.o6,i.o7]
def twI (i:InoT):Bool:=tw i.b0.toNat i.b1.toNat i.b2.toNat i.b3.toNat
def Fg (i:InoT):Bool:=
  if i.k=0 then decide (Oe i=[0,0,0,0,0,0,0,0,0,0,0,0,0,0,0])
  else if i.k=1 then Es i&&!twI i
  else if i.k=2 then JQ i&&!twI i
  else false
theorem Ic {j n s:Int} (h:okB j n s=true):0≤n∧n≤128:=by
  unfold okB at h
  rw [Bool.and_eq_true] at h
  exact of_decide_eq_true h.2
theorem Je {i:InoT} (h:Es i=true):(0≤i.b0∧i.b0≤128)∧(0≤i.b1∧i.b1≤128)∧(0≤i.b2∧i.b2≤128)∧(0≤i.b3∧i.b3≤128):=by
  unfold Es Th at h
  simp only [Bool.and_eq_true] at h
  obtain ⟨⟨_,⟨⟨h0,h1⟩,h2⟩,h3⟩,_⟩:=h
  exact ⟨Ic h0,Ic h1,Ic h2,Ic h3⟩
theorem Kj {i:InoT} (h:JQ i=true):(0≤i.b0∧i.b0≤128)∧(0≤i.b1∧i.b1≤128)∧(0≤i.b2∧i.b2≤128)∧(0≤i.b3∧i.b3≤128):=by
  unfold JQ at h
  simp only [Bool.and_eq_true] at h
  obtain ⟨_,⟨⟨h0,h1⟩,h2⟩,h3⟩:=h
  exact ⟨of_decide_eq_true h0,of_decide_eq_true h1,of_decide_eq_true h2,of_decide_eq_true h3⟩
theorem RQ (i:InoT) (w:World):Calls Tryz.prog 100 #[FN i] w fun e w'=>e=.returned (.bool (Fg i))∧Below w.heap.size w w':=by
  by_cases hk0:i.k=0
  · have hM:Fg i=decide (Oe i=[0,0,0,0,0,0,0,0,0,0,0,0,0,0,0]):=by unfold Fg;rw [if_pos hk0]
    rw [hM]
    obtain ⟨k,l,s,b0,b1,b2,b3,o0,o1,o2,o3,o4,o5,o6,o7⟩:=i
    have HB:Hid (Below w.heap.size w (w.alloc (.cells #[.int .i64 k,.int .i64 l,.int .i64 s,.int .i64 b0,.int .i64 b1,.int .i64 b2,.int .i64 b3,.int .i64 o0,.int .i64 o1,.int .i64 o2,.int .i64 o3,.int .i64 o4,.int .i64 o5,.int .i64 o6,.int .i64 o7] 45))):=(Below.refl w.heap.size w).alloc (Nat.le_refl _) _
    unfold FN Ap
    have hk0:k=0:=hk0
    subst hk0
    have E:=Wx 0 l s b0 b1 b2 b3 o0 o1 o2 o3 o4 o5 o6 o7 0 0 0 0 0 0 0 0 0 0 0 0 0 0 0
    unfold Oe
    clear hM
    obtain ⟨z,hz⟩:∃ z,decide ([0,l,s,b0,b1,b2,b3,o0,o1,o2,o3,o4,o5,o6,o7]=[0,0,0,0,0,0,0,0,0,0,0,0,0,0,0])=z:=⟨_,rfl⟩
    rw [hz] at E
    simp only at hz ⊢
    rw [hz]
    clear hz
    go_enter Tryz.func100,Tryz.ntmps100
    go_wp2_with fail
    go_ret
    exact ⟨rfl,HB.out⟩
  · by_cases hk1:i.k=1
    · have hM:Fg i=(Es i&&!twI i):=by unfold Fg;rw [if_neg hk0];rw [if_pos hk1]
      rw [hM]
      clear hM
      by_cases hF:Es i=true
      · obtain ⟨q0,q1,q2,q3⟩:=Je hF
        have HC:=fun w1=>Km i w1
        rw [hF] at HC ⊢
        obtain ⟨k,l,s,b0,b1,b2,b3,o0,o1,o2,o3,o4,o5,o6,o7⟩:=i
        simp only at q0 q1 q2 q3 hk1
        subst hk1
        obtain ⟨n0,rfl⟩:=Int.eq_ofNat_of_zero_le q0.1
        obtain ⟨n1,rfl⟩:=Int.eq_ofNat_of_zero_le q1.1
        obtain ⟨n2,rfl⟩:=Int.eq_ofNat_of_zero_le q2.1
        obtain ⟨n3,rfl⟩:=Int.eq_ofNat_of_zero_le q3.1
        have HT:=fun w1=>NC 1 l s n0 n1 n2 n3 o0 o1 o2 o3 o4 o5 o6 o7 w1 ω ω ω ω
        have hT:twI ⟨1,l,s,n0,n1,n2,n3,o0,o1,o2,o3,o4,o5,o6,o7⟩=tw n0 n1 n2 n3:=rfl
        rw [hT]
        generalize tw n0 n1 n2 n3=t at *
        clear hT hF q0 q1 q2 q3
        unfold FN Ap at *
        have HC:=hid HC;have HT:=hid HT
        have K0:Blk (w.alloc (.cells #[ν 1,ν l,ν s,ν (n0:Nat),ν (n1:Nat),ν (n2:Nat),ν (n3:Nat),ν o0,ν o1,ν o2,ν o3,ν o4,ν o5,ν o6,ν o7] 45)) w.heap.size 45 [ν 1,ν l,ν s,ν (n0:Nat),ν (n1:Nat),ν (n2:Nat),ν (n3:Nat),ν o0,ν o1,ν o2,ν o3,ν o4,ν o5,ν o6,ν o7]:=heap_alloc_new w _
        have HB:Hid (Below w.heap.size w (w.alloc (.cells #[ν 1,ν l,ν s,ν (n0:Nat),ν (n1:Nat),ν (n2:Nat),ν (n3:Nat),ν o0,ν o1,ν o2,ν o3,ν o4,ν o5,ν o6,ν o7] 45))):=(Below.refl w.heap.size w).alloc (Nat.le_refl _) _
        have KH:=hid K0
        clear K0
        go_enter Tryz.func100,Tryz.ntmps100
        go_wp2_with (first
          | (go_at_call 131;refine (HC.out _).mono ?_;rintro e w4 ⟨rfl,b4⟩;have k4:=KH.out.mono b4;have B4:=hid (Af HB.out b4)
             have z0:w4.cell? ⟨w.heap.size,0,none⟩=some (ν 1):=Blk.cell k4 (i:=0) (by simp)
             have z1:w4.cell? ⟨w.heap.size,1,none⟩=some (ν l):=Blk.cell k4 (i:=1) (by simp)
             have z2:w4.cell? ⟨w.heap.size,2,none⟩=some (ν s):=Blk.cell k4 (i:=2) (by simp)
             have z3:w4.cell? ⟨w.heap.size,3,none⟩=some (ν (n0:Nat)):=Blk.cell k4 (i:=3) (by simp)
             have z4:w4.cell? ⟨w.heap.size,4,none⟩=some (ν (n1:Nat)):=Blk.cell k4 (i:=4) (by simp)
             have z5:w4.cell? ⟨w.heap.size,5,none⟩=some (ν (n2:Nat)):=Blk.cell k4 (i:=5) (by simp)
             have z6:w4.cell? ⟨w.heap.size,6,none⟩=some (ν (n3:Nat)):=Blk.cell k4 (i:=6) (by simp)
             have z7:w4.cell? ⟨w.heap.size,7,none⟩=some (ν o0):=Blk.cell k4 (i:=7) (by simp)
             have z8:w4.cell? ⟨w.heap.size,8,none⟩=some (ν o1):=Blk.cell k4 (i:=8) (by simp)
             have z9:w4.cell? ⟨w.heap.size,9,none⟩=some (ν o2):=Blk.cell k4 (i:=9) (by simp)
             have z10:w4.cell? ⟨w.heap.size,10,none⟩=some (ν o3):=Blk.cell k4 (i:=10) (by simp)
             have z11:w4.cell? ⟨w.heap.size,11,none⟩=some (ν o4):=Blk.cell k4 (i:=11) (by simp)
             have z12:w4.cell? ⟨w.heap.size,12,none⟩=some (ν o5):=Blk.cell k4 (i:=12) (by simp)
             have z13:w4.cell? ⟨w.heap.size,13,none⟩=some (ν o6):=Blk.cell k4 (i:=13) (by simp)
             have z14:w4.cell? ⟨w.heap.size,14,none⟩=some (ν o7):=Blk.cell k4 (i:=14) (by simp)
             clear k4 b4)
          | (go_at_call 132;refine (HT.out _).mono ?_;rintro e w5 ⟨rfl,b5⟩;have B5:=hid (Af B4.out b5);clear b5))
        go_ret
        exact ⟨by first | rfl | (simp;rfl),B5.out⟩
      · have hF:Es i=false:=by simpa using hF
        have HC:=fun w1=>Km i w1
        rw [hF] at HC ⊢
        obtain ⟨k,l,s,b0,b1,b2,b3,o0,o1,o2,o3,o4,o5,o6,o7⟩:=i
        simp only at hk1
        subst hk1
        generalize twI _=t at *
        clear hF
        unfold FN Ap at *
        have HC:=hid HC
        have HB:Hid (Below w.heap.size w (w.alloc (.cells #[ν 1,ν l,ν s,ν b0,ν b1,ν b2,ν b3,ν o0,ν o1,ν o2,ν o3,ν o4,ν o5,ν o6,ν o7] 45))):=(Below.refl w.heap.size w).alloc (Nat.le_refl _) _
        go_enter Tryz.func100,Tryz.ntmps100
        go_wp2_with (go_at_call 131;refine (HC.out _).mono ?_;rintro e w4 ⟨rfl,b4⟩;have B4:=hid (Af HB.out b4);clear b4)
        go_ret
        exact ⟨by first | rfl | (simp;rfl),B4.out⟩
    · by_cases hk2:i.k=2
      · have hM:Fg i=(JQ i&&!twI i):=by unfold Fg;rw [if_neg hk0,if_neg hk1];rw [if_pos hk2]
        rw [hM]
        clear hM
        by_cases hF:JQ i=true
        · obtain ⟨q0,q1,q2,q3⟩:=Kj hF
          have HC:=fun w1=>LH i w1
          rw [hF] at HC ⊢
          obtain ⟨k,l,s,b0,b1,b2,b3,o0,o1,o2,o3,o4,o5,o6,o7⟩:=i
          simp only at q0 q1 q2 q3 hk2
          subst hk2
          obtain ⟨n0,rfl⟩:=Int.eq_ofNat_of_zero_le q0.1
          obtain ⟨n1,rfl⟩:=Int.eq_ofNat_of_zero_le q1.1
          obtain ⟨n2,rfl⟩:=Int.eq_ofNat_of_zero_le q2.1
          obtain ⟨n3,rfl⟩:=Int.eq_ofNat_of_zero_le q3.1
          have HT:=fun w1=>NC 2 l s n0 n1 n2 n3 o0 o1 o2 o3 o4 o5 o6 o7 w1 ω ω ω ω
          have hT:twI ⟨2,l,s,n0,n1,n2,n3,o0,o1,o2,o3,o4,o5,o6,o7⟩=tw n0 n1 n2 n3:=rfl
          rw [hT]
          generalize tw n0 n1 n2 n3=t at *
          clear hT hF q0 q1 q2 q3
          unfold FN Ap at *
          have HC:=hid HC;have HT:=hid HT
          have K0:Blk (w.alloc (.cells #[ν 2,ν l,ν s,ν (n0:Nat),ν (n1:Nat),ν (n2:Nat),ν (n3:Nat),ν o0,ν o1,ν o2,ν o3,ν o4,ν o5,ν o6,ν o7] 45)) w.heap.size 45 [ν 2,ν l,ν s,ν (n0:Nat),ν (n1:Nat),ν (n2:Nat),ν (n3:Nat),ν o0,ν o1,ν o2,ν o3,ν o4,ν o5,ν o6,ν o7]:=heap_alloc_new w _
          have HB:Hid (Below w.heap.size w (w.alloc (.cells #[ν 2,ν l,ν s,ν (n0:Nat),ν (n1:Nat),ν (n2:Nat),ν (n3:Nat),ν o0,ν o1,ν o2,ν o3,ν o4,ν o5,ν o6,ν o7] 45))):=(Below.refl w.heap.size w).alloc (Nat.le_refl _) _
          have KH:=hid K0
          clear K0
          go_enter Tryz.func100,Tryz.ntmps100
          go_wp2_with (first
            | (go_at_call 133;refine (HC.out _).mono ?_;rintro e w4 ⟨rfl,b4⟩;have k4:=KH.out.mono b4;have B4:=hid (Af HB.out b4)
               have z0:w4.cell? ⟨w.heap.size,0,none⟩=some (ν 2):=Blk.cell k4 (i:=0) (by simp)
               have z1:w4.cell? ⟨w.heap.size,1,none⟩=some (ν l):=Blk.cell k4 (i:=1) (by simp)
               have z2:w4.cell? ⟨w.heap.size,2,none⟩=some (ν s):=Blk.cell k4 (i:=2) (by simp)
               have z3:w4.cell? ⟨w.heap.size,3,none⟩=some (ν (n0:Nat)):=Blk.cell k4 (i:=3) (by simp)
               have z4:w4.cell? ⟨w.heap.size,4,none⟩=some (ν (n1:Nat)):=Blk.cell k4 (i:=4) (by simp)
               have z5:w4.cell? ⟨w.heap.size,5,none⟩=some (ν (n2:Nat)):=Blk.cell k4 (i:=5) (by simp)
               have z6:w4.cell? ⟨w.heap.size,6,none⟩=some (ν (n3:Nat)):=Blk.cell k4 (i:=6) (by simp)
               have z7:w4.cell? ⟨w.heap.size,7,none⟩=some (ν o0):=Blk.cell k4 (i:=7) (by simp)
               have z8:w4.cell? ⟨w.heap.size,8,none⟩=some (ν o1):=Blk.cell k4 (i:=8) (by simp)
               have z9:w4.cell? ⟨w.heap.size,9,none⟩=some (ν o2):=Blk.cell k4 (i:=9) (by simp)
               have z10:w4.cell? ⟨w.heap.size,10,none⟩=some (ν o3):=Blk.cell k4 (i:=10) (by simp)
               have z11:w4.cell? ⟨w.heap.size,11,none⟩=some (ν o4):=Blk.cell k4 (i:=11) (by simp)
               have z12:w4.cell? ⟨w.heap.size,12,none⟩=some (ν o5):=Blk.cell k4 (i:=12) (by simp)
               have z13:w4.cell? ⟨w.heap.size,13,none⟩=some (ν o6):=Blk.cell k4 (i:=13) (by simp)
               have z14:w4.cell? ⟨w.heap.size,14,none⟩=some (ν o7):=Blk.cell k4 (i:=14) (by simp)
               clear k4 b4)
            | (go_at_call 132;refine (HT.out _).mono ?_;rintro e w5 ⟨rfl,b5⟩;have B5:=hid (Af B4.out b5);clear b5))
          go_ret
          exact ⟨by first | rfl | (simp;rfl),B5.out⟩
        · have hF:JQ i=false:=by simpa using hF
          have HC:=fun w1=>LH i w1
          rw [hF] at HC ⊢
          obtain ⟨k,l,s,b0,b1,b2,b3,o0,o1,o2,o3,o4,o5,o6,o7⟩:=i
          simp only at hk2
          subst hk2
          generalize twI _=t at *
          clear hF
          unfold FN Ap at *
          have HC:=hid HC
          have HB:Hid (Below w.heap.size w (w.alloc (.cells #[ν 2,ν l,ν s,ν b0,ν b1,ν b2,ν b3,ν o0,ν o1,ν o2,ν o3,ν o4,ν o5,ν o6,ν o7] 45))):=(Below.refl w.heap.size w).alloc (Nat.le_refl _) _
          go_enter Tryz.func100,Tryz.ntmps100
          go_wp2_with (go_at_call 133;refine (HC.out _).mono ?_;rintro e w4 ⟨rfl,b4⟩;have B4:=hid (Af HB.out b4);clear b4)
          go_ret
          exact ⟨by first | rfl | (simp;rfl),B4.out⟩
      · have hM:Fg i=false:=by unfold Fg;rw [if_neg hk0,if_neg hk1,if_neg hk2]
        rw [hM]
        clear hM
        obtain ⟨k,l,s,b0,b1,b2,b3,o0,o1,o2,o3,o4,o5,o6,o7⟩:=i
        have HB:Hid (Below w.heap.size w (w.alloc (.cells #[ν k,ν l,ν s,ν b0,ν b1,ν b2,ν b3,ν o0,ν o1,ν o2,ν o3,ν o4,ν o5,ν o6,ν o7] 45))):=(Below.refl w.heap.size w).alloc (Nat.le_refl _) _
        unfold FN Ap
        simp only at hk0 hk1 hk2
        have e0:(k == 0)=false:=by simpa using hk0
        have e1:(k == 1)=false:=by simpa using hk1
        have e2:(k == 2)=false:=by simpa using hk2
        clear hk0 hk1 hk2
        go_enter Tryz.func100,Tryz.ntmps100
        go_wp2_with fail
        go_ret
        exact ⟨rfl,HB.out⟩
end
section
open Go.RowKit Go.WideShapes
theorem Ac2:ElemT Tryz.prog 48 3 1 8:=Pb υ48 (z:=ν 0) κ rfl ω
theorem WW (xs:List Int):∀ u∈xs.map iV,u.oneCell'=true:=by
  intro u hu
  obtain ⟨x,_,rfl⟩:=List.mem_map.1 hu
  rfl
theorem Own.cut0 {w:World} {B:Nat} {e:TypeId} {sz n c:Nat} {a:Option Addr} {cs:List Value} (h:Own w B e sz a n c cs) (hn:0<n):Own w B e sz a 0 c []:=by
  obtain ⟨h0,h⟩:=h
  rcases h with ⟨hv,hz⟩ | ⟨g',cap,cur,hv,hg,hh,h1,h2,h3,h4⟩
  · omega
  · cases hv
    exact ⟨by simp,.inr ⟨g',c,cur,rfl,hg,hh,Nat.zero_le _,h2,h3,by simp⟩⟩
theorem UW {w:World} {B:Nat} {e:TypeId} {sz n c:Nat} {a:Option Addr} {cs:List Value} (h:Own w B e sz a n c cs) (hn:0<n):∃ g,a=some ⟨g,0,none⟩:=by
  obtain ⟨h0,h⟩:=h
  rcases h with ⟨hv,hz⟩ | ⟨g',cap,cur,hv,_⟩
  · omega
  · cases hv;exact ⟨g',rfl⟩
theorem Abn (w:World):Calls Tryz.prog 134 #[.slice none 0 0,ν 12] w fun e w'=>∃ a c,e=.returned (.slice a 0 c)∧Own w' w.heap.size 3 1 a 0 c []∧Below w.heap.size w w':=by
  have t1:True:=trivial
  go_enter Tryz.func134,Tryz.ntmps134
  go_wp2_with (at_builtin;have _t:=t1;refine CI rfl (.tmp 20) (.tmp 21) rfl υ48 υ3 (z:=ν 0) (bytes:=8) κ rfl rfl w.heap.size (k:=12) rfl rfl rfl (Own.nil _ _ _ _) ω ω (Nat.le_refl _) ?_;clear t1;intro a7 c7 w7 o7 g7 b7;have hc7:=o7.row.2.1;have O7:=hid (o7.cut0 ω);obtain ⟨g8,rfl⟩:=UW o7 ω;have HB7:=hid b7;clear b7 o7 g7)
  go_ret
  exact ⟨_,_,rfl,O7.out,HB7.out⟩
theorem QX (g:Nat) (A B:List Int) (aA aB:Option Addr) (cA cB:Nat) (w:World) (hA:A.length=4) (hB:B.length=8) (hg:g<w.heap.size)
    (k0:w.cell? ⟨g,0,none⟩=some (.slice aA 4 cA)) (k1:w.cell? ⟨g,1,none⟩=some (.slice aB 8 cB)) (rA:NH w aA cA A) (rB:NH w aB cB B) :
    Calls Tryz.prog 101 #[.slice (some ⟨g,0,none⟩) 2 2] w fun e w'=>∃ a c,e=.returned (.slice a 12 c)∧Own w' w.heap.size 3 1 a 12 c ((A++B).map iV)∧Below w.heap.size w w':=by
  have HK0:=hid k0;have HK1:=hid k1;have RA:=hid rA;have RB:=hid rB;have LA:=hid hA;have LB:=hid hB
  clear rA rB hA hB
  go_enter Tryz.func101,Tryz.ntmps101
  go_wp2_with fail
  go_loopw [3,11] (fun s i wr=>∃ j:Nat,j≤2∧i=ν j∧((j=0∧s=ν 0)∨(j=1∧s=ν 4)∨(j=2∧s=ν 12))∧wr=w) (fun _ i _=>2-(intOf i).toNat)
  case atStart=>exact ⟨0,ω,rfl,.inl ⟨rfl,rfl⟩,rfl⟩
  case round=>
  obtain ⟨j,hj,rfl,hs,rfl⟩:=hrel
  rcases hs with ⟨rfl,rfl⟩ | ⟨rfl,rfl⟩ | ⟨rfl,rfl⟩
  · rw [show ((0:Nat):Int)=0 from rfl]
    go_wp2_with fail
    go_roundw
    case rel=>exact ⟨1,ω,rfl,.inr (.inl ⟨rfl,rfl⟩),by first | rfl | trivial⟩
    case measure=>simp [intOf]
  · rw [show ((1:Nat):Int)=1 from rfl]
    go_wp2_with fail
    go_roundw
    case rel=>exact ⟨2,ω,rfl,.inr (.inr ⟨rfl,rfl⟩),by first | rfl | trivial⟩
    case measure=>simp [intOf]
  · rw [show ((2:Nat):Int)=2 from rfl]
    obtain ⟨wo,hwo⟩:∃ x,x=wr:=⟨_,rfl⟩
    subst hwo
    go_wp2_with (go_at_call 134;refine (Abn _).mono ?_;rintro e w4 ⟨a4,c4,rfl,o4,b4⟩;have O4:=hid o4;have B4:=hid b4;clear o4 b4)
    go_loopw [6,27] (fun s i wr=>∃ (j n c:Nat) (a:Option Addr) (Z:List Int),j≤2∧i=ν j∧s=.slice a n c∧Own wr wo.heap.size 3 1 a n c (Z.map iV)∧Below wo.heap.size wo wr∧((j=0∧n=0∧Z=[])∨(j=1∧n=4∧Z=A)∨(j=2∧n=12∧Z=A++B))) (fun _ i _=>2-(intOf i).toNat)
    case atStart=>exact ⟨0,0,c4,a4,[],ω,rfl,rfl,O4.out,B4.out,.inl ⟨rfl,rfl,rfl⟩⟩
    case round=>
    obtain ⟨j,n,c,a,Z,hj2,rfl,rfl,oz,bz,hs⟩:=hrel
    have OZ:=hid oz;have BZ:=hid bz
    have kk0:=(bz.cell (p:=⟨g,0,none⟩) hg).trans HK0.out
    have kk1:=(bz.cell (p:=⟨g,1,none⟩) hg).trans HK1.out
    have t1:True:=trivial
    clear oz bz k0 k1
    rcases hs with ⟨rfl,rfl,rfl⟩ | ⟨rfl,rfl,rfl⟩ | ⟨rfl,rfl,rfl⟩
    · rw [show ((0:Nat):Int)=0 from rfl]
      have RR:Hid (Row wr 1 aA 4 cA (A.map iV)):=by have q:=RA.out.mono BZ.out;unfold NH at q;rw [LA.out] at q;exact q
      go_wp2_with (at_builtin;have _t:=t1;refine CA rfl (.tmp 31) (.tmp 32) rfl Ac2 wo.heap.size rfl rfl OZ.out RR.out (WW A) ω ω BZ.out.size ?_;clear t1;intro a6 c6 w6 o6 g6 b6;have O6:=hid o6;have B6:=hid (AP BZ.out b6 (Nat.le_refl _));clear o6 g6 b6)
      go_roundw
      case rel=>exact ⟨1,4,c6,a6,A,ω,rfl,rfl,O6.out,B6.out,.inr (.inl ⟨rfl,rfl,rfl⟩)⟩
      case measure=>simp [intOf]
    · rw [show ((1:Nat):Int)=1 from rfl]
      have RR:Hid (Row wr 1 aB 8 cB (B.map iV)):=by have q:=RB.out.mono BZ.out;unfold NH at q;rw [LB.out] at q;exact q
      go_wp2_with (at_builtin;have _t:=t1;refine CA rfl (.tmp 31) (.tmp 32) rfl Ac2 wo.heap.size rfl rfl OZ.out RR.out (WW B) ω ω BZ.out.size ?_;clear t1;intro a6 c6 w6 o6 g6 b6;have O6:=hid o6;have B6:=hid (AP BZ.out b6 (Nat.le_refl _));clear o6 g6 b6)
      go_roundw
      case rel=>exact ⟨2,12,c6,a6,Z++B,ω,rfl,rfl,by rw [List.map_append];exact O6.out,B6.out,.inr (.inr ⟨rfl,rfl,rfl⟩)⟩
      case measure=>simp [intOf]
    · rw [show ((2:Nat):Int)=2 from rfl]
      go_wp2_with fail
      go_ret
      exact ⟨_,_,rfl,OZ.out,BZ.out⟩
end
section
def IF (l:List UInt8):List UInt8:=l++List.replicate (60-l.length) 0
def Mg (l:List UInt8):List UInt8:=IF l++le 4 (CS (IF l))
theorem Hf {l:List UInt8} (h:l.length≤60):(IF l).length=60:=by simp [IF];omega
def btw (n m:Int):Bool:=decide (0≤n)&&decide (n≤m)
theorem Ade {n m:Int} (h:0≤n∧n≤m):btw n m=true:=by simp [btw,h]
theorem Add {n m:Int} (h:n<0∨m<n):btw n m=false:=by simp [btw];omega
theorem GS (n m:Int) (w:World) :
    Calls Tryz.prog 80 #[ν n,ν m] w fun e w'=>e=.returned (.bool (btw n m))∧w=w':=by
  by_cases h0:0≤n
  · go_enter Tryz.func80,Tryz.ntmps80;go_wp2;go_ret;exact ⟨Bk (by simp [btw,h0]),rfl⟩
  · go_enter Tryz.func80,Tryz.ntmps80;go_wp2;go_ret;exact ⟨Bk (by simp [btw];omega),rfl⟩
def Om (e h r er i wr:Int):Bool:=decide (0≤e∧e≤1073741824∧0≤h∧h≤1024∧0≤r∧r≤1099511627776∧0≤wr∧wr≤1099511627776∧0≤er∧er≤255∧0≤i∧i≤32)
def TB (e h r er i wr:Int):Value:=.agg #[ν e,ν h,ν r,ν er,ν i,ν wr]
theorem UK (e h r er i wr:Int) :
    e<0∨(0≤e∧1073741824<e)∨(0≤e∧e≤1073741824∧h<0)∨(0≤e∧e≤1073741824∧0≤h∧1024<h) ∨
    (0≤e∧e≤1073741824∧0≤h∧h≤1024∧r<0)∨(0≤e∧e≤1073741824∧0≤h∧h≤1024∧0≤r∧1099511627776<r) ∨
    (0≤e∧e≤1073741824∧0≤h∧h≤1024∧0≤r∧r≤1099511627776∧wr<0)∨(0≤e∧e≤1073741824∧0≤h∧h≤1024∧0≤r∧r≤1099511627776∧0≤wr∧1099511627776<wr) ∨
    (0≤e∧e≤1073741824∧0≤h∧h≤1024∧0≤r∧r≤1099511627776∧0≤wr∧wr≤1099511627776∧er<0)∨(0≤e∧e≤1073741824∧0≤h∧h≤1024∧0≤r∧r≤1099511627776∧0≤wr∧wr≤1099511627776∧0≤er∧255<er) ∨
    (0≤e∧e≤1073741824∧0≤h∧h≤1024∧0≤r∧r≤1099511627776∧0≤wr∧wr≤1099511627776∧0≤er∧er≤255∧i<0)∨(0≤e∧e≤1073741824∧0≤h∧h≤1024∧0≤r∧r≤1099511627776∧0≤wr∧wr≤1099511627776∧0≤er∧er≤255∧0≤i∧32<i) ∨
    (0≤e∧e≤1073741824∧0≤h∧h≤1024∧0≤r∧r≤1099511627776∧0≤wr∧wr≤1099511627776∧0≤er∧er≤255∧0≤i∧i≤32):=by
  rcases Int.lt_or_le e 0 with a1 | a1
  · exact .inl a1
  refine .inr ?_
  rcases Int.lt_or_le 1073741824 e with a2 | a2
  · exact .inl ⟨a1,a2⟩
  refine .inr ?_
  rcases Int.lt_or_le h 0 with a3 | a3
  · exact .inl ⟨a1,a2,a3⟩
  refine .inr ?_
  rcases Int.lt_or_le 1024 h with a4 | a4
  · exact .inl ⟨a1,a2,a3,a4⟩
  refine .inr ?_
  rcases Int.lt_or_le r 0 with a5 | a5
  · exact .inl ⟨a1,a2,a3,a4,a5⟩
  refine .inr ?_
  rcases Int.lt_or_le 1099511627776 r with a6 | a6
  · exact .inl ⟨a1,a2,a3,a4,a5,a6⟩
  refine .inr ?_
  rcases Int.lt_or_le wr 0 with a7 | a7
  · exact .inl ⟨a1,a2,a3,a4,a5,a6,a7⟩
  refine .inr ?_
  rcases Int.lt_or_le 1099511627776 wr with a8 | a8
  · exact .inl ⟨a1,a2,a3,a4,a5,a6,a7,a8⟩
  refine .inr ?_
  rcases Int.lt_or_le er 0 with a9 | a9
  · exact .inl ⟨a1,a2,a3,a4,a5,a6,a7,a8,a9⟩
  refine .inr ?_
  rcases Int.lt_or_le 255 er with a10 | a10
  · exact .inl ⟨a1,a2,a3,a4,a5,a6,a7,a8,a9,a10⟩
  refine .inr ?_
  rcases Int.lt_or_le i 0 with a11 | a11
  · exact .inl ⟨a1,a2,a3,a4,a5,a6,a7,a8,a9,a10,a11⟩
  refine .inr ?_
  rcases Int.lt_or_le 32 i with a12 | a12
  · exact .inl ⟨a1,a2,a3,a4,a5,a6,a7,a8,a9,a10,a11,a12⟩
  exact .inr ⟨a1,a2,a3,a4,a5,a6,a7,a8,a9,a10,a11,a12⟩
theorem Zq (e h r er i wr:Int) (w:World) :
    Calls Tryz.prog 78 #[TB e h r er i wr] w fun en w'=>en=.returned (.bool (Om e h r er i wr))∧Below w.heap.size w w':=by
  unfold TB
  rcases UK e h r er i wr with a1 | ⟨a1,a2⟩ | ⟨a1,a2,a3⟩ | ⟨a1,a2,a3,a4⟩ | ⟨a1,a2,a3,a4,a5⟩ | ⟨a1,a2,a3,a4,a5,a6⟩ | ⟨a1,a2,a3,a4,a5,a6,a7⟩ | ⟨a1,a2,a3,a4,a5,a6,a7,a8⟩ | ⟨a1,a2,a3,a4,a5,a6,a7,a8,a9⟩ | ⟨a1,a2,a3,a4,a5,a6,a7,a8,a9,a10⟩ | ⟨a1,a2,a3,a4,a5,a6,a7,a8,a9,a10,a11⟩ | ⟨a1,a2,a3,a4,a5,a6,a7,a8,a9,a10,a11,a12⟩ | ⟨a1,a2,a3,a4,a5,a6,a7,a8,a9,a10,a11,a12⟩
  all_goals
    go_enter Tryz.func78,Tryz.ntmps78
    repeat (go_wp2_with fail;refine (GS _ _ _).mono ?_;rintro en w' ⟨rfl,rfl⟩;first | rw [Ade ω] | rw [Add ω])
    go_wp2_with fail
    go_ret
    refine ⟨Bk ?_,(Below.refl _ _).alloc (Nat.le_refl _) _⟩
    first | exact (decide_eq_false ω).symm | exact (decide_eq_true ω).symm | (rw [decide_eq_true (ω:i≤32)];exact (decide_eq_true ω).symm) | (rw [decide_eq_false (ω:¬ i≤32)];exact (decide_eq_false ω).symm)
end
section
def Cw (fs:List (Int×Int)):List Value:=fs.flatMap fun f=>[ν f.1,ν f.2]
theorem IW (fs:List (Int×Int)):(Cw fs).length=fs.length*2:=by
  induction fs with
  | nil=>rfl
  | cons f fs ih=>simp only [Cw,List.flatMap_cons,List.length_append,List.length_cons] at *;simp at *;omega
theorem In {fs:List (Int×Int)} {j:Nat} {f:Int×Int} (h:fs[j]? = some f):(Cw fs)[j*2]? = some (ν f.1)∧(Cw fs)[j*2+1]? = some (ν f.2):=by
  induction fs generalizing j with
  | nil=>simp at h
  | cons g fs ih=>
    cases j with
    | zero=>simp at h;subst h;simp [Cw]
    | succ j=>
      have h':fs[j]? = some f:=by simpa using h
      have:=ih h'
      rw [show (j+1)*2=j*2+1+1 from ω]
      simpa [Cw] using this
def Ce (text:List UInt8) (fs:List (Int×Int)):List UInt8:=fs.foldl (fun b f=>AH b f.1 f.2) text
theorem LU (xs:List UInt8) (n k:Int):(AH xs n k).length≤xs.length+8:=by
  unfold AH
  split
  · next h=>have:=GY h;simp [AF];omega
  · omega
theorem GH (xs:List UInt8) (fs:List (Int×Int)):(Ce xs fs).length≤xs.length+8*fs.length:=by
  induction fs generalizing xs with
  | nil=>simp [Ce]
  | cons f fs ih=>
    have h1:=ih (AH xs f.1 f.2)
    have h2:=LU xs f.1 f.2
    simp only [Ce,List.foldl_cons,List.length_cons] at *
    omega
theorem LG (s:ByteArray) (cap:Nat):bytesRow s cap=((s.data.toList.map Ag)++List.replicate (cap-s.size) (Value.int .u8 0)).toArray:=by
  apply Array.ext'
  simp [bytesRow,Ag]
theorem MM (w:World) (s:ByteArray) (hs:s.size≤1000) :
    Bj (w.alloc (.cells (bytesRow s (grownCap w s.size 0 5)) 5 ((bytesRow s (grownCap w s.size 0 5)).size,(bytesRow s (grownCap w s.size 0 5)).size+1))).drew (some ⟨w.heap.size,0,none⟩) (grownCap w s.size 0 5) s.data.toList:=by
  have hlen:s.data.toList.length=s.size:=by simp
  have hge:=grownCap_ge w s.size 0 5
  have hcm:grownCap w s.size 0 5≤maxLen:=grownCap_le_maxLen w s.size 0 5 (by unfold maxLen;omega)
  refine Row.drew (w:=w.alloc _) ⟨by simp,ω,hcm,(fun h=>by cases h),fun _=>⟨w.heap.size,0,rfl,by simp,fun j u hu=>?_⟩⟩
  have hh:=heap_alloc_new w (.cells (bytesRow s (grownCap w s.size 0 5)) 5 ((bytesRow s (grownCap w s.size 0 5)).size,(bytesRow s (grownCap w s.size 0 5)).size+1))
  unfold World.cell?
  rw [show (⟨w.heap.size,0+j,none⟩:Addr).block=w.heap.size from rfl,hh]
  have hj:=(List.getElem?_eq_some_iff.1 hu).1
  simp only [Nat.zero_add,Option.isSome_none,Bool.false_eq_true,if_false]
  rw [LG]
  rw [List.getElem?_toArray,List.getElem?_append_left hj]
  exact hu
theorem UZ {B:List UInt8} (h:B.length≤60):B.map Ag++List.replicate (60-B.length) (.int .u8 0)=(IF B).map Ag:=by
  simp [IF,Ag]
theorem Adm {z:Nat} (h:z<4294967296):BH (z:Int) 4=true:=by
  unfold BH
  simp;omega
theorem Tv (l:List UInt8):AH l (CS l:Nat) 4=l++le 4 (CS l):=by
  unfold AH
  rw [if_pos (Adm (EN l))]
  simp
theorem ZB {B:List UInt8} (h:B.length≤60):B.length+(60-B.length)=(IF B).length:=by rw [Hf h];omega
theorem ZC {w:World} {g:Nat} {a:Option Addr} {c:Nat} {B:List UInt8} (h:B.length≤60) (o:Own w g 5 1 a (B.length+(60-B.length)) c (B.map Ag++List.replicate (60-B.length) (.int .u8 0))) :
    Bj w a c (IF B):=by
  rw [UZ h] at o
  have:=o.row
  rwa [show B.length+(60-B.length)=(IF B).length from by rw [Hf h];omega] at this
theorem Qr (s:ByteArray) (a:Option Addr) (c:Nat) (fs:List (Int×Int)) (w:World) (hs:s.size≤60) (hf:Row w 2 a fs.length c (Cw fs)) (hn:fs.length≤20) (hpos:0<fs.length) (h9:∀ f∈fs,f.1≤9223372036854775807)
    (h60:(Ce s.data.toList fs).length≤60) :
    Calls Tryz.prog 79 #[.string s,.slice a fs.length c] w (TO w (Mg (Ce s.data.toList fs))):=by
  have kc:=fun w:World=>run_bytes_of_string (P:=Tryz.prog) w 9 74 5 s υ9 υ74 υ5
  have hlen:s.data.toList.length=s.size:=by simp
  have r0:=MM w s ω
  have b0:Below w.heap.size w (w.alloc (.cells (bytesRow s (grownCap w s.size 0 5)) 5 ((bytesRow s (grownCap w s.size 0 5)).size,(bytesRow s (grownCap w s.size 0 5)).size+1))).drew:=((Below.refl _ w).alloc (Nat.le_refl _) _).drew
  go_enter Tryz.func79,Tryz.ntmps79
  go_wp2
  clear kc
  rw [← hlen] at r0 b0 ⊢
  generalize hcap:grownCap w s.data.toList.length 0 5=cap0 at *
  clear hcap
  generalize World.drew _=w1 at *
  have hfl:=hf.1
  have HF60:=hid h60;have HF9:=hid h9;clear h60 h9
  generalize htx:s.data.toList=tx at *
  have htl:tx.length≤60:=ω
  clear htx hlen
  have t1:True:=trivial
  go_loopw [5,12] (fun b i wr=>∃ (j:Nat) (a':Option Addr) (c':Nat),j≤fs.length∧i=ν j∧b=.slice a' (Ce tx (fs.take j)).length c'∧Bj wr a' c' (Ce tx (fs.take j))∧(0<j→BV wr w.heap.size a' c' (Ce tx (fs.take j)))∧Below w.heap.size w wr)
    (fun _ i _=>fs.length-(intOf i).toNat)
  case atStart=>exact ⟨0,_,_,ω,rfl,rfl,r0,fun h=>absurd h ω,b0⟩
  case round=>
    obtain ⟨j,a',c',hj,rfl,rfl,hr,ho,hb⟩:=hrel
    by_cases hlt:j<fs.length
    · obtain ⟨f,hfj⟩:∃ f,fs[j]? = some f:=⟨_,List.getElem?_eq_getElem hlt⟩
      obtain ⟨b,off,rfl,hbl,hc⟩:=(hf.mono hb).at ω
      have c0:=hc (j*2) _ (In hfj).1
      have c1:=hc (j*2+1) _ (In hfj).2
      rw [← Nat.add_assoc] at c1
      have hx:Ce tx (fs.take (j+1))=AH (Ce tx (fs.take j)) f.1 f.2:=by
        unfold Ce
        rw [List.take_add_one,hfj]
        simp [List.foldl_append]
      have HX:=hid hx;clear hx
      have h9:=HF9.out f (List.mem_of_getElem? hfj)
      clear hc hfj
      have hl60:(Ce tx (fs.take j)).length≤70368744177664:=by
        have h1:=GH tx (fs.take j)
        have h2:(fs.take j).length≤20:=by simp;omega
        omega
      go_wp2_with fail
      refine (CQ a' c' _ f.1 f.2 _ (hr.alloc _) hl60 h9).mono ?_
      have hsz:=hb.size
      rintro e w2 ⟨a2,c2,rfl,o2,b2⟩
      go_wp2_with fail
      go_roundw
      case rel=>exact ⟨j+1,a2,c2,ω,by go_num,by rw [HX.out],by rw [HX.out];exact o2.row,fun _=>by rw [HX.out];exact o2.low (Nat.le_trans hsz (by simp)),AP (hb.alloc hsz _) b2 (Nat.le_trans hsz (by simp))⟩
      case measure=>simp [intOf];omega
    · obtain rfl:j=fs.length:=ω
      have o1:=ho hpos
      simp only [List.take_length] at o1 ⊢
      have h60:=HF60.out
      generalize hB:Ce tx fs=B at *
      have HB:=hid hB;clear hB ho hr hf HF9 r0 b0
      have hlb:=hb.size
      have hk:(60:Int)-(B.length:Int)=((60-B.length:Nat):Int):=ω
      go_wp2_with (at_builtin;have _t:=t1;refine CI rfl (.tmp 23) (.tmp 26) rfl υ74 υ3 (z:=.int .u8 0) (bytes:=1) κ rfl rfl w.heap.size (k:=60-B.length) rfl rfl rfl o1 ω ω hlb ?_;clear t1;intro a3 c3 w3 o3 _ b3;have _r3:=ZC h60 o3;rw [ZB h60])
      have hp60:(IF B).length≤60:=Nat.le_of_eq (Hf h60)
      have hcl:=EN (IF B)
      refine (Ju a3 c3 (IF B) w3 _r3).mono ?_
      rintro e w4 ⟨rfl,b4⟩
      generalize hz:CS (IF B)=z at *
      have HZ:=hid hz;clear hz
      go_wp2_with fail
      refine (CQ a3 c3 (IF B) (z:Int) 4 _ (_r3.mono b4) ω ω).mono ?_
      rintro e w5 ⟨a5,c5,rfl,o5,b5⟩
      have he:AH (IF B) (z:Int) 4=Mg B:=by
        unfold Mg;rw [← HZ.out];exact Tv _
      rw [he] at o5 ⊢
      have hs4:=Nat.le_trans b3.size b4.size
      go_wp2_with fail
      go_ret
      exact ⟨a5,c5,rfl,o5.low (by have:=b3.size;have:=b4.size;omega),AP (AP (AP hb b3 (Nat.le_refl _)) b4 (by have:=b3.size;omega)) b5 (by have:=b3.size;have:=b4.size;omega)⟩
end
section
open Go.RowKit Go.WideShapes
theorem Tu (xs:List UInt8) (n:Int) (k:Nat):(AH xs n k).length≤xs.length+k:=by
  unfold AH
  split
  · rw [List.length_append,AF];omega
  · omega
theorem Ge (xs:List UInt8) (n:Int):(AH xs n 1).length≤xs.length+1:=Tu xs n 1
theorem PV (xs:List UInt8) (n:Int):(AH xs n 2).length≤xs.length+2:=Tu xs n 2
def QK:List Int:=[0,0,0,0,0,0,0,0,0,0,0,0,0,0,0]
def Uz (i:InoT):List UInt8:=AH (AH (AH [] i.k 1) i.l 1) i.s 2
def KB (l:List Int):List (Int×Int):=l.map fun n=>(n,1)
def Pq (i:InoT):List UInt8:=Ce (Uz i) (KB (i.B++i.O))
def MJ (i:InoT):List UInt8:=Pq i++List.replicate (60-(Pq i).length) 0
def Vi (i:InoT):List UInt8:=AH (MJ i) (CS (MJ i):Nat) 4
def Dm (i:InoT):List UInt8:=if Fg i then (if Oe i=QK then List.replicate 64 0 else Vi i) else []
def DY (i:InoT):Int:=if Fg i then 0 else 1
theorem Zx (l:List Int) (xs:List UInt8):(Ce xs (KB l)).length≤xs.length+l.length:=by
  induction l generalizing xs with
  | nil=>simp [KB,Ce]
  | cons n l ih=>
    have h1:=ih (AH xs n 1)
    have h2:=Ge xs n
    simp only [KB,Ce,List.map_cons,List.foldl_cons,List.length_cons] at h1 h2 ⊢
    simp only [KB,Ce] at ih
    omega
theorem Tm (i:InoT):(Pq i).length≤16:=by
  have h:=Zx (i.B++i.O) (Uz i)
  have h1:=PV (AH (AH [] i.k 1) i.l 1) i.s
  have h2:=Ge (AH [] i.k 1) i.l
  have h3:=Ge [] i.k
  have hl:(i.B++i.O).length=12:=rfl
  have h0:([]:List UInt8).length=0:=rfl
  unfold Pq
  unfold Uz at *
  rw [hl] at h
  omega
theorem Pr (i:InoT):(MJ i).length=60:=by
  have:=Tm i
  unfold MJ;rw [List.length_append,List.length_replicate];omega
theorem ZH (i:InoT):Vi i=MJ i++le 4 (CS (MJ i)):=Tv _
theorem Jo (i:InoT):(Vi i).length=64:=by rw [ZH,List.length_append,Pr,AF]
def Aa0 (w:World) (xs:List UInt8) (er:Int) (e:Ending) (w':World):Prop:=
  ∃ a c,e=.returned (.tuple #[.slice a xs.length c,ν er])∧BV w' w.heap.size a c xs∧Below w.heap.size w w'
theorem OM {w:World} {B g:Nat} {e:TypeId} {L:List Value} (h:Blk w g e L) (hB:B≤g) (hl:L.length≤maxLen):Own w B e 1 (some ⟨g,0,none⟩) L.length L.length L:=
  ⟨by simp,.inr ⟨g,L.length,L.toArray,rfl,hB,h,Nat.le_refl _,hl,by simp,by simp⟩⟩
theorem Zo {i:InoT} (h:Fg i=true):i.k≤2∧i.l≤20∧i.s≤256∧∀ n∈i.B++i.O,n≤128:=by
  unfold Fg at h
  split at h
  · have h:=of_decide_eq_true h
    simp only [Oe,List.cons.injEq,and_true] at h
    obtain ⟨h0,h1,h2,h3,h4,h5,h6,h7,h8,h9,h10,h11,h12,h13,h14⟩:=h
    refine ⟨ω,ω,ω,fun n hn=>?_⟩
    simp only [InoT.B,InoT.O,List.cons_append,List.nil_append,List.mem_cons,List.not_mem_nil,or_false] at hn
    omega
  · split at h
    · rw [Bool.and_eq_true] at h
      have hb:=Je h.1
      have hF:=h.1
      unfold Es IX Ti okO at hF
      simp only [Bool.and_eq_true,decide_eq_true_eq] at hF
      refine ⟨ω,ω,ω,fun n hn=>?_⟩
      simp only [InoT.B,InoT.O,List.cons_append,List.nil_append,List.mem_cons,List.not_mem_nil,or_false] at hn
      omega
    · split at h
      · rw [Bool.and_eq_true] at h
        have hb:=Kj h.1
        have hF:=h.1
        unfold JQ IS noO at hF
        simp only [Bool.and_eq_true,decide_eq_true_eq,List.cons.injEq,and_true] at hF
        refine ⟨ω,ω,ω,fun n hn=>?_⟩
        simp only [InoT.B,InoT.O,List.cons_append,List.nil_append,List.mem_cons,List.not_mem_nil,or_false] at hn
        omega
      · cases h
theorem Rv (H:List UInt8) (l:List Int) (x:Int):Ce H (KB (l++[x]))=AH (Ce H (KB l)) x 1:=by simp [Ce,KB]
theorem IH (i:InoT) (w:World):Calls Tryz.prog 67 #[FN i] w (Aa0 w (Dm i) (DY i)):=by
  have HC:=fun w1=>RQ i w1
  cases hm:Fg i
  · have h1:Dm i=[]:=by unfold Dm;rw [hm];rfl
    have h2:DY i=1:=by unfold DY;rw [hm];rfl
    rw [h1,h2]
    rw [hm] at HC
    obtain ⟨k,l,s,b0,b1,b2,b3,o0,o1,o2,o3,o4,o5,o6,o7⟩:=i
    unfold FN Ap at *
    have HC:=hid HC
    have HB:Hid (Below w.heap.size w (w.alloc (.cells #[.int .i64 k,.int .i64 l,.int .i64 s,.int .i64 b0,.int .i64 b1,.int .i64 b2,.int .i64 b3,.int .i64 o0,.int .i64 o1,.int .i64 o2,.int .i64 o3,.int .i64 o4,.int .i64 o5,.int .i64 o6,.int .i64 o7] 45))):=(Below.refl w.heap.size w).alloc (Nat.le_refl _) _
    clear hm h1 h2
    go_enter Tryz.func67,Tryz.ntmps67
    go_wp2_with (go_at_call 100;refine (HC.out _).mono ?_;rintro e w4 ⟨rfl,b4⟩;have B4:=hid (Af HB.out b4);clear b4)
    refine bodyPost_ret (Go.results_tmp2 rfl _ _ _) rfl ?_
    exact ⟨none,0,rfl,Own.nil _ _ _ _,B4.out⟩
  · by_cases hz:Oe i=QK
    · have h1:Dm i=List.replicate 64 0:=by unfold Dm;rw [hm,if_pos hz];rfl
      have h2:DY i=0:=by unfold DY;rw [hm];rfl
      rw [h1,h2]
      rw [hm] at HC
      obtain ⟨k,l,s,b0,b1,b2,b3,o0,o1,o2,o3,o4,o5,o6,o7⟩:=i
      have E:=Wx k l s b0 b1 b2 b3 o0 o1 o2 o3 o4 o5 o6 o7 0 0 0 0 0 0 0 0 0 0 0 0 0 0 0
      have hd:decide ([k,l,s,b0,b1,b2,b3,o0,o1,o2,o3,o4,o5,o6,o7]=[0,0,0,0,0,0,0,0,0,0,0,0,0,0,0])=true:=decide_eq_true hz
      rw [hd] at E
      clear hz hd
      unfold FN Ap at *
      have HC:=hid HC
      have K0:Hid (Blk (w.alloc (.cells #[.int .i64 k,.int .i64 l,.int .i64 s,.int .i64 b0,.int .i64 b1,.int .i64 b2,.int .i64 b3,.int .i64 o0,.int .i64 o1,.int .i64 o2,.int .i64 o3,.int .i64 o4,.int .i64 o5,.int .i64 o6,.int .i64 o7] 45)) w.heap.size 45 [.int .i64 k,.int .i64 l,.int .i64 s,.int .i64 b0,.int .i64 b1,.int .i64 b2,.int .i64 b3,.int .i64 o0,.int .i64 o1,.int .i64 o2,.int .i64 o3,.int .i64 o4,.int .i64 o5,.int .i64 o6,.int .i64 o7]):=heap_alloc_new w _
      have HB:Hid (Below w.heap.size w (w.alloc (.cells #[.int .i64 k,.int .i64 l,.int .i64 s,.int .i64 b0,.int .i64 b1,.int .i64 b2,.int .i64 b3,.int .i64 o0,.int .i64 o1,.int .i64 o2,.int .i64 o3,.int .i64 o4,.int .i64 o5,.int .i64 o6,.int .i64 o7] 45))):=(Below.refl w.heap.size w).alloc (Nat.le_refl _) _
      clear hm h1 h2
      go_enter Tryz.func67,Tryz.ntmps67
      go_wp2_with (first
        | (go_at_call 100;refine (HC.out _).mono ?_;rintro e w4 ⟨rfl,b4⟩;have B4:=hid (Af HB.out b4);have k4:=K0.out.mono b4
           have z0:w4.cell? ⟨w.heap.size,0,none⟩=some (.int .i64 k):=Blk.cell k4 (i:=0) (by simp)
           have z1:w4.cell? ⟨w.heap.size,1,none⟩=some (.int .i64 l):=Blk.cell k4 (i:=1) (by simp)
           have z2:w4.cell? ⟨w.heap.size,2,none⟩=some (.int .i64 s):=Blk.cell k4 (i:=2) (by simp)
           have z3:w4.cell? ⟨w.heap.size,3,none⟩=some (.int .i64 b0):=Blk.cell k4 (i:=3) (by simp)
           have z4:w4.cell? ⟨w.heap.size,4,none⟩=some (.int .i64 b1):=Blk.cell k4 (i:=4) (by simp)
           have z5:w4.cell? ⟨w.heap.size,5,none⟩=some (.int .i64 b2):=Blk.cell k4 (i:=5) (by simp)
           have z6:w4.cell? ⟨w.heap.size,6,none⟩=some (.int .i64 b3):=Blk.cell k4 (i:=6) (by simp)
           have z7:w4.cell? ⟨w.heap.size,7,none⟩=some (.int .i64 o0):=Blk.cell k4 (i:=7) (by simp)
           have z8:w4.cell? ⟨w.heap.size,8,none⟩=some (.int .i64 o1):=Blk.cell k4 (i:=8) (by simp)
           have z9:w4.cell? ⟨w.heap.size,9,none⟩=some (.int .i64 o2):=Blk.cell k4 (i:=9) (by simp)
           have z10:w4.cell? ⟨w.heap.size,10,none⟩=some (.int .i64 o3):=Blk.cell k4 (i:=10) (by simp)
           have z11:w4.cell? ⟨w.heap.size,11,none⟩=some (.int .i64 o4):=Blk.cell k4 (i:=11) (by simp)
           have z12:w4.cell? ⟨w.heap.size,12,none⟩=some (.int .i64 o5):=Blk.cell k4 (i:=12) (by simp)
           have z13:w4.cell? ⟨w.heap.size,13,none⟩=some (.int .i64 o6):=Blk.cell k4 (i:=13) (by simp)
           have z14:w4.cell? ⟨w.heap.size,14,none⟩=some (.int .i64 o7):=Blk.cell k4 (i:=14) (by simp)
           clear k4 b4)
        | (at_make;refine JA rfl (.const (.int .i64 64)) (.const (.int .i64 64)) rfl Tryz.underlying74 Aar rfl (n:=64) rfl rfl rfl rfl (by omega) (by omega) ?_;intro w5 k5 b5;have O5:=hid (OM (B:=w.heap.size) k5 B4.out.size (by rw [List.length_replicate];unfold maxLen;omega));have B5:=hid (Af B4.out b5);clear k5 b5))
      refine bodyPost_ret (Go.results_tmp2 rfl _ _ _) rfl ?_
      refine ⟨_,_,rfl,?_,B5.out⟩
      unfold BV
      rw [List.map_replicate,List.length_replicate]
      have q:=O5.out
      rw [List.length_replicate] at q
      exact q
    · have h1:Dm i=Vi i:=by unfold Dm;rw [hm,if_pos rfl,if_neg hz]
      have h2:DY i=0:=by unfold DY;rw [hm];rfl
      rw [h1,h2]
      rw [hm] at HC
      have hd:decide (Oe i=QK)=false:=decide_eq_false hz
      have hXl:=Tm i
      have hYl:=Pr i
      have hIl:=Jo i
      have hI:Vi i=AH (MJ i) (CS (MJ i):Nat) 4:=rfl
      have hY:MJ i=Pq i++List.replicate (60-(Pq i).length) 0:=rfl
      have hX:Pq i=Ce (Uz i) (KB (i.B++i.O)):=rfl
      have hH:Uz i=AH (AH (AH [] i.k 1) i.l 1) i.s 2:=rfl
      have hL12:(i.B++i.O).length=12:=rfl
      obtain ⟨uk,ul,us,uBO⟩:=Zo hm
      generalize Vi i=R at *
      generalize MJ i=Y at *
      generalize Pq i=X at *
      generalize hHH:Uz i=H at *
      obtain ⟨k,l,s,b0,b1,b2,b3,o0,o1,o2,o3,o4,o5,o6,o7⟩:=i
      have E:=Wx k l s b0 b1 b2 b3 o0 o1 o2 o3 o4 o5 o6 o7 0 0 0 0 0 0 0 0 0 0 0 0 0 0 0
      have hd2:decide ([k,l,s,b0,b1,b2,b3,o0,o1,o2,o3,o4,o5,o6,o7]=[0,0,0,0,0,0,0,0,0,0,0,0,0,0,0])=false:=hd
      rw [hd2] at E
      clear hz hd hd2 h1 h2 hm hHH
      unfold FN Ap at *
      simp only [InoT.B,InoT.O] at *
      obtain ⟨BO,hBO⟩:∃ BO,BO=[b0,b1,b2,b3]++[o0,o1,o2,o3,o4,o5,o6,o7]:=⟨_,rfl⟩
      rw [← hBO] at hL12 hX uBO
      have P1:=fun w1=>CQ none 0 [] k 1 w1 (Row.nil _ _) (by simp) (by omega)
      have l1:=Ge [] k
      have l2:=Ge (AH [] k 1) l
      have l3:=PV (AH (AH [] k 1) l 1) s
      rw [← hH] at l3
      have P2:=fun a c w1 r=>CQ a c (AH [] k 1) l 1 w1 r (by have:([]:List UInt8).length=0:=rfl;omega) (by omega)
      have P3:=fun a c w1 r=>CQ a c (AH (AH [] k 1) l 1) s 2 w1 r (by have:([]:List UInt8).length=0:=rfl;omega) (by omega)
      rw [← hH] at P3
      rw [show ([]:List UInt8).length=0 from rfl] at l1
      generalize AH (AH [] k 1) l 1=X2 at *
      generalize AH [] k 1=X1 at *
      have HH4:H.length≤4:=by omega
      have HC:=hid HC;have P1:=hid P1;have P2:=hid P2;have P3:=hid P3
      have HX:=hid hX;have HY:=hid hY;have HI:=hid hI;have HBO:=hid hBO;have UBO:=hid uBO
      clear hX hY hI hH hBO uBO
      have K0:Hid (Blk (w.alloc (.cells #[.int .i64 k,.int .i64 l,.int .i64 s,.int .i64 b0,.int .i64 b1,.int .i64 b2,.int .i64 b3,.int .i64 o0,.int .i64 o1,.int .i64 o2,.int .i64 o3,.int .i64 o4,.int .i64 o5,.int .i64 o6,.int .i64 o7] 45)) w.heap.size 45 [.int .i64 k,.int .i64 l,.int .i64 s,.int .i64 b0,.int .i64 b1,.int .i64 b2,.int .i64 b3,.int .i64 o0,.int .i64 o1,.int .i64 o2,.int .i64 o3,.int .i64 o4,.int .i64 o5,.int .i64 o6,.int .i64 o7]):=heap_alloc_new w _
      have HB:Hid (Below w.heap.size w (w.alloc (.cells #[.int .i64 k,.int .i64 l,.int .i64 s,.int .i64 b0,.int .i64 b1,.int .i64 b2,.int .i64 b3,.int .i64 o0,.int .i64 o1,.int .i64 o2,.int .i64 o3,.int .i64 o4,.int .i64 o5,.int .i64 o6,.int .i64 o7] 45))):=(Below.refl w.heap.size w).alloc (Nat.le_refl _) _
      go_enter Tryz.func67,Tryz.ntmps67
      go_wp2_with (first
        | (go_at_call 100;refine (HC.out _).mono ?_;rintro e w4 ⟨rfl,b4⟩;have B4:=hid (Af HB.out b4);have K4:=hid (K0.out.mono b4);have k4:=K4.out
           have z0:w4.cell? ⟨w.heap.size,0,none⟩=some (.int .i64 k):=Blk.cell k4 (i:=0) (by simp)
           have z1:w4.cell? ⟨w.heap.size,1,none⟩=some (.int .i64 l):=Blk.cell k4 (i:=1) (by simp)
           have z2:w4.cell? ⟨w.heap.size,2,none⟩=some (.int .i64 s):=Blk.cell k4 (i:=2) (by simp)
           have z3:w4.cell? ⟨w.heap.size,3,none⟩=some (.int .i64 b0):=Blk.cell k4 (i:=3) (by simp)
           have z4:w4.cell? ⟨w.heap.size,4,none⟩=some (.int .i64 b1):=Blk.cell k4 (i:=4) (by simp)
           have z5:w4.cell? ⟨w.heap.size,5,none⟩=some (.int .i64 b2):=Blk.cell k4 (i:=5) (by simp)
           have z6:w4.cell? ⟨w.heap.size,6,none⟩=some (.int .i64 b3):=Blk.cell k4 (i:=6) (by simp)
           have z7:w4.cell? ⟨w.heap.size,7,none⟩=some (.int .i64 o0):=Blk.cell k4 (i:=7) (by simp)
           have z8:w4.cell? ⟨w.heap.size,8,none⟩=some (.int .i64 o1):=Blk.cell k4 (i:=8) (by simp)
           have z9:w4.cell? ⟨w.heap.size,9,none⟩=some (.int .i64 o2):=Blk.cell k4 (i:=9) (by simp)
           have z10:w4.cell? ⟨w.heap.size,10,none⟩=some (.int .i64 o3):=Blk.cell k4 (i:=10) (by simp)
           have z11:w4.cell? ⟨w.heap.size,11,none⟩=some (.int .i64 o4):=Blk.cell k4 (i:=11) (by simp)
           have z12:w4.cell? ⟨w.heap.size,12,none⟩=some (.int .i64 o5):=Blk.cell k4 (i:=12) (by simp)
           have z13:w4.cell? ⟨w.heap.size,13,none⟩=some (.int .i64 o6):=Blk.cell k4 (i:=13) (by simp)
           have z14:w4.cell? ⟨w.heap.size,14,none⟩=some (.int .i64 o7):=Blk.cell k4 (i:=14) (by simp)
           clear k4 b4)
        | (go_at_call_of 87 (Value.slice none 0 0);refine (P1.out _).mono ?_;rintro e w5 ⟨a5,c5,rfl,o5,b5⟩;have B5:=hid (Af B4.out b5);have K5:=hid (K4.out.mono b5);have k5:=K5.out;have O5:=hid o5.row
           have y1:w5.cell? ⟨w.heap.size,1,none⟩=some (.int .i64 l):=Blk.cell k5 (i:=1) (by simp)
           clear k5 b5 o5))
      refine (P2.out a5 c5 w5 O5.out).mono ?_
      rintro e w6 ⟨a6,c6,rfl,o6,b6⟩
      have B6:=hid (Af B5.out b6);have K6:=hid (K5.out.mono b6);have k6:=K6.out;have O6:=hid o6.row
      have y2:w6.cell? ⟨w.heap.size,2,none⟩=some (.int .i64 s):=Blk.cell k6 (i:=2) (by simp)
      clear k6 b6 o6
      go_wp2_with fail
      refine (P3.out a6 c6 w6 O6.out).mono ?_
      rintro e w7 ⟨a7,c7,rfl,o7,b7⟩
      have B7:=hid (Af B6.out b7);have K7:=hid (K6.out.mono b7);have O7:=hid (show BV w7 w.heap.size a7 c7 H from Own.low o7 B6.out.size)
      clear b7 o7
      go_wp2_with fail
      have bx:=B7.out.size
      have hlt:=K7.out.lt
      have c7b:∀ (w':World) (q:Nat) (v:Value),([.int .i64 k,.int .i64 l,.int .i64 s,.int .i64 b0,.int .i64 b1,.int .i64 b2,.int .i64 b3,.int .i64 o0,.int .i64 o1,.int .i64 o2,.int .i64 o3,.int .i64 o4,.int .i64 o5,.int .i64 o6,.int .i64 o7]:List Value)[q]? = some v→Below w7.heap.size w7 w'→w'.cell? ⟨w.heap.size,q,none⟩=some v:=fun w' q v hq hb=>by
        have q1:=(K7.out.mono hb)
        obtain ⟨hq1,hq2⟩:=List.getElem?_eq_some_iff.1 hq
        rw [q1.cell hq1,hq2]
      have RB4:∀ w',Below w7.heap.size w7 w'→NH w' (some ⟨w.heap.size,3,none⟩) 4 [b0,b1,b2,b3]:=fun w' hb=>⟨rfl,Nat.le_refl _,(by unfold maxLen;omega),(fun h=>by cases h),fun _=>⟨w.heap.size,3,rfl,Nat.lt_of_lt_of_le hlt hb.size,fun j u hu=>by
        refine c7b w' (3+j) u ?_ hb
        have hj:j<4:=by have:=(List.getElem?_eq_some_iff.1 hu).1;simpa using this
        rcases (by omega:j=0∨j=1∨j=2∨j=3) with rfl | rfl | rfl | rfl<;>exact hu⟩⟩
      have RO8:∀ w',Below w7.heap.size w7 w'→NH w' (some ⟨w.heap.size,7,none⟩) 8 [o0,o1,o2,o3,o4,o5,o6,o7]:=fun w' hb=>⟨rfl,Nat.le_refl _,(by unfold maxLen;omega),(fun h=>by cases h),fun _=>⟨w.heap.size,7,rfl,Nat.lt_of_lt_of_le hlt hb.size,fun j u hu=>by
        refine c7b w' (7+j) u ?_ hb
        have hj:j<8:=by have:=(List.getElem?_eq_some_iff.1 hu).1;simpa using this
        rcases (by omega:j=0∨j=1∨j=2∨j=3∨j=4∨j=5∨j=6∨j=7) with rfl | rfl | rfl | rfl | rfl | rfl | rfl | rfl<;>exact hu⟩⟩
      have RB4:=hid RB4;have RO8:=hid RO8
      clear c7b
      have hbo2:=HBO.out
      have k8:Blk (w7.alloc (.cells #[.slice (some ⟨w.heap.size,3,none⟩) 4 4,.slice (some ⟨w.heap.size,7,none⟩) 8 8] 48)).drew w7.heap.size 48 [.slice (some ⟨w.heap.size,3,none⟩) 4 4,.slice (some ⟨w.heap.size,7,none⟩) 8 8]:=Blk.drew (show Blk (w7.alloc (.cells #[.slice (some ⟨w.heap.size,3,none⟩) 4 4,.slice (some ⟨w.heap.size,7,none⟩) 8 8] 48)) w7.heap.size 48 [.slice (some ⟨w.heap.size,3,none⟩) 4 4,.slice (some ⟨w.heap.size,7,none⟩) 8 8] from heap_alloc_new w7 _)
      have b8:Below w7.heap.size w7 (w7.alloc (.cells #[.slice (some ⟨w.heap.size,3,none⟩) 4 4,.slice (some ⟨w.heap.size,7,none⟩) 8 8] 48)).drew:=((Below.refl _ w7).alloc (Nat.le_refl _) _).drew
      have k8a:(w7.alloc (.cells #[.slice (some ⟨w.heap.size,3,none⟩) 4 4,.slice (some ⟨w.heap.size,7,none⟩) 8 8] 48)).drew.cell? ⟨w7.heap.size,0,none⟩=some (.slice (some ⟨w.heap.size,3,none⟩) 4 4):=Blk.cell k8 (i:=0) (by simp)
      have k8b:(w7.alloc (.cells #[.slice (some ⟨w.heap.size,3,none⟩) 4 4,.slice (some ⟨w.heap.size,7,none⟩) 8 8] 48)).drew.cell? ⟨w7.heap.size,1,none⟩=some (.slice (some ⟨w.heap.size,7,none⟩) 8 8):=Blk.cell k8 (i:=1) (by simp)
      have HCC:=hid (QX w7.heap.size [b0,b1,b2,b3] [o0,o1,o2,o3,o4,o5,o6,o7] (some ⟨w.heap.size,3,none⟩) (some ⟨w.heap.size,7,none⟩) 4 8 (w7.alloc (.cells #[.slice (some ⟨w.heap.size,3,none⟩) 4 4,.slice (some ⟨w.heap.size,7,none⟩) 8 8] 48)).drew rfl rfl k8.lt k8a k8b (RB4.out _ b8) (RO8.out _ b8))
      have B8:=hid b8
      clear k8 k8a k8b b8
      go_region_with (go_at_call 101;refine (HCC.out).mono ?_;rintro e w9 ⟨a9,c9,rfl,o9,b9⟩;have C9:=hid (show Below w7.heap.size w7 w9 from AP B8.out b9 B8.out.size);have Z9:=hid (show NH w9 a9 c9 BO from by have q:=o9.row;rw [← hbo2] at q;unfold NH;rw [hL12];exact q);clear o9 b9)
      all_goals
        have O9:=hid (show BV w9 w.heap.size a7 c7 H from O7.out.mono C9.out)
        have B9:=hid (Af B7.out C9.out)
        clear C9 RB4 RO8 hbo2 HBO y1 y2 E HCC B8
        go_wp2_with fail
        simp only [List.getElem_toArray,List.getElem_cons_succ,List.getElem_cons_zero,Act.put,List.setIfInBounds_toArray,List.set_cons_zero,List.set_cons_succ]
        go_loopw [4,32] (fun b i wr=>∃ (j m c:Nat) (a:Option Addr) (T:List UInt8),j≤12∧i=.int .i64 j∧b=.slice a m c∧T.length=m∧m≤4+j∧T=Ce H (KB (BO.take j))∧BV wr w.heap.size a c T∧Below w9.heap.size w9 wr) (fun _ i _=>12-(intOf i).toNat)
        case atStart=>exact ⟨0,H.length,c7,a7,H,by omega,rfl,rfl,rfl,by omega,rfl,O9.out,Below.refl _ _⟩
        case round=>
        obtain ⟨j,m,c,a,T,hj,rfl,rfl,hTm,hm4,hT,oT,bT⟩:=hrel
        have HTM:=hid hTm;have HT:=hid hT;have OT:=hid oT;have BT:=hid bT
        by_cases hj12:j<12
        · obtain ⟨g9,off9,rfl,hg9,hca⟩:=Sl Z9.out (by omega)
          have ca:=(bT.cell (p:=⟨g9,off9+j,none⟩) hg9).trans (hca j (by omega))
          clear hca
          have hx:=UBO.out (BO.getD j 0) (by rw [List.getD_eq_getElem?_getD,List.getElem?_eq_getElem (by omega)];exact List.getElem_mem _)
          have hsn:Ce H (KB (BO.take (j+1)))=AH T (BO.getD j 0) 1:=by
            rw [hT,← Rv,List.getD_eq_getElem?_getD,List.getElem?_eq_getElem (by omega),List.take_succ_eq_append_getElem (by omega)]
            rfl
          have HPT:=CQ a c T (BO.getD j 0) 1 wr oT.row (by omega) (by omega)
          rw [hTm] at HPT
          have hple:=Ge T (BO.getD j 0)
          rw [← hsn] at HPT hple
          have HSN:=hid hsn
          generalize BO.getD j 0=x at *
          generalize hT2:Ce H (KB (BO.take (j+1)))=T2 at *
          have HT2:=hid hT2
          clear hT2
          have HPT:=hid HPT
          have ij:(j:Int)<12:=by omega
          have dj:decide ((j:Int)<12)=true:=decide_eq_true ij
          clear oT bT hT hTm hsn
          have hrow:(j:Int)<(12:Int):=ij
          go_wp2_with (go_at_call 87;refine (HPT.out).mono ?_;rintro e w10 ⟨a10,c10,rfl,o10,b10⟩)
          go_roundw
          case rel=>exact ⟨j+1,T2.length,c10,a10,T2,by omega,by go_num,rfl,rfl,by have:=HTM.out;omega,HT2.out.symm,Own.low o10 (Nat.le_trans B9.out.size BT.out.size),AP BT.out b10 BT.out.size⟩
          case measure=>simp [intOf];omega
        · obtain rfl:j=12:=by omega
          have hTX:T=X:=by rw [hT,HX.out,List.take_of_length_le (by omega)]
          subst hTX
          have dj:decide ((12:Int)<12)=false:=by decide
          have ez:IntKind.i64.wrap (60-(m:Int))=((60-m:Nat):Int):=by rw [show (60-(m:Int))=((60-m:Nat):Int) by omega];exact IntWalk.i64_in _ (by omega)
          have hYY:=HY.out
          rw [hTm] at hYY
          have HYY:=hid hYY
          have hcl:=EN Y
          have HSum:=fun a c w1 r=>Ju a c Y w1 r
          rw [hYl] at HSum
          have HPut:=fun a c w1 r=>CQ a c Y (CS Y:Nat) 4 w1 r (by omega) (by omega)
          rw [hYl,← HI.out] at HPut
          have hm16:m≤16:=by omega
          generalize CS Y=z at *
          have ezz:IntKind.i64.wrap (z:Int)=z:=IntWalk.i64_in _ (by omega)
          have HSum:=hid HSum;have HPut:=hid HPut
          have t2:True:=trivial
          have hsz:=hid (Nat.le_trans B9.out.size BT.out.size)
          have OT2:Hid (Own wr w.heap.size 5 1 a m c (T.map Ag)):=by have q:=OT.out;unfold BV at q;rw [HTM.out] at q;exact q
          clear oT bT hT hTm hYY HT
          go_wp2_with (at_builtin;have _t:=t2;refine CI rfl (.tmp 40) (.tmp 43) rfl Tryz.underlying74 Tryz.underlying3 (z:=.int .u8 0) (bytes:=1) (by kernel_rfl) rfl rfl w.heap.size (k:=60-m) rfl rfl (by omega) OT2.out (by omega) (by omega) hsz.out ?_;clear t2;intro a12 c12 w12 o12 g12 b12)
          rw [show m+(60-m)=60 by omega] at o12
          rw [show m+(60-m)=60 by omega]
          have O12:Hid (Bj w12 a12 c12 Y):=by
            have q:=o12.row
            have e:Y.map Ag=T.map Ag++List.replicate (60-m) (.int .u8 0):=by rw [HYY.out,List.map_append,List.map_replicate];rfl
            unfold Bj
            rw [hYl,e]
            exact q
          have B12:=hid (AP (AP B9.out BT.out B9.out.size) b12 (Nat.le_refl _))
          refine (HSum.out a12 c12 w12 O12.out).mono ?_
          rintro e w13 ⟨rfl,b13⟩
          go_wp2_with fail
          refine (HPut.out a12 c12 w13 (O12.out.mono b13)).mono ?_
          rintro e w14 ⟨a14,c14,rfl,o14,b14⟩
          have F14:=hid (show BV w14 w.heap.size a14 c14 R from Own.low o14 (Nat.le_trans B12.out.size b13.size))
          have G14:=hid (Af (Af B12.out b13) b14)
          clear o14 b14 b13
          go_wp2_with fail
          refine bodyPost_ret (Go.results_tmp2 rfl _ _ _) rfl ?_
          exact ⟨a14,c14,by rw [hIl];rfl,F14.out,G14.out⟩
end
section
open Go.RowKit Go.WideShapes
def Afw (i:InoT):Prop:=(0≤i.b0∧i.b0≤128)∧(0≤i.b1∧i.b1≤128)∧(0≤i.b2∧i.b2≤128)∧(0≤i.b3∧i.b3≤128)
def Afx (i:InoT):Prop:=¬ (i.b0≠0∧i.b0=i.b1)∧¬ (i.b0≠0∧i.b0=i.b2)∧¬ (i.b1≠0∧i.b1=i.b2)∧¬ (i.b0≠0∧i.b0=i.b3)∧¬ (i.b1≠0∧i.b1=i.b3)∧¬ (i.b2≠0∧i.b2=i.b3)
def GZ (k n:Int):Prop:=0≤n∧n≤8∧(k≠1→n=0)
def Afz (i:InoT):Prop:=GZ i.k i.o0∧GZ i.k i.o1∧GZ i.k i.o2∧GZ i.k i.o3∧GZ i.k i.o4∧GZ i.k i.o5∧GZ i.k i.o6∧GZ i.k i.o7
def Oc (j n s:Int):Prop:=(n≠0↔j<s)
def Afy (i:InoT):Prop:=Oc 0 i.b0 i.s∧Oc 64 i.b1 i.s∧Oc 128 i.b2 i.s∧Oc 192 i.b3 i.s
theorem UJ {i:InoT} (h1:i.k≠1) (h2:i.k≠2):Fg i=decide (Oe i=QK):=by
  unfold Fg
  by_cases h0:i.k=0
  · rw [if_pos h0];rfl
  · rw [if_neg h0,if_neg h1,if_neg h2]
    symm
    refine decide_eq_false (fun h=>h0 ?_)
    unfold Oe QK at h
    simp only [List.cons.injEq] at h
    exact h.1
end
section
open Go.RowKit Go.WideShapes
end
section
open Go.RowKit Go.WideShapes
end
section
open Go.RowKit Go.WideShapes
def bs (l:List Int):List UInt8:=l.map fun n=>UInt8.ofNat n.toNat
theorem Vj {i:InoT} (h:Fg i=true) (hk:i.k=0):Dm i=List.replicate 64 0:=by
  have:=UJ (i:=i) ω ω
  rw [h] at this
  unfold Dm
  rw [h,if_pos rfl,if_pos (of_decide_eq_true this.symm)]
theorem ZG {i:InoT} (h:Fg i=true):DY i=0:=by unfold DY;rw [h];rfl
end
section
open Go.RowKit Go.WideShapes Go.ChangeShapes Go.Deep
end
section
open Go.RowKit Go.WideShapes
def i65:InoT:=⟨1,1,65,3,4,0,0,0,0,0,0,0,0,0,0⟩
end
section
open Go.RowKit Go.WideShapes
theorem EO:(Tryz.prog.info? 45).map (·.size)=some 15:=κ
end
section
open Go.RowKit Go.WideShapes
def slI (xs:List UInt8) (a k:Nat):List UInt8:=(xs.drop a).take k
theorem Aaa {xs:List UInt8} {a k:Nat} (h:a+k≤xs.length):(slI xs a k).length=k:=by simp [slI];omega
theorem Lu {xs:List UInt8} {a k:Nat} (h:a+k≤xs.length) (hk:Fq k=true) (hv:BY (slI xs a k)≤9223372036854775807):AX xs a k=some (BY (slI xs a k)):=by
  unfold AX
  rw [if_pos ⟨hk,ω,ω⟩]
  simp only [Int.toNat_natCast]
  exact if_pos hv
theorem Aef {xs:List UInt8} {a:Nat} (h:a<xs.length):slI xs a 1=[xs[a]]:=by
  unfold slI
  rw [List.drop_eq_getElem_cons h,List.take_succ_cons,List.take_zero]
theorem Rw {xs:List UInt8} {a:Nat} (h:a<xs.length):AX xs a 1=some (bAt xs a):=by
  have e:BY (slI xs a 1)=bAt xs a:=by rw [Aef h,DM h];show (xs[a]).toNat+256*0=_;omega
  have hb:=DN xs a
  have:=Lu (xs:=xs) (a:=a) (k:=1) ω rfl (by rw [e];omega)
  rwa [e] at this
theorem Abk {xs:List UInt8} {a:Nat} (h:a+1<xs.length):AX xs a 2=some (bAt xs a+256*bAt xs (a+1)):=by
  have e:BY (slI xs a 2)=bAt xs a+256*bAt xs (a+1):=by
    rw [show (2:Nat)=1+1 from rfl]
    unfold slI
    rw [List.drop_eq_getElem_cons ω,List.take_succ_cons,List.drop_eq_getElem_cons h,List.take_succ_cons,List.take_zero,DM ω,DM h]
    show (xs[a]).toNat+256*((xs[a+1]).toNat+256*0)=_
    omega
  have hb:=DN xs a
  have hb2:=DN xs (a+1)
  have:=Lu (xs:=xs) (a:=a) (k:=2) ω rfl (by rw [e];omega)
  rwa [e] at this
theorem Abl {xs:List UInt8} {a:Nat} (h:a+4≤xs.length):AX xs a 4=some (BY (slI xs a 4)):=
  Lu h rfl (RX (by rw [Aaa h];omega))
def Bh (xs:List UInt8):InoT:=⟨bAt xs 0,bAt xs 1,(bAt xs 2:Int)+256*(bAt xs 3:Int),bAt xs 4,bAt xs 5,bAt xs 6,bAt xs 7,bAt xs 8,bAt xs 9,bAt xs 10,bAt xs 11,bAt xs 12,bAt xs 13,bAt xs 14,bAt xs 15⟩
theorem Uq (xs:List UInt8) (j:Nat) (h:j<4):(Ap (Bh xs))[3+j]? = some (ν (bAt xs (4+j):Nat)):=by
  rcases (ω:j=0∨j=1∨j=2∨j=3) with rfl | rfl | rfl | rfl<;>rfl
theorem Ur (xs:List UInt8) (j:Nat) (h:j<8):(Ap (Bh xs))[7+j]? = some (ν (bAt xs (8+j):Nat)):=by
  rcases (ω:j=0∨j=1∨j=2∨j=3∨j=4∨j=5∨j=6∨j=7) with rfl | rfl | rfl | rfl | rfl | rfl | rfl | rfl<;>rfl
theorem WZ (i:InoT):∀ v∈Ap i,v.oneCell'=true:=by
  intro v hv
  unfold Ap at hv
  simp only [List.mem_cons,List.not_mem_nil,or_false] at hv
  rcases hv with e | e | e | e | e | e | e | e | e | e | e | e | e | e | e<;>rw [e]<;>rfl
def Bl:InoT:=⟨0,0,0,0,0,0,0,0,0,0,0,0,0,0,0⟩
theorem Ln (a b:Option Addr) (c d:Nat) (xs ys:List UInt8) (w:World) (ha:Bj w a c xs) (hb:Bj w b d ys) :
    Calls Tryz.prog 68 #[.slice a xs.length c,.slice b ys.length d] w fun e w'=>e=.returned (.bool (decide (xs=ys)))∧Below w.heap.size w w':=by
  have hl:=EA ha
  have hm:=EA hb
  by_cases hne:xs.length=ys.length
  · rw [hne]
    have hne2:=hid hne
    go_enter Tryz.func68,Tryz.ntmps68
    clear hne
    go_wp2
    go_loopw [5,13] (fun i13 i wr=>∃ j:Nat,j≤ys.length∧i=ν j∧(∀ i,i<j→bAt xs i=bAt ys i)∧Below w.heap.size w wr)
      (fun _ i _=>ys.length-(intOf i).toNat)
    case atStart=>exact ⟨0,Nat.zero_le _,rfl,fun i h=>absurd h ω,Below.refl _ _⟩
    case round=>
      obtain ⟨j,hj,rfl,hp,hbel⟩:=hrel
      have HP:=hid hp;clear hp
      by_cases hlt:j<ys.length
      · obtain ⟨ba,oa,rfl,hba,hca⟩:=(ha.mono hbel).bytes (by have:=hne2.out;omega)
        obtain ⟨bb,ob,rfl,hbb,hcb⟩:=(hb.mono hbel).bytes ω
        have ca:=hca j (by have:=hne2.out;omega)
        have cb:=hcb j hlt
        clear hca hcb ha hb
        have hlt':(j:Int)<(ys.length:Int):=ω
        by_cases hxy:bAt xs j=bAt ys j
        · have HX:=hid hxy
          rw [hxy] at ca
          clear hxy
          go_wp2
          go_quiet (fail)
          go_wp2
          go_roundw
          case rel=>exact ⟨j+1,ω,by go_num,fun i hi=>(by rcases Nat.lt_succ_iff_lt_or_eq.1 hi with h | rfl;exact HP.out i h;exact HX.out),FR hbel _⟩
          case measure=>simp [intOf];omega
        · have hxy':((bAt xs j:Int) != (bAt ys j:Int))=true:=by simp;omega
          have HX:=hid hxy
          clear hxy
          go_wp2
          go_quiet (fail)
          go_wp2
          go_ret
          exact ⟨Bk (decide_eq_false (by rintro rfl;exact HX.out rfl)).symm,FR hbel _⟩
      · obtain rfl:j=ys.length:=ω
        go_wp2
        go_ret
        exact ⟨Bk (decide_eq_true (YH hne2.out HP.out)).symm,hbel⟩
  · go_enter Tryz.func68,Tryz.ntmps68
    go_wp2
    go_ret
    exact ⟨Bk (by simp;intro h;exact hne (by rw [h])),Below.refl _ _⟩
end
section
open Go.RowKit Go.WideShapes
theorem Gk {w:World} {ops:Array Oper} {rest:List Oper} {o:Oper} {act:Act} {Q:Exit→Act→World→Prop} (hgd:o.guard=none) (x:Operand)
    (ho:o.op=.load 45 x) (g:Nat) (hx:act.eval x=π g) {e:TypeId} (i:InoT) (hb:Blk w g e (Ap i))
    (h:wpList Tryz.prog ops Q rest (act.put o.dst (.agg (Ap i).toArray)) w):wpList Tryz.prog ops Q (o::rest) act w:=
  wpList_load_mid hgd 45 x ho g 0 hx (Ap i) _ hb.range υ45 rfl (by rw [EO];rfl) h
theorem CB {w:World} {ops:Array Oper} {rest:List Oper} {o:Oper} {act:Act} {Q:Exit→Act→World→Prop} (hgd:o.guard=none) (x y:Operand)
    (ho:o.op=.store 45 x y) (g:Nat) (hx:act.eval x=π g) {e:TypeId} (i:InoT) {C:Array Value} (hy:act.eval y=.agg C) (hC:C=(Ap i).toArray) {j:InoT} (hb:Blk w g e (Ap j))
    (h:∀ w',Blk w' g e (Ap i)→w.grownBy w' (some g)→wpList Tryz.prog ops Q rest (act.put o.dst undef) w'):wpList Tryz.prog ops Q (o::rest) act w:=by
  subst hC
  exact MC hgd 45 x y ho g hx (Ap i) hy (by rw [EO];rfl) (WZ _) hb rfl h
theorem MI (a:Option Addr) (c:Nat) (xs:List UInt8) (w:World) (ha:Bj w a c xs) (h16:16≤xs.length) :
    Calls Tryz.prog 71 #[.slice a xs.length c] w fun e w'=>e=.returned (FN (Bh xs))∧Below w.heap.size w w':=by
  have hl:=EA ha
  have G0:=fun (w1:World) (r1:Bj w1 a c xs)=>DR a c xs 0 1 w1 r1 hl
  have G1:=fun (w1:World) (r1:Bj w1 a c xs)=>DR a c xs 1 1 w1 r1 hl
  have G2:=fun (w1:World) (r1:Bj w1 a c xs)=>DR a c xs 2 2 w1 r1 hl
  have g0:=Rw (xs:=xs) (a:=0) ω
  have g1:=Rw (xs:=xs) (a:=1) ω
  have g2:=Abk (xs:=xs) (a:=2) ω
  rw [show ((0:Nat):Int)=0 from rfl] at g0
  rw [show ((1:Nat):Int)=1 from rfl] at g1
  rw [show ((2:Nat):Int)=2 from rfl] at g2
  rw [g0] at G0;rw [g1] at G1;rw [g2] at G2
  have e256:((bAt xs 2+256*bAt xs (2+1):Nat):Int)=(bAt xs 2:Int)+256*(bAt xs 3:Int):=by show _=(bAt xs 2:Int)+256*(bAt xs (2+1):Int);omega
  have GB:∀ (m j:Nat) (w1:World),Bj w1 a c xs→m+j<16→Calls Tryz.prog 69 #[.slice a xs.length c,ν ((m:Int)+(j:Int)),ν 1] w1 fun e w'=>e=.returned (.tuple #[ν (bAt xs (m+j):Nat),.bool true])∧w1=w':=by
    intro m j w1 r1 h
    have q:=DR a c xs ((m+j:Nat):Int) 1 w1 r1 hl
    have g:=Rw (xs:=xs) (a:=m+j) ω
    rw [g,show ((m+j:Nat):Int)=(m:Int)+(j:Int) by omega] at q
    exact q
  simp only [Ky,Option.getD_some,Option.isSome_some,e256] at G0 G1 G2
  have G0:=hid G0;have G1:=hid G1;have G2:=hid G2;have GB:=hid GB
  clear g0 g1 g2 e256
  have HR:=hid (fun w1 (hb:Below w.heap.size w w1)=>Row.mono ha hb)
  clear ha
  have HZ:Hid (Blk ((w.alloc (.cells #[ν 0,ν 0,ν 0,ν 0,ν 0,ν 0,ν 0,ν 0,ν 0,ν 0,ν 0,ν 0,ν 0,ν 0,ν 0] 45)).alloc (.cells #[ν 0,ν 0,ν 0,ν 0,ν 0,ν 0,ν 0,ν 0,ν 0,ν 0,ν 0,ν 0,ν 0,ν 0,ν 0] 45)) w.heap.size 45 (Ap Bl)):=by
    have q:Blk (w.alloc (.cells #[ν 0,ν 0,ν 0,ν 0,ν 0,ν 0,ν 0,ν 0,ν 0,ν 0,ν 0,ν 0,ν 0,ν 0,ν 0] 45)) w.heap.size 45 (Ap Bl):=heap_alloc_new w _
    exact q.mono ((Below.refl _ _).alloc (Nat.le_refl _) _)
  have HK:Hid (Blk ((w.alloc (.cells #[ν 0,ν 0,ν 0,ν 0,ν 0,ν 0,ν 0,ν 0,ν 0,ν 0,ν 0,ν 0,ν 0,ν 0,ν 0] 45)).alloc (.cells #[ν 0,ν 0,ν 0,ν 0,ν 0,ν 0,ν 0,ν 0,ν 0,ν 0,ν 0,ν 0,ν 0,ν 0,ν 0] 45)) (w.heap.size+1) 45 (Gc (Ap (Bh xs)) (ν 0) 0)):=by
    have q:=heap_alloc_new (w.alloc (.cells #[ν 0,ν 0,ν 0,ν 0,ν 0,ν 0,ν 0,ν 0,ν 0,ν 0,ν 0,ν 0,ν 0,ν 0,ν 0] 45)) (.cells #[ν 0,ν 0,ν 0,ν 0,ν 0,ν 0,ν 0,ν 0,ν 0,ν 0,ν 0,ν 0,ν 0,ν 0,ν 0] 45)
    rw [show (w.alloc (.cells #[ν 0,ν 0,ν 0,ν 0,ν 0,ν 0,ν 0,ν 0,ν 0,ν 0,ν 0,ν 0,ν 0,ν 0,ν 0] 45)).heap.size=w.heap.size+1 from by simp] at q
    exact q
  have HBl:Hid (Below w.heap.size w ((w.alloc (.cells #[ν 0,ν 0,ν 0,ν 0,ν 0,ν 0,ν 0,ν 0,ν 0,ν 0,ν 0,ν 0,ν 0,ν 0,ν 0] 45)).alloc (.cells #[ν 0,ν 0,ν 0,ν 0,ν 0,ν 0,ν 0,ν 0,ν 0,ν 0,ν 0,ν 0,ν 0,ν 0,ν 0] 45))):=((Below.refl _ w).alloc (Nat.le_refl _) _).alloc (by simp) _
  have hSw:w.heap.size≤w.heap.size+1:=ω
  go_enter Tryz.func71,Tryz.ntmps71
  go_wp2_with fail
  generalize hS:w.heap.size+1=S at *
  have hS':w.heap.size<S:=ω
  have HS:=hid hS
  clear hS
  refine (G0.out _ (HR.out _ HBl.out)).mono ?_
  rintro e wx ⟨rfl,rfl⟩
  have k0:=HK.out.atFill (ω:0<15)
  have fz0:=HK.out.frozen 0
  have HK2:=hid (HK.out.fill (ω:0<15) (show (Ap (Bh xs))[0]? = some (ν (bAt xs 0:Nat)) from rfl))
  have HZ2:=hid (HZ.out.setOtherS (ω:w.heap.size≠S) 0 (ν (bAt xs 0:Nat)))
  have HB2:=hid (HBl.out.setCell (p:=⟨S,0,none⟩) hSw (ν (bAt xs 0:Nat)))
  clear HK HZ HBl
  go_wp2_with fail
  have HK:=hid HK2.out;have HZ:=hid HZ2.out;have HBl:=hid HB2.out
  clear HK2 HZ2 HB2 k0 fz0
  generalize World.setCell _ _ _=w3 at *
  refine (G1.out _ (HR.out _ HBl.out)).mono ?_
  rintro e wx ⟨rfl,rfl⟩
  have k1:=HK.out.atFill (ω:1<15)
  have fz1:=HK.out.frozen 1
  have HK2:=hid (HK.out.fill (ω:1<15) (show (Ap (Bh xs))[1]? = some (ν (bAt xs 1:Nat)) from rfl))
  have HZ2:=hid (HZ.out.setOtherS (ω:w.heap.size≠S) 1 (ν (bAt xs 1:Nat)))
  have HB2:=hid (HBl.out.setCell (p:=⟨S,1,none⟩) hSw (ν (bAt xs 1:Nat)))
  clear HK HZ HBl
  go_wp2_with fail
  have HK:=hid HK2.out;have HZ:=hid HZ2.out;have HBl:=hid HB2.out
  clear HK2 HZ2 HB2 k1 fz1
  generalize World.setCell _ _ _=w4 at *
  refine (G2.out _ (HR.out _ HBl.out)).mono ?_
  rintro e wx ⟨rfl,rfl⟩
  have k2:=HK.out.atFill (ω:2<15)
  have fz2:=HK.out.frozen 2
  have HK2:=hid (HK.out.fill (ω:2<15) (show (Ap (Bh xs))[2]? = some (ν ((bAt xs 2:Int)+256*(bAt xs 3:Int))) from rfl))
  have HZ2:=hid (HZ.out.setOtherS (ω:w.heap.size≠S) 2 (ν ((bAt xs 2:Int)+256*(bAt xs 3:Int))))
  have HB2:=hid (HBl.out.setCell (p:=⟨S,2,none⟩) hSw (ν ((bAt xs 2:Int)+256*(bAt xs 3:Int))))
  clear HK HZ HBl
  go_wp2_with fail
  have HK:=hid HK2.out;have HZ:=hid HZ2.out;have HBl:=hid HB2.out
  clear HK2 HZ2 HB2 k2 fz2
  generalize World.setCell _ _ _=w5 at *
  go_loopw [4,24] (fun _ i wr=>∃ j:Nat,j≤4∧i=ν j∧Blk wr S 45 (Gc (Ap (Bh xs)) (ν 0) (3+j))∧Blk wr w.heap.size 45 (Ap Bl)∧Below w.heap.size w wr) (fun _ i _=>4-(intOf i).toNat)
  case atStart=>exact ⟨0,ω,rfl,HK.out,HZ.out,HBl.out⟩
  case round=>
  clear HK HZ HBl
  obtain ⟨j,hj,rfl,hk,hz,hb⟩:=hrel
  by_cases hj4:j<4
  · have kj:=hk.atFill (ω:3+j<15)
    have fzj:=hk.frozen (3+j)
    have HK:=hid (hk.fill (ω:3+j<15) (Uq xs j hj4))
    have HZ:=hid (hz.setOtherS (ω:w.heap.size≠S) (3+j) (ν (bAt xs (4+j):Nat)))
    have HBl:=hid (hb.setCell (p:=⟨S,3+j,none⟩) hSw (ν (bAt xs (4+j):Nat)))
    have HG:=hid (GB.out 4 j wr (HR.out _ hb) ω)
    have dj:decide ((j:Int)<4)=true:=decide_eq_true ω
    have ij:(j:Int)<4:=ω
    clear hk hz hb
    go_wp2_with (go_at_call 69;refine (HG.out).mono ?_;rintro e wx ⟨rfl,rfl⟩)
    go_roundw
    case rel=>exact ⟨j+1,ω,by go_num,HK.out,HZ.out,HBl.out⟩
    case measure=>simp [intOf];omega
  · obtain rfl:j=4:=ω
    rw [show ((4:Nat):Int)=4 from rfl]
    have HK:=hid hk;have HZ:=hid hz;have HBl:=hid hb
    clear hk hz hb
    obtain ⟨wo,hwo⟩:∃ x,x=wr:=⟨_,rfl⟩
    subst hwo
    go_wp2_with fail
    go_loopw [5,38] (fun _ i wr=>∃ j:Nat,j≤8∧i=ν j∧Blk wr S 45 (Gc (Ap (Bh xs)) (ν 0) (7+j))∧Blk wr w.heap.size 45 (Ap Bl)∧Below w.heap.size w wr) (fun _ i _=>8-(intOf i).toNat)
    case atStart=>exact ⟨0,ω,rfl,HK.out,HZ.out,HBl.out⟩
    case round=>
    clear HK HZ HBl
    obtain ⟨j,hj,rfl,hk,hz,hb⟩:=hrel
    by_cases hj4:j<8
    · have kj:=hk.atFill (ω:7+j<15)
      have fzj:=hk.frozen (7+j)
      have HK:=hid (hk.fill (ω:7+j<15) (Ur xs j hj4))
      have HZ:=hid (hz.setOtherS (ω:w.heap.size≠S) (7+j) (ν (bAt xs (8+j):Nat)))
      have HBl:=hid (hb.setCell (p:=⟨S,7+j,none⟩) hSw (ν (bAt xs (8+j):Nat)))
      have HG:=hid (GB.out 8 j wr (HR.out _ hb) ω)
      have dj:decide ((j:Int)<8)=true:=decide_eq_true ω
      have ij:(j:Int)<8:=ω
      clear hk hz hb
      go_wp2_with (go_at_call 69;refine (HG.out).mono ?_;rintro e wx ⟨rfl,rfl⟩)
      go_roundw
      case rel=>exact ⟨j+1,ω,by go_num,HK.out,HZ.out,HBl.out⟩
      case measure=>simp [intOf];omega
    · obtain rfl:j=8:=ω
      rw [show ((8:Nat):Int)=8 from rfl]
      have HK:Hid (Blk wr S 45 (Ap (Bh xs))):=hk
      have HZ:=hid hz;have HBl:=hid hb
      clear hk hz hb
      go_wp2_with (first
        | (with_reducible refine Gk rfl _ rfl S rfl (Bh xs) HK.out ?_)
        | ((with_reducible refine CB rfl _ _ rfl w.heap.size rfl (Bh xs) rfl rfl HZ.out ?_);intro w9 k9 g9;have K9:=hid k9;have G9:=hid g9;clear k9 g9))
      have hsz:=HBl.out.size
      refine bodyPost_ret (Dp rfl rfl K9.out υ45 rfl (by rw [EO];rfl)) rfl ?_
      exact ⟨rfl,AJ HBl.out G9.out (Nat.le_refl _) hsz⟩
end
section
open Go.RowKit Go.WideShapes
def Fu:List UInt8:=List.replicate 64 0
def NA (ys:List UInt8):Bool:=decide (BY (slI ys 60 4)=CS (ys.take 60))
def LW (ys:List UInt8):Bool:=Fg (Bh ys)&&decide (Dm (Bh ys)=ys)
def rdI (xs:List UInt8):InoT:=if xs.length<64 then Bl else if xs.take 64=Fu then Bl else if NA (xs.take 64)=false then Bl else if LW (xs.take 64)=true then Bh (xs.take 64) else Bl
def rdE (xs:List UInt8):Int:=if xs.length<64 then 3 else if xs.take 64=Fu then 0 else if NA (xs.take 64)=false then 4 else if LW (xs.take 64)=true then 0 else 2
theorem Ad5:Dm Bl=Fu:=by
  have hm:Fg Bl=true:=by decide +kernel
  exact Vj hm rfl
theorem Aav:DY Bl=0:=ZG (by decide +kernel)
theorem XJ {xs:List UInt8} (h:xs.length<64):rdI xs=Bl∧rdE xs=3:=by unfold rdI rdE;rw [if_pos h,if_pos h];exact ⟨rfl,rfl⟩
theorem ZO {xs:List UInt8} (h:¬ xs.length<64) (hz:xs.take 64=Fu):rdI xs=Bl∧rdE xs=0:=by unfold rdI rdE;rw [if_neg h,if_neg h,if_pos hz,if_pos hz];exact ⟨rfl,rfl⟩
theorem Ack {xs:List UInt8} (h:¬ xs.length<64) (hz:xs.take 64≠Fu) (hs:NA (xs.take 64)=false):rdI xs=Bl∧rdE xs=4:=by unfold rdI rdE;rw [if_neg h,if_neg h,if_neg hz,if_neg hz,if_pos hs,if_pos hs];exact ⟨rfl,rfl⟩
theorem Acj {xs:List UInt8} (h:¬ xs.length<64) (hz:xs.take 64≠Fu) (hs:NA (xs.take 64)=true) (hg:LW (xs.take 64)=false):rdI xs=Bl∧rdE xs=2:=by unfold rdI rdE;rw [if_neg h,if_neg h,if_neg hz,if_neg hz,hs,hg];exact ⟨rfl,rfl⟩
theorem ZN {xs:List UInt8} (h:¬ xs.length<64) (hz:xs.take 64≠Fu) (hs:NA (xs.take 64)=true) (hg:LW (xs.take 64)=true):rdI xs=Bh (xs.take 64)∧rdE xs=0:=by unfold rdI rdE;rw [if_neg h,if_neg h,if_neg hz,if_neg hz,hs,hg];exact ⟨rfl,rfl⟩
theorem NI (w:World):Blk (w.alloc (.cells #[ν 0,ν 0,ν 0,ν 0,ν 0,ν 0,ν 0,ν 0,ν 0,ν 0,ν 0,ν 0,ν 0,ν 0,ν 0] 45)) w.heap.size 45 (Ap Bl):=heap_alloc_new w _
theorem Is (w:World) (o:Obj):Below w.heap.size w (w.alloc o):=(Below.refl _ w).alloc (Nat.le_refl _) _
theorem PX (a:Option Addr) (c:Nat) (xs:List UInt8) (w:World) (ha:Bj w a c xs) :
    Calls Tryz.prog 39 #[.slice a xs.length c] w fun e w'=>e=.returned (.tuple #[FN (rdI xs),ν (rdE xs)])∧Below w.heap.size w w':=by
  have hl:=EA ha
  have hcap:xs.length≤c:=ha.2.1
  have HZC:=hid (show (#[ν 0,ν 0,ν 0,ν 0,ν 0,ν 0,ν 0,ν 0,ν 0,ν 0,ν 0,ν 0,ν 0,ν 0,ν 0]:Array Value)=(Ap Bl).toArray from rfl)
  have HZ:=hid (NI w)
  have HB:=hid (Is w (.cells #[ν 0,ν 0,ν 0,ν 0,ν 0,ν 0,ν 0,ν 0,ν 0,ν 0,ν 0,ν 0,ν 0,ν 0,ν 0] 45))
  by_cases h64:xs.length<64
  · obtain ⟨e1,e2⟩:=XJ h64
    rw [e1,e2]
    clear e1 e2
    go_enter Tryz.func39,Tryz.ntmps39
    go_wp2_with (((with_reducible refine CB rfl _ _ rfl w.heap.size rfl Bl rfl HZC.out HZ.out ?_);intro w9 k9 g9;have K9:=hid k9;have G9:=hid g9;clear k9 g9))
    refine bodyPost_ret (BW rfl rfl K9.out υ45 rfl (by rw [EO];rfl)) rfl ?_
    exact ⟨rfl,AJ HB.out G9.out (Nat.le_refl _) HB.out.size⟩
  have r0:=Ie ha 64
  have hyl:(xs.take 64).length=64:=by simp;omega
  have hc64:64≤c:=ω
  have i64x:¬ ((xs.length:Int)<64):=ω
  have EQ:=fun a2 c2 zs w1 r1 r2=>Ln a a2 c c2 (xs.take 64) zs w1 r1 r2
  rw [hyl] at EQ
  have HR:=hid (fun w1 (hb:Below w.heap.size w w1)=>Row.mono r0 hb)
  have P0:=fun w1=>IH Bl w1
  unfold Aa0 at P0
  rw [Ad5,Aav,show Fu.length=64 from rfl] at P0
  have EZ:=fun a2 c2 w1 r1 r2=>EQ a2 c2 Fu w1 r1 r2
  rw [show Fu.length=64 from rfl] at EZ
  have P0:=hid P0
  have dn:decide ((xs.length:Int)<64)=false:=decide_eq_false i64x
  by_cases hz:xs.take 64=Fu
  · obtain ⟨e1,e2⟩:=ZO h64 hz
    rw [e1,e2]
    simp only [decide_eq_true hz] at EZ
    have EZ:=hid EZ
    generalize xs.take 64=ys at *
    clear e1 e2 hz EQ ha r0 hyl
    go_enter Tryz.func39,Tryz.ntmps39
    go_wp2_with fail
    refine (P0.out _).mono ?_
    rintro e w4 ⟨a4,c4,rfl,o4,b4⟩
    have HB4:=hid (Af HB.out b4)
    have HZ4:=hid (HZ.out.mono b4)
    have HE:=hid (EZ.out a4 c4 w4 (HR.out _ HB4.out) o4.row)
    clear b4 o4
    go_wp2_with fail
    refine HE.out.mono ?_
    rintro e w5 ⟨rfl,b5⟩
    have HB5:=hid (Af HB4.out b5)
    have HZ5:=hid (HZ4.out.mono b5)
    clear b5
    go_wp2_with (((with_reducible refine CB rfl _ _ rfl w.heap.size rfl Bl rfl HZC.out HZ5.out ?_);intro w9 k9 g9;have K9:=hid k9;have G9:=hid g9;clear k9 g9))
    refine bodyPost_ret (BW rfl rfl K9.out υ45 rfl (by rw [EO];rfl)) rfl ?_
    exact ⟨rfl,AJ HB5.out G9.out (Nat.le_refl _) HB5.out.size⟩
  simp only [decide_eq_false hz] at EZ
  have EZ:=hid EZ
  have hr1:=@Ack xs h64 hz
  have hr2:=@Acj xs h64 hz
  have hr3:=@ZN xs h64 hz
  have hr60:=Ie r0 60
  have hl60:((xs.take 64).take 60).length=60:=by simp;omega
  have HR60:=hid (fun w1 (hb:Below w.heap.size w w1)=>Row.mono hr60 hb)
  have HSum:=fun w1 (r1:Bj w1 a c ((xs.take 64).take 60))=>Ju a c ((xs.take 64).take 60) w1 r1
  rw [hl60] at HSum
  have hG:=fun w1 r1=>DR a c (xs.take 64) 60 4 w1 r1 ω
  have g4:=Abl (xs:=xs.take 64) (a:=60) ω
  rw [show ((60:Nat):Int)=60 from rfl] at g4
  rw [g4,hyl] at hG
  simp only [Ky,Option.getD_some,Option.isSome_some] at hG
  have hs:NA (xs.take 64)=decide (BY (slI (xs.take 64) 60 4)=CS ((xs.take 64).take 60)):=rfl
  have HF:=fun w1 r1=>MI a c (xs.take 64) w1 r1 ω
  rw [hyl] at HF
  have hgd:LW (xs.take 64)=(Fg (Bh (xs.take 64))&&decide (Dm (Bh (xs.take 64))=xs.take 64)):=rfl
  have hP:=fun w1=>IH (Bh (xs.take 64)) w1
  unfold Aa0 at hP
  have EP:=fun a2 c2 w1 (r1:Bj w1 a2 c2 (Dm (Bh (xs.take 64)))) r2=>Ln a2 a c2 c (Dm (Bh (xs.take 64))) (xs.take 64) w1 r1 r2
  rw [hyl] at EP
  have hcl:=EN ((xs.take 64).take 60)
  have hPE:DY (Bh (xs.take 64))=if Fg (Bh (xs.take 64)) then 0 else 1:=rfl
  have hPL:(Dm (Bh (xs.take 64))).length≤64:=by unfold Dm;split;split;simp;rw [Jo];omega;simp
  rw [hs] at hr1 hr2 hr3
  rw [hgd] at hr2 hr3
  generalize CS ((xs.take 64).take 60)=z at *
  generalize BY (slI (xs.take 64) 60 4)=u at *
  generalize Dm (Bh (xs.take 64))=P at *
  generalize DY (Bh (xs.take 64))=E at *
  generalize Fg (Bh (xs.take 64))=M at *
  generalize Bh (xs.take 64)=i at *
  generalize (xs.take 64).take 60=y60 at *
  generalize xs.take 64=ys at *
  have ez:IntKind.i64.wrap (z:Int)=z:=IntWalk.i64_in _ ω
  have HSum:=hid HSum;have hG:=hid hG;have HF:=hid HF;have hP:=hid hP;have EP:=hid EP
  clear hs hgd g4 r0 hr60 hl60 hyl ha EQ
  by_cases hu:u=z
  · rw [decide_eq_true hu] at hr1 hr2 hr3
    subst hu
    have hne:((u:Int) != (u:Int))=false:=by simp
    cases hM:M
    · rw [hM] at hr2 hPE
      obtain ⟨e1,e2⟩:=hr2 rfl rfl
      rw [e1,e2]
      rw [show E=1 from hPE] at hP
      clear e1 e2 hr1 hr2 hr3 hM hPE EP
      go_enter Tryz.func39,Tryz.ntmps39
      go_wp2_with fail
      refine (P0.out _).mono ?_
      rintro e w4 ⟨a4,c4,rfl,o4,b4⟩
      have HB4:=hid (Af HB.out b4)
      have HZ4:=hid (HZ.out.mono b4)
      have HE:=hid (EZ.out a4 c4 w4 (HR.out _ HB4.out) o4.row)
      clear b4 o4
      go_wp2_with fail
      refine HE.out.mono ?_
      rintro e w5 ⟨rfl,b5⟩
      have HB5:=hid (Af HB4.out b5)
      have HZ5:=hid (HZ4.out.mono b5)
      clear b5 HB4 HZ4 HE
      go_wp2_with fail
      refine (hG.out w5 (HR.out _ HB5.out)).mono ?_
      rintro e wx ⟨rfl,rfl⟩
      go_wp2_with fail
      refine (HSum.out w5 (HR60.out _ HB5.out)).mono ?_
      rintro e wy ⟨rfl,b6⟩
      have HBy:=hid (Af HB5.out b6)
      have HZy:=hid (HZ5.out.mono b6)
      clear b6 HB5 HZ5
      go_wp2_with fail
      refine (HF.out wy (HR.out _ HBy.out)).mono ?_
      rintro e w6 ⟨rfl,b6⟩
      have HB6:=hid (Af HBy.out b6)
      have HZ6:=hid (HZy.out.mono b6)
      clear b6 HBy HZy
      unfold FN
      go_wp2_with (first
        | ((with_reducible refine CB rfl _ _ rfl w6.heap.size rfl i rfl rfl (NI w6) ?_);intro w10 k10 g10;have K10:=hid k10;have G10:=hid g10;clear k10 g10)
        | (with_reducible refine Gk rfl _ rfl w6.heap.size rfl i K10.out ?_))
      have HBa:=hid (AJ (HB6.out.alloc HB6.out.size (.cells #[ν 0,ν 0,ν 0,ν 0,ν 0,ν 0,ν 0,ν 0,ν 0,ν 0,ν 0,ν 0,ν 0,ν 0,ν 0] 45)) G10.out HB6.out.size (Nat.le_trans HB6.out.size (Is w6 (.cells #[ν 0,ν 0,ν 0,ν 0,ν 0,ν 0,ν 0,ν 0,ν 0,ν 0,ν 0,ν 0,ν 0,ν 0,ν 0] 45)).size))
      have HZa:=hid ((HZ6.out.mono (Is w6 (.cells #[ν 0,ν 0,ν 0,ν 0,ν 0,ν 0,ν 0,ν 0,ν 0,ν 0,ν 0,ν 0,ν 0,ν 0,ν 0] 45))).grownS G10.out (show w.heap.size≠w6.heap.size from Nat.ne_of_lt HZ6.out.lt))
      refine (hP.out w10).mono ?_
      rintro e w8 ⟨a8,c8,rfl,o8,b8⟩
      have HB8:=hid (Af HBa.out b8)
      have HZ8:=hid (HZa.out.mono b8)
      have K8:=hid (K10.out.mono b8)
      have O8:=hid o8.row
      clear b8 o8 HBa HZa HB6 HZ6
      go_wp2_with (((with_reducible refine CB rfl _ _ rfl w.heap.size rfl Bl rfl HZC.out HZ8.out ?_);intro w9 k9 g9;have K9:=hid k9;have G9:=hid g9;clear k9 g9))
      refine bodyPost_ret (BW rfl rfl K9.out υ45 rfl (by rw [EO];rfl)) rfl ?_
      exact ⟨rfl,AJ HB8.out G9.out (Nat.le_refl _) HB8.out.size⟩
    · rw [hM] at hr2 hr3 hPE
      rw [show E=0 from hPE] at hP
      by_cases hy:P=ys
      · obtain ⟨e1,e2⟩:=hr3 rfl (by rw [decide_eq_true hy];rfl)
        rw [e1,e2]
        have EPP:Hid (∀ (a2:Option Addr) (c2:Nat) (w1:World),Bj w1 a2 c2 P→Bj w1 a c ys→Calls Tryz.prog 68 #[.slice a2 P.length c2,.slice a 64 c] w1 fun e w'=>e=.returned (.bool true)∧Below w1.heap.size w1 w'):=by
          have q:=EP.out
          simp only [decide_eq_true hy] at q
          exact q
        clear e1 e2 hr1 hr2 hr3 hM hPE EP hy
        go_enter Tryz.func39,Tryz.ntmps39
        go_wp2_with fail
        refine (P0.out _).mono ?_
        rintro e w4 ⟨a4,c4,rfl,o4,b4⟩
        have HB4:=hid (Af HB.out b4)
        have HZ4:=hid (HZ.out.mono b4)
        have HE:=hid (EZ.out a4 c4 w4 (HR.out _ HB4.out) o4.row)
        clear b4 o4
        go_wp2_with fail
        refine HE.out.mono ?_
        rintro e w5 ⟨rfl,b5⟩
        have HB5:=hid (Af HB4.out b5)
        have HZ5:=hid (HZ4.out.mono b5)
        clear b5 HB4 HZ4 HE
        go_wp2_with fail
        refine (hG.out w5 (HR.out _ HB5.out)).mono ?_
        rintro e wx ⟨rfl,rfl⟩
        go_wp2_with fail
        refine (HSum.out w5 (HR60.out _ HB5.out)).mono ?_
        rintro e wy ⟨rfl,b6⟩
        have HBy:=hid (Af HB5.out b6)
        have HZy:=hid (HZ5.out.mono b6)
        clear b6 HB5 HZ5
        go_wp2_with fail
        refine (HF.out wy (HR.out _ HBy.out)).mono ?_
        rintro e w6 ⟨rfl,b6⟩
        have HB6:=hid (Af HBy.out b6)
        have HZ6:=hid (HZy.out.mono b6)
        clear b6 HBy HZy
        unfold FN
        go_wp2_with (first
          | ((with_reducible refine CB rfl _ _ rfl w6.heap.size rfl i rfl rfl (NI w6) ?_);intro w10 k10 g10;have K10:=hid k10;have G10:=hid g10;clear k10 g10)
          | (with_reducible refine Gk rfl _ rfl w6.heap.size rfl i K10.out ?_))
        have HBa:=hid (AJ (HB6.out.alloc HB6.out.size (.cells #[ν 0,ν 0,ν 0,ν 0,ν 0,ν 0,ν 0,ν 0,ν 0,ν 0,ν 0,ν 0,ν 0,ν 0,ν 0] 45)) G10.out HB6.out.size (Nat.le_trans HB6.out.size (Is w6 (.cells #[ν 0,ν 0,ν 0,ν 0,ν 0,ν 0,ν 0,ν 0,ν 0,ν 0,ν 0,ν 0,ν 0,ν 0,ν 0] 45)).size))
        have HZa:=hid ((HZ6.out.mono (Is w6 (.cells #[ν 0,ν 0,ν 0,ν 0,ν 0,ν 0,ν 0,ν 0,ν 0,ν 0,ν 0,ν 0,ν 0,ν 0,ν 0] 45))).grownS G10.out (show w.heap.size≠w6.heap.size from Nat.ne_of_lt HZ6.out.lt))
        refine (hP.out w10).mono ?_
        rintro e w8 ⟨a8,c8,rfl,o8,b8⟩
        have HB8:=hid (Af HBa.out b8)
        have HZ8:=hid (HZa.out.mono b8)
        have K8:=hid (K10.out.mono b8)
        have O8:=hid o8.row
        clear b8 o8 HBa HZa HB6 HZ6
        have HE:=hid (EPP.out a8 c8 w8 O8.out (HR.out _ HB8.out))
        go_wp2_with fail
        refine HE.out.mono ?_
        rintro e w7 ⟨rfl,b7⟩
        have HB7:=hid (Af HB8.out b7)
        have HZ7:=hid (HZ8.out.mono b7)
        have K7:=hid (K8.out.mono b7)
        clear b7
        go_wp2_with (first
          | (with_reducible refine Gk rfl _ rfl w6.heap.size rfl i K7.out ?_)
          | ((with_reducible refine CB rfl _ _ rfl w.heap.size rfl i rfl rfl HZ7.out ?_);intro w9 k9 g9;have K9:=hid k9;have G9:=hid g9;clear k9 g9))
        refine bodyPost_ret (BW rfl rfl K9.out υ45 rfl (by rw [EO];rfl)) rfl ?_
        exact ⟨rfl,AJ HB7.out G9.out (Nat.le_refl _) HB7.out.size⟩
      · obtain ⟨e1,e2⟩:=hr2 rfl (by rw [decide_eq_false hy];rfl)
        rw [e1,e2]
        have EPP:Hid (∀ (a2:Option Addr) (c2:Nat) (w1:World),Bj w1 a2 c2 P→Bj w1 a c ys→Calls Tryz.prog 68 #[.slice a2 P.length c2,.slice a 64 c] w1 fun e w'=>e=.returned (.bool false)∧Below w1.heap.size w1 w'):=by
          have q:=EP.out
          simp only [decide_eq_false hy] at q
          exact q
        clear e1 e2 hr1 hr2 hr3 hM hPE EP hy
        go_enter Tryz.func39,Tryz.ntmps39
        go_wp2_with fail
        refine (P0.out _).mono ?_
        rintro e w4 ⟨a4,c4,rfl,o4,b4⟩
        have HB4:=hid (Af HB.out b4)
        have HZ4:=hid (HZ.out.mono b4)
        have HE:=hid (EZ.out a4 c4 w4 (HR.out _ HB4.out) o4.row)
        clear b4 o4
        go_wp2_with fail
        refine HE.out.mono ?_
        rintro e w5 ⟨rfl,b5⟩
        have HB5:=hid (Af HB4.out b5)
        have HZ5:=hid (HZ4.out.mono b5)
        clear b5 HB4 HZ4 HE
        go_wp2_with fail
        refine (hG.out w5 (HR.out _ HB5.out)).mono ?_
        rintro e wx ⟨rfl,rfl⟩
        go_wp2_with fail
        refine (HSum.out w5 (HR60.out _ HB5.out)).mono ?_
        rintro e wy ⟨rfl,b6⟩
        have HBy:=hid (Af HB5.out b6)
        have HZy:=hid (HZ5.out.mono b6)
        clear b6 HB5 HZ5
        go_wp2_with fail
        refine (HF.out wy (HR.out _ HBy.out)).mono ?_
        rintro e w6 ⟨rfl,b6⟩
        have HB6:=hid (Af HBy.out b6)
        have HZ6:=hid (HZy.out.mono b6)
        clear b6 HBy HZy
        unfold FN
        go_wp2_with (first
          | ((with_reducible refine CB rfl _ _ rfl w6.heap.size rfl i rfl rfl (NI w6) ?_);intro w10 k10 g10;have K10:=hid k10;have G10:=hid g10;clear k10 g10)
          | (with_reducible refine Gk rfl _ rfl w6.heap.size rfl i K10.out ?_))
        have HBa:=hid (AJ (HB6.out.alloc HB6.out.size (.cells #[ν 0,ν 0,ν 0,ν 0,ν 0,ν 0,ν 0,ν 0,ν 0,ν 0,ν 0,ν 0,ν 0,ν 0,ν 0] 45)) G10.out HB6.out.size (Nat.le_trans HB6.out.size (Is w6 (.cells #[ν 0,ν 0,ν 0,ν 0,ν 0,ν 0,ν 0,ν 0,ν 0,ν 0,ν 0,ν 0,ν 0,ν 0,ν 0] 45)).size))
        have HZa:=hid ((HZ6.out.mono (Is w6 (.cells #[ν 0,ν 0,ν 0,ν 0,ν 0,ν 0,ν 0,ν 0,ν 0,ν 0,ν 0,ν 0,ν 0,ν 0,ν 0] 45))).grownS G10.out (show w.heap.size≠w6.heap.size from Nat.ne_of_lt HZ6.out.lt))
        refine (hP.out w10).mono ?_
        rintro e w8 ⟨a8,c8,rfl,o8,b8⟩
        have HB8:=hid (Af HBa.out b8)
        have HZ8:=hid (HZa.out.mono b8)
        have K8:=hid (K10.out.mono b8)
        have O8:=hid o8.row
        clear b8 o8 HBa HZa HB6 HZ6
        have HE:=hid (EPP.out a8 c8 w8 O8.out (HR.out _ HB8.out))
        go_wp2_with fail
        refine HE.out.mono ?_
        rintro e w7 ⟨rfl,b7⟩
        have HB7:=hid (Af HB8.out b7)
        have HZ7:=hid (HZ8.out.mono b7)
        clear b7
        go_wp2_with (((with_reducible refine CB rfl _ _ rfl w.heap.size rfl Bl rfl HZC.out HZ7.out ?_);intro w9 k9 g9;have K9:=hid k9;have G9:=hid g9;clear k9 g9))
        refine bodyPost_ret (BW rfl rfl K9.out υ45 rfl (by rw [EO];rfl)) rfl ?_
        exact ⟨rfl,AJ HB7.out G9.out (Nat.le_refl _) HB7.out.size⟩
  · rw [decide_eq_false hu] at hr1
    obtain ⟨e1,e2⟩:=hr1 rfl
    rw [e1,e2]
    have hne:((u:Int) != (z:Int))=true:=by simp;omega
    clear e1 e2 hr1 hr2 hr3 hu
    go_enter Tryz.func39,Tryz.ntmps39
    go_wp2_with fail
    refine (P0.out _).mono ?_
    rintro e w4 ⟨a4,c4,rfl,o4,b4⟩
    have HB4:=hid (Af HB.out b4)
    have HZ4:=hid (HZ.out.mono b4)
    have HE:=hid (EZ.out a4 c4 w4 (HR.out _ HB4.out) o4.row)
    clear b4 o4
    go_wp2_with fail
    refine HE.out.mono ?_
    rintro e w5 ⟨rfl,b5⟩
    have HB5:=hid (Af HB4.out b5)
    have HZ5:=hid (HZ4.out.mono b5)
    clear b5 HB4 HZ4 HE
    go_wp2_with fail
    refine (hG.out w5 (HR.out _ HB5.out)).mono ?_
    rintro e wx ⟨rfl,rfl⟩
    go_wp2_with fail
    refine (HSum.out w5 (HR60.out _ HB5.out)).mono ?_
    rintro e w6 ⟨rfl,b6⟩
    have HB5z:=hid (Af HB5.out b6)
    have HZ5z:=hid (HZ5.out.mono b6)
    clear b6 HB5 HZ5
    have HB5:=hid HB5z.out;have HZ5:=hid HZ5z.out
    go_wp2_with (((with_reducible refine CB rfl _ _ rfl w.heap.size rfl Bl rfl HZC.out HZ5.out ?_);intro w9 k9 g9;have K9:=hid k9;have G9:=hid g9;clear k9 g9))
    refine bodyPost_ret (BW rfl rfl K9.out υ45 rfl (by rw [EO];rfl)) rfl ?_
    exact ⟨rfl,AJ HB5.out G9.out (Nat.le_refl _) HB5.out.size⟩
end
section
open Go.RowKit Go.WideShapes
def Am (xs:List UInt8):Array Value:=(xs.map Ag).toArray
theorem Kl (xs:List UInt8):(Am xs).size=xs.length:=by simp [Am]
theorem RO (xs:List UInt8):(Am xs).all (·.oneCell')=true:=all_oneCell_toArray (CD xs)
theorem Rx {w w':World} {h:Nat} (g:w.grownBy w' (some h)) (i:Nat) (v:Value):w.grownBy (w'.setCell ⟨h,i,none⟩ v) (some h):=
  ⟨g.os,g.tape,g.output,by simp [World.setCell];exact g.size,fun k hk hne=>by
    rw [Below.heap_setCell _ _ _ _ (by rintro rfl;exact hne rfl)];exact g.block k hk hne⟩
theorem Kg (w:World) (r:Option Nat):w.grownBy w r:=⟨rfl,rfl,rfl,Nat.le_refl _,fun _ _ _=>rfl⟩
theorem Od {w w1 w2:World} {r:Option Nat} (a:w.grownBy w1 r) (b:w1.grownBy w2 r):w.grownBy w2 r:=
  ⟨b.os.trans a.os,b.tape.trans a.tape,b.output.trans a.output,Nat.le_trans a.size b.size,fun k hk hne=>(b.block k (Nat.lt_of_lt_of_le hk a.size) hne).trans (a.block k hk hne)⟩
def JH (xs:List UInt8) (k:Nat):Bool:=(bAt xs (k / 8)).testBit (k % 8)
def Mx (xs:List UInt8) (n:Int):Bool:=decide (1≤n∧n≤128)&&JH xs (n-1).toNat
theorem YG (x r:Nat):(((x &&& 2 ^ r:Nat):Int) != 0)=x.testBit r:=by
  rw [show (((x &&& 2 ^ r:Nat):Int) != 0)=decide (¬ ((x &&& 2 ^ r:Nat):Int)=0) from by simp [bne,BEq.beq]]
  have e:x &&& 2 ^ r=if x.testBit r then 2 ^ r else 0:=by
    apply Nat.eq_of_testBit_eq
    intro i
    rw [Nat.testBit_and,Nat.testBit_two_pow]
    by_cases h:r=i
    · subst h
      by_cases hb:x.testBit r=true
      · rw [if_pos hb];simp [hb]
      · rw [if_neg hb];simp [hb]
    · by_cases hb:x.testBit r=true
      · rw [if_pos hb];simp [h,Nat.testBit_two_pow]
      · rw [if_neg hb];simp [h]
  rw [e]
  have:=Nat.two_pow_pos r
  by_cases hb:x.testBit r=true
  · rw [if_pos hb,hb];exact decide_eq_true ω
  · rw [if_neg hb];simp [hb]
theorem Jd:(Tryz.prog.info? 52).map (·.size)=some 16:=κ
theorem FT {w:World} {g:Nat} {e:TypeId} {L:List Value} (h:Blk w g e L):w.rangeAt g 0 L:=fun j v hv=>by
  have hj:=(List.getElem?_eq_some_iff.1 hv).1
  rw [Nat.zero_add,Blk.cell h hj,← hv,List.getElem?_eq_getElem hj]
theorem TW {w:World} {g:Nat} {e:TypeId} {L:List Value} (h:Blk w g e L):w.there g 0 L.length:=fun j hj=>by
  rw [Nat.zero_add,Blk.cell h hj];exact ⟨rfl,Blk.frozen h j⟩
theorem IP {g:Nat} {e:TypeId}:∀ (vs:List Value) (o:Nat) (w:World) (L:List Value),Blk w g e L→o+vs.length≤L.length→Blk (w.setCells g o vs) g e (splice L o vs)∧w.grownBy (w.setCells g o vs) (some g)
  | [],o,w,L,h,_=>by
    refine ⟨?_,Kg w _⟩
    simp [splice];exact h
  | v::r,o,w,L,h,hl=>by
    simp only [List.length_cons] at hl
    have h1:=Blk.set h o v
    obtain ⟨h2,h3⟩:=IP r (o+1) _ _ h1 (by simp;omega)
    refine ⟨?_,Od (Rx (Kg w _) o v) h3⟩
    have e1:splice (L.set o v) (o+1) r=splice L o (v::r):=by
      apply List.ext_getElem?
      intro i
      rw [getElem?_splice _ _ _ (by simp;omega),getElem?_splice _ _ _ (by simp;omega)]
      by_cases h0:i=o
      · subst h0
        rw [if_neg ω,if_pos (by simp)]
        simp [List.getElem?_set,show i<L.length by omega]
      · by_cases h4:o+1≤i∧i<o+1+r.length
        · rw [if_pos h4,if_pos (by simp;omega),show i-o=(i-(o+1))+1 by omega,List.getElem?_cons_succ]
        · rw [if_neg h4,if_neg (by simp;omega),List.getElem?_set_ne ω]
    rw [← e1];exact h2
theorem Em {w:World} {ops:Array Oper} {rest:List Oper} {o:Oper} {act:Act} {Q:Exit→Act→World→Prop} (hgd:o.guard=none) (x:Operand)
    (ho:o.op=.load 52 x) (g:Nat) (hx:act.eval x=π g) {e:TypeId} (xs:List UInt8) (hl:xs.length=16) (hb:Blk w g e (xs.map Ag))
    (h:wpList Tryz.prog ops Q rest (act.put o.dst (.agg (Am xs))) w):wpList Tryz.prog ops Q (o::rest) act w:=
  wpList_load_mid hgd 52 x ho g 0 hx (xs.map Ag) _ (FT hb) υ52 rfl (by rw [Jd];simp [hl]) h
theorem DI {w:World} {ops:Array Oper} {rest:List Oper} {o:Oper} {act:Act} {Q:Exit→Act→World→Prop} (hgd:o.guard=none) (x y:Operand)
    (ho:o.op=.store 52 x y) (g:Nat) (hx:act.eval x=π g) {e:TypeId} (xs:List UInt8) (hy:act.eval y=.agg (Am xs)) (hl:xs.length=16) {L:List Value} (hb:Blk w g e L) (hL:L.length=16)
    (h:∀ w',Blk w' g e (xs.map Ag)→w.grownBy w' (some g)→wpList Tryz.prog ops Q rest (act.put o.dst undef) w'):wpList Tryz.prog ops Q (o::rest) act w:=by
  have ht:=TW hb
  rw [hL] at ht
  refine wpList_store_mid hgd 52 x y ho g 0 (Am xs) hx hy (by rw [Kl,hl];exact ht) (by rw [Jd,Kl,hl]) (RO xs) ?_
  obtain ⟨h1,h2⟩:=IP (xs.map Ag) 0 w L hb (by simp;omega)
  have e1:splice L 0 (xs.map Ag)=xs.map Ag:=by
    unfold splice
    simp [List.drop_eq_nil_of_le,hL,hl]
  rw [e1] at h1
  exact h _ h1 h2
theorem FF {fn:Func} {c:Tmp} (h:fn.results=#[.cell c 52]) {tmps:Array Value} {w:World} {g:Nat} {xs:List UInt8} (hc:tmps.getD c undef=π g) {e:TypeId} (hb:Blk w g e (xs.map Ag)) (hl:xs.length=16) :
    (results fn tmps).run Tryz.prog w=.ok (.agg (Am xs)) w:=by
  have hv:=run_loadVar_mid (P:=Tryz.prog) w g 0 52 (xs.map Ag) _ (FT hb) υ52 rfl (by rw [Jd];simp [hl])
  have hc':tmps[c]?.getD undef=π g:=by simpa using hc
  simp [results,h,hc',asAddr,hv,Am]
theorem map_set (xs:List UInt8) (q v:Nat) (hv:v<256):(xs.map Ag).set q (.int .u8 (v:Int))=(xs.set q (UInt8.ofNat v)).map Ag:=by
  rw [List.map_set]
  congr 1
  unfold Ag
  simp [Nat.mod_eq_of_lt hv]
def Yn (xs:List UInt8) (k:Nat):List UInt8:=xs.set (k / 8) (UInt8.ofNat (bAt xs (k / 8) ||| 2 ^ (k % 8)))
def WM (xs:List UInt8) (k:Nat):List UInt8:=xs.set (k / 8) (UInt8.ofNat (bAt xs (k / 8) &&& (255-2 ^ (k % 8))))
def Be (xs:List UInt8) (n:Int):List UInt8:=if 1≤n∧n≤128 then Yn xs (n-1).toNat else xs
def FY (xs:List UInt8) (n:Int):List UInt8:=if 1≤n∧n≤128 then WM xs (n-1).toNat else xs
theorem JU (k:Nat):2 ^ (k % 8)<256:=by
  have:k % 8<8:=Nat.mod_lt _ ω
  calc 2 ^ (k % 8)≤2 ^ 7:=Nat.pow_le_pow_right ω ω
    _<256:=ω
theorem Xy (a b:Nat) (ha:a<256) (hb:b<256):a ||| b<256:=Nat.or_lt_two_pow (n:=8) ha hb
theorem TS (a b:Nat) (ha:a<256):a &&& b<256:=Nat.lt_of_le_of_lt Nat.and_le_left ha
theorem Bu (xs:List UInt8) (n:Int):(Be xs n).length=xs.length:=by unfold Be Yn;split<;>simp
theorem Az (xs:List UInt8) (n:Int):(FY xs n).length=xs.length:=by unfold FY WM;split<;>simp
end
section
open Go.RowKit Go.WideShapes
theorem Db (n:Int) (w:World) :
    Calls Tryz.prog 109 #[ν n] w fun e w'=>e=.returned (.bool (decide (1≤n∧n≤128)))∧w=w':=by
  rcases (ω:n<1∨(1≤n∧n≤128)∨(1≤n∧128<n)) with h | ⟨h1,h2⟩ | ⟨h1,h2⟩
  · rw [decide_eq_false ω]
    go_enter Tryz.func109,Tryz.ntmps109
    go_wp2
    go_ret
    exact ⟨rfl,rfl⟩
  · rw [decide_eq_true ω]
    go_enter Tryz.func109,Tryz.ntmps109
    go_wp2
    go_ret
    exact ⟨Bk (by first | rfl | (simp;done) | (simp;omega)),rfl⟩
  · rw [decide_eq_false ω]
    go_enter Tryz.func109,Tryz.ntmps109
    go_wp2
    go_ret
    exact ⟨Bk (by first | rfl | (simp;done) | (simp;omega)),rfl⟩
theorem NM (k:Nat) (w:World) (hk:k<128) :
    Calls Tryz.prog 110 #[ν ((k:Int)+1)] w fun e w'=>e=.returned (.int .u8 ((2 ^ (k % 8):Nat):Int))∧w=w':=by
  have h1:(k:Int)+1-1=k:=ω
  have h2:(k:Int).tmod 8=((k % 8:Nat):Int):=rfl
  have h3:IntKind.i64.wrap (k:Int)=k:=IntWalk.i64_in _ ω
  have h4:k % 8<8:=Nat.mod_lt _ ω
  generalize k % 8=r at *
  have h5:IntKind.i64.wrap (r:Int)=r:=IntWalk.i64_in _ ω
  rcases (ω:r=0∨r=1∨r=2∨r=3∨r=4∨r=5∨r=6∨r=7) with rfl | rfl | rfl | rfl | rfl | rfl | rfl | rfl
  all_goals
    go_enter Tryz.func110,Tryz.ntmps110
    go_wp2
    go_ret
    exact ⟨rfl,rfl⟩
theorem Xj (xs:List UInt8) (w:World) {j:Nat} (hj:j<xs.length):∀ n,((w.alloc (.cells (Am xs) 52)).drewN n).cell? ⟨w.heap.size,j,none⟩=some (.int .u8 (bAt xs j:Int)):=by
  intro n
  have H:Blk ((w.alloc (.cells (Am xs) 52)).drewN n) w.heap.size 52 (xs.map Ag):=heap_alloc_new w _
  rw [Blk.cell H (i:=j) (by simpa using hj)]
  simp [Ag,DM hj]
theorem QF (xs:List UInt8) (n:Int) (w:World) (hx:xs.length=16) (hn:-9223372036854775808≤n∧n≤9223372036854775807) :
    Calls Tryz.prog 76 #[.agg (Am xs),ν n] w fun e w'=>e=.returned (.bool (Mx xs n))∧Below w.heap.size w w':=by
  by_cases h:1≤n∧n≤128
  · obtain ⟨k,rfl⟩:∃ k:Nat,n=(k:Int)+1:=⟨(n-1).toNat,ω⟩
    have hk:k<128:=ω
    have hU:Mx xs ((k:Int)+1)=JH xs k:=by
      unfold Mx;rw [decide_eq_true h];simp
    rw [hU]
    have d1:decide (1≤(k:Int)+1∧(k:Int)+1≤128)=true:=decide_eq_true h
    have h1:(k:Int)+1-1=k:=ω
    have h2:(k:Int).tdiv 8=((k / 8:Nat):Int):=rfl
    have h3:IntKind.i64.wrap (k:Int)=k:=IntWalk.i64_in _ ω
    have h4:k / 8<16:=ω
    have h5:IntKind.i64.wrap ((k / 8:Nat):Int)=(k / 8:Nat):=IntWalk.i64_in _ ω
    have hc:=Xj xs w (ω:k / 8<xs.length) 0
    change (w.alloc (.cells (Am xs) 52)).cell? _=_ at hc
    have hand:=u8_and_nat (bAt xs (k / 8)) (2 ^ (k % 8)) (DN _ _) (by have:k % 8<8:=Nat.mod_lt _ ω;calc 2 ^ (k % 8)≤2 ^ 7:=Nat.pow_le_pow_right ω ω
                                                                                 _<256:=ω)
    have hbit:=YG (bAt xs (k / 8)) (k % 8)
    have hbb:JH xs k=(bAt xs (k / 8)).testBit (k % 8):=rfl
    rw [hbb]
    have HB:=hid (fun w1=>NM k w1 hk)
    generalize k / 8=q at *
    generalize k % 8=r at *
    generalize bAt xs q=x at *
    generalize (x.testBit r)=tb at *
    generalize ((2 ^ r:Nat):Int)=p at *
    go_enter Tryz.func76,Tryz.ntmps76
    go_wp2_with fail
    go_region_with (first
      | (go_at_call 109;refine (Db _ _).mono ?_;rintro e w1 ⟨rfl,rfl⟩;rw [d1])
      | (go_at_call 110;refine (HB.out _).mono ?_;rintro e w1 ⟨rfl,rfl⟩))
    all_goals
      go_wp2_with fail
      go_ret
      exact ⟨rfl,((Below.refl _ w).alloc (Nat.le_refl _) _).drew⟩
  · have hU:Mx xs n=false:=by unfold Mx;rw [decide_eq_false h];rfl
    rw [hU]
    have d1:decide (1≤n∧n≤128)=false:=decide_eq_false h
    go_enter Tryz.func76,Tryz.ntmps76
    go_wp2_with fail
    first
    | (go_region_with (first
      | (go_at_call 109;refine (Db _ _).mono ?_;rintro e w1 ⟨rfl,rfl⟩;rw [d1])))
    | fail
    all_goals
      go_wp2_with fail
      go_ret
      exact ⟨rfl,((Below.refl _ w).alloc (Nat.le_refl _) _).drew⟩
end
section
open Go.RowKit Go.WideShapes
theorem Hu (w:World) (xs:List UInt8) (o:Obj):Blk ((w.alloc (.cells (Am xs) 52)).alloc o) w.heap.size 52 (xs.map Ag):=
  Blk.mono (show Blk (w.alloc (.cells (Am xs) 52)) w.heap.size 52 (xs.map Ag) from heap_alloc_new w _) ((Below.refl _ _).alloc (Nat.le_refl _) o)
theorem OO (w:World) (xs:List UInt8) {j:Nat} (hj:j<xs.length) (o:Obj):((w.alloc (.cells (Am xs) 52)).alloc o).cell? ⟨w.heap.size,j,none⟩=some (.int .u8 (bAt xs j:Int)):=by
  rw [Blk.cell (Hu w xs o) (i:=j) (by simpa using hj)]
  simp [Ag,DM hj]
theorem La (w:World) (xs:List UInt8) (j:Nat) (o:Obj):((w.alloc (.cells (Am xs) 52)).alloc o).frozen? ⟨w.heap.size,j,none⟩=false:=Blk.frozen (Hu w xs o) j
def AE:List UInt8:=List.replicate 16 0
theorem KM (w:World) (xs:List UInt8):Blk ((w.alloc (.cells (Am xs) 52)).alloc (.cells (Am AE) 52)) (w.heap.size+1) 52 (AE.map Ag):=by
  have:=heap_alloc_new (w.alloc (.cells (Am xs) 52)) (.cells (Am AE) 52)
  rw [show (w.alloc (.cells (Am xs) 52)).heap.size=w.heap.size+1 from by simp] at this
  exact this
theorem MF:(#[.int .u8 0,.int .u8 0,.int .u8 0,.int .u8 0,.int .u8 0,.int .u8 0,.int .u8 0,.int .u8 0,.int .u8 0,.int .u8 0,.int .u8 0,.int .u8 0,.int .u8 0,.int .u8 0,.int .u8 0,.int .u8 0]:Array Value)=Am AE:=rfl
theorem Px (xs:List UInt8) (q v:Nat) (hv:v<256):(Am xs).setIfInBounds q (.int .u8 (v:Int))=Am (xs.set q (UInt8.ofNat v)):=by
  unfold Am;rw [← map_set xs q v hv];simp
theorem QC (xs:List UInt8) (n:Int) (w:World) (hx:xs.length=16) (hn:-9223372036854775808≤n∧n≤9223372036854775807) :
    Calls Tryz.prog 108 #[.agg (Am xs),ν n] w fun e w'=>e=.returned (.agg (Am (Be xs n)))∧Below w.heap.size w w':=by
  by_cases h:1≤n∧n≤128
  · obtain ⟨k,rfl⟩:∃ k:Nat,n=(k:Int)+1:=⟨(n-1).toNat,ω⟩
    have hk:k<128:=ω
    have hU:Be xs ((k:Int)+1)=xs.set (k / 8) (UInt8.ofNat (bAt xs (k / 8) ||| 2 ^ (k % 8))):=by
      unfold Be;rw [if_pos h];simp [Yn]
    rw [hU]
    have d1:decide (1≤(k:Int)+1∧(k:Int)+1≤128)=true:=decide_eq_true h
    have h1:(k:Int)+1-1=k:=ω
    have h2:(k:Int).tdiv 8=((k / 8:Nat):Int):=rfl
    have h3:IntKind.i64.wrap (k:Int)=k:=IntWalk.i64_in _ ω
    have h4:k / 8<16:=ω
    have h5:IntKind.i64.wrap ((k / 8:Nat):Int)=(k / 8:Nat):=IntWalk.i64_in _ ω
    have hc:=OO w xs (ω:k / 8<xs.length)
    have hf:=La w xs (k / 8)
    have hop:=u8_or_nat (bAt xs (k / 8)) (2 ^ (k % 8)) (DN _ _) (JU k)
    have hv:bAt xs (k / 8) ||| 2 ^ (k % 8)<256:=Xy _ _ (DN _ _) (JU k)
    have hset:=Px xs (k / 8) (bAt xs (k / 8) ||| 2 ^ (k % 8)) hv
    have hls:(xs.set (k / 8) (UInt8.ofNat (bAt xs (k / 8) ||| 2 ^ (k % 8)))).length=16:=by simpa using hx
    have HB:=hid (fun w1=>NM k w1 hk)
    generalize xs.set (k / 8) (UInt8.ofNat (bAt xs (k / 8) ||| 2 ^ (k % 8)))=ys at *
    generalize k / 8=q at *
    generalize k % 8=r at *
    generalize bAt xs q=x at *
    generalize hval:(x ||| 2 ^ r:Nat)=val at *
    generalize ((2 ^ r:Nat):Int)=p at *
    have HS:=hid hset
    clear hset hval
    go_enter Tryz.func108,Tryz.ntmps108
    go_wp2_with fail
    refine (Db _ _).mono ?_
    rintro e w1 ⟨rfl,rfl⟩
    rw [d1]
    go_wp2_with fail
    rw [MF]
    first
    | (go_region_with (first
        | (go_at_call 110;refine (HB.out _).mono ?_;rintro e w1 ⟨rfl,rfl⟩)))
    | fail
    all_goals
      rw [HS.out]
      have K0:=Blk.drew (Hu w ys (.cells (Am AE) 52))
      have N0:=Blk.drew (KM w ys)
      have B0:Below w.heap.size w ((w.alloc (.cells (Am ys) 52)).alloc (.cells (Am AE) 52)).drew:=(((Below.refl _ w).alloc (Nat.le_refl _) _).alloc (by simp) _).drew
      generalize ((w.alloc (.cells (Am ys) 52)).alloc (.cells (Am AE) 52)).drew=w2 at *
      go_wp2_with (first
        | (with_reducible refine Em rfl _ rfl w.heap.size rfl ys hls K0 ?_)
        | (with_reducible refine DI rfl _ _ rfl (w.heap.size+1) rfl ys rfl hls N0 rfl ?_;intro w3 k3 g3))
      refine bodyPost_ret (FF rfl rfl k3 hls) rfl ⟨rfl,?_⟩
      exact B0.grown g3 B0.size (fun k hk=>by cases hk;omega)
  · have hU:Be xs n=xs:=by unfold Be;rw [if_neg h]
    rw [hU]
    have d1:decide (1≤n∧n≤128)=false:=decide_eq_false h
    go_enter Tryz.func108,Tryz.ntmps108
    go_wp2_with fail
    refine (Db _ _).mono ?_
    rintro e w1 ⟨rfl,rfl⟩
    rw [d1,MF]
    have K0:=Hu w xs (.cells (Am AE) 52)
    have N0:=KM w xs
    have B0:Below w.heap.size w ((w.alloc (.cells (Am xs) 52)).alloc (.cells (Am AE) 52)):=(((Below.refl _ w).alloc (Nat.le_refl _) _).alloc (by simp) _)
    generalize ((w.alloc (.cells (Am xs) 52)).alloc (.cells (Am AE) 52))=w2 at *
    go_wp2_with (first
      | (with_reducible refine Em rfl _ rfl w.heap.size rfl xs hx K0 ?_)
      | (with_reducible refine DI rfl _ _ rfl (w.heap.size+1) rfl xs rfl hx N0 rfl ?_;intro w3 k3 g3))
    refine bodyPost_ret (FF rfl rfl k3 hx) rfl ⟨rfl,?_⟩
    exact B0.grown g3 B0.size (fun k hk=>by cases hk;omega)
theorem WN (xs:List UInt8) (n:Int) (w:World) (hx:xs.length=16) (hn:-9223372036854775808≤n∧n≤9223372036854775807) :
    Calls Tryz.prog 106 #[.agg (Am xs),ν n] w fun e w'=>e=.returned (.agg (Am (FY xs n)))∧Below w.heap.size w w':=by
  by_cases h:1≤n∧n≤128
  · obtain ⟨k,rfl⟩:∃ k:Nat,n=(k:Int)+1:=⟨(n-1).toNat,ω⟩
    have hk:k<128:=ω
    have hU:FY xs ((k:Int)+1)=xs.set (k / 8) (UInt8.ofNat (bAt xs (k / 8) &&& (255-2 ^ (k % 8)))):=by
      unfold FY;rw [if_pos h];simp [WM]
    rw [hU]
    have d1:decide (1≤(k:Int)+1∧(k:Int)+1≤128)=true:=decide_eq_true h
    have h1:(k:Int)+1-1=k:=ω
    have h2:(k:Int).tdiv 8=((k / 8:Nat):Int):=rfl
    have h3:IntKind.i64.wrap (k:Int)=k:=IntWalk.i64_in _ ω
    have h4:k / 8<16:=ω
    have h5:IntKind.i64.wrap ((k / 8:Nat):Int)=(k / 8:Nat):=IntWalk.i64_in _ ω
    have hc:=OO w xs (ω:k / 8<xs.length)
    have hf:=La w xs (k / 8)
    have hop:=u8_andNot_nat (bAt xs (k / 8)) (2 ^ (k % 8)) (DN _ _) (JU k)
    have hv:bAt xs (k / 8) &&& (255-2 ^ (k % 8))<256:=TS _ _ (DN _ _)
    have hset:=Px xs (k / 8) (bAt xs (k / 8) &&& (255-2 ^ (k % 8))) hv
    have hls:(xs.set (k / 8) (UInt8.ofNat (bAt xs (k / 8) &&& (255-2 ^ (k % 8))))).length=16:=by simpa using hx
    have HB:=hid (fun w1=>NM k w1 hk)
    generalize xs.set (k / 8) (UInt8.ofNat (bAt xs (k / 8) &&& (255-2 ^ (k % 8))))=ys at *
    generalize k / 8=q at *
    generalize k % 8=r at *
    generalize bAt xs q=x at *
    generalize hval:(x &&& (255-2 ^ r):Nat)=val at *
    generalize ((2 ^ r:Nat):Int)=p at *
    have HS:=hid hset
    clear hset hval
    go_enter Tryz.func106,Tryz.ntmps106
    go_wp2_with fail
    refine (Db _ _).mono ?_
    rintro e w1 ⟨rfl,rfl⟩
    rw [d1]
    go_wp2_with fail
    rw [MF]
    first
    | (go_region_with (first
        | (go_at_call 110;refine (HB.out _).mono ?_;rintro e w1 ⟨rfl,rfl⟩)))
    | fail
    all_goals
      rw [HS.out]
      have K0:=Blk.drew (Hu w ys (.cells (Am AE) 52))
      have N0:=Blk.drew (KM w ys)
      have B0:Below w.heap.size w ((w.alloc (.cells (Am ys) 52)).alloc (.cells (Am AE) 52)).drew:=(((Below.refl _ w).alloc (Nat.le_refl _) _).alloc (by simp) _).drew
      generalize ((w.alloc (.cells (Am ys) 52)).alloc (.cells (Am AE) 52)).drew=w2 at *
      go_wp2_with (first
        | (with_reducible refine Em rfl _ rfl w.heap.size rfl ys hls K0 ?_)
        | (with_reducible refine DI rfl _ _ rfl (w.heap.size+1) rfl ys rfl hls N0 rfl ?_;intro w3 k3 g3))
      refine bodyPost_ret (FF rfl rfl k3 hls) rfl ⟨rfl,?_⟩
      exact B0.grown g3 B0.size (fun k hk=>by cases hk;omega)
  · have hU:FY xs n=xs:=by unfold FY;rw [if_neg h]
    rw [hU]
    have d1:decide (1≤n∧n≤128)=false:=decide_eq_false h
    go_enter Tryz.func106,Tryz.ntmps106
    go_wp2_with fail
    refine (Db _ _).mono ?_
    rintro e w1 ⟨rfl,rfl⟩
    rw [d1,MF]
    have K0:=Hu w xs (.cells (Am AE) 52)
    have N0:=KM w xs
    have B0:Below w.heap.size w ((w.alloc (.cells (Am xs) 52)).alloc (.cells (Am AE) 52)):=(((Below.refl _ w).alloc (Nat.le_refl _) _).alloc (by simp) _)
    generalize ((w.alloc (.cells (Am xs) 52)).alloc (.cells (Am AE) 52))=w2 at *
    go_wp2_with (first
      | (with_reducible refine Em rfl _ rfl w.heap.size rfl xs hx K0 ?_)
      | (with_reducible refine DI rfl _ _ rfl (w.heap.size+1) rfl xs rfl hx N0 rfl ?_;intro w3 k3 g3))
    refine bodyPost_ret (FF rfl rfl k3 hx) rfl ⟨rfl,?_⟩
    exact B0.grown g3 B0.size (fun k hk=>by cases hk;omega)
end
section
open Go.RowKit Go.WideShapes
theorem NF {w:World} {ops:Array Oper} {rest:List Oper} {o:Oper} {act:Act} {Q:Exit→Act→World→Prop} (x:Operand)
    (ho:o.op=.load 52 x) (g:Nat) (hx:act.eval x=π g) {e:TypeId} (xs:List UInt8) (hl:xs.length=16) (hb:Blk w g e (xs.map Ag))
    (hw:Region.wanted o (yielded ops act.tmps)=true)
    (h:wpList Tryz.prog ops Q rest (act.put o.dst (.agg (Am xs))) w):wpList Tryz.prog ops Q (o::rest) act w:=
  wpList_step fun K hK=>by
    simp only [hw,if_true]
    exact wp_load_mid 52 x ho g 0 hx (xs.map Ag) _ (FT hb) υ52 rfl (by rw [Jd];simp [hl]) (hK _ _ h)
def Da (xs:List UInt8) (frm:Int):Nat→Nat→Int
  | 0,_=>0
  | k+1,i=>if frm≤(i:Int)+1∧JH xs i=false then (i:Int)+1 else Da xs frm k (i+1)
def Au (xs:List UInt8) (frm:Int):Int:=Da xs frm 128 0
theorem Rq (xs:List UInt8) (frm:Int) {j:Nat} (h:j<128):Da xs frm (128-j) j=if frm≤(j:Int)+1∧JH xs j=false then (j:Int)+1 else Da xs frm (128-(j+1)) (j+1):=by
  rw [show 128-j=(128-(j+1))+1 by omega];rfl
theorem My (xs:List UInt8) {j:Nat} (h:j<128):Mx xs ((j:Int)+1)=JH xs j:=by
  unfold Mx;rw [decide_eq_true ω];simp
theorem Ut (xs:List UInt8) (frm:Int) (w:World) (hx:xs.length=16) (hn:-9223372036854775808≤frm∧frm≤9223372036854775807) :
    Calls Tryz.prog 107 #[.agg (Am xs),ν frm] w fun e w'=>e=.returned (ν (Au xs frm))∧Below w.heap.size w w':=by
  have K0:Blk (w.alloc (.cells (Am xs) 52)) w.heap.size 52 (xs.map Ag):=heap_alloc_new w _
  have B0:Below w.heap.size w (w.alloc (.cells (Am xs) 52)):=(Below.refl _ w).alloc (Nat.le_refl _) _
  generalize hR:Au xs frm=R
  have HR:=hid (show Da xs frm (128-0) 0=R from hR)
  clear hR
  go_enter Tryz.func107,Tryz.ntmps107
  go_wp2_with fail
  generalize (w.alloc (.cells (Am xs) 52))=w1 at *
  go_loopw [7] (fun i wr=>∃ j:Nat,j≤128∧i=ν j∧Da xs frm (128-j) j=R∧Blk wr w.heap.size 52 (xs.map Ag)∧Below w.heap.size w wr)
    (fun i _=>128-(intOf i).toNat)
  case atStart=>exact ⟨0,ω,rfl,HR.out,K0,B0⟩
  case round=>
    obtain ⟨j,hj,rfl,hp,kr,br⟩:=hrel
    by_cases hlt:j<128
    · rw [Rq xs frm hlt] at hp
      have HU:=hid (fun w1=>QF xs ((j:Int)+1) w1 hx ω)
      rw [My xs hlt] at HU
      by_cases hf:frm≤(j:Int)+1
      · cases hb:JH xs j
        · rw [if_pos ⟨hf,hb⟩] at hp
          rw [hb] at HU
          have HP:=hid hp
          clear hb hp HR
          go_wp2_with (first
            | ((with_reducible refine NF (.tmp 2) rfl w.heap.size rfl xs hx kr ?hw ?_);(case hw=>exact (Eq.refl true)))
            | (go_at_call 76;refine (HU.out _).mono ?_;rintro e w2 ⟨rfl,b2⟩))
          go_ret
          exact ⟨Gy HP.out,AP br b2 br.size⟩
        · rw [if_neg (by rw [hb];simp)] at hp
          rw [hb] at HU
          have HP:=hid hp
          clear hb hp HR
          go_wp2_with (first
            | ((with_reducible refine NF (.tmp 2) rfl w.heap.size rfl xs hx kr ?hw ?_);(case hw=>exact (Eq.refl true)))
            | (go_at_call 76;refine (HU.out _).mono ?_;rintro e w2 ⟨rfl,b2⟩))
          go_roundw
          case rel=>exact ⟨j+1,ω,by go_num,HP.out,Blk.mono kr b2,AP br b2 br.size⟩
          case measure=>simp [intOf];omega
      · rw [if_neg (fun h=>hf h.1)] at hp
        have HP:=hid hp
        clear hp HR HU
        go_wp2_with fail
        go_roundw
        case rel=>exact ⟨j+1,ω,by go_num,HP.out,kr,br⟩
        case measure=>simp [intOf];omega
    · obtain rfl:j=128:=ω
      have HP:=hid hp
      clear hp HR
      go_wp2_with fail
      go_ret
      exact ⟨Gy HP.out,br⟩
def Ea (xs:List UInt8) (n:Nat):List Nat:=(List.range n).filter (JH xs)
def Abq (n:Nat):Value:=ν ((n:Int)+1)
theorem VS (xs:List UInt8) (j:Nat):Ea xs (j+1)=if JH xs j=true then Ea xs j++[j] else Ea xs j:=by
  unfold Ea
  rw [List.range_succ,List.filter_append]
  cases h:JH xs j<;>simp [h]
theorem SQ (xs:List UInt8) (j:Nat):(Ea xs j).length≤j:=by
  unfold Ea
  have:=List.length_filter_le (JH xs) (List.range j)
  simpa using this
theorem EI:ElemT Tryz.prog 48 3 1 8:=Pb υ48 (z:=ν 0) κ rfl ω
theorem YF (xs:List UInt8) (w:World) (hx:xs.length=16) :
    Calls Tryz.prog 44 #[.agg (Am xs)] w fun e w'=>∃ a c,e=.returned (.slice a (Ea xs 128).length c)∧Own w' w.heap.size 3 1 a (Ea xs 128).length c ((Ea xs 128).map Abq)∧Below w.heap.size w w':=by
  have K0:Blk (w.alloc (.cells (Am xs) 52)) w.heap.size 52 (xs.map Ag):=heap_alloc_new w _
  have B0:Below w.heap.size w (w.alloc (.cells (Am xs) 52)):=(Below.refl _ w).alloc (Nat.le_refl _) _
  go_enter Tryz.func44,Tryz.ntmps44
  go_wp2_with fail
  generalize (w.alloc (.cells (Am xs) 52))=w1 at *
  have hsz1:w.heap.size+1≤w1.heap.size:=K0.lt
  go_loopw [3,5] (fun l i wr=>∃ (j:Nat) (a':Option Addr) (c':Nat),j≤128∧i=ν j∧l=.slice a' (Ea xs j).length c'∧Own wr (w.heap.size+1) 3 1 a' (Ea xs j).length c' ((Ea xs j).map Abq)∧Blk wr w.heap.size 52 (xs.map Ag)∧Below w.heap.size w wr)
    (fun _ i _=>128-(intOf i).toNat)
  case atStart=>exact ⟨0,none,0,ω,rfl,rfl,Own.nil _ _ _ _,K0,B0⟩
  case round=>
    obtain ⟨j,a',c',hj,rfl,rfl,ho,kr,br⟩:=hrel
    have hstep:=VS xs j
    have hll:=SQ xs j
    by_cases hlt:j<128
    · have HU:=hid (fun w1=>QF xs ((j:Int)+1) w1 hx ω)
      rw [My xs hlt] at HU
      cases hb:JH xs j
      · rw [if_neg (by rw [hb];simp)] at hstep
        rw [hb] at HU
        have HS:=hid hstep
        clear hb hstep
        generalize Ea xs j=L at *
        go_wp2_with (first
          | ((with_reducible refine Em rfl (.tmp 1) rfl w.heap.size rfl xs hx kr ?_))
          | (go_at_call 76;refine (HU.out _).mono ?_;rintro e w2 ⟨rfl,b2⟩))
        go_roundw
        case rel=>exact ⟨j+1,a',c',ω,by go_num,by rw [HS.out],by rw [HS.out];exact Own.mono ho b2,Blk.mono kr b2,AP br b2 br.size⟩
        case measure=>simp [intOf];omega
      · rw [if_pos hb] at hstep
        rw [hb] at HU
        have HS:=hid hstep
        clear hb hstep
        generalize Ea xs j=L at *
        go_wp2_with (first
          | ((with_reducible refine Em rfl (.tmp 1) rfl w.heap.size rfl xs hx kr ?_))
          | (go_at_call 76;refine (HU.out _).mono ?_;rintro e w2 ⟨rfl,b2⟩;have b2s:=b2.size)
          | (at_builtin;refine CA rfl (.tmp 12) (.tmp 15) rfl EI (w.heap.size+1) rfl rfl ((Own.mono ho b2).alloc _) (XT _ _ _) (by simp [Value.oneCell']) ω ω (by have:=kr.lt;simp;omega) ?_;intro a3 c3 w3 o3 g3 b3))
        go_roundw
        case rel=>
          refine ⟨j+1,a3,c3,ω,by go_num,?_,?_,?_,?_⟩
          · rw [HS.out];simp
          · rw [HS.out];simpa [Abq] using o3
          · exact Blk.below ((Blk.mono kr b2).mono ((Below.refl _ _).alloc (Nat.le_refl _) _)) b3 ω
          · exact (AP br b2 br.size |>.alloc (by have:=kr.lt;omega) _).trans (b3.mono ω)
        case measure=>simp [intOf];omega
    · obtain rfl:j=128:=ω
      clear hstep
      go_wp2_with fail
      go_ret
      exact ⟨_,_,rfl,ho.low ω,br⟩
theorem Uf (xs:List UInt8) (w:World) (hx:xs.length=16) :
    Calls Tryz.prog 19 #[.agg (Am xs)] w fun e w'=>e=.returned (ν (Ea xs 128).length)∧Below w.heap.size w w':=by
  have K0:Blk (w.alloc (.cells (Am xs) 52)) w.heap.size 52 (xs.map Ag):=heap_alloc_new w _
  have B0:Below w.heap.size w (w.alloc (.cells (Am xs) 52)):=(Below.refl _ w).alloc (Nat.le_refl _) _
  have HA:=hid (fun w1=>YF xs w1 hx)
  have hll:=SQ xs 128
  generalize Ea xs 128=L at *
  go_enter Tryz.func19,Tryz.ntmps19
  go_wp2_with (first
    | ((with_reducible refine Em rfl (.tmp 1) rfl w.heap.size rfl xs hx K0 ?_))
    | (go_at_call 44;refine (HA.out _).mono ?_;rintro e w2 ⟨a2,c2,rfl,o2,b2⟩))
  go_ret
  exact ⟨rfl,AP B0 b2 B0.size⟩
end
section
open Go.RowKit Go.WideShapes
def woB (xs ys:List UInt8) (j:Nat):Nat:=bAt xs j &&& (255-bAt ys j)
def Yt (xs ys:List UInt8) (i:Nat):List UInt8:=(List.range 16).map fun j=>UInt8.ofNat (if j<i then woB xs ys j else bAt xs j)
def Ael (xs ys:List UInt8):List UInt8:=Yt xs ys 16
end
section
open Go.RowKit Go.WideShapes
end
section
open Go.RowKit Go.WideShapes
theorem VX {w:World} {g:Nat} {e:TypeId} {xs:List UInt8} (h:Blk w g e (xs.map Ag)) (hl:xs.length=16):Bj w (some ⟨g,0,none⟩) 16 xs:=by
  refine ⟨by simp,ω,by unfold maxLen;omega,fun h=>by (cases h),fun _=>⟨g,0,rfl,h.lt,fun j u hu=>?_⟩⟩
  have:=FT h j u hu
  exact this
theorem RS (xs:List UInt8) (w:World) (hx:xs.length=16) :
    Calls Tryz.prog 77 #[.agg (Am xs)] w fun e w'=>TO w xs e w':=by
  have K0:Blk (w.alloc (.cells (Am xs) 52)) w.heap.size 52 (xs.map Ag):=heap_alloc_new w _
  have R0:=VX K0 hx
  have B0:Below w.heap.size w (w.alloc (.cells (Am xs) 52)):=(Below.refl _ w).alloc (Nat.le_refl _) _
  rw [← hx] at R0
  go_enter Tryz.func77,Tryz.ntmps77
  go_wp2_with (first
    | (at_builtin;refine CA rfl (.const (.slice none 0 0)) (.tmp 3) rfl E8 w.heap.size rfl (by first | rfl | (rw [← hx];rfl)) (Own.nil _ _ _ _) R0 (CD xs) ω ω (by simp) ?_;intro a1 c1 w1 o1 g1 b1))
  go_ret
  refine ⟨a1,c1,?_,?_,B0.trans b1⟩
  · first | rfl | (rw [hx];rfl)
  · simpa [BV] using o1
theorem Jq {fn:Func} {c u:Tmp} (h:fn.results=#[.cell c 52,.tmp u]) {tmps:Array Value} {w:World} {g:Nat} {xs:List UInt8} (hc:tmps.getD c undef=π g) {e:TypeId} (hb:Blk w g e (xs.map Ag)) (hl:xs.length=16) :
    (results fn tmps).run Tryz.prog w=.ok (.tuple #[.agg (Am xs),tmps.getD u undef]) w:=by
  have hv:=run_loadVar_mid (P:=Tryz.prog) w g 0 52 (xs.map Ag) _ (FT hb) υ52 rfl (by rw [Jd];simp [hl])
  have hc':tmps[c]?.getD undef=π g:=by simpa using hc
  simp [results,h,hc',asAddr,hv,Am]
theorem VM {w:World} {ops:Array Oper} {rest:List Oper} {o:Oper} {act:Act} {Q:Exit→Act→World→Prop} (hgd:o.guard=none) (x:Operand)
    (ho:o.op=.load 52 x) (b off:Nat) (hx:act.eval x=.pointer (some ⟨b,off,none⟩)) (xs:List UInt8) (hl:xs.length=16) {c:Nat} (hr:Bj w (some ⟨b,off,none⟩) c xs)
    (h:wpList Tryz.prog ops Q rest (act.put o.dst (.agg (Am xs))) w):wpList Tryz.prog ops Q (o::rest) act w:=
  wpList_load_mid hgd 52 x ho b off hx (xs.map Ag) _ (fun j v hv=>by
    obtain ⟨b',off',e,_,hc⟩:=hr.at ω
    cases e
    exact hc j v hv) υ52 rfl (by rw [Jd];simp [hl]) h
theorem Sr (a:Option Addr) (c:Nat) (w:World):(Instr.arrayAt 52 (.slice a 16 c)).run Tryz.prog w=.ok (.pointer a) w:=by
  simp [Instr.arrayAt,run_underlying υ52]
def GK (xs:List UInt8):List UInt8:=if xs.length<16 then AE else xs.take 16
def XK (xs:List UInt8):Int:=if xs.length<16 then 3 else 0
theorem UP (a:Option Addr) (c:Nat) (xs:List UInt8) (w:World) (ha:Bj w a c xs) :
    Calls Tryz.prog 43 #[.slice a xs.length c] w fun e w'=>e=.returned (.tuple #[.agg (Am (GK xs)),ν (XK xs)])∧Below w.heap.size w w':=by
  have hl:=EA ha
  have hcap:xs.length≤c:=ha.2.1
  have N0:Blk (w.alloc (.cells (Am AE) 52)) w.heap.size 52 (AE.map Ag):=heap_alloc_new w _
  have B0:Below w.heap.size w (w.alloc (.cells (Am AE) 52)):=(Below.refl _ w).alloc (Nat.le_refl _) _
  have hr:=Row.alloc ha (.cells (Am AE) 52)
  rw [← MF] at N0 B0 hr
  by_cases h:xs.length<16
  · have h1:GK xs=AE:=if_pos h
    have h2:XK xs=3:=if_pos h
    rw [h1,h2]
    go_enter Tryz.func43,Tryz.ntmps43
    go_wp2_with (first
      | ((with_reducible refine DI rfl _ _ rfl w.heap.size rfl AE ?hy rfl N0 rfl ?_);(case hy=>rfl);intro w3 k3 g3))
    refine bodyPost_ret (Jq rfl rfl k3 rfl) rfl ⟨rfl,?_⟩
    exact B0.grown g3 B0.size (fun k hk=>by cases hk;omega)
  · have h1:GK xs=xs.take 16:=if_neg h
    have h2:XK xs=0:=if_neg h
    rw [h1,h2]
    obtain ⟨b,off,rfl,hb,_⟩:=ha.bytes ω
    have hr:=Ie hr 16
    have hl16:(xs.take 16).length=16:=by simp;omega
    have h16:¬ ((xs.length:Int)<16):=ω
    have h16':(16:Nat)≤c:=ω
    have harr:=Sr (some ⟨b,off,none⟩) c
    generalize xs.take 16=ys at *
    go_enter Tryz.func43,Tryz.ntmps43
    go_wp2_with (first
      | (with_reducible refine VM rfl _ rfl b off rfl ys hl16 hr ?_)
      | (with_reducible refine DI rfl _ _ rfl w.heap.size rfl ys rfl hl16 N0 rfl ?_;intro w3 k3 g3))
    refine bodyPost_ret (Jq rfl rfl k3 hl16) rfl ⟨rfl,?_⟩
    exact B0.grown g3 B0.size (fun k hk=>by cases hk;omega)
def Aen (xs:List UInt8) (n:Nat):List Value:=(List.range n).map fun k=>Value.bool (JH xs k)
end
section
theorem Sf:∀ x∈Bv,x.a+x.s≤23168:=by decide +kernel
theorem Ds {kd nm:Int} {q:PartT} (h:Bc kd nm=some q):0≤q.a∧0≤q.s∧q.s≤4096∧q.a+q.s≤23168:=by
  have hm:q∈Bv:=List.mem_of_find?_eq_some h
  have h1:=PN q hm
  have h2:=Sf q hm
  omega
theorem Jc {M:MemM} {kd nm:Int} {q:PartT} (hM:M.V.length=23168) (h:Bc kd nm=some q):inM M q.a q.s=true:=by
  have:=Ds h
  exact decide_eq_true ω
def Eo (kd nm:Int):Bool:=(Bc kd nm).isSome
def AY (M:MemM) (P:List PtM) (kd nm:Int):List UInt8:=match Bc kd nm with
  | some q=>Fk M P q.a q.s
  | none=>[]
def ldE (kd nm:Int):Int:=if Eo kd nm then 0 else 1
def stE (M:MemM) (P:List PtM) (kd nm:Int) (n:Nat):Int:=match Bc kd nm with
  | some q=>MH M P q.a n
  | none=>1
def stP (M:MemM) (P:List PtM) (kd nm:Int) (xs:List UInt8):List PtM:=match Bc kd nm with
  | some q=>KC M P q.a xs
  | none=>P
theorem Cy {M:MemM} {P:List PtM} {kd nm:Int} {q:PartT} (h:Bc kd nm=some q):AY M P kd nm=Fk M P q.a q.s:=by unfold AY;rw [h]
theorem CX {M:MemM} {P:List PtM} {kd nm:Int} (h:Bc kd nm=none):AY M P kd nm=[]:=by unfold AY;rw [h]
def An (M:MemM) (P:List PtM) (i:Int):InoT:=rdI (AY M P 4 i)
def AR (M:MemM) (P:List PtM) (i:Int):Int:=if Eo 4 i then (if rdE (AY M P 4 i)=0 then 0 else 36) else 1
def Cc (M:MemM) (P:List PtM) (i:Int) (x:InoT):Int:=if DY x=0 then stE M P 4 i (Dm x).length else DY x
def BE (M:MemM) (P:List PtM) (i:Int) (x:InoT):List PtM:=if DY x=0 then stP M P 4 i (Dm x) else P
def Aq (M:MemM) (P:List PtM):List UInt8:=GK (AY M P 3 0)
theorem Ao (xs:List UInt8):(GK xs).length=16:=by
  unfold GK;split
  · rfl
  · rw [List.length_take];omega
theorem ZM {xs:List UInt8} (h:rdE xs≠0):rdI xs=Bl:=by
  unfold rdE at h;unfold rdI
  split<;>rename_i q1
  · rfl
  · rw [if_neg q1] at h
    split<;>rename_i q2
    · rfl
    · rw [if_neg q2] at h
      split<;>rename_i q3
      · rfl
      · rw [if_neg q3] at h
        split<;>rename_i q4
        · rw [if_pos q4] at h;exact absurd rfl h
        · rfl
theorem UA {M:MemM} {P:List PtM} {i:Int} (h:Eo 4 i=false):An M P i=Bl:=by
  unfold Eo at h
  have h2:Bc 4 i=none:=by cases q:Bc 4 i with
    | none=>rfl
    | some z=>rw [q] at h;cases h
  unfold An;rw [CX h2];unfold rdI;exact if_pos (by decide)
def AG (L:List Int):Int:=(L.find? fun e=>!decide (e=0)).getD 0
def OL (M:MemM) (P:List PtM):Int:=Au (Aq M P) 1
def MS (M:MemM) (P:List PtM):List PtM:=stP M P 3 0 (Be (Aq M P) (OL M P))
def Adc (M:MemM) (P:List PtM):List PtM:=stP M (MS M P) 7 (OL M P) (List.replicate 64 0)
def TV (M:MemM) (P:List PtM):Int:=AG [stE M P 3 0 16,stE M (MS M P) 7 (OL M P) 64]
def Dk (M:MemM) (P:List PtM) (spare:Int):Prop:=128-((Ea (Aq M P) 128).length:Int)≤max spare 0
instance (M:MemM) (P:List PtM) (spare:Int):Decidable (Dk M P spare):=by unfold Dk;infer_instance
end
end Go.Proofs.YtbfgjinpchbajaaGreatDoor
