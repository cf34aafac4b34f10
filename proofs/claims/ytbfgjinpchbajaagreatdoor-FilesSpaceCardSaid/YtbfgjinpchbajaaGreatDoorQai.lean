/- Parts of the proof. -/
import Derived.Deep.Slices
import Derived.Deep.Fields
import Derived.ChangeSame
import Derived.OpenShut
import Derived.Deep.MidRow
import Derived.Deep.RegionWith
import Derived.Laws.BitsAllLaws
import Derived.BigRegion
import Derived.Test.YtbfgjinpchbajaaGreatDoorQah
namespace Go.Proofs.YtbfgjinpchbajaaGreatDoor
open Go.RowKit
set_option linter.unusedSimpArgs false
set_option linter.unusedVariables false
set_option linter.unusedSectionVars false
set_option maxRecDepth 100000
set_option maxHeartbeats 8000000
section
open Go.RowKit Go.WideShapes
def JL (i:InoT):List Int:=[i.k,i.l,i.s,i.b0,i.b1,i.b2,i.b3,i.o0,i.o1,i.o2,i.o3,i.o4,i.o5,i.o6,i.o7]
def twI (i:InoT):Bool:=tw i.b0.toNat i.b1.toNat i.b2.toNat i.b3.toNat
def Cm (i:InoT):Bool:=
  if i.k=0 then decide (JL i=[0,0,0,0,0,0,0,0,0,0,0,0,0,0,0])
  else if i.k=1 then Do i&&!twI i
  else if i.k=2 then Jf i&&!twI i
  else false
theorem IA {j n s:Int} (h:okB j n s=true):0≤n∧n≤128:=by
  unfold okB at h
  rw [Bool.and_eq_true] at h
  exact of_decide_eq_true h.2
theorem JO {i:InoT} (h:Do i=true):(0≤i.b0∧i.b0≤128)∧(0≤i.b1∧i.b1≤128)∧(0≤i.b2∧i.b2≤128)∧(0≤i.b3∧i.b3≤128):=by
  unfold Do KW at h
  simp only [Bool.and_eq_true] at h
  obtain ⟨⟨_,⟨⟨h0,h1⟩,h2⟩,h3⟩,_⟩:=h
  exact ⟨IA h0,IA h1,IA h2,IA h3⟩
theorem Le {i:InoT} (h:Jf i=true):(0≤i.b0∧i.b0≤128)∧(0≤i.b1∧i.b1≤128)∧(0≤i.b2∧i.b2≤128)∧(0≤i.b3∧i.b3≤128):=by
  unfold Jf at h
  simp only [Bool.and_eq_true] at h
  obtain ⟨_,⟨⟨h0,h1⟩,h2⟩,h3⟩:=h
  exact ⟨of_decide_eq_true h0,of_decide_eq_true h1,of_decide_eq_true h2,of_decide_eq_true h3⟩
theorem Tc (i:InoT) (w:World):Calls Tryz.prog 100 #[Gc i] w fun e w'=>e=.returned (.bool (Cm i))∧Below w.heap.size w w':=by
  by_cases hk0:i.k=0
  · have hM:Cm i=decide (JL i=[0,0,0,0,0,0,0,0,0,0,0,0,0,0,0]):=by unfold Cm;rw [if_pos hk0]
    rw [hM]
    obtain ⟨k,l,s,b0,b1,b2,b3,o0,o1,o2,o3,o4,o5,o6,o7⟩:=i
    have HB:Hid (Below w.heap.size w (w.alloc (.cells #[.int .i64 k,.int .i64 l,.int .i64 s,.int .i64 b0,.int .i64 b1,.int .i64 b2,.int .i64 b3,.int .i64 o0,.int .i64 o1,.int .i64 o2,.int .i64 o3,.int .i64 o4,.int .i64 o5,.int .i64 o6,.int .i64 o7] 45))):=(Below.refl w.heap.size w).alloc (Nat.le_refl _) _
    unfold Gc Ao
    have hk0:k=0:=hk0
    subst hk0
    have E:=XS 0 l s b0 b1 b2 b3 o0 o1 o2 o3 o4 o5 o6 o7 0 0 0 0 0 0 0 0 0 0 0 0 0 0 0
    unfold JL
    clear hM
    obtain ⟨z,hz⟩:∃ z,decide ([0,l,s,b0,b1,b2,b3,o0,o1,o2,o3,o4,o5,o6,o7]=[0,0,0,0,0,0,0,0,0,0,0,0,0,0,0])=z:=⟨_,rfl⟩
    rw [hz] at E
    simp only at hz ⊢
    rw [hz]
    clear hz
    go_enter Tryz.func100,Tryz.ntmps100
    go_wp2_with fail
    go_ret
    exact ⟨rfl,HB.out⟩
  · by_cases hk1:i.k=1
    · have hM:Cm i=(Do i&&!twI i):=by unfold Cm;rw [if_neg hk0];rw [if_pos hk1]
      rw [hM]
      clear hM
      by_cases hF:Do i=true
      · obtain ⟨q0,q1,q2,q3⟩:=JO hF
        have HC:=fun w1=>Lg i w1
        rw [hF] at HC ⊢
        obtain ⟨k,l,s,b0,b1,b2,b3,o0,o1,o2,o3,o4,o5,o6,o7⟩:=i
        simp only at q0 q1 q2 q3 hk1
        subst hk1
        obtain ⟨n0,rfl⟩:=Int.eq_ofNat_of_zero_le q0.1
        obtain ⟨n1,rfl⟩:=Int.eq_ofNat_of_zero_le q1.1
        obtain ⟨n2,rfl⟩:=Int.eq_ofNat_of_zero_le q2.1
        obtain ⟨n3,rfl⟩:=Int.eq_ofNat_of_zero_le q3.1
        have HT:=fun w1=>OF 1 l s n0 n1 n2 n3 o0 o1 o2 o3 o4 o5 o6 o7 w1 ω ω ω ω
        have hT:twI ⟨1,l,s,n0,n1,n2,n3,o0,o1,o2,o3,o4,o5,o6,o7⟩=tw n0 n1 n2 n3:=rfl
        rw [hT]
        generalize tw n0 n1 n2 n3=t at *
        clear hT hF q0 q1 q2 q3
        unfold Gc Ao at *
        have HC:=hid HC;have HT:=hid HT
        have K0:Blk (w.alloc (.cells #[ν 1,ν l,ν s,ν (n0:Nat),ν (n1:Nat),ν (n2:Nat),ν (n3:Nat),ν o0,ν o1,ν o2,ν o3,ν o4,ν o5,ν o6,ν o7] 45)) w.heap.size 45 [ν 1,ν l,ν s,ν (n0:Nat),ν (n1:Nat),ν (n2:Nat),ν (n3:Nat),ν o0,ν o1,ν o2,ν o3,ν o4,ν o5,ν o6,ν o7]:=heap_alloc_new w _
        have HB:Hid (Below w.heap.size w (w.alloc (.cells #[ν 1,ν l,ν s,ν (n0:Nat),ν (n1:Nat),ν (n2:Nat),ν (n3:Nat),ν o0,ν o1,ν o2,ν o3,ν o4,ν o5,ν o6,ν o7] 45))):=(Below.refl w.heap.size w).alloc (Nat.le_refl _) _
        have KH:=hid K0
        clear K0
        go_enter Tryz.func100,Tryz.ntmps100
        go_wp2_with (first
          | (go_at_call 131;refine (HC.out _).mono ?_;rintro e w4 ⟨rfl,b4⟩;have k4:=KH.out.mono b4;have B4:=hid (Ae HB.out b4)
             have z0:w4.cell? ⟨w.heap.size,0,none⟩=some (ν 1):=Blk.cell k4 (i:=0) (by simp)
             have z1:w4.cell? ⟨w.heap.size,1,none⟩=some (ν l):=Blk.cell k4 (i:=1) (by simp)
             have z2:w4.cell? ⟨w.heap.size,2,none⟩=some (ν s):=Blk.cell k4 (i:=2) (by simp)
             have z3:w4.cell? ⟨w.heap.size,3,none⟩=some (ν (n0:Nat)):=Blk.cell k4 (i:=3) (by simp)
             have z4:w4.cell? ⟨w.heap.size,4,none⟩=some (ν (n1:Nat)):=Blk.cell k4 (i:=4) (by simp)
             have z5:w4.cell? ⟨w.heap.size,5,none⟩=some (ν (n2:Nat)):=Blk.cell k4 (i:=5) (by simp)
             have z6:w4.cell? ⟨w.heap.size,6,none⟩=some (ν (n3:Nat)):=Blk.cell k4 (i:=6) (by simp)
             have z7:w4.cell? ⟨w.heap.size,7,none⟩=some (ν o0):=Blk.cell k4 (i:=7) (by simp)
             have z8:w4.cell? ⟨w.heap.size,8,none⟩=some (ν o1):=Blk.cell k4 (i:=8) (by simp)
             have z9:w4.cell? ⟨w.heap.size,9,none⟩=some (ν o2):=Blk.cell k4 (i:=9) (by simp)
             have z10:w4.cell? ⟨w.heap.size,10,none⟩=some (ν o3):=Blk.cell k4 (i:=10) (by simp)
             have z11:w4.cell? ⟨w.heap.size,11,none⟩=some (ν o4):=Blk.cell k4 (i:=11) (by simp)
             have z12:w4.cell? ⟨w.heap.size,12,none⟩=some (ν o5):=Blk.cell k4 (i:=12) (by simp)
             have z13:w4.cell? ⟨w.heap.size,13,none⟩=some (ν o6):=Blk.cell k4 (i:=13) (by simp)
             have z14:w4.cell? ⟨w.heap.size,14,none⟩=some (ν o7):=Blk.cell k4 (i:=14) (by simp)
             clear k4 b4)
          | (go_at_call 132;refine (HT.out _).mono ?_;rintro e w5 ⟨rfl,b5⟩;have B5:=hid (Ae B4.out b5);clear b5))
        go_ret
        exact ⟨by first | rfl | (simp;rfl),B5.out⟩
      · have hF:Do i=false:=by simpa using hF
        have HC:=fun w1=>Lg i w1
        rw [hF] at HC ⊢
        obtain ⟨k,l,s,b0,b1,b2,b3,o0,o1,o2,o3,o4,o5,o6,o7⟩:=i
        simp only at hk1
        subst hk1
        generalize twI _=t at *
        clear hF
        unfold Gc Ao at *
        have HC:=hid HC
        have HB:Hid (Below w.heap.size w (w.alloc (.cells #[ν 1,ν l,ν s,ν b0,ν b1,ν b2,ν b3,ν o0,ν o1,ν o2,ν o3,ν o4,ν o5,ν o6,ν o7] 45))):=(Below.refl w.heap.size w).alloc (Nat.le_refl _) _
        go_enter Tryz.func100,Tryz.ntmps100
        go_wp2_with (go_at_call 131;refine (HC.out _).mono ?_;rintro e w4 ⟨rfl,b4⟩;have B4:=hid (Ae HB.out b4);clear b4)
        go_ret
        exact ⟨by first | rfl | (simp;rfl),B4.out⟩
    · by_cases hk2:i.k=2
      · have hM:Cm i=(Jf i&&!twI i):=by unfold Cm;rw [if_neg hk0,if_neg hk1];rw [if_pos hk2]
        rw [hM]
        clear hM
        by_cases hF:Jf i=true
        · obtain ⟨q0,q1,q2,q3⟩:=Le hF
          have HC:=fun w1=>MA i w1
          rw [hF] at HC ⊢
          obtain ⟨k,l,s,b0,b1,b2,b3,o0,o1,o2,o3,o4,o5,o6,o7⟩:=i
          simp only at q0 q1 q2 q3 hk2
          subst hk2
          obtain ⟨n0,rfl⟩:=Int.eq_ofNat_of_zero_le q0.1
          obtain ⟨n1,rfl⟩:=Int.eq_ofNat_of_zero_le q1.1
          obtain ⟨n2,rfl⟩:=Int.eq_ofNat_of_zero_le q2.1
          obtain ⟨n3,rfl⟩:=Int.eq_ofNat_of_zero_le q3.1
          have HT:=fun w1=>OF 2 l s n0 n1 n2 n3 o0 o1 o2 o3 o4 o5 o6 o7 w1 ω ω ω ω
          have hT:twI ⟨2,l,s,n0,n1,n2,n3,o0,o1,o2,o3,o4,o5,o6,o7⟩=tw n0 n1 n2 n3:=rfl
          rw [hT]
          generalize tw n0 n1 n2 n3=t at *
          clear hT hF q0 q1 q2 q3
          unfold Gc Ao at *
          have HC:=hid HC;have HT:=hid HT
          have K0:Blk (w.alloc (.cells #[ν 2,ν l,ν s,ν (n0:Nat),ν (n1:Nat),ν (n2:Nat),ν (n3:Nat),ν o0,ν o1,ν o2,ν o3,ν o4,ν o5,ν o6,ν o7] 45)) w.heap.size 45 [ν 2,ν l,ν s,ν (n0:Nat),ν (n1:Nat),ν (n2:Nat),ν (n3:Nat),ν o0,ν o1,ν o2,ν o3,ν o4,ν o5,ν o6,ν o7]:=heap_alloc_new w _
          have HB:Hid (Below w.heap.size w (w.alloc (.cells #[ν 2,ν l,ν s,ν (n0:Nat),ν (n1:Nat),ν (n2:Nat),ν (n3:Nat),ν o0,ν o1,ν o2,ν o3,ν o4,ν o5,ν o6,ν o7] 45))):=(Below.refl w.heap.size w).alloc (Nat.le_refl _) _
          have KH:=hid K0
          clear K0
          go_enter Tryz.func100,Tryz.ntmps100
          go_wp2_with (first
            | (go_at_call 133;refine (HC.out _).mono ?_;rintro e w4 ⟨rfl,b4⟩;have k4:=KH.out.mono b4;have B4:=hid (Ae HB.out b4)
               have z0:w4.cell? ⟨w.heap.size,0,none⟩=some (ν 2):=Blk.cell k4 (i:=0) (by simp)
               have z1:w4.cell? ⟨w.heap.size,1,none⟩=some (ν l):=Blk.cell k4 (i:=1) (by simp)
               have z2:w4.cell? ⟨w.heap.size,2,none⟩=some (ν s):=Blk.cell k4 (i:=2) (by simp)
               have z3:w4.cell? ⟨w.heap.size,3,none⟩=some (ν (n0:Nat)):=Blk.cell k4 (i:=3) (by simp)
               have z4:w4.cell? ⟨w.heap.size,4,none⟩=some (ν (n1:Nat)):=Blk.cell k4 (i:=4) (by simp)
               have z5:w4.cell? ⟨w.heap.size,5,none⟩=some (ν (n2:Nat)):=Blk.cell k4 (i:=5) (by simp)
               have z6:w4.cell? ⟨w.heap.size,6,none⟩=some (ν (n3:Nat)):=Blk.cell k4 (i:=6) (by simp)
               have z7:w4.cell? ⟨w.heap.size,7,none⟩=some (ν o0):=Blk.cell k4 (i:=7) (by simp)
               have z8:w4.cell? ⟨w.heap.size,8,none⟩=some (ν o1):=Blk.cell k4 (i:=8) (by simp)
               have z9:w4.cell? ⟨w.heap.size,9,none⟩=some (ν o2):=Blk.cell k4 (i:=9) (by simp)
               have z10:w4.cell? ⟨w.heap.size,10,none⟩=some (ν o3):=Blk.cell k4 (i:=10) (by simp)
               have z11:w4.cell? ⟨w.heap.size,11,none⟩=some (ν o4):=Blk.cell k4 (i:=11) (by simp)
               have z12:w4.cell? ⟨w.heap.size,12,none⟩=some (ν o5):=Blk.cell k4 (i:=12) (by simp)
               have z13:w4.cell? ⟨w.heap.size,13,none⟩=some (ν o6):=Blk.cell k4 (i:=13) (by simp)
               have z14:w4.cell? ⟨w.heap.size,14,none⟩=some (ν o7):=Blk.cell k4 (i:=14) (by simp)
               clear k4 b4)
            | (go_at_call 132;refine (HT.out _).mono ?_;rintro e w5 ⟨rfl,b5⟩;have B5:=hid (Ae B4.out b5);clear b5))
          go_ret
          exact ⟨by first | rfl | (simp;rfl),B5.out⟩
        · have hF:Jf i=false:=by simpa using hF
          have HC:=fun w1=>MA i w1
          rw [hF] at HC ⊢
          obtain ⟨k,l,s,b0,b1,b2,b3,o0,o1,o2,o3,o4,o5,o6,o7⟩:=i
          simp only at hk2
          subst hk2
          generalize twI _=t at *
          clear hF
          unfold Gc Ao at *
          have HC:=hid HC
          have HB:Hid (Below w.heap.size w (w.alloc (.cells #[ν 2,ν l,ν s,ν b0,ν b1,ν b2,ν b3,ν o0,ν o1,ν o2,ν o3,ν o4,ν o5,ν o6,ν o7] 45))):=(Below.refl w.heap.size w).alloc (Nat.le_refl _) _
          go_enter Tryz.func100,Tryz.ntmps100
          go_wp2_with (go_at_call 133;refine (HC.out _).mono ?_;rintro e w4 ⟨rfl,b4⟩;have B4:=hid (Ae HB.out b4);clear b4)
          go_ret
          exact ⟨by first | rfl | (simp;rfl),B4.out⟩
      · have hM:Cm i=false:=by unfold Cm;rw [if_neg hk0,if_neg hk1,if_neg hk2]
        rw [hM]
        clear hM
        obtain ⟨k,l,s,b0,b1,b2,b3,o0,o1,o2,o3,o4,o5,o6,o7⟩:=i
        have HB:Hid (Below w.heap.size w (w.alloc (.cells #[ν k,ν l,ν s,ν b0,ν b1,ν b2,ν b3,ν o0,ν o1,ν o2,ν o3,ν o4,ν o5,ν o6,ν o7] 45))):=(Below.refl w.heap.size w).alloc (Nat.le_refl _) _
        unfold Gc Ao
        simp only at hk0 hk1 hk2
        have e0:(k == 0)=false:=by simpa using hk0
        have e1:(k == 1)=false:=by simpa using hk1
        have e2:(k == 2)=false:=by simpa using hk2
        clear hk0 hk1 hk2
        go_enter Tryz.func100,Tryz.ntmps100
        go_wp2_with fail
        go_ret
        exact ⟨rfl,HB.out⟩
end
section
open Go.RowKit Go.WideShapes
theorem Ae3:ElemT Tryz.prog 48 3 1 8:=Qd υ48 (z:=ν 0) κ rfl ω
theorem Yr (xs:List Int):∀ u∈xs.map iV,u.oneCell'=true:=by
  intro u hu
  obtain ⟨x,_,rfl⟩:=List.mem_map.1 hu
  rfl
theorem Own.cut0 {w:World} {B:Nat} {e:TypeId} {sz n c:Nat} {a:Option Addr} {cs:List Value} (h:Own w B e sz a n c cs) (hn:0<n):Own w B e sz a 0 c []:=by
  obtain ⟨h0,h⟩:=h
  rcases h with ⟨hv,hz⟩ | ⟨g',cap,cur,hv,hg,hh,h1,h2,h3,h4⟩
  · omega
  · cases hv
    exact ⟨by simp,.inr ⟨g',c,cur,rfl,hg,hh,Nat.zero_le _,h2,h3,by simp⟩⟩
theorem Wm {w:World} {B:Nat} {e:TypeId} {sz n c:Nat} {a:Option Addr} {cs:List Value} (h:Own w B e sz a n c cs) (hn:0<n):∃ g,a=some ⟨g,0,none⟩:=by
  obtain ⟨h0,h⟩:=h
  rcases h with ⟨hv,hz⟩ | ⟨g',cap,cur,hv,_⟩
  · omega
  · cases hv;exact ⟨g',rfl⟩
theorem Adn (w:World):Calls Tryz.prog 134 #[.slice none 0 0,ν 12] w fun e w'=>∃ a c,e=.returned (.slice a 0 c)∧Own w' w.heap.size 3 1 a 0 c []∧Below w.heap.size w w':=by
  have t1:True:=trivial
  go_enter Tryz.func134,Tryz.ntmps134
  go_wp2_with (at_builtin;have _t:=t1;refine CN rfl (.tmp 20) (.tmp 21) rfl υ48 υ3 (z:=ν 0) (bytes:=8) κ rfl rfl w.heap.size (k:=12) rfl rfl rfl (Own.nil _ _ _ _) ω ω (Nat.le_refl _) ?_;clear t1;intro a7 c7 w7 o7 g7 b7;have hc7:=o7.row.2.1;have O7:=hid (o7.cut0 ω);obtain ⟨g8,rfl⟩:=Wm o7 ω;have HB7:=hid b7;clear b7 o7 g7)
  go_ret
  exact ⟨_,_,rfl,O7.out,HB7.out⟩
theorem Sh (g:Nat) (A B:List Int) (aA aB:Option Addr) (cA cB:Nat) (w:World) (hA:A.length=4) (hB:B.length=8) (hg:g<w.heap.size)
    (k0:w.cell? ⟨g,0,none⟩=some (.slice aA 4 cA)) (k1:w.cell? ⟨g,1,none⟩=some (.slice aB 8 cB)) (rA:OK w aA cA A) (rB:OK w aB cB B) :
    Calls Tryz.prog 101 #[.slice (some ⟨g,0,none⟩) 2 2] w fun e w'=>∃ a c,e=.returned (.slice a 12 c)∧Own w' w.heap.size 3 1 a 12 c ((A++B).map iV)∧Below w.heap.size w w':=by
  have HK0:=hid k0;have HK1:=hid k1;have RA:=hid rA;have RB:=hid rB;have LA:=hid hA;have LB:=hid hB
  clear rA rB hA hB
  go_enter Tryz.func101,Tryz.ntmps101
  go_wp2_with fail
  go_loopw [3,11] (fun s i wr=>∃ j:Nat,j≤2∧i=ν j∧((j=0∧s=ν 0)∨(j=1∧s=ν 4)∨(j=2∧s=ν 12))∧wr=w) (fun _ i _=>2-(intOf i).toNat)
  case atStart=>exact ⟨0,ω,rfl,.inl ⟨rfl,rfl⟩,rfl⟩
  case round=>
  obtain ⟨j,hj,rfl,hs,rfl⟩:=hrel
  rcases hs with ⟨rfl,rfl⟩ | ⟨rfl,rfl⟩ | ⟨rfl,rfl⟩
  · rw [show ((0:Nat):Int)=0 from rfl]
    go_wp2_with fail
    go_roundw
    case rel=>exact ⟨1,ω,rfl,.inr (.inl ⟨rfl,rfl⟩),by first | rfl | trivial⟩
    case measure=>simp [intOf]
  · rw [show ((1:Nat):Int)=1 from rfl]
    go_wp2_with fail
    go_roundw
    case rel=>exact ⟨2,ω,rfl,.inr (.inr ⟨rfl,rfl⟩),by first | rfl | trivial⟩
    case measure=>simp [intOf]
  · rw [show ((2:Nat):Int)=2 from rfl]
    obtain ⟨wo,hwo⟩:∃ x,x=wr:=⟨_,rfl⟩
    subst hwo
    go_wp2_with (go_at_call 134;refine (Adn _).mono ?_;rintro e w4 ⟨a4,c4,rfl,o4,b4⟩;have O4:=hid o4;have B4:=hid b4;clear o4 b4)
    go_loopw [6,27] (fun s i wr=>∃ (j n c:Nat) (a:Option Addr) (Z:List Int),j≤2∧i=ν j∧s=.slice a n c∧Own wr wo.heap.size 3 1 a n c (Z.map iV)∧Below wo.heap.size wo wr∧((j=0∧n=0∧Z=[])∨(j=1∧n=4∧Z=A)∨(j=2∧n=12∧Z=A++B))) (fun _ i _=>2-(intOf i).toNat)
    case atStart=>exact ⟨0,0,c4,a4,[],ω,rfl,rfl,O4.out,B4.out,.inl ⟨rfl,rfl,rfl⟩⟩
    case round=>
    obtain ⟨j,n,c,a,Z,hj2,rfl,rfl,oz,bz,hs⟩:=hrel
    have OZ:=hid oz;have BZ:=hid bz
    have kk0:=(bz.cell (p:=⟨g,0,none⟩) hg).trans HK0.out
    have kk1:=(bz.cell (p:=⟨g,1,none⟩) hg).trans HK1.out
    have t1:True:=trivial
    clear oz bz k0 k1
    rcases hs with ⟨rfl,rfl,rfl⟩ | ⟨rfl,rfl,rfl⟩ | ⟨rfl,rfl,rfl⟩
    · rw [show ((0:Nat):Int)=0 from rfl]
      have RR:Hid (Row wr 1 aA 4 cA (A.map iV)):=by have q:=RA.out.mono BZ.out;unfold OK at q;rw [LA.out] at q;exact q
      go_wp2_with (at_builtin;have _t:=t1;refine CF rfl (.tmp 31) (.tmp 32) rfl Ae3 wo.heap.size rfl rfl OZ.out RR.out (Yr A) ω ω BZ.out.size ?_;clear t1;intro a6 c6 w6 o6 g6 b6;have O6:=hid o6;have B6:=hid (AO BZ.out b6 (Nat.le_refl _));clear o6 g6 b6)
      go_roundw
      case rel=>exact ⟨1,4,c6,a6,A,ω,rfl,rfl,O6.out,B6.out,.inr (.inl ⟨rfl,rfl,rfl⟩)⟩
      case measure=>simp [intOf]
    · rw [show ((1:Nat):Int)=1 from rfl]
      have RR:Hid (Row wr 1 aB 8 cB (B.map iV)):=by have q:=RB.out.mono BZ.out;unfold OK at q;rw [LB.out] at q;exact q
      go_wp2_with (at_builtin;have _t:=t1;refine CF rfl (.tmp 31) (.tmp 32) rfl Ae3 wo.heap.size rfl rfl OZ.out RR.out (Yr B) ω ω BZ.out.size ?_;clear t1;intro a6 c6 w6 o6 g6 b6;have O6:=hid o6;have B6:=hid (AO BZ.out b6 (Nat.le_refl _));clear o6 g6 b6)
      go_roundw
      case rel=>exact ⟨2,12,c6,a6,Z++B,ω,rfl,rfl,by rw [List.map_append];exact O6.out,B6.out,.inr (.inr ⟨rfl,rfl,rfl⟩)⟩
      case measure=>simp [intOf]
    · rw [show ((2:Nat):Int)=2 from rfl]
      go_wp2_with fail
      go_ret
      exact ⟨_,_,rfl,OZ.out,BZ.out⟩
end
section
def Jj (l:List UInt8):List UInt8:=l++List.replicate (60-l.length) 0
def Nb (l:List UInt8):List UInt8:=Jj l++le 4 (CO (Jj l))
theorem Ic {l:List UInt8} (h:l.length≤60):(Jj l).length=60:=by simp [Jj];omega
def btw (n m:Int):Bool:=decide (0≤n)&&decide (n≤m)
theorem Afh {n m:Int} (h:0≤n∧n≤m):btw n m=true:=by simp [btw,h]
theorem Afg {n m:Int} (h:n<0∨m<n):btw n m=false:=by simp [btw];omega
theorem Hl (n m:Int) (w:World) :
    Calls Tryz.prog 80 #[ν n,ν m] w fun e w'=>e=.returned (.bool (btw n m))∧w=w':=by
  by_cases h0:0≤n
  · go_enter Tryz.func80,Tryz.ntmps80;go_wp2;go_ret;exact ⟨Bq (by simp [btw,h0]),rfl⟩
  · go_enter Tryz.func80,Tryz.ntmps80;go_wp2;go_ret;exact ⟨Bq (by simp [btw];omega),rfl⟩
def Pr (e h r er i wr:Int):Bool:=decide (0≤e∧e≤1073741824∧0≤h∧h≤1024∧0≤r∧r≤1099511627776∧0≤wr∧wr≤1099511627776∧0≤er∧er≤255∧0≤i∧i≤32)
def UV (e h r er i wr:Int):Value:=.agg #[ν e,ν h,ν r,ν er,ν i,ν wr]
theorem VZ (e h r er i wr:Int) :
    e<0∨(0≤e∧1073741824<e)∨(0≤e∧e≤1073741824∧h<0)∨(0≤e∧e≤1073741824∧0≤h∧1024<h) ∨
    (0≤e∧e≤1073741824∧0≤h∧h≤1024∧r<0)∨(0≤e∧e≤1073741824∧0≤h∧h≤1024∧0≤r∧1099511627776<r) ∨
    (0≤e∧e≤1073741824∧0≤h∧h≤1024∧0≤r∧r≤1099511627776∧wr<0)∨(0≤e∧e≤1073741824∧0≤h∧h≤1024∧0≤r∧r≤1099511627776∧0≤wr∧1099511627776<wr) ∨
    (0≤e∧e≤1073741824∧0≤h∧h≤1024∧0≤r∧r≤1099511627776∧0≤wr∧wr≤1099511627776∧er<0)∨(0≤e∧e≤1073741824∧0≤h∧h≤1024∧0≤r∧r≤1099511627776∧0≤wr∧wr≤1099511627776∧0≤er∧255<er) ∨
    (0≤e∧e≤1073741824∧0≤h∧h≤1024∧0≤r∧r≤1099511627776∧0≤wr∧wr≤1099511627776∧0≤er∧er≤255∧i<0)∨(0≤e∧e≤1073741824∧0≤h∧h≤1024∧0≤r∧r≤1099511627776∧0≤wr∧wr≤1099511627776∧0≤er∧er≤255∧0≤i∧32<i) ∨
    (0≤e∧e≤1073741824∧0≤h∧h≤1024∧0≤r∧r≤1099511627776∧0≤wr∧wr≤1099511627776∧0≤er∧er≤255∧0≤i∧i≤32):=by
  rcases Int.lt_or_le e 0 with a1 | a1
  · exact .inl a1
  refine .inr ?_
  rcases Int.lt_or_le 1073741824 e with a2 | a2
  · exact .inl ⟨a1,a2⟩
  refine .inr ?_
  rcases Int.lt_or_le h 0 with a3 | a3
  · exact .inl ⟨a1,a2,a3⟩
  refine .inr ?_
  rcases Int.lt_or_le 1024 h with a4 | a4
  · exact .inl ⟨a1,a2,a3,a4⟩
  refine .inr ?_
  rcases Int.lt_or_le r 0 with a5 | a5
  · exact .inl ⟨a1,a2,a3,a4,a5⟩
  refine .inr ?_
  rcases Int.lt_or_le 1099511627776 r with a6 | a6
  · exact .inl ⟨a1,a2,a3,a4,a5,a6⟩
  refine .inr ?_
  rcases Int.lt_or_le wr 0 with a7 | a7
  · exact .inl ⟨a1,a2,a3,a4,a5,a6,a7⟩
  refine .inr ?_
  rcases Int.lt_or_le 1099511627776 wr with a8 | a8
  · exact .inl ⟨a1,a2,a3,a4,a5,a6,a7,a8⟩
  refine .inr ?_
  rcases Int.lt_or_le er 0 with a9 | a9
  · exact .inl ⟨a1,a2,a3,a4,a5,a6,a7,a8,a9⟩
  refine .inr ?_
  rcases Int.lt_or_le 255 er with a10 | a10
  · exact .inl ⟨a1,a2,a3,a4,a5,a6,a7,a8,a9,a10⟩
  refine .inr ?_
  rcases Int.lt_or_le i 0 with a11 | a11
  · exact .inl ⟨a1,a2,a3,a4,a5,a6,a7,a8,a9,a10,a11⟩
  refine .inr ?_
  rcases Int.lt_or_le 32 i with a12 | a12
  · exact .inl ⟨a1,a2,a3,a4,a5,a6,a7,a8,a9,a10,a11,a12⟩
  exact .inr ⟨a1,a2,a3,a4,a5,a6,a7,a8,a9,a10,a11,a12⟩
theorem Aa9 (e h r er i wr:Int) (w:World) :
    Calls Tryz.prog 78 #[UV e h r er i wr] w fun en w'=>en=.returned (.bool (Pr e h r er i wr))∧Below w.heap.size w w':=by
  unfold UV
  rcases VZ e h r er i wr with a1 | ⟨a1,a2⟩ | ⟨a1,a2,a3⟩ | ⟨a1,a2,a3,a4⟩ | ⟨a1,a2,a3,a4,a5⟩ | ⟨a1,a2,a3,a4,a5,a6⟩ | ⟨a1,a2,a3,a4,a5,a6,a7⟩ | ⟨a1,a2,a3,a4,a5,a6,a7,a8⟩ | ⟨a1,a2,a3,a4,a5,a6,a7,a8,a9⟩ | ⟨a1,a2,a3,a4,a5,a6,a7,a8,a9,a10⟩ | ⟨a1,a2,a3,a4,a5,a6,a7,a8,a9,a10,a11⟩ | ⟨a1,a2,a3,a4,a5,a6,a7,a8,a9,a10,a11,a12⟩ | ⟨a1,a2,a3,a4,a5,a6,a7,a8,a9,a10,a11,a12⟩
  all_goals
    go_enter Tryz.func78,Tryz.ntmps78
    repeat (go_wp2_with fail;refine (Hl _ _ _).mono ?_;rintro en w' ⟨rfl,rfl⟩;first | rw [Afh ω] | rw [Afg ω])
    go_wp2_with fail
    go_ret
    refine ⟨Bq ?_,(Below.refl _ _).alloc (Nat.le_refl _) _⟩
    first | exact (decide_eq_false ω).symm | exact (decide_eq_true ω).symm | (rw [decide_eq_true (ω:i≤32)];exact (decide_eq_true ω).symm) | (rw [decide_eq_false (ω:¬ i≤32)];exact (decide_eq_false ω).symm)
end
section
def CB (fs:List (Int×Int)):List Value:=fs.flatMap fun f=>[ν f.1,ν f.2]
theorem JD (fs:List (Int×Int)):(CB fs).length=fs.length*2:=by
  induction fs with
  | nil=>rfl
  | cons f fs ih=>simp only [CB,List.flatMap_cons,List.length_append,List.length_cons] at *;simp at *;omega
theorem IP {fs:List (Int×Int)} {j:Nat} {f:Int×Int} (h:fs[j]? = some f):(CB fs)[j*2]? = some (ν f.1)∧(CB fs)[j*2+1]? = some (ν f.2):=by
  induction fs generalizing j with
  | nil=>simp at h
  | cons g fs ih=>
    cases j with
    | zero=>simp at h;subst h;simp [CB]
    | succ j=>
      have h':fs[j]? = some f:=by simpa using h
      have:=ih h'
      rw [show (j+1)*2=j*2+1+1 from ω]
      simpa [CB] using this
def BS (text:List UInt8) (fs:List (Int×Int)):List UInt8:=fs.foldl (fun b f=>AC b f.1 f.2) text
theorem MO (xs:List UInt8) (n k:Int):(AC xs n k).length≤xs.length+8:=by
  unfold AC
  split
  · next h=>have:=Hv h;simp [AA];omega
  · omega
theorem Ha (xs:List UInt8) (fs:List (Int×Int)):(BS xs fs).length≤xs.length+8*fs.length:=by
  induction fs generalizing xs with
  | nil=>simp [BS]
  | cons f fs ih=>
    have h1:=ih (AC xs f.1 f.2)
    have h2:=MO xs f.1 f.2
    simp only [BS,List.foldl_cons,List.length_cons] at *
    omega
theorem Mz (s:ByteArray) (cap:Nat):bytesRow s cap=((s.data.toList.map Af)++List.replicate (cap-s.size) (Value.int .u8 0)).toArray:=by
  apply Array.ext'
  simp [bytesRow,Af]
theorem NI (w:World) (s:ByteArray) (hs:s.size≤1000) :
    Bp (w.alloc (.cells (bytesRow s (grownCap w s.size 0 5)) 5 ((bytesRow s (grownCap w s.size 0 5)).size,(bytesRow s (grownCap w s.size 0 5)).size+1))).drew (some ⟨w.heap.size,0,none⟩) (grownCap w s.size 0 5) s.data.toList:=by
  have hlen:s.data.toList.length=s.size:=by simp
  have hge:=grownCap_ge w s.size 0 5
  have hcm:grownCap w s.size 0 5≤maxLen:=grownCap_le_maxLen w s.size 0 5 (by unfold maxLen;omega)
  refine Row.drew (w:=w.alloc _) ⟨by simp,ω,hcm,(fun h=>by cases h),fun _=>⟨w.heap.size,0,rfl,by simp,fun j u hu=>?_⟩⟩
  have hh:=heap_alloc_new w (.cells (bytesRow s (grownCap w s.size 0 5)) 5 ((bytesRow s (grownCap w s.size 0 5)).size,(bytesRow s (grownCap w s.size 0 5)).size+1))
  unfold World.cell?
  rw [show (⟨w.heap.size,0+j,none⟩:Addr).block=w.heap.size from rfl,hh]
  have hj:=(List.getElem?_eq_some_iff.1 hu).1
  simp only [Nat.zero_add,Option.isSome_none,Bool.false_eq_true,if_false]
  rw [Mz]
  rw [List.getElem?_toArray,List.getElem?_append_left hj]
  exact hu
theorem Wp {B:List UInt8} (h:B.length≤60):B.map Af++List.replicate (60-B.length) (.int .u8 0)=(Jj B).map Af:=by
  simp [Jj,Af]
theorem Afp {z:Nat} (h:z<4294967296):By (z:Int) 4=true:=by
  unfold By
  simp;omega
theorem PA (l:List UInt8):AC l (CO l:Nat) 4=l++le 4 (CO l):=by
  unfold AC
  rw [if_pos (Afp (EA l))]
  simp
theorem Abm {B:List UInt8} (h:B.length≤60):B.length+(60-B.length)=(Jj B).length:=by rw [Ic h];omega
theorem Abn {w:World} {g:Nat} {a:Option Addr} {c:Nat} {B:List UInt8} (h:B.length≤60) (o:Own w g 5 1 a (B.length+(60-B.length)) c (B.map Af++List.replicate (60-B.length) (.int .u8 0))) :
    Bp w a c (Jj B):=by
  rw [Wp h] at o
  have:=o.row
  rwa [show B.length+(60-B.length)=(Jj B).length from by rw [Ic h];omega] at this
theorem Rw (s:ByteArray) (a:Option Addr) (c:Nat) (fs:List (Int×Int)) (w:World) (hs:s.size≤60) (hf:Row w 2 a fs.length c (CB fs)) (hn:fs.length≤20) (hpos:0<fs.length) (h9:∀ f∈fs,f.1≤9223372036854775807)
    (h60:(BS s.data.toList fs).length≤60) :
    Calls Tryz.prog 79 #[.string s,.slice a fs.length c] w (Vg w (Nb (BS s.data.toList fs))):=by
  have kc:=fun w:World=>run_bytes_of_string (P:=Tryz.prog) w 9 74 5 s υ9 υ74 υ5
  have hlen:s.data.toList.length=s.size:=by simp
  have r0:=NI w s ω
  have b0:Below w.heap.size w (w.alloc (.cells (bytesRow s (grownCap w s.size 0 5)) 5 ((bytesRow s (grownCap w s.size 0 5)).size,(bytesRow s (grownCap w s.size 0 5)).size+1))).drew:=((Below.refl _ w).alloc (Nat.le_refl _) _).drew
  go_enter Tryz.func79,Tryz.ntmps79
  go_wp2
  clear kc
  rw [← hlen] at r0 b0 ⊢
  generalize hcap:grownCap w s.data.toList.length 0 5=cap0 at *
  clear hcap
  generalize World.drew _=w1 at *
  have hfl:=hf.1
  have HF60:=hid h60;have HF9:=hid h9;clear h60 h9
  generalize htx:s.data.toList=tx at *
  have htl:tx.length≤60:=ω
  clear htx hlen
  have t1:True:=trivial
  go_loopw [5,12] (fun b i wr=>∃ (j:Nat) (a':Option Addr) (c':Nat),j≤fs.length∧i=ν j∧b=.slice a' (BS tx (fs.take j)).length c'∧Bp wr a' c' (BS tx (fs.take j))∧(0<j→Ca wr w.heap.size a' c' (BS tx (fs.take j)))∧Below w.heap.size w wr)
    (fun _ i _=>fs.length-(intOf i).toNat)
  case atStart=>exact ⟨0,_,_,ω,rfl,rfl,r0,fun h=>absurd h ω,b0⟩
  case round=>
    obtain ⟨j,a',c',hj,rfl,rfl,hr,ho,hb⟩:=hrel
    by_cases hlt:j<fs.length
    · obtain ⟨f,hfj⟩:∃ f,fs[j]? = some f:=⟨_,List.getElem?_eq_getElem hlt⟩
      obtain ⟨b,off,rfl,hbl,hc⟩:=(hf.mono hb).at ω
      have c0:=hc (j*2) _ (IP hfj).1
      have c1:=hc (j*2+1) _ (IP hfj).2
      rw [← Nat.add_assoc] at c1
      have hx:BS tx (fs.take (j+1))=AC (BS tx (fs.take j)) f.1 f.2:=by
        unfold BS
        rw [List.take_add_one,hfj]
        simp [List.foldl_append]
      have HX:=hid hx;clear hx
      have h9:=HF9.out f (List.mem_of_getElem? hfj)
      clear hc hfj
      have hl60:(BS tx (fs.take j)).length≤70368744177664:=by
        have h1:=Ha tx (fs.take j)
        have h2:(fs.take j).length≤20:=by simp;omega
        omega
      go_wp2_with fail
      refine (Da a' c' _ f.1 f.2 _ (hr.alloc _) hl60 h9).mono ?_
      have hsz:=hb.size
      rintro e w2 ⟨a2,c2,rfl,o2,b2⟩
      go_wp2_with fail
      go_roundw
      case rel=>exact ⟨j+1,a2,c2,ω,by go_num,by rw [HX.out],by rw [HX.out];exact o2.row,fun _=>by rw [HX.out];exact o2.low (Nat.le_trans hsz (by simp)),AO (hb.alloc hsz _) b2 (Nat.le_trans hsz (by simp))⟩
      case measure=>simp [intOf];omega
    · obtain rfl:j=fs.length:=ω
      have o1:=ho hpos
      simp only [List.take_length] at o1 ⊢
      have h60:=HF60.out
      generalize hB:BS tx fs=B at *
      have HB:=hid hB;clear hB ho hr hf HF9 r0 b0
      have hlb:=hb.size
      have hk:(60:Int)-(B.length:Int)=((60-B.length:Nat):Int):=ω
      go_wp2_with (at_builtin;have _t:=t1;refine CN rfl (.tmp 23) (.tmp 26) rfl υ74 υ3 (z:=.int .u8 0) (bytes:=1) κ rfl rfl w.heap.size (k:=60-B.length) rfl rfl rfl o1 ω ω hlb ?_;clear t1;intro a3 c3 w3 o3 _ b3;have _r3:=Abn h60 o3;rw [Abm h60])
      have hp60:(Jj B).length≤60:=Nat.le_of_eq (Ic h60)
      have hcl:=EA (Jj B)
      refine (Ke a3 c3 (Jj B) w3 _r3).mono ?_
      rintro e w4 ⟨rfl,b4⟩
      generalize hz:CO (Jj B)=z at *
      have HZ:=hid hz;clear hz
      go_wp2_with fail
      refine (Da a3 c3 (Jj B) (z:Int) 4 _ (_r3.mono b4) ω ω).mono ?_
      rintro e w5 ⟨a5,c5,rfl,o5,b5⟩
      have he:AC (Jj B) (z:Int) 4=Nb B:=by
        unfold Nb;rw [← HZ.out];exact PA _
      rw [he] at o5 ⊢
      have hs4:=Nat.le_trans b3.size b4.size
      go_wp2_with fail
      go_ret
      exact ⟨a5,c5,rfl,o5.low (by have:=b3.size;have:=b4.size;omega),AO (AO (AO hb b3 (Nat.le_refl _)) b4 (by have:=b3.size;omega)) b5 (by have:=b3.size;have:=b4.size;omega)⟩
end
section
open Go.RowKit Go.WideShapes
theorem UM (xs:List UInt8) (n:Int) (k:Nat):(AC xs n k).length≤xs.length+k:=by
  unfold AC
  split
  · rw [List.length_append,AA];omega
  · omega
theorem Gu (xs:List UInt8) (n:Int):(AC xs n 1).length≤xs.length+1:=UM xs n 1
theorem Rb (xs:List UInt8) (n:Int):(AC xs n 2).length≤xs.length+2:=UM xs n 2
def IU:List Int:=[0,0,0,0,0,0,0,0,0,0,0,0,0,0,0]
def SO (i:InoT):List UInt8:=AC (AC (AC [] i.k 1) i.l 1) i.s 2
def IM (l:List Int):List (Int×Int):=l.map fun n=>(n,1)
def NG (i:InoT):List UInt8:=BS (SO i) (IM (i.B++i.O))
def Hx (i:InoT):List UInt8:=NG i++List.replicate (60-(NG i).length) 0
def Wy (i:InoT):List UInt8:=AC (Hx i) (CO (Hx i):Nat) 4
def Cd (i:InoT):List UInt8:=if Cm i then (if JL i=IU then List.replicate 64 0 else Wy i) else []
def Ew (i:InoT):Int:=if Cm i then 0 else 1
theorem Abi (l:List Int) (xs:List UInt8):(BS xs (IM l)).length≤xs.length+l.length:=by
  induction l generalizing xs with
  | nil=>simp [IM,BS]
  | cons n l ih=>
    have h1:=ih (AC xs n 1)
    have h2:=Gu xs n
    simp only [IM,BS,List.map_cons,List.foldl_cons,List.length_cons] at h1 h2 ⊢
    simp only [IM,BS] at ih
    omega
theorem UC (i:InoT):(NG i).length≤16:=by
  have h:=Abi (i.B++i.O) (SO i)
  have h1:=Rb (AC (AC [] i.k 1) i.l 1) i.s
  have h2:=Gu (AC [] i.k 1) i.l
  have h3:=Gu [] i.k
  have hl:(i.B++i.O).length=12:=rfl
  have h0:([]:List UInt8).length=0:=rfl
  unfold NG
  unfold SO at *
  rw [hl] at h
  omega
theorem JM (i:InoT):(Hx i).length=60:=by
  have:=UC i
  unfold Hx;rw [List.length_append,List.length_replicate];omega
theorem Abs (i:InoT):Wy i=Hx i++le 4 (CO (Hx i)):=PA _
theorem JY (i:InoT):(Wy i).length=64:=by rw [Abs,List.length_append,JM,AA]
def Acy (w:World) (xs:List UInt8) (er:Int) (e:Ending) (w':World):Prop:=
  ∃ a c,e=.returned (.tuple #[.slice a xs.length c,ν er])∧Ca w' w.heap.size a c xs∧Below w.heap.size w w'
theorem PP {w:World} {B g:Nat} {e:TypeId} {L:List Value} (h:Blk w g e L) (hB:B≤g) (hl:L.length≤maxLen):Own w B e 1 (some ⟨g,0,none⟩) L.length L.length L:=
  ⟨by simp,.inr ⟨g,L.length,L.toArray,rfl,hB,h,Nat.le_refl _,hl,by simp,by simp⟩⟩
theorem LE {i:InoT} (h:Cm i=true):i.k≤2∧i.l≤20∧i.s≤256∧∀ n∈i.B++i.O,n≤128:=by
  unfold Cm at h
  split at h
  · have h:=of_decide_eq_true h
    simp only [JL,List.cons.injEq,and_true] at h
    obtain ⟨h0,h1,h2,h3,h4,h5,h6,h7,h8,h9,h10,h11,h12,h13,h14⟩:=h
    refine ⟨ω,ω,ω,fun n hn=>?_⟩
    simp only [InoT.B,InoT.O,List.cons_append,List.nil_append,List.mem_cons,List.not_mem_nil,or_false] at hn
    omega
  · split at h
    · rw [Bool.and_eq_true] at h
      have hb:=JO h.1
      have hF:=h.1
      unfold Do Fp Mh okO at hF
      simp only [Bool.and_eq_true,decide_eq_true_eq] at hF
      refine ⟨ω,ω,ω,fun n hn=>?_⟩
      simp only [InoT.B,InoT.O,List.cons_append,List.nil_append,List.mem_cons,List.not_mem_nil,or_false] at hn
      omega
    · split at h
      · rw [Bool.and_eq_true] at h
        have hb:=Le h.1
        have hF:=h.1
        unfold Jf Iq noO at hF
        simp only [Bool.and_eq_true,decide_eq_true_eq,List.cons.injEq,and_true] at hF
        refine ⟨ω,ω,ω,fun n hn=>?_⟩
        simp only [InoT.B,InoT.O,List.cons_append,List.nil_append,List.mem_cons,List.not_mem_nil,or_false] at hn
        omega
      · cases h
theorem SG (H:List UInt8) (l:List Int) (x:Int):BS H (IM (l++[x]))=AC (BS H (IM l)) x 1:=by simp [BS,IM]
theorem Jl (i:InoT) (w:World):Calls Tryz.prog 67 #[Gc i] w (Acy w (Cd i) (Ew i)):=by
  have HC:=fun w1=>Tc i w1
  cases hm:Cm i
  · have h1:Cd i=[]:=by unfold Cd;rw [hm];rfl
    have h2:Ew i=1:=by unfold Ew;rw [hm];rfl
    rw [h1,h2]
    rw [hm] at HC
    obtain ⟨k,l,s,b0,b1,b2,b3,o0,o1,o2,o3,o4,o5,o6,o7⟩:=i
    unfold Gc Ao at *
    have HC:=hid HC
    have HB:Hid (Below w.heap.size w (w.alloc (.cells #[.int .i64 k,.int .i64 l,.int .i64 s,.int .i64 b0,.int .i64 b1,.int .i64 b2,.int .i64 b3,.int .i64 o0,.int .i64 o1,.int .i64 o2,.int .i64 o3,.int .i64 o4,.int .i64 o5,.int .i64 o6,.int .i64 o7] 45))):=(Below.refl w.heap.size w).alloc (Nat.le_refl _) _
    clear hm h1 h2
    go_enter Tryz.func67,Tryz.ntmps67
    go_wp2_with (go_at_call 100;refine (HC.out _).mono ?_;rintro e w4 ⟨rfl,b4⟩;have B4:=hid (Ae HB.out b4);clear b4)
    refine bodyPost_ret (Go.results_tmp2 rfl _ _ _) rfl ?_
    exact ⟨none,0,rfl,Own.nil _ _ _ _,B4.out⟩
  · by_cases hz:JL i=IU
    · have h1:Cd i=List.replicate 64 0:=by unfold Cd;rw [hm,if_pos hz];rfl
      have h2:Ew i=0:=by unfold Ew;rw [hm];rfl
      rw [h1,h2]
      rw [hm] at HC
      obtain ⟨k,l,s,b0,b1,b2,b3,o0,o1,o2,o3,o4,o5,o6,o7⟩:=i
      have E:=XS k l s b0 b1 b2 b3 o0 o1 o2 o3 o4 o5 o6 o7 0 0 0 0 0 0 0 0 0 0 0 0 0 0 0
      have hd:decide ([k,l,s,b0,b1,b2,b3,o0,o1,o2,o3,o4,o5,o6,o7]=[0,0,0,0,0,0,0,0,0,0,0,0,0,0,0])=true:=decide_eq_true hz
      rw [hd] at E
      clear hz hd
      unfold Gc Ao at *
      have HC:=hid HC
      have K0:Hid (Blk (w.alloc (.cells #[.int .i64 k,.int .i64 l,.int .i64 s,.int .i64 b0,.int .i64 b1,.int .i64 b2,.int .i64 b3,.int .i64 o0,.int .i64 o1,.int .i64 o2,.int .i64 o3,.int .i64 o4,.int .i64 o5,.int .i64 o6,.int .i64 o7] 45)) w.heap.size 45 [.int .i64 k,.int .i64 l,.int .i64 s,.int .i64 b0,.int .i64 b1,.int .i64 b2,.int .i64 b3,.int .i64 o0,.int .i64 o1,.int .i64 o2,.int .i64 o3,.int .i64 o4,.int .i64 o5,.int .i64 o6,.int .i64 o7]):=heap_alloc_new w _
      have HB:Hid (Below w.heap.size w (w.alloc (.cells #[.int .i64 k,.int .i64 l,.int .i64 s,.int .i64 b0,.int .i64 b1,.int .i64 b2,.int .i64 b3,.int .i64 o0,.int .i64 o1,.int .i64 o2,.int .i64 o3,.int .i64 o4,.int .i64 o5,.int .i64 o6,.int .i64 o7] 45))):=(Below.refl w.heap.size w).alloc (Nat.le_refl _) _
      clear hm h1 h2
      go_enter Tryz.func67,Tryz.ntmps67
      go_wp2_with (first
        | (go_at_call 100;refine (HC.out _).mono ?_;rintro e w4 ⟨rfl,b4⟩;have B4:=hid (Ae HB.out b4);have k4:=K0.out.mono b4
           have z0:w4.cell? ⟨w.heap.size,0,none⟩=some (.int .i64 k):=Blk.cell k4 (i:=0) (by simp)
           have z1:w4.cell? ⟨w.heap.size,1,none⟩=some (.int .i64 l):=Blk.cell k4 (i:=1) (by simp)
           have z2:w4.cell? ⟨w.heap.size,2,none⟩=some (.int .i64 s):=Blk.cell k4 (i:=2) (by simp)
           have z3:w4.cell? ⟨w.heap.size,3,none⟩=some (.int .i64 b0):=Blk.cell k4 (i:=3) (by simp)
           have z4:w4.cell? ⟨w.heap.size,4,none⟩=some (.int .i64 b1):=Blk.cell k4 (i:=4) (by simp)
           have z5:w4.cell? ⟨w.heap.size,5,none⟩=some (.int .i64 b2):=Blk.cell k4 (i:=5) (by simp)
           have z6:w4.cell? ⟨w.heap.size,6,none⟩=some (.int .i64 b3):=Blk.cell k4 (i:=6) (by simp)
           have z7:w4.cell? ⟨w.heap.size,7,none⟩=some (.int .i64 o0):=Blk.cell k4 (i:=7) (by simp)
           have z8:w4.cell? ⟨w.heap.size,8,none⟩=some (.int .i64 o1):=Blk.cell k4 (i:=8) (by simp)
           have z9:w4.cell? ⟨w.heap.size,9,none⟩=some (.int .i64 o2):=Blk.cell k4 (i:=9) (by simp)
           have z10:w4.cell? ⟨w.heap.size,10,none⟩=some (.int .i64 o3):=Blk.cell k4 (i:=10) (by simp)
           have z11:w4.cell? ⟨w.heap.size,11,none⟩=some (.int .i64 o4):=Blk.cell k4 (i:=11) (by simp)
           have z12:w4.cell? ⟨w.heap.size,12,none⟩=some (.int .i64 o5):=Blk.cell k4 (i:=12) (by simp)
           have z13:w4.cell? ⟨w.heap.size,13,none⟩=some (.int .i64 o6):=Blk.cell k4 (i:=13) (by simp)
           have z14:w4.cell? ⟨w.heap.size,14,none⟩=some (.int .i64 o7):=Blk.cell k4 (i:=14) (by simp)
           clear k4 b4)
        | (at_make;refine Kl rfl (.const (.int .i64 64)) (.const (.int .i64 64)) rfl Tryz.underlying74 Aco rfl (n:=64) rfl rfl rfl rfl (by omega) (by omega) ?_;intro w5 k5 b5;have O5:=hid (PP (B:=w.heap.size) k5 B4.out.size (by rw [List.length_replicate];unfold maxLen;omega));have B5:=hid (Ae B4.out b5);clear k5 b5))
      refine bodyPost_ret (Go.results_tmp2 rfl _ _ _) rfl ?_
      refine ⟨_,_,rfl,?_,B5.out⟩
      unfold Ca
      rw [List.map_replicate,List.length_replicate]
      have q:=O5.out
      rw [List.length_replicate] at q
      exact q
    · have h1:Cd i=Wy i:=by unfold Cd;rw [hm,if_pos rfl,if_neg hz]
      have h2:Ew i=0:=by unfold Ew;rw [hm];rfl
      rw [h1,h2]
      rw [hm] at HC
      have hd:decide (JL i=IU)=false:=decide_eq_false hz
      have hXl:=UC i
      have hYl:=JM i
      have hIl:=JY i
      have hI:Wy i=AC (Hx i) (CO (Hx i):Nat) 4:=rfl
      have hY:Hx i=NG i++List.replicate (60-(NG i).length) 0:=rfl
      have hX:NG i=BS (SO i) (IM (i.B++i.O)):=rfl
      have hH:SO i=AC (AC (AC [] i.k 1) i.l 1) i.s 2:=rfl
      have hL12:(i.B++i.O).length=12:=rfl
      obtain ⟨uk,ul,us,uBO⟩:=LE hm
      generalize Wy i=R at *
      generalize Hx i=Y at *
      generalize NG i=X at *
      generalize hHH:SO i=H at *
      obtain ⟨k,l,s,b0,b1,b2,b3,o0,o1,o2,o3,o4,o5,o6,o7⟩:=i
      have E:=XS k l s b0 b1 b2 b3 o0 o1 o2 o3 o4 o5 o6 o7 0 0 0 0 0 0 0 0 0 0 0 0 0 0 0
      have hd2:decide ([k,l,s,b0,b1,b2,b3,o0,o1,o2,o3,o4,o5,o6,o7]=[0,0,0,0,0,0,0,0,0,0,0,0,0,0,0])=false:=hd
      rw [hd2] at E
      clear hz hd hd2 h1 h2 hm hHH
      unfold Gc Ao at *
      simp only [InoT.B,InoT.O] at *
      obtain ⟨BO,hBO⟩:∃ BO,BO=[b0,b1,b2,b3]++[o0,o1,o2,o3,o4,o5,o6,o7]:=⟨_,rfl⟩
      rw [← hBO] at hL12 hX uBO
      have P1:=fun w1=>Da none 0 [] k 1 w1 (Row.nil _ _) (by simp) (by omega)
      have l1:=Gu [] k
      have l2:=Gu (AC [] k 1) l
      have l3:=Rb (AC (AC [] k 1) l 1) s
      rw [← hH] at l3
      have P2:=fun a c w1 r=>Da a c (AC [] k 1) l 1 w1 r (by have:([]:List UInt8).length=0:=rfl;omega) (by omega)
      have P3:=fun a c w1 r=>Da a c (AC (AC [] k 1) l 1) s 2 w1 r (by have:([]:List UInt8).length=0:=rfl;omega) (by omega)
      rw [← hH] at P3
      rw [show ([]:List UInt8).length=0 from rfl] at l1
      generalize AC (AC [] k 1) l 1=X2 at *
      generalize AC [] k 1=X1 at *
      have HH4:H.length≤4:=by omega
      have HC:=hid HC;have P1:=hid P1;have P2:=hid P2;have P3:=hid P3
      have HX:=hid hX;have HY:=hid hY;have HI:=hid hI;have HBO:=hid hBO;have UBO:=hid uBO
      clear hX hY hI hH hBO uBO
      have K0:Hid (Blk (w.alloc (.cells #[.int .i64 k,.int .i64 l,.int .i64 s,.int .i64 b0,.int .i64 b1,.int .i64 b2,.int .i64 b3,.int .i64 o0,.int .i64 o1,.int .i64 o2,.int .i64 o3,.int .i64 o4,.int .i64 o5,.int .i64 o6,.int .i64 o7] 45)) w.heap.size 45 [.int .i64 k,.int .i64 l,.int .i64 s,.int .i64 b0,.int .i64 b1,.int .i64 b2,.int .i64 b3,.int .i64 o0,.int .i64 o1,.int .i64 o2,.int .i64 o3,.int .i64 o4,.int .i64 o5,.int .i64 o6,.int .i64 o7]):=heap_alloc_new w _
      have HB:Hid (Below w.heap.size w (w.alloc (.cells #[.int .i64 k,.int .i64 l,.int .i64 s,.int .i64 b0,.int .i64 b1,.int .i64 b2,.int .i64 b3,.int .i64 o0,.int .i64 o1,.int .i64 o2,.int .i64 o3,.int .i64 o4,.int .i64 o5,.int .i64 o6,.int .i64 o7] 45))):=(Below.refl w.heap.size w).alloc (Nat.le_refl _) _
      go_enter Tryz.func67,Tryz.ntmps67
      go_wp2_with (first
        | (go_at_call 100;refine (HC.out _).mono ?_;rintro e w4 ⟨rfl,b4⟩;have B4:=hid (Ae HB.out b4);have K4:=hid (K0.out.mono b4);have k4:=K4.out
           have z0:w4.cell? ⟨w.heap.size,0,none⟩=some (.int .i64 k):=Blk.cell k4 (i:=0) (by simp)
           have z1:w4.cell? ⟨w.heap.size,1,none⟩=some (.int .i64 l):=Blk.cell k4 (i:=1) (by simp)
           have z2:w4.cell? ⟨w.heap.size,2,none⟩=some (.int .i64 s):=Blk.cell k4 (i:=2) (by simp)
           have z3:w4.cell? ⟨w.heap.size,3,none⟩=some (.int .i64 b0):=Blk.cell k4 (i:=3) (by simp)
           have z4:w4.cell? ⟨w.heap.size,4,none⟩=some (.int .i64 b1):=Blk.cell k4 (i:=4) (by simp)
           have z5:w4.cell? ⟨w.heap.size,5,none⟩=some (.int .i64 b2):=Blk.cell k4 (i:=5) (by simp)
           have z6:w4.cell? ⟨w.heap.size,6,none⟩=some (.int .i64 b3):=Blk.cell k4 (i:=6) (by simp)
           have z7:w4.cell? ⟨w.heap.size,7,none⟩=some (.int .i64 o0):=Blk.cell k4 (i:=7) (by simp)
           have z8:w4.cell? ⟨w.heap.size,8,none⟩=some (.int .i64 o1):=Blk.cell k4 (i:=8) (by simp)
           have z9:w4.cell? ⟨w.heap.size,9,none⟩=some (.int .i64 o2):=Blk.cell k4 (i:=9) (by simp)
           have z10:w4.cell? ⟨w.heap.size,10,none⟩=some (.int .i64 o3):=Blk.cell k4 (i:=10) (by simp)
           have z11:w4.cell? ⟨w.heap.size,11,none⟩=some (.int .i64 o4):=Blk.cell k4 (i:=11) (by simp)
           have z12:w4.cell? ⟨w.heap.size,12,none⟩=some (.int .i64 o5):=Blk.cell k4 (i:=12) (by simp)
           have z13:w4.cell? ⟨w.heap.size,13,none⟩=some (.int .i64 o6):=Blk.cell k4 (i:=13) (by simp)
           have z14:w4.cell? ⟨w.heap.size,14,none⟩=some (.int .i64 o7):=Blk.cell k4 (i:=14) (by simp)
           clear k4 b4)
        | (go_at_call_of 87 (Value.slice none 0 0);refine (P1.out _).mono ?_;rintro e w5 ⟨a5,c5,rfl,o5,b5⟩;have B5:=hid (Ae B4.out b5);have K5:=hid (K4.out.mono b5);have k5:=K5.out;have O5:=hid o5.row
           have y1:w5.cell? ⟨w.heap.size,1,none⟩=some (.int .i64 l):=Blk.cell k5 (i:=1) (by simp)
           clear k5 b5 o5))
      refine (P2.out a5 c5 w5 O5.out).mono ?_
      rintro e w6 ⟨a6,c6,rfl,o6,b6⟩
      have B6:=hid (Ae B5.out b6);have K6:=hid (K5.out.mono b6);have k6:=K6.out;have O6:=hid o6.row
      have y2:w6.cell? ⟨w.heap.size,2,none⟩=some (.int .i64 s):=Blk.cell k6 (i:=2) (by simp)
      clear k6 b6 o6
      go_wp2_with fail
      refine (P3.out a6 c6 w6 O6.out).mono ?_
      rintro e w7 ⟨a7,c7,rfl,o7,b7⟩
      have B7:=hid (Ae B6.out b7);have K7:=hid (K6.out.mono b7);have O7:=hid (show Ca w7 w.heap.size a7 c7 H from Own.low o7 B6.out.size)
      clear b7 o7
      go_wp2_with fail
      have bx:=B7.out.size
      have hlt:=K7.out.lt
      have c7b:∀ (w':World) (q:Nat) (v:Value),([.int .i64 k,.int .i64 l,.int .i64 s,.int .i64 b0,.int .i64 b1,.int .i64 b2,.int .i64 b3,.int .i64 o0,.int .i64 o1,.int .i64 o2,.int .i64 o3,.int .i64 o4,.int .i64 o5,.int .i64 o6,.int .i64 o7]:List Value)[q]? = some v→Below w7.heap.size w7 w'→w'.cell? ⟨w.heap.size,q,none⟩=some v:=fun w' q v hq hb=>by
        have q1:=(K7.out.mono hb)
        obtain ⟨hq1,hq2⟩:=List.getElem?_eq_some_iff.1 hq
        rw [q1.cell hq1,hq2]
      have RB4:∀ w',Below w7.heap.size w7 w'→OK w' (some ⟨w.heap.size,3,none⟩) 4 [b0,b1,b2,b3]:=fun w' hb=>⟨rfl,Nat.le_refl _,(by unfold maxLen;omega),(fun h=>by cases h),fun _=>⟨w.heap.size,3,rfl,Nat.lt_of_lt_of_le hlt hb.size,fun j u hu=>by
        refine c7b w' (3+j) u ?_ hb
        have hj:j<4:=by have:=(List.getElem?_eq_some_iff.1 hu).1;simpa using this
        rcases (by omega:j=0∨j=1∨j=2∨j=3) with rfl | rfl | rfl | rfl<;>exact hu⟩⟩
      have RO8:∀ w',Below w7.heap.size w7 w'→OK w' (some ⟨w.heap.size,7,none⟩) 8 [o0,o1,o2,o3,o4,o5,o6,o7]:=fun w' hb=>⟨rfl,Nat.le_refl _,(by unfold maxLen;omega),(fun h=>by cases h),fun _=>⟨w.heap.size,7,rfl,Nat.lt_of_lt_of_le hlt hb.size,fun j u hu=>by
        refine c7b w' (7+j) u ?_ hb
        have hj:j<8:=by have:=(List.getElem?_eq_some_iff.1 hu).1;simpa using this
        rcases (by omega:j=0∨j=1∨j=2∨j=3∨j=4∨j=5∨j=6∨j=7) with rfl | rfl | rfl | rfl | rfl | rfl | rfl | rfl<;>exact hu⟩⟩
      have RB4:=hid RB4;have RO8:=hid RO8
      clear c7b
      have hbo2:=HBO.out
      have k8:Blk (w7.alloc (.cells #[.slice (some ⟨w.heap.size,3,none⟩) 4 4,.slice (some ⟨w.heap.size,7,none⟩) 8 8] 48)).drew w7.heap.size 48 [.slice (some ⟨w.heap.size,3,none⟩) 4 4,.slice (some ⟨w.heap.size,7,none⟩) 8 8]:=Blk.drew (show Blk (w7.alloc (.cells #[.slice (some ⟨w.heap.size,3,none⟩) 4 4,.slice (some ⟨w.heap.size,7,none⟩) 8 8] 48)) w7.heap.size 48 [.slice (some ⟨w.heap.size,3,none⟩) 4 4,.slice (some ⟨w.heap.size,7,none⟩) 8 8] from heap_alloc_new w7 _)
      have b8:Below w7.heap.size w7 (w7.alloc (.cells #[.slice (some ⟨w.heap.size,3,none⟩) 4 4,.slice (some ⟨w.heap.size,7,none⟩) 8 8] 48)).drew:=((Below.refl _ w7).alloc (Nat.le_refl _) _).drew
      have k8a:(w7.alloc (.cells #[.slice (some ⟨w.heap.size,3,none⟩) 4 4,.slice (some ⟨w.heap.size,7,none⟩) 8 8] 48)).drew.cell? ⟨w7.heap.size,0,none⟩=some (.slice (some ⟨w.heap.size,3,none⟩) 4 4):=Blk.cell k8 (i:=0) (by simp)
      have k8b:(w7.alloc (.cells #[.slice (some ⟨w.heap.size,3,none⟩) 4 4,.slice (some ⟨w.heap.size,7,none⟩) 8 8] 48)).drew.cell? ⟨w7.heap.size,1,none⟩=some (.slice (some ⟨w.heap.size,7,none⟩) 8 8):=Blk.cell k8 (i:=1) (by simp)
      have HCC:=hid (Sh w7.heap.size [b0,b1,b2,b3] [o0,o1,o2,o3,o4,o5,o6,o7] (some ⟨w.heap.size,3,none⟩) (some ⟨w.heap.size,7,none⟩) 4 8 (w7.alloc (.cells #[.slice (some ⟨w.heap.size,3,none⟩) 4 4,.slice (some ⟨w.heap.size,7,none⟩) 8 8] 48)).drew rfl rfl k8.lt k8a k8b (RB4.out _ b8) (RO8.out _ b8))
      have B8:=hid b8
      clear k8 k8a k8b b8
      go_region_with (go_at_call 101;refine (HCC.out).mono ?_;rintro e w9 ⟨a9,c9,rfl,o9,b9⟩;have C9:=hid (show Below w7.heap.size w7 w9 from AO B8.out b9 B8.out.size);have Z9:=hid (show OK w9 a9 c9 BO from by have q:=o9.row;rw [← hbo2] at q;unfold OK;rw [hL12];exact q);clear o9 b9)
      all_goals
        have O9:=hid (show Ca w9 w.heap.size a7 c7 H from O7.out.mono C9.out)
        have B9:=hid (Ae B7.out C9.out)
        clear C9 RB4 RO8 hbo2 HBO y1 y2 E HCC B8
        go_wp2_with fail
        simp only [List.getElem_toArray,List.getElem_cons_succ,List.getElem_cons_zero,Act.put,List.setIfInBounds_toArray,List.set_cons_zero,List.set_cons_succ]
        go_loopw [4,32] (fun b i wr=>∃ (j m c:Nat) (a:Option Addr) (T:List UInt8),j≤12∧i=.int .i64 j∧b=.slice a m c∧T.length=m∧m≤4+j∧T=BS H (IM (BO.take j))∧Ca wr w.heap.size a c T∧Below w9.heap.size w9 wr) (fun _ i _=>12-(intOf i).toNat)
        case atStart=>exact ⟨0,H.length,c7,a7,H,by omega,rfl,rfl,rfl,by omega,rfl,O9.out,Below.refl _ _⟩
        case round=>
        obtain ⟨j,m,c,a,T,hj,rfl,rfl,hTm,hm4,hT,oT,bT⟩:=hrel
        have HTM:=hid hTm;have HT:=hid hT;have OT:=hid oT;have BT:=hid bT
        by_cases hj12:j<12
        · obtain ⟨g9,off9,rfl,hg9,hca⟩:=Tz Z9.out (by omega)
          have ca:=(bT.cell (p:=⟨g9,off9+j,none⟩) hg9).trans (hca j (by omega))
          clear hca
          have hx:=UBO.out (BO.getD j 0) (by rw [List.getD_eq_getElem?_getD,List.getElem?_eq_getElem (by omega)];exact List.getElem_mem _)
          have hsn:BS H (IM (BO.take (j+1)))=AC T (BO.getD j 0) 1:=by
            rw [hT,← SG,List.getD_eq_getElem?_getD,List.getElem?_eq_getElem (by omega),List.take_succ_eq_append_getElem (by omega)]
            rfl
          have HPT:=Da a c T (BO.getD j 0) 1 wr oT.row (by omega) (by omega)
          rw [hTm] at HPT
          have hple:=Gu T (BO.getD j 0)
          rw [← hsn] at HPT hple
          have HSN:=hid hsn
          generalize BO.getD j 0=x at *
          generalize hT2:BS H (IM (BO.take (j+1)))=T2 at *
          have HT2:=hid hT2
          clear hT2
          have HPT:=hid HPT
          have ij:(j:Int)<12:=by omega
          have dj:decide ((j:Int)<12)=true:=decide_eq_true ij
          clear oT bT hT hTm hsn
          have hrow:(j:Int)<(12:Int):=ij
          go_wp2_with (go_at_call 87;refine (HPT.out).mono ?_;rintro e w10 ⟨a10,c10,rfl,o10,b10⟩)
          go_roundw
          case rel=>exact ⟨j+1,T2.length,c10,a10,T2,by omega,by go_num,rfl,rfl,by have:=HTM.out;omega,HT2.out.symm,Own.low o10 (Nat.le_trans B9.out.size BT.out.size),AO BT.out b10 BT.out.size⟩
          case measure=>simp [intOf];omega
        · obtain rfl:j=12:=by omega
          have hTX:T=X:=by rw [hT,HX.out,List.take_of_length_le (by omega)]
          subst hTX
          have dj:decide ((12:Int)<12)=false:=by decide
          have ez:IntKind.i64.wrap (60-(m:Int))=((60-m:Nat):Int):=by rw [show (60-(m:Int))=((60-m:Nat):Int) by omega];exact IntWalk.i64_in _ (by omega)
          have hYY:=HY.out
          rw [hTm] at hYY
          have HYY:=hid hYY
          have hcl:=EA Y
          have HSum:=fun a c w1 r=>Ke a c Y w1 r
          rw [hYl] at HSum
          have HPut:=fun a c w1 r=>Da a c Y (CO Y:Nat) 4 w1 r (by omega) (by omega)
          rw [hYl,← HI.out] at HPut
          have hm16:m≤16:=by omega
          generalize CO Y=z at *
          have ezz:IntKind.i64.wrap (z:Int)=z:=IntWalk.i64_in _ (by omega)
          have HSum:=hid HSum;have HPut:=hid HPut
          have t2:True:=trivial
          have hsz:=hid (Nat.le_trans B9.out.size BT.out.size)
          have OT2:Hid (Own wr w.heap.size 5 1 a m c (T.map Af)):=by have q:=OT.out;unfold Ca at q;rw [HTM.out] at q;exact q
          clear oT bT hT hTm hYY HT
          go_wp2_with (at_builtin;have _t:=t2;refine CN rfl (.tmp 40) (.tmp 43) rfl Tryz.underlying74 Tryz.underlying3 (z:=.int .u8 0) (bytes:=1) (by kernel_rfl) rfl rfl w.heap.size (k:=60-m) rfl rfl (by omega) OT2.out (by omega) (by omega) hsz.out ?_;clear t2;intro a12 c12 w12 o12 g12 b12)
          rw [show m+(60-m)=60 by omega] at o12
          rw [show m+(60-m)=60 by omega]
          have O12:Hid (Bp w12 a12 c12 Y):=by
            have q:=o12.row
            have e:Y.map Af=T.map Af++List.replicate (60-m) (.int .u8 0):=by rw [HYY.out,List.map_append,List.map_replicate];rfl
            unfold Bp
            rw [hYl,e]
            exact q
          have B12:=hid (AO (AO B9.out BT.out B9.out.size) b12 (Nat.le_refl _))
          refine (HSum.out a12 c12 w12 O12.out).mono ?_
          rintro e w13 ⟨rfl,b13⟩
          go_wp2_with fail
          refine (HPut.out a12 c12 w13 (O12.out.mono b13)).mono ?_
          rintro e w14 ⟨a14,c14,rfl,o14,b14⟩
          have F14:=hid (show Ca w14 w.heap.size a14 c14 R from Own.low o14 (Nat.le_trans B12.out.size b13.size))
          have G14:=hid (Ae (Ae B12.out b13) b14)
          clear o14 b14 b13
          go_wp2_with fail
          refine bodyPost_ret (Go.results_tmp2 rfl _ _ _) rfl ?_
          exact ⟨a14,c14,by rw [hIl];rfl,F14.out,G14.out⟩
end
section
open Go.RowKit Go.WideShapes
theorem Ae0 (n0 n1 n2 n3:Nat):tw n0 n1 n2 n3=true↔(n1≠0∧n1=n0)∨(n2≠0∧(n2=n1∨n2=n0))∨(n3≠0∧(n3=n2∨n3=n1∨n3=n0)):=by
  unfold tw twC
  simp only [Bool.or_eq_true,Bool.and_eq_true,bne_iff_ne,decide_eq_true_eq,List.mem_cons,List.not_mem_nil,or_false,and_false,false_or,or_assoc]
def FK (i:InoT):Prop:=(0≤i.b0∧i.b0≤128)∧(0≤i.b1∧i.b1≤128)∧(0≤i.b2∧i.b2≤128)∧(0≤i.b3∧i.b3≤128)
def NZ (i:InoT):Prop:=¬ (i.b0≠0∧i.b0=i.b1)∧¬ (i.b0≠0∧i.b0=i.b2)∧¬ (i.b1≠0∧i.b1=i.b2)∧¬ (i.b0≠0∧i.b0=i.b3)∧¬ (i.b1≠0∧i.b1=i.b3)∧¬ (i.b2≠0∧i.b2=i.b3)
def DE (k n:Int):Prop:=0≤n∧n≤8∧(k≠1→n=0)
def IR (i:InoT):Prop:=DE i.k i.o0∧DE i.k i.o1∧DE i.k i.o2∧DE i.k i.o3∧DE i.k i.o4∧DE i.k i.o5∧DE i.k i.o6∧DE i.k i.o7
def KA (j n s:Int):Prop:=(n≠0↔j<s)
def Yi (i:InoT):Prop:=KA 0 i.b0 i.s∧KA 64 i.b1 i.s∧KA 128 i.b2 i.s∧KA 192 i.b3 i.s
theorem Abf (j n s:Int):okB j n s=true↔KA j n s∧0≤n∧n≤128:=by
  unfold okB KA
  rw [Bool.and_eq_true,decide_eq_true_eq,beq_iff_eq]
  by_cases h1:j<s<;>by_cases h2:n=0<;>simp [h1,h2]
theorem Abg (n:Int):okO n=true↔0≤n∧n≤8:=by unfold okO;rw [decide_eq_true_eq]
theorem LL {i:InoT} (hB:FK i):twI i=false↔NZ i:=by
  unfold FK at hB
  have h:=Ae0 i.b0.toNat i.b1.toNat i.b2.toNat i.b3.toNat
  have e:twI i=tw i.b0.toNat i.b1.toNat i.b2.toNat i.b3.toNat:=rfl
  rw [e]
  unfold NZ
  cases ht:tw i.b0.toNat i.b1.toNat i.b2.toNat i.b3.toNat
  · rw [ht] at h
    simp only [Bool.false_eq_true,false_iff,not_or] at h
    simp only [true_iff]
    omega
  · rw [ht] at h
    simp only [true_iff] at h
    simp only [Bool.true_eq_false,false_iff]
    omega
theorem Og {i:InoT} (hk:i.k=1):Cm i=true↔(0≤i.l∧i.l≤20∧0≤i.s∧i.s≤256)∧FK i∧NZ i∧IR i∧Yi i:=by
  have hM:Cm i=(Do i&&!twI i):=by unfold Cm;rw [if_neg ω,if_pos hk]
  rw [hM,Bool.and_eq_true]
  unfold Do Fp KW Mh
  simp only [Bool.and_eq_true,decide_eq_true_eq,Abf,Abg,Bool.not_eq_true']
  constructor
  · rintro ⟨⟨⟨h1,h2⟩,h3⟩,h4⟩
    have hB:FK i:=by unfold FK;omega
    refine ⟨h1,hB,(LL hB).1 h4,?_,?_⟩
    · unfold IR DE;omega
    · exact ⟨h2.1.1.1.1,h2.1.1.2.1,h2.1.2.1,h2.2.1⟩
  · rintro ⟨h1,hB,hD,hO,hF⟩
    have h4:=(LL hB).2 hD
    unfold FK at hB
    unfold IR DE at hO
    unfold Yi at hF
    exact ⟨⟨⟨h1,⟨⟨⟨⟨hF.1,hB.1⟩,⟨hF.2.1,hB.2.1⟩⟩,⟨hF.2.2.1,hB.2.2.1⟩⟩,⟨hF.2.2.2,hB.2.2.2⟩⟩⟩,ω⟩,h4⟩
theorem QA {i:InoT} (hk:i.k=2):Cm i=true↔(i.l=1∧0≤i.s∧i.s≤16)∧FK i∧NZ i∧IR i:=by
  have hM:Cm i=(Jf i&&!twI i):=by unfold Cm;rw [if_neg ω,if_neg ω,if_pos hk]
  rw [hM,Bool.and_eq_true]
  unfold Jf Iq noO Ge
  simp only [Bool.and_eq_true,decide_eq_true_eq,Bool.not_eq_true',List.cons.injEq,and_true]
  constructor
  · rintro ⟨⟨⟨h1,h2⟩,h3⟩,h4⟩
    have hB:FK i:=by unfold FK;omega
    refine ⟨h1,hB,(LL hB).1 h4,?_⟩
    unfold IR DE;omega
  · rintro ⟨h1,hB,hD,hO⟩
    have h4:=(LL hB).2 hD
    unfold FK at hB
    unfold IR DE at hO
    exact ⟨⟨⟨h1,ω⟩,ω⟩,h4⟩
theorem Iy {i:InoT} (h1:i.k≠1) (h2:i.k≠2):Cm i=decide (JL i=IU):=by
  unfold Cm
  by_cases h0:i.k=0
  · rw [if_pos h0];rfl
  · rw [if_neg h0,if_neg h1,if_neg h2]
    symm
    refine decide_eq_false (fun h=>h0 ?_)
    unfold JL IU at h
    simp only [List.cons.injEq] at h
    exact h.1
theorem Oh {i:InoT} (h:Cm i=true):FK i∧NZ i∧IR i∧(i.k=1→Yi i):=by
  by_cases h1:i.k=1
  · obtain ⟨_,a,b,c,d⟩:=(Og h1).1 h
    exact ⟨a,b,c,fun _=>d⟩
  · by_cases h2:i.k=2
    · obtain ⟨_,a,b,c⟩:=(QA h2).1 h
      exact ⟨a,b,c,fun e=>absurd e h1⟩
    · rw [Iy h1 h2,decide_eq_true_eq] at h
      unfold JL IU at h
      simp only [List.cons.injEq,and_true] at h
      unfold FK NZ IR DE
      refine ⟨ω,ω,ω,fun e=>absurd e h1⟩
end
section
open Go.RowKit Go.WideShapes
end
section
open Go.RowKit Go.WideShapes
theorem Tx {xs:List UInt8} {n:Int} (h0:0≤n) (h1:n<256):AC xs n 1=xs++[UInt8.ofNat n.toNat]:=by
  obtain ⟨m,rfl⟩:=Int.eq_ofNat_of_zero_le h0
  have hf:By (m:Int) 1=true:=by unfold By;simp;omega
  unfold AC
  rw [if_pos hf]
  simp [le]
theorem Aeh {xs:List UInt8} {n:Int} (h0:0≤n) (h1:n<65536):AC xs n 2=xs++[UInt8.ofNat n.toNat,UInt8.ofNat (n.toNat / 256)]:=by
  obtain ⟨m,rfl⟩:=Int.eq_ofNat_of_zero_le h0
  have hf:By (m:Int) 2=true:=by unfold By;simp;omega
  unfold AC
  rw [if_pos hf]
  simp [le]
theorem Tk (l:List Int) (H:List UInt8) (h:∀ n∈l,0≤n∧n<256):BS H (IM l)=H++l.map fun n=>UInt8.ofNat n.toNat:=by
  induction l generalizing H with
  | nil=>simp [BS,IM]
  | cons n l ih=>
    have h1:=h n (by simp)
    have h2:=ih (AC H n 1) (fun x hx=>h x (by simp [hx]))
    have e:BS H (IM (n::l))=BS (AC H n 1) (IM l):=rfl
    rw [e,h2,Tx h1.1 h1.2]
    simp
theorem Oi {i:InoT} (h:Cm i=true):0≤i.k∧i.k≤2∧0≤i.l∧i.l≤20∧0≤i.s∧i.s≤256:=by
  have hu:=LE h
  by_cases h1:i.k=1
  · have:=((Og h1).1 h).1
    omega
  · by_cases h2:i.k=2
    · have:=((QA h2).1 h).1
      omega
    · rw [Iy h1 h2,decide_eq_true_eq] at h
      unfold JL IU at h
      simp only [List.cons.injEq,and_true] at h
      omega
theorem SP {i:InoT} (h:Cm i=true):NG i=[UInt8.ofNat i.k.toNat,UInt8.ofNat i.l.toNat,UInt8.ofNat i.s.toNat,UInt8.ofNat (i.s.toNat / 256)]++(i.B++i.O).map fun n=>UInt8.ofNat n.toNat:=by
  have hk:=Oi h
  have hu:=(LE h).2.2.2
  obtain ⟨hB,_,hO,_⟩:=Oh h
  have hlow:∀ n∈i.B++i.O,0≤n∧n<256:=by
    intro n hn
    have h1:=hu n hn
    unfold FK at hB
    unfold IR DE at hO
    simp only [InoT.B,InoT.O,List.cons_append,List.nil_append,List.mem_cons,List.not_mem_nil,or_false] at hn
    refine ⟨?_,ω⟩
    rcases hn with e | e | e | e | e | e | e | e | e | e | e | e<;>rw [e]
    · exact hB.1.1
    · exact hB.2.1.1
    · exact hB.2.2.1.1
    · exact hB.2.2.2.1
    · exact hO.1.1
    · exact hO.2.1.1
    · exact hO.2.2.1.1
    · exact hO.2.2.2.1.1
    · exact hO.2.2.2.2.1.1
    · exact hO.2.2.2.2.2.1.1
    · exact hO.2.2.2.2.2.2.1.1
    · exact hO.2.2.2.2.2.2.2.1
  unfold NG
  rw [Tk _ _ hlow]
  unfold SO
  rw [Tx hk.1 ω,Tx hk.2.2.1 ω,Aeh hk.2.2.2.2.1 ω]
  simp
end
section
open Go.RowKit Go.WideShapes
def bs (l:List Int):List UInt8:=l.map fun n=>UInt8.ofNat n.toNat
theorem YG {i:InoT} (h:Cm i=true):∀ n∈i.B++i.O,0≤n∧n≤255:=by
  have hu:=(LE h).2.2.2
  obtain ⟨hB,_,hO,_⟩:=Oh h
  intro n hn
  have h1:=hu n hn
  unfold FK at hB
  unfold IR DE at hO
  simp only [InoT.B,InoT.O,List.cons_append,List.nil_append,List.mem_cons,List.not_mem_nil,or_false] at hn
  refine ⟨?_,ω⟩
  rcases hn with e | e | e | e | e | e | e | e | e | e | e | e<;>rw [e]
  · exact hB.1.1
  · exact hB.2.1.1
  · exact hB.2.2.1.1
  · exact hB.2.2.2.1
  · exact hO.1.1
  · exact hO.2.1.1
  · exact hO.2.2.1.1
  · exact hO.2.2.2.1.1
  · exact hO.2.2.2.2.1.1
  · exact hO.2.2.2.2.2.1.1
  · exact hO.2.2.2.2.2.2.1.1
  · exact hO.2.2.2.2.2.2.2.1
theorem KI {i:InoT} (h:Cm i=true) (hk:i.k=0):Cd i=List.replicate 64 0:=by
  have:=Iy (i:=i) ω ω
  rw [h] at this
  unfold Cd
  rw [h,if_pos rfl,if_pos (of_decide_eq_true this.symm)]
theorem Wz {i:InoT} (h:Cm i=true) (hk:i.k≠0):Cd i=AC (Hx i) (CO (Hx i):Nat) 4:=by
  unfold Cd
  rw [h,if_pos rfl,if_neg]
  · rfl
  · intro e
    apply hk
    unfold JL IU at e
    simp only [List.cons.injEq] at e
    exact e.1
theorem Abr {i:InoT} (h:Cm i=true):Ew i=0:=by unfold Ew;rw [h];rfl
end
section
open Go.RowKit Go.WideShapes Go.ChangeShapes Go.Deep
end
section
open Go.RowKit Go.WideShapes
def i65:InoT:=⟨1,1,65,3,4,0,0,0,0,0,0,0,0,0,0⟩
end
section
open Go.RowKit Go.WideShapes
theorem Fa:(Tryz.prog.info? 45).map (·.size)=some 15:=κ
end
section
open Go.RowKit Go.WideShapes
def slI (xs:List UInt8) (a k:Nat):List UInt8:=(xs.drop a).take k
theorem Ab9 {xs:List UInt8} {a k:Nat} (h:a+k≤xs.length):(slI xs a k).length=k:=by simp [slI];omega
theorem Mp {xs:List UInt8} {a k:Nat} (h:a+k≤xs.length) (hk:FB k=true) (hv:BU (slI xs a k)≤9223372036854775807):AX xs a k=some (BU (slI xs a k)):=by
  unfold AX
  rw [if_pos ⟨hk,ω,ω⟩]
  simp only [Int.toNat_natCast]
  exact if_pos hv
theorem Agn {xs:List UInt8} {a:Nat} (h:a<xs.length):slI xs a 1=[xs[a]]:=by
  unfold slI
  rw [List.drop_eq_getElem_cons h,List.take_succ_cons,List.take_zero]
theorem SH {xs:List UInt8} {a:Nat} (h:a<xs.length):AX xs a 1=some (bAt xs a):=by
  have e:BU (slI xs a 1)=bAt xs a:=by rw [Agn h,DW h];show (xs[a]).toNat+256*0=_;omega
  have hb:=Dq xs a
  have:=Mp (xs:=xs) (a:=a) (k:=1) ω rfl (by rw [e];omega)
  rwa [e] at this
theorem Adk {xs:List UInt8} {a:Nat} (h:a+1<xs.length):AX xs a 2=some (bAt xs a+256*bAt xs (a+1)):=by
  have e:BU (slI xs a 2)=bAt xs a+256*bAt xs (a+1):=by
    rw [show (2:Nat)=1+1 from rfl]
    unfold slI
    rw [List.drop_eq_getElem_cons ω,List.take_succ_cons,List.drop_eq_getElem_cons h,List.take_succ_cons,List.take_zero,DW ω,DW h]
    show (xs[a]).toNat+256*((xs[a+1]).toNat+256*0)=_
    omega
  have hb:=Dq xs a
  have hb2:=Dq xs (a+1)
  have:=Mp (xs:=xs) (a:=a) (k:=2) ω rfl (by rw [e];omega)
  rwa [e] at this
theorem Adl {xs:List UInt8} {a:Nat} (h:a+4≤xs.length):AX xs a 4=some (BU (slI xs a 4)):=
  Mp h rfl (Tj (by rw [Ab9 h];omega))
def Be (xs:List UInt8):InoT:=⟨bAt xs 0,bAt xs 1,(bAt xs 2:Int)+256*(bAt xs 3:Int),bAt xs 4,bAt xs 5,bAt xs 6,bAt xs 7,bAt xs 8,bAt xs 9,bAt xs 10,bAt xs 11,bAt xs 12,bAt xs 13,bAt xs 14,bAt xs 15⟩
theorem VH (xs:List UInt8) (j:Nat) (h:j<4):(Ao (Be xs))[3+j]? = some (ν (bAt xs (4+j):Nat)):=by
  rcases (ω:j=0∨j=1∨j=2∨j=3) with rfl | rfl | rfl | rfl<;>rfl
theorem VI (xs:List UInt8) (j:Nat) (h:j<8):(Ao (Be xs))[7+j]? = some (ν (bAt xs (8+j):Nat)):=by
  rcases (ω:j=0∨j=1∨j=2∨j=3∨j=4∨j=5∨j=6∨j=7) with rfl | rfl | rfl | rfl | rfl | rfl | rfl | rfl<;>rfl
theorem Yu (i:InoT):∀ v∈Ao i,v.oneCell'=true:=by
  intro v hv
  unfold Ao at hv
  simp only [List.mem_cons,List.not_mem_nil,or_false] at hv
  rcases hv with e | e | e | e | e | e | e | e | e | e | e | e | e | e | e<;>rw [e]<;>rfl
def AP:InoT:=⟨0,0,0,0,0,0,0,0,0,0,0,0,0,0,0⟩
theorem Md (a b:Option Addr) (c d:Nat) (xs ys:List UInt8) (w:World) (ha:Bp w a c xs) (hb:Bp w b d ys) :
    Calls Tryz.prog 68 #[.slice a xs.length c,.slice b ys.length d] w fun e w'=>e=.returned (.bool (decide (xs=ys)))∧Below w.heap.size w w':=by
  have hl:=EL ha
  have hm:=EL hb
  by_cases hne:xs.length=ys.length
  · rw [hne]
    have hne2:=hid hne
    go_enter Tryz.func68,Tryz.ntmps68
    clear hne
    go_wp2
    go_loopw [5,13] (fun i13 i wr=>∃ j:Nat,j≤ys.length∧i=ν j∧(∀ i,i<j→bAt xs i=bAt ys i)∧Below w.heap.size w wr)
      (fun _ i _=>ys.length-(intOf i).toNat)
    case atStart=>exact ⟨0,Nat.zero_le _,rfl,fun i h=>absurd h ω,Below.refl _ _⟩
    case round=>
      obtain ⟨j,hj,rfl,hp,hbel⟩:=hrel
      have HP:=hid hp;clear hp
      by_cases hlt:j<ys.length
      · obtain ⟨ba,oa,rfl,hba,hca⟩:=(ha.mono hbel).bytes (by have:=hne2.out;omega)
        obtain ⟨bb,ob,rfl,hbb,hcb⟩:=(hb.mono hbel).bytes ω
        have ca:=hca j (by have:=hne2.out;omega)
        have cb:=hcb j hlt
        clear hca hcb ha hb
        have hlt':(j:Int)<(ys.length:Int):=ω
        by_cases hxy:bAt xs j=bAt ys j
        · have HX:=hid hxy
          rw [hxy] at ca
          clear hxy
          go_wp2
          go_quiet (fail)
          go_wp2
          go_roundw
          case rel=>exact ⟨j+1,ω,by go_num,fun i hi=>(by rcases Nat.lt_succ_iff_lt_or_eq.1 hi with h | rfl;exact HP.out i h;exact HX.out),Gg hbel _⟩
          case measure=>simp [intOf];omega
        · have hxy':((bAt xs j:Int) != (bAt ys j:Int))=true:=by simp;omega
          have HX:=hid hxy
          clear hxy
          go_wp2
          go_quiet (fail)
          go_wp2
          go_ret
          exact ⟨Bq (decide_eq_false (by rintro rfl;exact HX.out rfl)).symm,Gg hbel _⟩
      · obtain rfl:j=ys.length:=ω
        go_wp2
        go_ret
        exact ⟨Bq (decide_eq_true (Aab hne2.out HP.out)).symm,hbel⟩
  · go_enter Tryz.func68,Tryz.ntmps68
    go_wp2
    go_ret
    exact ⟨Bq (by simp;intro h;exact hne (by rw [h])),Below.refl _ _⟩
end
section
open Go.RowKit Go.WideShapes
theorem GC {w:World} {ops:Array Oper} {rest:List Oper} {o:Oper} {act:Act} {Q:Exit→Act→World→Prop} (hgd:o.guard=none) (x:Operand)
    (ho:o.op=.load 45 x) (g:Nat) (hx:act.eval x=π g) {e:TypeId} (i:InoT) (hb:Blk w g e (Ao i))
    (h:wpList Tryz.prog ops Q rest (act.put o.dst (.agg (Ao i).toArray)) w):wpList Tryz.prog ops Q (o::rest) act w:=
  wpList_load_mid hgd 45 x ho g 0 hx (Ao i) _ hb.range υ45 rfl (by rw [Fa];rfl) h
theorem CG {w:World} {ops:Array Oper} {rest:List Oper} {o:Oper} {act:Act} {Q:Exit→Act→World→Prop} (hgd:o.guard=none) (x y:Operand)
    (ho:o.op=.store 45 x y) (g:Nat) (hx:act.eval x=π g) {e:TypeId} (i:InoT) {C:Array Value} (hy:act.eval y=.agg C) (hC:C=(Ao i).toArray) {j:InoT} (hb:Blk w g e (Ao j))
    (h:∀ w',Blk w' g e (Ao i)→w.grownBy w' (some g)→wpList Tryz.prog ops Q rest (act.put o.dst undef) w'):wpList Tryz.prog ops Q (o::rest) act w:=by
  subst hC
  exact Nw hgd 45 x y ho g hx (Ao i) hy (by rw [Fa];rfl) (Yu _) hb rfl h
theorem NF (a:Option Addr) (c:Nat) (xs:List UInt8) (w:World) (ha:Bp w a c xs) (h16:16≤xs.length) :
    Calls Tryz.prog 71 #[.slice a xs.length c] w fun e w'=>e=.returned (Gc (Be xs))∧Below w.heap.size w w':=by
  have hl:=EL ha
  have G0:=fun (w1:World) (r1:Bp w1 a c xs)=>Eb a c xs 0 1 w1 r1 hl
  have G1:=fun (w1:World) (r1:Bp w1 a c xs)=>Eb a c xs 1 1 w1 r1 hl
  have G2:=fun (w1:World) (r1:Bp w1 a c xs)=>Eb a c xs 2 2 w1 r1 hl
  have g0:=SH (xs:=xs) (a:=0) ω
  have g1:=SH (xs:=xs) (a:=1) ω
  have g2:=Adk (xs:=xs) (a:=2) ω
  rw [show ((0:Nat):Int)=0 from rfl] at g0
  rw [show ((1:Nat):Int)=1 from rfl] at g1
  rw [show ((2:Nat):Int)=2 from rfl] at g2
  rw [g0] at G0;rw [g1] at G1;rw [g2] at G2
  have e256:((bAt xs 2+256*bAt xs (2+1):Nat):Int)=(bAt xs 2:Int)+256*(bAt xs 3:Int):=by show _=(bAt xs 2:Int)+256*(bAt xs (2+1):Int);omega
  have GB:∀ (m j:Nat) (w1:World),Bp w1 a c xs→m+j<16→Calls Tryz.prog 69 #[.slice a xs.length c,ν ((m:Int)+(j:Int)),ν 1] w1 fun e w'=>e=.returned (.tuple #[ν (bAt xs (m+j):Nat),.bool true])∧w1=w':=by
    intro m j w1 r1 h
    have q:=Eb a c xs ((m+j:Nat):Int) 1 w1 r1 hl
    have g:=SH (xs:=xs) (a:=m+j) ω
    rw [g,show ((m+j:Nat):Int)=(m:Int)+(j:Int) by omega] at q
    exact q
  simp only [Lt,Option.getD_some,Option.isSome_some,e256] at G0 G1 G2
  have G0:=hid G0;have G1:=hid G1;have G2:=hid G2;have GB:=hid GB
  clear g0 g1 g2 e256
  have HR:=hid (fun w1 (hb:Below w.heap.size w w1)=>Row.mono ha hb)
  clear ha
  have HZ:Hid (Blk ((w.alloc (.cells #[ν 0,ν 0,ν 0,ν 0,ν 0,ν 0,ν 0,ν 0,ν 0,ν 0,ν 0,ν 0,ν 0,ν 0,ν 0] 45)).alloc (.cells #[ν 0,ν 0,ν 0,ν 0,ν 0,ν 0,ν 0,ν 0,ν 0,ν 0,ν 0,ν 0,ν 0,ν 0,ν 0] 45)) w.heap.size 45 (Ao AP)):=by
    have q:Blk (w.alloc (.cells #[ν 0,ν 0,ν 0,ν 0,ν 0,ν 0,ν 0,ν 0,ν 0,ν 0,ν 0,ν 0,ν 0,ν 0,ν 0] 45)) w.heap.size 45 (Ao AP):=heap_alloc_new w _
    exact q.mono ((Below.refl _ _).alloc (Nat.le_refl _) _)
  have HK:Hid (Blk ((w.alloc (.cells #[ν 0,ν 0,ν 0,ν 0,ν 0,ν 0,ν 0,ν 0,ν 0,ν 0,ν 0,ν 0,ν 0,ν 0,ν 0] 45)).alloc (.cells #[ν 0,ν 0,ν 0,ν 0,ν 0,ν 0,ν 0,ν 0,ν 0,ν 0,ν 0,ν 0,ν 0,ν 0,ν 0] 45)) (w.heap.size+1) 45 (Gr (Ao (Be xs)) (ν 0) 0)):=by
    have q:=heap_alloc_new (w.alloc (.cells #[ν 0,ν 0,ν 0,ν 0,ν 0,ν 0,ν 0,ν 0,ν 0,ν 0,ν 0,ν 0,ν 0,ν 0,ν 0] 45)) (.cells #[ν 0,ν 0,ν 0,ν 0,ν 0,ν 0,ν 0,ν 0,ν 0,ν 0,ν 0,ν 0,ν 0,ν 0,ν 0] 45)
    rw [show (w.alloc (.cells #[ν 0,ν 0,ν 0,ν 0,ν 0,ν 0,ν 0,ν 0,ν 0,ν 0,ν 0,ν 0,ν 0,ν 0,ν 0] 45)).heap.size=w.heap.size+1 from by simp] at q
    exact q
  have HBl:Hid (Below w.heap.size w ((w.alloc (.cells #[ν 0,ν 0,ν 0,ν 0,ν 0,ν 0,ν 0,ν 0,ν 0,ν 0,ν 0,ν 0,ν 0,ν 0,ν 0] 45)).alloc (.cells #[ν 0,ν 0,ν 0,ν 0,ν 0,ν 0,ν 0,ν 0,ν 0,ν 0,ν 0,ν 0,ν 0,ν 0,ν 0] 45))):=((Below.refl _ w).alloc (Nat.le_refl _) _).alloc (by simp) _
  have hSw:w.heap.size≤w.heap.size+1:=ω
  go_enter Tryz.func71,Tryz.ntmps71
  go_wp2_with fail
  generalize hS:w.heap.size+1=S at *
  have hS':w.heap.size<S:=ω
  have HS:=hid hS
  clear hS
  refine (G0.out _ (HR.out _ HBl.out)).mono ?_
  rintro e wx ⟨rfl,rfl⟩
  have k0:=HK.out.atFill (ω:0<15)
  have fz0:=HK.out.frozen 0
  have HK2:=hid (HK.out.fill (ω:0<15) (show (Ao (Be xs))[0]? = some (ν (bAt xs 0:Nat)) from rfl))
  have HZ2:=hid (HZ.out.setOtherS (ω:w.heap.size≠S) 0 (ν (bAt xs 0:Nat)))
  have HB2:=hid (HBl.out.setCell (p:=⟨S,0,none⟩) hSw (ν (bAt xs 0:Nat)))
  clear HK HZ HBl
  go_wp2_with fail
  have HK:=hid HK2.out;have HZ:=hid HZ2.out;have HBl:=hid HB2.out
  clear HK2 HZ2 HB2 k0 fz0
  generalize World.setCell _ _ _=w3 at *
  refine (G1.out _ (HR.out _ HBl.out)).mono ?_
  rintro e wx ⟨rfl,rfl⟩
  have k1:=HK.out.atFill (ω:1<15)
  have fz1:=HK.out.frozen 1
  have HK2:=hid (HK.out.fill (ω:1<15) (show (Ao (Be xs))[1]? = some (ν (bAt xs 1:Nat)) from rfl))
  have HZ2:=hid (HZ.out.setOtherS (ω:w.heap.size≠S) 1 (ν (bAt xs 1:Nat)))
  have HB2:=hid (HBl.out.setCell (p:=⟨S,1,none⟩) hSw (ν (bAt xs 1:Nat)))
  clear HK HZ HBl
  go_wp2_with fail
  have HK:=hid HK2.out;have HZ:=hid HZ2.out;have HBl:=hid HB2.out
  clear HK2 HZ2 HB2 k1 fz1
  generalize World.setCell _ _ _=w4 at *
  refine (G2.out _ (HR.out _ HBl.out)).mono ?_
  rintro e wx ⟨rfl,rfl⟩
  have k2:=HK.out.atFill (ω:2<15)
  have fz2:=HK.out.frozen 2
  have HK2:=hid (HK.out.fill (ω:2<15) (show (Ao (Be xs))[2]? = some (ν ((bAt xs 2:Int)+256*(bAt xs 3:Int))) from rfl))
  have HZ2:=hid (HZ.out.setOtherS (ω:w.heap.size≠S) 2 (ν ((bAt xs 2:Int)+256*(bAt xs 3:Int))))
  have HB2:=hid (HBl.out.setCell (p:=⟨S,2,none⟩) hSw (ν ((bAt xs 2:Int)+256*(bAt xs 3:Int))))
  clear HK HZ HBl
  go_wp2_with fail
  have HK:=hid HK2.out;have HZ:=hid HZ2.out;have HBl:=hid HB2.out
  clear HK2 HZ2 HB2 k2 fz2
  generalize World.setCell _ _ _=w5 at *
  go_loopw [4,24] (fun _ i wr=>∃ j:Nat,j≤4∧i=ν j∧Blk wr S 45 (Gr (Ao (Be xs)) (ν 0) (3+j))∧Blk wr w.heap.size 45 (Ao AP)∧Below w.heap.size w wr) (fun _ i _=>4-(intOf i).toNat)
  case atStart=>exact ⟨0,ω,rfl,HK.out,HZ.out,HBl.out⟩
  case round=>
  clear HK HZ HBl
  obtain ⟨j,hj,rfl,hk,hz,hb⟩:=hrel
  by_cases hj4:j<4
  · have kj:=hk.atFill (ω:3+j<15)
    have fzj:=hk.frozen (3+j)
    have HK:=hid (hk.fill (ω:3+j<15) (VH xs j hj4))
    have HZ:=hid (hz.setOtherS (ω:w.heap.size≠S) (3+j) (ν (bAt xs (4+j):Nat)))
    have HBl:=hid (hb.setCell (p:=⟨S,3+j,none⟩) hSw (ν (bAt xs (4+j):Nat)))
    have HG:=hid (GB.out 4 j wr (HR.out _ hb) ω)
    have dj:decide ((j:Int)<4)=true:=decide_eq_true ω
    have ij:(j:Int)<4:=ω
    clear hk hz hb
    go_wp2_with (go_at_call 69;refine (HG.out).mono ?_;rintro e wx ⟨rfl,rfl⟩)
    go_roundw
    case rel=>exact ⟨j+1,ω,by go_num,HK.out,HZ.out,HBl.out⟩
    case measure=>simp [intOf];omega
  · obtain rfl:j=4:=ω
    rw [show ((4:Nat):Int)=4 from rfl]
    have HK:=hid hk;have HZ:=hid hz;have HBl:=hid hb
    clear hk hz hb
    obtain ⟨wo,hwo⟩:∃ x,x=wr:=⟨_,rfl⟩
    subst hwo
    go_wp2_with fail
    go_loopw [5,38] (fun _ i wr=>∃ j:Nat,j≤8∧i=ν j∧Blk wr S 45 (Gr (Ao (Be xs)) (ν 0) (7+j))∧Blk wr w.heap.size 45 (Ao AP)∧Below w.heap.size w wr) (fun _ i _=>8-(intOf i).toNat)
    case atStart=>exact ⟨0,ω,rfl,HK.out,HZ.out,HBl.out⟩
    case round=>
    clear HK HZ HBl
    obtain ⟨j,hj,rfl,hk,hz,hb⟩:=hrel
    by_cases hj4:j<8
    · have kj:=hk.atFill (ω:7+j<15)
      have fzj:=hk.frozen (7+j)
      have HK:=hid (hk.fill (ω:7+j<15) (VI xs j hj4))
      have HZ:=hid (hz.setOtherS (ω:w.heap.size≠S) (7+j) (ν (bAt xs (8+j):Nat)))
      have HBl:=hid (hb.setCell (p:=⟨S,7+j,none⟩) hSw (ν (bAt xs (8+j):Nat)))
      have HG:=hid (GB.out 8 j wr (HR.out _ hb) ω)
      have dj:decide ((j:Int)<8)=true:=decide_eq_true ω
      have ij:(j:Int)<8:=ω
      clear hk hz hb
      go_wp2_with (go_at_call 69;refine (HG.out).mono ?_;rintro e wx ⟨rfl,rfl⟩)
      go_roundw
      case rel=>exact ⟨j+1,ω,by go_num,HK.out,HZ.out,HBl.out⟩
      case measure=>simp [intOf];omega
    · obtain rfl:j=8:=ω
      rw [show ((8:Nat):Int)=8 from rfl]
      have HK:Hid (Blk wr S 45 (Ao (Be xs))):=hk
      have HZ:=hid hz;have HBl:=hid hb
      clear hk hz hb
      go_wp2_with (first
        | (with_reducible refine GC rfl _ rfl S rfl (Be xs) HK.out ?_)
        | ((with_reducible refine CG rfl _ _ rfl w.heap.size rfl (Be xs) rfl rfl HZ.out ?_);intro w9 k9 g9;have K9:=hid k9;have G9:=hid g9;clear k9 g9))
      have hsz:=HBl.out.size
      refine bodyPost_ret (Dw rfl rfl K9.out υ45 rfl (by rw [Fa];rfl)) rfl ?_
      exact ⟨rfl,AH HBl.out G9.out (Nat.le_refl _) hsz⟩
end
section
open Go.RowKit Go.WideShapes
def EY:List UInt8:=List.replicate 64 0
def Lo (ys:List UInt8):Bool:=decide (BU (slI ys 60 4)=CO (ys.take 60))
def KJ (ys:List UInt8):Bool:=Cm (Be ys)&&decide (Cd (Be ys)=ys)
def rdI (xs:List UInt8):InoT:=if xs.length<64 then AP else if xs.take 64=EY then AP else if Lo (xs.take 64)=false then AP else if KJ (xs.take 64)=true then Be (xs.take 64) else AP
def rdE (xs:List UInt8):Int:=if xs.length<64 then 3 else if xs.take 64=EY then 0 else if Lo (xs.take 64)=false then 4 else if KJ (xs.take 64)=true then 0 else 2
theorem Agb:Cd AP=EY:=by
  have hm:Cm AP=true:=by decide +kernel
  exact KI hm rfl
theorem Acr:Ew AP=0:=Abr (by decide +kernel)
theorem Zg {xs:List UInt8} (h:xs.length<64):rdI xs=AP∧rdE xs=3:=by unfold rdI rdE;rw [if_pos h,if_pos h];exact ⟨rfl,rfl⟩
theorem UO {xs:List UInt8} (h:¬ xs.length<64) (hz:xs.take 64=EY):rdI xs=AP∧rdE xs=0:=by unfold rdI rdE;rw [if_neg h,if_neg h,if_pos hz,if_pos hz];exact ⟨rfl,rfl⟩
theorem Ael {xs:List UInt8} (h:¬ xs.length<64) (hz:xs.take 64≠EY) (hs:Lo (xs.take 64)=false):rdI xs=AP∧rdE xs=4:=by unfold rdI rdE;rw [if_neg h,if_neg h,if_neg hz,if_neg hz,if_pos hs,if_pos hs];exact ⟨rfl,rfl⟩
theorem Aek {xs:List UInt8} (h:¬ xs.length<64) (hz:xs.take 64≠EY) (hs:Lo (xs.take 64)=true) (hg:KJ (xs.take 64)=false):rdI xs=AP∧rdE xs=2:=by unfold rdI rdE;rw [if_neg h,if_neg h,if_neg hz,if_neg hz,hs,hg];exact ⟨rfl,rfl⟩
theorem UN {xs:List UInt8} (h:¬ xs.length<64) (hz:xs.take 64≠EY) (hs:Lo (xs.take 64)=true) (hg:KJ (xs.take 64)=true):rdI xs=Be (xs.take 64)∧rdE xs=0:=by unfold rdI rdE;rw [if_neg h,if_neg h,if_neg hz,if_neg hz,hs,hg];exact ⟨rfl,rfl⟩
theorem OL (w:World):Blk (w.alloc (.cells #[ν 0,ν 0,ν 0,ν 0,ν 0,ν 0,ν 0,ν 0,ν 0,ν 0,ν 0,ν 0,ν 0,ν 0,ν 0] 45)) w.heap.size 45 (Ao AP):=heap_alloc_new w _
theorem IW (w:World) (o:Obj):Below w.heap.size w (w.alloc o):=(Below.refl _ w).alloc (Nat.le_refl _) _
theorem Rd (a:Option Addr) (c:Nat) (xs:List UInt8) (w:World) (ha:Bp w a c xs) :
    Calls Tryz.prog 39 #[.slice a xs.length c] w fun e w'=>e=.returned (.tuple #[Gc (rdI xs),ν (rdE xs)])∧Below w.heap.size w w':=by
  have hl:=EL ha
  have hcap:xs.length≤c:=ha.2.1
  have HZC:=hid (show (#[ν 0,ν 0,ν 0,ν 0,ν 0,ν 0,ν 0,ν 0,ν 0,ν 0,ν 0,ν 0,ν 0,ν 0,ν 0]:Array Value)=(Ao AP).toArray from rfl)
  have HZ:=hid (OL w)
  have HB:=hid (IW w (.cells #[ν 0,ν 0,ν 0,ν 0,ν 0,ν 0,ν 0,ν 0,ν 0,ν 0,ν 0,ν 0,ν 0,ν 0,ν 0] 45))
  by_cases h64:xs.length<64
  · obtain ⟨e1,e2⟩:=Zg h64
    rw [e1,e2]
    clear e1 e2
    go_enter Tryz.func39,Tryz.ntmps39
    go_wp2_with (((with_reducible refine CG rfl _ _ rfl w.heap.size rfl AP rfl HZC.out HZ.out ?_);intro w9 k9 g9;have K9:=hid k9;have G9:=hid g9;clear k9 g9))
    refine bodyPost_ret (Cb rfl rfl K9.out υ45 rfl (by rw [Fa];rfl)) rfl ?_
    exact ⟨rfl,AH HB.out G9.out (Nat.le_refl _) HB.out.size⟩
  have r0:=IC ha 64
  have hyl:(xs.take 64).length=64:=by simp;omega
  have hc64:64≤c:=ω
  have i64x:¬ ((xs.length:Int)<64):=ω
  have EQ:=fun a2 c2 zs w1 r1 r2=>Md a a2 c c2 (xs.take 64) zs w1 r1 r2
  rw [hyl] at EQ
  have HR:=hid (fun w1 (hb:Below w.heap.size w w1)=>Row.mono r0 hb)
  have P0:=fun w1=>Jl AP w1
  unfold Acy at P0
  rw [Agb,Acr,show EY.length=64 from rfl] at P0
  have EZ:=fun a2 c2 w1 r1 r2=>EQ a2 c2 EY w1 r1 r2
  rw [show EY.length=64 from rfl] at EZ
  have P0:=hid P0
  have dn:decide ((xs.length:Int)<64)=false:=decide_eq_false i64x
  by_cases hz:xs.take 64=EY
  · obtain ⟨e1,e2⟩:=UO h64 hz
    rw [e1,e2]
    simp only [decide_eq_true hz] at EZ
    have EZ:=hid EZ
    generalize xs.take 64=ys at *
    clear e1 e2 hz EQ ha r0 hyl
    go_enter Tryz.func39,Tryz.ntmps39
    go_wp2_with fail
    refine (P0.out _).mono ?_
    rintro e w4 ⟨a4,c4,rfl,o4,b4⟩
    have HB4:=hid (Ae HB.out b4)
    have HZ4:=hid (HZ.out.mono b4)
    have HE:=hid (EZ.out a4 c4 w4 (HR.out _ HB4.out) o4.row)
    clear b4 o4
    go_wp2_with fail
    refine HE.out.mono ?_
    rintro e w5 ⟨rfl,b5⟩
    have HB5:=hid (Ae HB4.out b5)
    have HZ5:=hid (HZ4.out.mono b5)
    clear b5
    go_wp2_with (((with_reducible refine CG rfl _ _ rfl w.heap.size rfl AP rfl HZC.out HZ5.out ?_);intro w9 k9 g9;have K9:=hid k9;have G9:=hid g9;clear k9 g9))
    refine bodyPost_ret (Cb rfl rfl K9.out υ45 rfl (by rw [Fa];rfl)) rfl ?_
    exact ⟨rfl,AH HB5.out G9.out (Nat.le_refl _) HB5.out.size⟩
  simp only [decide_eq_false hz] at EZ
  have EZ:=hid EZ
  have hr1:=@Ael xs h64 hz
  have hr2:=@Aek xs h64 hz
  have hr3:=@UN xs h64 hz
  have hr60:=IC r0 60
  have hl60:((xs.take 64).take 60).length=60:=by simp;omega
  have HR60:=hid (fun w1 (hb:Below w.heap.size w w1)=>Row.mono hr60 hb)
  have HSum:=fun w1 (r1:Bp w1 a c ((xs.take 64).take 60))=>Ke a c ((xs.take 64).take 60) w1 r1
  rw [hl60] at HSum
  have hG:=fun w1 r1=>Eb a c (xs.take 64) 60 4 w1 r1 ω
  have g4:=Adl (xs:=xs.take 64) (a:=60) ω
  rw [show ((60:Nat):Int)=60 from rfl] at g4
  rw [g4,hyl] at hG
  simp only [Lt,Option.getD_some,Option.isSome_some] at hG
  have hs:Lo (xs.take 64)=decide (BU (slI (xs.take 64) 60 4)=CO ((xs.take 64).take 60)):=rfl
  have HF:=fun w1 r1=>NF a c (xs.take 64) w1 r1 ω
  rw [hyl] at HF
  have hgd:KJ (xs.take 64)=(Cm (Be (xs.take 64))&&decide (Cd (Be (xs.take 64))=xs.take 64)):=rfl
  have hP:=fun w1=>Jl (Be (xs.take 64)) w1
  unfold Acy at hP
  have EP:=fun a2 c2 w1 (r1:Bp w1 a2 c2 (Cd (Be (xs.take 64)))) r2=>Md a2 a c2 c (Cd (Be (xs.take 64))) (xs.take 64) w1 r1 r2
  rw [hyl] at EP
  have hcl:=EA ((xs.take 64).take 60)
  have hPE:Ew (Be (xs.take 64))=if Cm (Be (xs.take 64)) then 0 else 1:=rfl
  have hPL:(Cd (Be (xs.take 64))).length≤64:=by unfold Cd;split;split;simp;rw [JY];omega;simp
  rw [hs] at hr1 hr2 hr3
  rw [hgd] at hr2 hr3
  generalize CO ((xs.take 64).take 60)=z at *
  generalize BU (slI (xs.take 64) 60 4)=u at *
  generalize Cd (Be (xs.take 64))=P at *
  generalize Ew (Be (xs.take 64))=E at *
  generalize Cm (Be (xs.take 64))=M at *
  generalize Be (xs.take 64)=i at *
  generalize (xs.take 64).take 60=y60 at *
  generalize xs.take 64=ys at *
  have ez:IntKind.i64.wrap (z:Int)=z:=IntWalk.i64_in _ ω
  have HSum:=hid HSum;have hG:=hid hG;have HF:=hid HF;have hP:=hid hP;have EP:=hid EP
  clear hs hgd g4 r0 hr60 hl60 hyl ha EQ
  by_cases hu:u=z
  · rw [decide_eq_true hu] at hr1 hr2 hr3
    subst hu
    have hne:((u:Int) != (u:Int))=false:=by simp
    cases hM:M
    · rw [hM] at hr2 hPE
      obtain ⟨e1,e2⟩:=hr2 rfl rfl
      rw [e1,e2]
      rw [show E=1 from hPE] at hP
      clear e1 e2 hr1 hr2 hr3 hM hPE EP
      go_enter Tryz.func39,Tryz.ntmps39
      go_wp2_with fail
      refine (P0.out _).mono ?_
      rintro e w4 ⟨a4,c4,rfl,o4,b4⟩
      have HB4:=hid (Ae HB.out b4)
      have HZ4:=hid (HZ.out.mono b4)
      have HE:=hid (EZ.out a4 c4 w4 (HR.out _ HB4.out) o4.row)
      clear b4 o4
      go_wp2_with fail
      refine HE.out.mono ?_
      rintro e w5 ⟨rfl,b5⟩
      have HB5:=hid (Ae HB4.out b5)
      have HZ5:=hid (HZ4.out.mono b5)
      clear b5 HB4 HZ4 HE
      go_wp2_with fail
      refine (hG.out w5 (HR.out _ HB5.out)).mono ?_
      rintro e wx ⟨rfl,rfl⟩
      go_wp2_with fail
      refine (HSum.out w5 (HR60.out _ HB5.out)).mono ?_
      rintro e wy ⟨rfl,b6⟩
      have HBy:=hid (Ae HB5.out b6)
      have HZy:=hid (HZ5.out.mono b6)
      clear b6 HB5 HZ5
      go_wp2_with fail
      refine (HF.out wy (HR.out _ HBy.out)).mono ?_
      rintro e w6 ⟨rfl,b6⟩
      have HB6:=hid (Ae HBy.out b6)
      have HZ6:=hid (HZy.out.mono b6)
      clear b6 HBy HZy
      unfold Gc
      go_wp2_with (first
        | ((with_reducible refine CG rfl _ _ rfl w6.heap.size rfl i rfl rfl (OL w6) ?_);intro w10 k10 g10;have K10:=hid k10;have G10:=hid g10;clear k10 g10)
        | (with_reducible refine GC rfl _ rfl w6.heap.size rfl i K10.out ?_))
      have HBa:=hid (AH (HB6.out.alloc HB6.out.size (.cells #[ν 0,ν 0,ν 0,ν 0,ν 0,ν 0,ν 0,ν 0,ν 0,ν 0,ν 0,ν 0,ν 0,ν 0,ν 0] 45)) G10.out HB6.out.size (Nat.le_trans HB6.out.size (IW w6 (.cells #[ν 0,ν 0,ν 0,ν 0,ν 0,ν 0,ν 0,ν 0,ν 0,ν 0,ν 0,ν 0,ν 0,ν 0,ν 0] 45)).size))
      have HZa:=hid ((HZ6.out.mono (IW w6 (.cells #[ν 0,ν 0,ν 0,ν 0,ν 0,ν 0,ν 0,ν 0,ν 0,ν 0,ν 0,ν 0,ν 0,ν 0,ν 0] 45))).grownS G10.out (show w.heap.size≠w6.heap.size from Nat.ne_of_lt HZ6.out.lt))
      refine (hP.out w10).mono ?_
      rintro e w8 ⟨a8,c8,rfl,o8,b8⟩
      have HB8:=hid (Ae HBa.out b8)
      have HZ8:=hid (HZa.out.mono b8)
      have K8:=hid (K10.out.mono b8)
      have O8:=hid o8.row
      clear b8 o8 HBa HZa HB6 HZ6
      go_wp2_with (((with_reducible refine CG rfl _ _ rfl w.heap.size rfl AP rfl HZC.out HZ8.out ?_);intro w9 k9 g9;have K9:=hid k9;have G9:=hid g9;clear k9 g9))
      refine bodyPost_ret (Cb rfl rfl K9.out υ45 rfl (by rw [Fa];rfl)) rfl ?_
      exact ⟨rfl,AH HB8.out G9.out (Nat.le_refl _) HB8.out.size⟩
    · rw [hM] at hr2 hr3 hPE
      rw [show E=0 from hPE] at hP
      by_cases hy:P=ys
      · obtain ⟨e1,e2⟩:=hr3 rfl (by rw [decide_eq_true hy];rfl)
        rw [e1,e2]
        have EPP:Hid (∀ (a2:Option Addr) (c2:Nat) (w1:World),Bp w1 a2 c2 P→Bp w1 a c ys→Calls Tryz.prog 68 #[.slice a2 P.length c2,.slice a 64 c] w1 fun e w'=>e=.returned (.bool true)∧Below w1.heap.size w1 w'):=by
          have q:=EP.out
          simp only [decide_eq_true hy] at q
          exact q
        clear e1 e2 hr1 hr2 hr3 hM hPE EP hy
        go_enter Tryz.func39,Tryz.ntmps39
        go_wp2_with fail
        refine (P0.out _).mono ?_
        rintro e w4 ⟨a4,c4,rfl,o4,b4⟩
        have HB4:=hid (Ae HB.out b4)
        have HZ4:=hid (HZ.out.mono b4)
        have HE:=hid (EZ.out a4 c4 w4 (HR.out _ HB4.out) o4.row)
        clear b4 o4
        go_wp2_with fail
        refine HE.out.mono ?_
        rintro e w5 ⟨rfl,b5⟩
        have HB5:=hid (Ae HB4.out b5)
        have HZ5:=hid (HZ4.out.mono b5)
        clear b5 HB4 HZ4 HE
        go_wp2_with fail
        refine (hG.out w5 (HR.out _ HB5.out)).mono ?_
        rintro e wx ⟨rfl,rfl⟩
        go_wp2_with fail
        refine (HSum.out w5 (HR60.out _ HB5.out)).mono ?_
        rintro e wy ⟨rfl,b6⟩
        have HBy:=hid (Ae HB5.out b6)
        have HZy:=hid (HZ5.out.mono b6)
        clear b6 HB5 HZ5
        go_wp2_with fail
        refine (HF.out wy (HR.out _ HBy.out)).mono ?_
        rintro e w6 ⟨rfl,b6⟩
        have HB6:=hid (Ae HBy.out b6)
        have HZ6:=hid (HZy.out.mono b6)
        clear b6 HBy HZy
        unfold Gc
        go_wp2_with (first
          | ((with_reducible refine CG rfl _ _ rfl w6.heap.size rfl i rfl rfl (OL w6) ?_);intro w10 k10 g10;have K10:=hid k10;have G10:=hid g10;clear k10 g10)
          | (with_reducible refine GC rfl _ rfl w6.heap.size rfl i K10.out ?_))
        have HBa:=hid (AH (HB6.out.alloc HB6.out.size (.cells #[ν 0,ν 0,ν 0,ν 0,ν 0,ν 0,ν 0,ν 0,ν 0,ν 0,ν 0,ν 0,ν 0,ν 0,ν 0] 45)) G10.out HB6.out.size (Nat.le_trans HB6.out.size (IW w6 (.cells #[ν 0,ν 0,ν 0,ν 0,ν 0,ν 0,ν 0,ν 0,ν 0,ν 0,ν 0,ν 0,ν 0,ν 0,ν 0] 45)).size))
        have HZa:=hid ((HZ6.out.mono (IW w6 (.cells #[ν 0,ν 0,ν 0,ν 0,ν 0,ν 0,ν 0,ν 0,ν 0,ν 0,ν 0,ν 0,ν 0,ν 0,ν 0] 45))).grownS G10.out (show w.heap.size≠w6.heap.size from Nat.ne_of_lt HZ6.out.lt))
        refine (hP.out w10).mono ?_
        rintro e w8 ⟨a8,c8,rfl,o8,b8⟩
        have HB8:=hid (Ae HBa.out b8)
        have HZ8:=hid (HZa.out.mono b8)
        have K8:=hid (K10.out.mono b8)
        have O8:=hid o8.row
        clear b8 o8 HBa HZa HB6 HZ6
        have HE:=hid (EPP.out a8 c8 w8 O8.out (HR.out _ HB8.out))
        go_wp2_with fail
        refine HE.out.mono ?_
        rintro e w7 ⟨rfl,b7⟩
        have HB7:=hid (Ae HB8.out b7)
        have HZ7:=hid (HZ8.out.mono b7)
        have K7:=hid (K8.out.mono b7)
        clear b7
        go_wp2_with (first
          | (with_reducible refine GC rfl _ rfl w6.heap.size rfl i K7.out ?_)
          | ((with_reducible refine CG rfl _ _ rfl w.heap.size rfl i rfl rfl HZ7.out ?_);intro w9 k9 g9;have K9:=hid k9;have G9:=hid g9;clear k9 g9))
        refine bodyPost_ret (Cb rfl rfl K9.out υ45 rfl (by rw [Fa];rfl)) rfl ?_
        exact ⟨rfl,AH HB7.out G9.out (Nat.le_refl _) HB7.out.size⟩
      · obtain ⟨e1,e2⟩:=hr2 rfl (by rw [decide_eq_false hy];rfl)
        rw [e1,e2]
        have EPP:Hid (∀ (a2:Option Addr) (c2:Nat) (w1:World),Bp w1 a2 c2 P→Bp w1 a c ys→Calls Tryz.prog 68 #[.slice a2 P.length c2,.slice a 64 c] w1 fun e w'=>e=.returned (.bool false)∧Below w1.heap.size w1 w'):=by
          have q:=EP.out
          simp only [decide_eq_false hy] at q
          exact q
        clear e1 e2 hr1 hr2 hr3 hM hPE EP hy
        go_enter Tryz.func39,Tryz.ntmps39
        go_wp2_with fail
        refine (P0.out _).mono ?_
        rintro e w4 ⟨a4,c4,rfl,o4,b4⟩
        have HB4:=hid (Ae HB.out b4)
        have HZ4:=hid (HZ.out.mono b4)
        have HE:=hid (EZ.out a4 c4 w4 (HR.out _ HB4.out) o4.row)
        clear b4 o4
        go_wp2_with fail
        refine HE.out.mono ?_
        rintro e w5 ⟨rfl,b5⟩
        have HB5:=hid (Ae HB4.out b5)
        have HZ5:=hid (HZ4.out.mono b5)
        clear b5 HB4 HZ4 HE
        go_wp2_with fail
        refine (hG.out w5 (HR.out _ HB5.out)).mono ?_
        rintro e wx ⟨rfl,rfl⟩
        go_wp2_with fail
        refine (HSum.out w5 (HR60.out _ HB5.out)).mono ?_
        rintro e wy ⟨rfl,b6⟩
        have HBy:=hid (Ae HB5.out b6)
        have HZy:=hid (HZ5.out.mono b6)
        clear b6 HB5 HZ5
        go_wp2_with fail
        refine (HF.out wy (HR.out _ HBy.out)).mono ?_
        rintro e w6 ⟨rfl,b6⟩
        have HB6:=hid (Ae HBy.out b6)
        have HZ6:=hid (HZy.out.mono b6)
        clear b6 HBy HZy
        unfold Gc
        go_wp2_with (first
          | ((with_reducible refine CG rfl _ _ rfl w6.heap.size rfl i rfl rfl (OL w6) ?_);intro w10 k10 g10;have K10:=hid k10;have G10:=hid g10;clear k10 g10)
          | (with_reducible refine GC rfl _ rfl w6.heap.size rfl i K10.out ?_))
        have HBa:=hid (AH (HB6.out.alloc HB6.out.size (.cells #[ν 0,ν 0,ν 0,ν 0,ν 0,ν 0,ν 0,ν 0,ν 0,ν 0,ν 0,ν 0,ν 0,ν 0,ν 0] 45)) G10.out HB6.out.size (Nat.le_trans HB6.out.size (IW w6 (.cells #[ν 0,ν 0,ν 0,ν 0,ν 0,ν 0,ν 0,ν 0,ν 0,ν 0,ν 0,ν 0,ν 0,ν 0,ν 0] 45)).size))
        have HZa:=hid ((HZ6.out.mono (IW w6 (.cells #[ν 0,ν 0,ν 0,ν 0,ν 0,ν 0,ν 0,ν 0,ν 0,ν 0,ν 0,ν 0,ν 0,ν 0,ν 0] 45))).grownS G10.out (show w.heap.size≠w6.heap.size from Nat.ne_of_lt HZ6.out.lt))
        refine (hP.out w10).mono ?_
        rintro e w8 ⟨a8,c8,rfl,o8,b8⟩
        have HB8:=hid (Ae HBa.out b8)
        have HZ8:=hid (HZa.out.mono b8)
        have K8:=hid (K10.out.mono b8)
        have O8:=hid o8.row
        clear b8 o8 HBa HZa HB6 HZ6
        have HE:=hid (EPP.out a8 c8 w8 O8.out (HR.out _ HB8.out))
        go_wp2_with fail
        refine HE.out.mono ?_
        rintro e w7 ⟨rfl,b7⟩
        have HB7:=hid (Ae HB8.out b7)
        have HZ7:=hid (HZ8.out.mono b7)
        clear b7
        go_wp2_with (((with_reducible refine CG rfl _ _ rfl w.heap.size rfl AP rfl HZC.out HZ7.out ?_);intro w9 k9 g9;have K9:=hid k9;have G9:=hid g9;clear k9 g9))
        refine bodyPost_ret (Cb rfl rfl K9.out υ45 rfl (by rw [Fa];rfl)) rfl ?_
        exact ⟨rfl,AH HB7.out G9.out (Nat.le_refl _) HB7.out.size⟩
  · rw [decide_eq_false hu] at hr1
    obtain ⟨e1,e2⟩:=hr1 rfl
    rw [e1,e2]
    have hne:((u:Int) != (z:Int))=true:=by simp;omega
    clear e1 e2 hr1 hr2 hr3 hu
    go_enter Tryz.func39,Tryz.ntmps39
    go_wp2_with fail
    refine (P0.out _).mono ?_
    rintro e w4 ⟨a4,c4,rfl,o4,b4⟩
    have HB4:=hid (Ae HB.out b4)
    have HZ4:=hid (HZ.out.mono b4)
    have HE:=hid (EZ.out a4 c4 w4 (HR.out _ HB4.out) o4.row)
    clear b4 o4
    go_wp2_with fail
    refine HE.out.mono ?_
    rintro e w5 ⟨rfl,b5⟩
    have HB5:=hid (Ae HB4.out b5)
    have HZ5:=hid (HZ4.out.mono b5)
    clear b5 HB4 HZ4 HE
    go_wp2_with fail
    refine (hG.out w5 (HR.out _ HB5.out)).mono ?_
    rintro e wx ⟨rfl,rfl⟩
    go_wp2_with fail
    refine (HSum.out w5 (HR60.out _ HB5.out)).mono ?_
    rintro e w6 ⟨rfl,b6⟩
    have HB5z:=hid (Ae HB5.out b6)
    have HZ5z:=hid (HZ5.out.mono b6)
    clear b6 HB5 HZ5
    have HB5:=hid HB5z.out;have HZ5:=hid HZ5z.out
    go_wp2_with (((with_reducible refine CG rfl _ _ rfl w.heap.size rfl AP rfl HZC.out HZ5.out ?_);intro w9 k9 g9;have K9:=hid k9;have G9:=hid g9;clear k9 g9))
    refine bodyPost_ret (Cb rfl rfl K9.out υ45 rfl (by rw [Fa];rfl)) rfl ?_
    exact ⟨rfl,AH HB5.out G9.out (Nat.le_refl _) HB5.out.size⟩
end
section
open Go.RowKit Go.WideShapes
def Al (xs:List UInt8):Array Value:=(xs.map Af).toArray
theorem Lf (xs:List UInt8):(Al xs).size=xs.length:=by simp [Al]
theorem Ta (xs:List UInt8):(Al xs).all (·.oneCell')=true:=all_oneCell_toArray (CI xs)
theorem SI {w w':World} {h:Nat} (g:w.grownBy w' (some h)) (i:Nat) (v:Value):w.grownBy (w'.setCell ⟨h,i,none⟩ v) (some h):=
  ⟨g.os,g.tape,g.output,by simp [World.setCell];exact g.size,fun k hk hne=>by
    rw [Below.heap_setCell _ _ _ _ (by rintro rfl;exact hne rfl)];exact g.block k hk hne⟩
theorem La (w:World) (r:Option Nat):w.grownBy w r:=⟨rfl,rfl,rfl,Nat.le_refl _,fun _ _ _=>rfl⟩
theorem Pj {w w1 w2:World} {r:Option Nat} (a:w.grownBy w1 r) (b:w1.grownBy w2 r):w.grownBy w2 r:=
  ⟨b.os.trans a.os,b.tape.trans a.tape,b.output.trans a.output,Nat.le_trans a.size b.size,fun k hk hne=>(b.block k (Nat.lt_of_lt_of_le hk a.size) hne).trans (a.block k hk hne)⟩
def Ei (xs:List UInt8) (k:Nat):Bool:=(bAt xs (k / 8)).testBit (k % 8)
def CM (xs:List UInt8) (n:Int):Bool:=decide (1≤n∧n≤128)&&Ei xs (n-1).toNat
theorem Aaa (x r:Nat):(((x &&& 2 ^ r:Nat):Int) != 0)=x.testBit r:=by
  rw [show (((x &&& 2 ^ r:Nat):Int) != 0)=decide (¬ ((x &&& 2 ^ r:Nat):Int)=0) from by simp [bne,BEq.beq]]
  have e:x &&& 2 ^ r=if x.testBit r then 2 ^ r else 0:=by
    apply Nat.eq_of_testBit_eq
    intro i
    rw [Nat.testBit_and,Nat.testBit_two_pow]
    by_cases h:r=i
    · subst h
      by_cases hb:x.testBit r=true
      · rw [if_pos hb];simp [hb]
      · rw [if_neg hb];simp [hb]
    · by_cases hb:x.testBit r=true
      · rw [if_pos hb];simp [h,Nat.testBit_two_pow]
      · rw [if_neg hb];simp [h]
  rw [e]
  have:=Nat.two_pow_pos r
  by_cases hb:x.testBit r=true
  · rw [if_pos hb,hb];exact decide_eq_true ω
  · rw [if_neg hb];simp [hb]
theorem JK:(Tryz.prog.info? 52).map (·.size)=some 16:=κ
theorem Gi {w:World} {g:Nat} {e:TypeId} {L:List Value} (h:Blk w g e L):w.rangeAt g 0 L:=fun j v hv=>by
  have hj:=(List.getElem?_eq_some_iff.1 hv).1
  rw [Nat.zero_add,Blk.cell h hj,← hv,List.getElem?_eq_getElem hj]
theorem Vo {w:World} {g:Nat} {e:TypeId} {L:List Value} (h:Blk w g e L):w.there g 0 L.length:=fun j hj=>by
  rw [Nat.zero_add,Blk.cell h hj];exact ⟨rfl,Blk.frozen h j⟩
theorem Jw {g:Nat} {e:TypeId}:∀ (vs:List Value) (o:Nat) (w:World) (L:List Value),Blk w g e L→o+vs.length≤L.length→Blk (w.setCells g o vs) g e (splice L o vs)∧w.grownBy (w.setCells g o vs) (some g)
  | [],o,w,L,h,_=>by
    refine ⟨?_,La w _⟩
    simp [splice];exact h
  | v::r,o,w,L,h,hl=>by
    simp only [List.length_cons] at hl
    have h1:=Blk.set h o v
    obtain ⟨h2,h3⟩:=Jw r (o+1) _ _ h1 (by simp;omega)
    refine ⟨?_,Pj (SI (La w _) o v) h3⟩
    have e1:splice (L.set o v) (o+1) r=splice L o (v::r):=by
      apply List.ext_getElem?
      intro i
      rw [getElem?_splice _ _ _ (by simp;omega),getElem?_splice _ _ _ (by simp;omega)]
      by_cases h0:i=o
      · subst h0
        rw [if_neg ω,if_pos (by simp)]
        simp [List.getElem?_set,show i<L.length by omega]
      · by_cases h4:o+1≤i∧i<o+1+r.length
        · rw [if_pos h4,if_pos (by simp;omega),show i-o=(i-(o+1))+1 by omega,List.getElem?_cons_succ]
        · rw [if_neg h4,if_neg (by simp;omega),List.getElem?_set_ne ω]
    rw [← e1];exact h2
theorem Ez {w:World} {ops:Array Oper} {rest:List Oper} {o:Oper} {act:Act} {Q:Exit→Act→World→Prop} (hgd:o.guard=none) (x:Operand)
    (ho:o.op=.load 52 x) (g:Nat) (hx:act.eval x=π g) {e:TypeId} (xs:List UInt8) (hl:xs.length=16) (hb:Blk w g e (xs.map Af))
    (h:wpList Tryz.prog ops Q rest (act.put o.dst (.agg (Al xs))) w):wpList Tryz.prog ops Q (o::rest) act w:=
  wpList_load_mid hgd 52 x ho g 0 hx (xs.map Af) _ (Gi hb) υ52 rfl (by rw [JK];simp [hl]) h
theorem DR {w:World} {ops:Array Oper} {rest:List Oper} {o:Oper} {act:Act} {Q:Exit→Act→World→Prop} (hgd:o.guard=none) (x y:Operand)
    (ho:o.op=.store 52 x y) (g:Nat) (hx:act.eval x=π g) {e:TypeId} (xs:List UInt8) (hy:act.eval y=.agg (Al xs)) (hl:xs.length=16) {L:List Value} (hb:Blk w g e L) (hL:L.length=16)
    (h:∀ w',Blk w' g e (xs.map Af)→w.grownBy w' (some g)→wpList Tryz.prog ops Q rest (act.put o.dst undef) w'):wpList Tryz.prog ops Q (o::rest) act w:=by
  have ht:=Vo hb
  rw [hL] at ht
  refine wpList_store_mid hgd 52 x y ho g 0 (Al xs) hx hy (by rw [Lf,hl];exact ht) (by rw [JK,Lf,hl]) (Ta xs) ?_
  obtain ⟨h1,h2⟩:=Jw (xs.map Af) 0 w L hb (by simp;omega)
  have e1:splice L 0 (xs.map Af)=xs.map Af:=by
    unfold splice
    simp [List.drop_eq_nil_of_le,hL,hl]
  rw [e1] at h1
  exact h _ h1 h2
theorem FS {fn:Func} {c:Tmp} (h:fn.results=#[.cell c 52]) {tmps:Array Value} {w:World} {g:Nat} {xs:List UInt8} (hc:tmps.getD c undef=π g) {e:TypeId} (hb:Blk w g e (xs.map Af)) (hl:xs.length=16) :
    (results fn tmps).run Tryz.prog w=.ok (.agg (Al xs)) w:=by
  have hv:=run_loadVar_mid (P:=Tryz.prog) w g 0 52 (xs.map Af) _ (Gi hb) υ52 rfl (by rw [JK];simp [hl])
  have hc':tmps[c]?.getD undef=π g:=by simpa using hc
  simp [results,h,hc',asAddr,hv,Al]
theorem map_set (xs:List UInt8) (q v:Nat) (hv:v<256):(xs.map Af).set q (.int .u8 (v:Int))=(xs.set q (UInt8.ofNat v)).map Af:=by
  rw [List.map_set]
  congr 1
  unfold Af
  simp [Nat.mod_eq_of_lt hv]
theorem Uj (xs:List UInt8) (q j v:Nat) (hv:v<256) (hq:q<xs.length):bAt (xs.set q (UInt8.ofNat v)) j=if q=j then v else bAt xs j:=by
  unfold bAt
  rw [List.getD_eq_getElem?_getD,List.getElem?_set]
  by_cases h:q=j
  · subst h
    simp [hq,Nat.mod_eq_of_lt hv]
  · simp [h]
def RJ (xs:List UInt8) (k:Nat):List UInt8:=xs.set (k / 8) (UInt8.ofNat (bAt xs (k / 8) ||| 2 ^ (k % 8)))
def Qp (xs:List UInt8) (k:Nat):List UInt8:=xs.set (k / 8) (UInt8.ofNat (bAt xs (k / 8) &&& (255-2 ^ (k % 8))))
def AV (xs:List UInt8) (n:Int):List UInt8:=if 1≤n∧n≤128 then RJ xs (n-1).toNat else xs
def DJ (xs:List UInt8) (n:Int):List UInt8:=if 1≤n∧n≤128 then Qp xs (n-1).toNat else xs
theorem Gt (k:Nat):2 ^ (k % 8)<256:=by
  have:k % 8<8:=Nat.mod_lt _ ω
  calc 2 ^ (k % 8)≤2 ^ 7:=Nat.pow_le_pow_right ω ω
    _<256:=ω
theorem QN (a b:Nat) (ha:a<256) (hb:b<256):a ||| b<256:=Nat.or_lt_two_pow (n:=8) ha hb
theorem NN (a b:Nat) (ha:a<256):a &&& b<256:=Nat.lt_of_le_of_lt Nat.and_le_left ha
theorem Kt (xs:List UInt8) (k j:Nat) (hx:xs.length=16) (hk:k<128):Ei (RJ xs k) j=(Ei xs j||decide (j=k)):=by
  unfold Ei RJ
  rw [Uj _ _ _ _ (QN _ _ (Dq _ _) (Gt _)) ω]
  by_cases h:k / 8=j / 8
  · rw [if_pos h,Nat.testBit_or,Nat.testBit_two_pow,h]
    congr 1
    apply decide_eq_decide.2
    constructor
    · intro h2;omega
    · intro h2;subst h2;rfl
  · rw [if_neg h,decide_eq_false (by intro h2;subst h2;exact h rfl),Bool.or_false]
theorem Ks (xs:List UInt8) (k j:Nat) (hx:xs.length=16) (hk:k<128):Ei (Qp xs k) j=(Ei xs j&&!decide (j=k)):=by
  unfold Ei Qp
  rw [Uj _ _ _ _ (NN _ _ (Dq _ _)) ω]
  by_cases h:k / 8=j / 8
  · have e1:255-2 ^ (k % 8)=2 ^ 8-(2 ^ (k % 8)+1):=ω
    rw [if_pos h,Nat.testBit_and,e1,Nat.testBit_two_pow_sub_succ (Gt k),Nat.testBit_two_pow,h]
    have hj:j % 8<8:=Nat.mod_lt _ ω
    rw [decide_eq_true hj,Bool.true_and]
    congr 2
    apply decide_eq_decide.2
    constructor
    · intro h2;omega
    · intro h2;subst h2;rfl
  · rw [if_neg h,decide_eq_false (by intro h2;subst h2;exact h rfl)];simp
theorem AY (xs:List UInt8) (n:Int):(AV xs n).length=xs.length:=by unfold AV RJ;split<;>simp
theorem Aw (xs:List UInt8) (n:Int):(DJ xs n).length=xs.length:=by unfold DJ Qp;split<;>simp
end
section
open Go.RowKit Go.WideShapes
theorem Dj (n:Int) (w:World) :
    Calls Tryz.prog 109 #[ν n] w fun e w'=>e=.returned (.bool (decide (1≤n∧n≤128)))∧w=w':=by
  rcases (ω:n<1∨(1≤n∧n≤128)∨(1≤n∧128<n)) with h | ⟨h1,h2⟩ | ⟨h1,h2⟩
  · rw [decide_eq_false ω]
    go_enter Tryz.func109,Tryz.ntmps109
    go_wp2
    go_ret
    exact ⟨rfl,rfl⟩
  · rw [decide_eq_true ω]
    go_enter Tryz.func109,Tryz.ntmps109
    go_wp2
    go_ret
    exact ⟨Bq (by first | rfl | (simp;done) | (simp;omega)),rfl⟩
  · rw [decide_eq_false ω]
    go_enter Tryz.func109,Tryz.ntmps109
    go_wp2
    go_ret
    exact ⟨Bq (by first | rfl | (simp;done) | (simp;omega)),rfl⟩
theorem OR (k:Nat) (w:World) (hk:k<128) :
    Calls Tryz.prog 110 #[ν ((k:Int)+1)] w fun e w'=>e=.returned (.int .u8 ((2 ^ (k % 8):Nat):Int))∧w=w':=by
  have h1:(k:Int)+1-1=k:=ω
  have h2:(k:Int).tmod 8=((k % 8:Nat):Int):=rfl
  have h3:IntKind.i64.wrap (k:Int)=k:=IntWalk.i64_in _ ω
  have h4:k % 8<8:=Nat.mod_lt _ ω
  generalize k % 8=r at *
  have h5:IntKind.i64.wrap (r:Int)=r:=IntWalk.i64_in _ ω
  rcases (ω:r=0∨r=1∨r=2∨r=3∨r=4∨r=5∨r=6∨r=7) with rfl | rfl | rfl | rfl | rfl | rfl | rfl | rfl
  all_goals
    go_enter Tryz.func110,Tryz.ntmps110
    go_wp2
    go_ret
    exact ⟨rfl,rfl⟩
theorem YE (xs:List UInt8) (w:World) {j:Nat} (hj:j<xs.length):∀ n,((w.alloc (.cells (Al xs) 52)).drewN n).cell? ⟨w.heap.size,j,none⟩=some (.int .u8 (bAt xs j:Int)):=by
  intro n
  have H:Blk ((w.alloc (.cells (Al xs) 52)).drewN n) w.heap.size 52 (xs.map Af):=heap_alloc_new w _
  rw [Blk.cell H (i:=j) (by simpa using hj)]
  simp [Af,DW hj]
theorem RQ (xs:List UInt8) (n:Int) (w:World) (hx:xs.length=16) (hn:-9223372036854775808≤n∧n≤9223372036854775807) :
    Calls Tryz.prog 76 #[.agg (Al xs),ν n] w fun e w'=>e=.returned (.bool (CM xs n))∧Below w.heap.size w w':=by
  by_cases h:1≤n∧n≤128
  · obtain ⟨k,rfl⟩:∃ k:Nat,n=(k:Int)+1:=⟨(n-1).toNat,ω⟩
    have hk:k<128:=ω
    have hU:CM xs ((k:Int)+1)=Ei xs k:=by
      unfold CM;rw [decide_eq_true h];simp
    rw [hU]
    have d1:decide (1≤(k:Int)+1∧(k:Int)+1≤128)=true:=decide_eq_true h
    have h1:(k:Int)+1-1=k:=ω
    have h2:(k:Int).tdiv 8=((k / 8:Nat):Int):=rfl
    have h3:IntKind.i64.wrap (k:Int)=k:=IntWalk.i64_in _ ω
    have h4:k / 8<16:=ω
    have h5:IntKind.i64.wrap ((k / 8:Nat):Int)=(k / 8:Nat):=IntWalk.i64_in _ ω
    have hc:=YE xs w (ω:k / 8<xs.length) 0
    change (w.alloc (.cells (Al xs) 52)).cell? _=_ at hc
    have hand:=u8_and_nat (bAt xs (k / 8)) (2 ^ (k % 8)) (Dq _ _) (by have:k % 8<8:=Nat.mod_lt _ ω;calc 2 ^ (k % 8)≤2 ^ 7:=Nat.pow_le_pow_right ω ω
                                                                                 _<256:=ω)
    have hbit:=Aaa (bAt xs (k / 8)) (k % 8)
    have hbb:Ei xs k=(bAt xs (k / 8)).testBit (k % 8):=rfl
    rw [hbb]
    have HB:=hid (fun w1=>OR k w1 hk)
    generalize k / 8=q at *
    generalize k % 8=r at *
    generalize bAt xs q=x at *
    generalize (x.testBit r)=tb at *
    generalize ((2 ^ r:Nat):Int)=p at *
    go_enter Tryz.func76,Tryz.ntmps76
    go_wp2_with fail
    go_region_with (first
      | (go_at_call 109;refine (Dj _ _).mono ?_;rintro e w1 ⟨rfl,rfl⟩;rw [d1])
      | (go_at_call 110;refine (HB.out _).mono ?_;rintro e w1 ⟨rfl,rfl⟩))
    all_goals
      go_wp2_with fail
      go_ret
      exact ⟨rfl,((Below.refl _ w).alloc (Nat.le_refl _) _).drew⟩
  · have hU:CM xs n=false:=by unfold CM;rw [decide_eq_false h];rfl
    rw [hU]
    have d1:decide (1≤n∧n≤128)=false:=decide_eq_false h
    go_enter Tryz.func76,Tryz.ntmps76
    go_wp2_with fail
    first
    | (go_region_with (first
      | (go_at_call 109;refine (Dj _ _).mono ?_;rintro e w1 ⟨rfl,rfl⟩;rw [d1])))
    | fail
    all_goals
      go_wp2_with fail
      go_ret
      exact ⟨rfl,((Below.refl _ w).alloc (Nat.le_refl _) _).drew⟩
end
section
open Go.RowKit Go.WideShapes
theorem Io (w:World) (xs:List UInt8) (o:Obj):Blk ((w.alloc (.cells (Al xs) 52)).alloc o) w.heap.size 52 (xs.map Af):=
  Blk.mono (show Blk (w.alloc (.cells (Al xs) 52)) w.heap.size 52 (xs.map Af) from heap_alloc_new w _) ((Below.refl _ _).alloc (Nat.le_refl _) o)
theorem PR (w:World) (xs:List UInt8) {j:Nat} (hj:j<xs.length) (o:Obj):((w.alloc (.cells (Al xs) 52)).alloc o).cell? ⟨w.heap.size,j,none⟩=some (.int .u8 (bAt xs j:Int)):=by
  rw [Blk.cell (Io w xs o) (i:=j) (by simpa using hj)]
  simp [Af,DW hj]
theorem LS (w:World) (xs:List UInt8) (j:Nat) (o:Obj):((w.alloc (.cells (Al xs) 52)).alloc o).frozen? ⟨w.heap.size,j,none⟩=false:=Blk.frozen (Io w xs o) j
def AF:List UInt8:=List.replicate 16 0
theorem LF (w:World) (xs:List UInt8):Blk ((w.alloc (.cells (Al xs) 52)).alloc (.cells (Al AF) 52)) (w.heap.size+1) 52 (AF.map Af):=by
  have:=heap_alloc_new (w.alloc (.cells (Al xs) 52)) (.cells (Al AF) 52)
  rw [show (w.alloc (.cells (Al xs) 52)).heap.size=w.heap.size+1 from by simp] at this
  exact this
theorem NA:(#[.int .u8 0,.int .u8 0,.int .u8 0,.int .u8 0,.int .u8 0,.int .u8 0,.int .u8 0,.int .u8 0,.int .u8 0,.int .u8 0,.int .u8 0,.int .u8 0,.int .u8 0,.int .u8 0,.int .u8 0,.int .u8 0]:Array Value)=Al AF:=rfl
theorem Qz (xs:List UInt8) (q v:Nat) (hv:v<256):(Al xs).setIfInBounds q (.int .u8 (v:Int))=Al (xs.set q (UInt8.ofNat v)):=by
  unfold Al;rw [← map_set xs q v hv];simp
theorem RK (xs:List UInt8) (n:Int) (w:World) (hx:xs.length=16) (hn:-9223372036854775808≤n∧n≤9223372036854775807) :
    Calls Tryz.prog 108 #[.agg (Al xs),ν n] w fun e w'=>e=.returned (.agg (Al (AV xs n)))∧Below w.heap.size w w':=by
  by_cases h:1≤n∧n≤128
  · obtain ⟨k,rfl⟩:∃ k:Nat,n=(k:Int)+1:=⟨(n-1).toNat,ω⟩
    have hk:k<128:=ω
    have hU:AV xs ((k:Int)+1)=xs.set (k / 8) (UInt8.ofNat (bAt xs (k / 8) ||| 2 ^ (k % 8))):=by
      unfold AV;rw [if_pos h];simp [RJ]
    rw [hU]
    have d1:decide (1≤(k:Int)+1∧(k:Int)+1≤128)=true:=decide_eq_true h
    have h1:(k:Int)+1-1=k:=ω
    have h2:(k:Int).tdiv 8=((k / 8:Nat):Int):=rfl
    have h3:IntKind.i64.wrap (k:Int)=k:=IntWalk.i64_in _ ω
    have h4:k / 8<16:=ω
    have h5:IntKind.i64.wrap ((k / 8:Nat):Int)=(k / 8:Nat):=IntWalk.i64_in _ ω
    have hc:=PR w xs (ω:k / 8<xs.length)
    have hf:=LS w xs (k / 8)
    have hop:=u8_or_nat (bAt xs (k / 8)) (2 ^ (k % 8)) (Dq _ _) (Gt k)
    have hv:bAt xs (k / 8) ||| 2 ^ (k % 8)<256:=QN _ _ (Dq _ _) (Gt k)
    have hset:=Qz xs (k / 8) (bAt xs (k / 8) ||| 2 ^ (k % 8)) hv
    have hls:(xs.set (k / 8) (UInt8.ofNat (bAt xs (k / 8) ||| 2 ^ (k % 8)))).length=16:=by simpa using hx
    have HB:=hid (fun w1=>OR k w1 hk)
    generalize xs.set (k / 8) (UInt8.ofNat (bAt xs (k / 8) ||| 2 ^ (k % 8)))=ys at *
    generalize k / 8=q at *
    generalize k % 8=r at *
    generalize bAt xs q=x at *
    generalize hval:(x ||| 2 ^ r:Nat)=val at *
    generalize ((2 ^ r:Nat):Int)=p at *
    have HS:=hid hset
    clear hset hval
    go_enter Tryz.func108,Tryz.ntmps108
    go_wp2_with fail
    refine (Dj _ _).mono ?_
    rintro e w1 ⟨rfl,rfl⟩
    rw [d1]
    go_wp2_with fail
    rw [NA]
    first
    | (go_region_with (first
        | (go_at_call 110;refine (HB.out _).mono ?_;rintro e w1 ⟨rfl,rfl⟩)))
    | fail
    all_goals
      rw [HS.out]
      have K0:=Blk.drew (Io w ys (.cells (Al AF) 52))
      have N0:=Blk.drew (LF w ys)
      have B0:Below w.heap.size w ((w.alloc (.cells (Al ys) 52)).alloc (.cells (Al AF) 52)).drew:=(((Below.refl _ w).alloc (Nat.le_refl _) _).alloc (by simp) _).drew
      generalize ((w.alloc (.cells (Al ys) 52)).alloc (.cells (Al AF) 52)).drew=w2 at *
      go_wp2_with (first
        | (with_reducible refine Ez rfl _ rfl w.heap.size rfl ys hls K0 ?_)
        | (with_reducible refine DR rfl _ _ rfl (w.heap.size+1) rfl ys rfl hls N0 rfl ?_;intro w3 k3 g3))
      refine bodyPost_ret (FS rfl rfl k3 hls) rfl ⟨rfl,?_⟩
      exact B0.grown g3 B0.size (fun k hk=>by cases hk;omega)
  · have hU:AV xs n=xs:=by unfold AV;rw [if_neg h]
    rw [hU]
    have d1:decide (1≤n∧n≤128)=false:=decide_eq_false h
    go_enter Tryz.func108,Tryz.ntmps108
    go_wp2_with fail
    refine (Dj _ _).mono ?_
    rintro e w1 ⟨rfl,rfl⟩
    rw [d1,NA]
    have K0:=Io w xs (.cells (Al AF) 52)
    have N0:=LF w xs
    have B0:Below w.heap.size w ((w.alloc (.cells (Al xs) 52)).alloc (.cells (Al AF) 52)):=(((Below.refl _ w).alloc (Nat.le_refl _) _).alloc (by simp) _)
    generalize ((w.alloc (.cells (Al xs) 52)).alloc (.cells (Al AF) 52))=w2 at *
    go_wp2_with (first
      | (with_reducible refine Ez rfl _ rfl w.heap.size rfl xs hx K0 ?_)
      | (with_reducible refine DR rfl _ _ rfl (w.heap.size+1) rfl xs rfl hx N0 rfl ?_;intro w3 k3 g3))
    refine bodyPost_ret (FS rfl rfl k3 hx) rfl ⟨rfl,?_⟩
    exact B0.grown g3 B0.size (fun k hk=>by cases hk;omega)
theorem Yh (xs:List UInt8) (n:Int) (w:World) (hx:xs.length=16) (hn:-9223372036854775808≤n∧n≤9223372036854775807) :
    Calls Tryz.prog 106 #[.agg (Al xs),ν n] w fun e w'=>e=.returned (.agg (Al (DJ xs n)))∧Below w.heap.size w w':=by
  by_cases h:1≤n∧n≤128
  · obtain ⟨k,rfl⟩:∃ k:Nat,n=(k:Int)+1:=⟨(n-1).toNat,ω⟩
    have hk:k<128:=ω
    have hU:DJ xs ((k:Int)+1)=xs.set (k / 8) (UInt8.ofNat (bAt xs (k / 8) &&& (255-2 ^ (k % 8)))):=by
      unfold DJ;rw [if_pos h];simp [Qp]
    rw [hU]
    have d1:decide (1≤(k:Int)+1∧(k:Int)+1≤128)=true:=decide_eq_true h
    have h1:(k:Int)+1-1=k:=ω
    have h2:(k:Int).tdiv 8=((k / 8:Nat):Int):=rfl
    have h3:IntKind.i64.wrap (k:Int)=k:=IntWalk.i64_in _ ω
    have h4:k / 8<16:=ω
    have h5:IntKind.i64.wrap ((k / 8:Nat):Int)=(k / 8:Nat):=IntWalk.i64_in _ ω
    have hc:=PR w xs (ω:k / 8<xs.length)
    have hf:=LS w xs (k / 8)
    have hop:=u8_andNot_nat (bAt xs (k / 8)) (2 ^ (k % 8)) (Dq _ _) (Gt k)
    have hv:bAt xs (k / 8) &&& (255-2 ^ (k % 8))<256:=NN _ _ (Dq _ _)
    have hset:=Qz xs (k / 8) (bAt xs (k / 8) &&& (255-2 ^ (k % 8))) hv
    have hls:(xs.set (k / 8) (UInt8.ofNat (bAt xs (k / 8) &&& (255-2 ^ (k % 8))))).length=16:=by simpa using hx
    have HB:=hid (fun w1=>OR k w1 hk)
    generalize xs.set (k / 8) (UInt8.ofNat (bAt xs (k / 8) &&& (255-2 ^ (k % 8))))=ys at *
    generalize k / 8=q at *
    generalize k % 8=r at *
    generalize bAt xs q=x at *
    generalize hval:(x &&& (255-2 ^ r):Nat)=val at *
    generalize ((2 ^ r:Nat):Int)=p at *
    have HS:=hid hset
    clear hset hval
    go_enter Tryz.func106,Tryz.ntmps106
    go_wp2_with fail
    refine (Dj _ _).mono ?_
    rintro e w1 ⟨rfl,rfl⟩
    rw [d1]
    go_wp2_with fail
    rw [NA]
    first
    | (go_region_with (first
        | (go_at_call 110;refine (HB.out _).mono ?_;rintro e w1 ⟨rfl,rfl⟩)))
    | fail
    all_goals
      rw [HS.out]
      have K0:=Blk.drew (Io w ys (.cells (Al AF) 52))
      have N0:=Blk.drew (LF w ys)
      have B0:Below w.heap.size w ((w.alloc (.cells (Al ys) 52)).alloc (.cells (Al AF) 52)).drew:=(((Below.refl _ w).alloc (Nat.le_refl _) _).alloc (by simp) _).drew
      generalize ((w.alloc (.cells (Al ys) 52)).alloc (.cells (Al AF) 52)).drew=w2 at *
      go_wp2_with (first
        | (with_reducible refine Ez rfl _ rfl w.heap.size rfl ys hls K0 ?_)
        | (with_reducible refine DR rfl _ _ rfl (w.heap.size+1) rfl ys rfl hls N0 rfl ?_;intro w3 k3 g3))
      refine bodyPost_ret (FS rfl rfl k3 hls) rfl ⟨rfl,?_⟩
      exact B0.grown g3 B0.size (fun k hk=>by cases hk;omega)
  · have hU:DJ xs n=xs:=by unfold DJ;rw [if_neg h]
    rw [hU]
    have d1:decide (1≤n∧n≤128)=false:=decide_eq_false h
    go_enter Tryz.func106,Tryz.ntmps106
    go_wp2_with fail
    refine (Dj _ _).mono ?_
    rintro e w1 ⟨rfl,rfl⟩
    rw [d1,NA]
    have K0:=Io w xs (.cells (Al AF) 52)
    have N0:=LF w xs
    have B0:Below w.heap.size w ((w.alloc (.cells (Al xs) 52)).alloc (.cells (Al AF) 52)):=(((Below.refl _ w).alloc (Nat.le_refl _) _).alloc (by simp) _)
    generalize ((w.alloc (.cells (Al xs) 52)).alloc (.cells (Al AF) 52))=w2 at *
    go_wp2_with (first
      | (with_reducible refine Ez rfl _ rfl w.heap.size rfl xs hx K0 ?_)
      | (with_reducible refine DR rfl _ _ rfl (w.heap.size+1) rfl xs rfl hx N0 rfl ?_;intro w3 k3 g3))
    refine bodyPost_ret (FS rfl rfl k3 hx) rfl ⟨rfl,?_⟩
    exact B0.grown g3 B0.size (fun k hk=>by cases hk;omega)
end
section
open Go.RowKit Go.WideShapes
theorem OI {w:World} {ops:Array Oper} {rest:List Oper} {o:Oper} {act:Act} {Q:Exit→Act→World→Prop} (x:Operand)
    (ho:o.op=.load 52 x) (g:Nat) (hx:act.eval x=π g) {e:TypeId} (xs:List UInt8) (hl:xs.length=16) (hb:Blk w g e (xs.map Af))
    (hw:Region.wanted o (yielded ops act.tmps)=true)
    (h:wpList Tryz.prog ops Q rest (act.put o.dst (.agg (Al xs))) w):wpList Tryz.prog ops Q (o::rest) act w:=
  wpList_step fun K hK=>by
    simp only [hw,if_true]
    exact wp_load_mid 52 x ho g 0 hx (xs.map Af) _ (Gi hb) υ52 rfl (by rw [JK];simp [hl]) (hK _ _ h)
def CJ (xs:List UInt8) (frm:Int):Nat→Nat→Int
  | 0,_=>0
  | k+1,i=>if frm≤(i:Int)+1∧Ei xs i=false then (i:Int)+1 else CJ xs frm k (i+1)
def As (xs:List UInt8) (frm:Int):Int:=CJ xs frm 128 0
theorem SB (xs:List UInt8) (frm:Int) {j:Nat} (h:j<128):CJ xs frm (128-j) j=if frm≤(j:Int)+1∧Ei xs j=false then (j:Int)+1 else CJ xs frm (128-(j+1)) (j+1):=by
  rw [show 128-j=(128-(j+1))+1 by omega];rfl
theorem Nt (xs:List UInt8) {j:Nat} (h:j<128):CM xs ((j:Int)+1)=Ei xs j:=by
  unfold CM;rw [decide_eq_true ω];simp
theorem VK (xs:List UInt8) (frm:Int) (w:World) (hx:xs.length=16) (hn:-9223372036854775808≤frm∧frm≤9223372036854775807) :
    Calls Tryz.prog 107 #[.agg (Al xs),ν frm] w fun e w'=>e=.returned (ν (As xs frm))∧Below w.heap.size w w':=by
  have K0:Blk (w.alloc (.cells (Al xs) 52)) w.heap.size 52 (xs.map Af):=heap_alloc_new w _
  have B0:Below w.heap.size w (w.alloc (.cells (Al xs) 52)):=(Below.refl _ w).alloc (Nat.le_refl _) _
  generalize hR:As xs frm=R
  have HR:=hid (show CJ xs frm (128-0) 0=R from hR)
  clear hR
  go_enter Tryz.func107,Tryz.ntmps107
  go_wp2_with fail
  generalize (w.alloc (.cells (Al xs) 52))=w1 at *
  go_loopw [7] (fun i wr=>∃ j:Nat,j≤128∧i=ν j∧CJ xs frm (128-j) j=R∧Blk wr w.heap.size 52 (xs.map Af)∧Below w.heap.size w wr)
    (fun i _=>128-(intOf i).toNat)
  case atStart=>exact ⟨0,ω,rfl,HR.out,K0,B0⟩
  case round=>
    obtain ⟨j,hj,rfl,hp,kr,br⟩:=hrel
    by_cases hlt:j<128
    · rw [SB xs frm hlt] at hp
      have HU:=hid (fun w1=>RQ xs ((j:Int)+1) w1 hx ω)
      rw [Nt xs hlt] at HU
      by_cases hf:frm≤(j:Int)+1
      · cases hb:Ei xs j
        · rw [if_pos ⟨hf,hb⟩] at hp
          rw [hb] at HU
          have HP:=hid hp
          clear hb hp HR
          go_wp2_with (first
            | ((with_reducible refine OI (.tmp 2) rfl w.heap.size rfl xs hx kr ?hw ?_);(case hw=>exact (Eq.refl true)))
            | (go_at_call 76;refine (HU.out _).mono ?_;rintro e w2 ⟨rfl,b2⟩))
          go_ret
          exact ⟨GS HP.out,AO br b2 br.size⟩
        · rw [if_neg (by rw [hb];simp)] at hp
          rw [hb] at HU
          have HP:=hid hp
          clear hb hp HR
          go_wp2_with (first
            | ((with_reducible refine OI (.tmp 2) rfl w.heap.size rfl xs hx kr ?hw ?_);(case hw=>exact (Eq.refl true)))
            | (go_at_call 76;refine (HU.out _).mono ?_;rintro e w2 ⟨rfl,b2⟩))
          go_roundw
          case rel=>exact ⟨j+1,ω,by go_num,HP.out,Blk.mono kr b2,AO br b2 br.size⟩
          case measure=>simp [intOf];omega
      · rw [if_neg (fun h=>hf h.1)] at hp
        have HP:=hid hp
        clear hp HR HU
        go_wp2_with fail
        go_roundw
        case rel=>exact ⟨j+1,ω,by go_num,HP.out,kr,br⟩
        case measure=>simp [intOf];omega
    · obtain rfl:j=128:=ω
      have HP:=hid hp
      clear hp HR
      go_wp2_with fail
      go_ret
      exact ⟨GS HP.out,br⟩
def Cg (xs:List UInt8) (n:Nat):List Nat:=(List.range n).filter (Ei xs)
def Adq (n:Nat):Value:=ν ((n:Int)+1)
theorem Xl (xs:List UInt8) (j:Nat):Cg xs (j+1)=if Ei xs j=true then Cg xs j++[j] else Cg xs j:=by
  unfold Cg
  rw [List.range_succ,List.filter_append]
  cases h:Ei xs j<;>simp [h]
theorem Uh (xs:List UInt8) (j:Nat):(Cg xs j).length≤j:=by
  unfold Cg
  have:=List.length_filter_le (Ei xs) (List.range j)
  simpa using this
theorem EI:ElemT Tryz.prog 48 3 1 8:=Qd υ48 (z:=ν 0) κ rfl ω
theorem ZZ (xs:List UInt8) (w:World) (hx:xs.length=16) :
    Calls Tryz.prog 44 #[.agg (Al xs)] w fun e w'=>∃ a c,e=.returned (.slice a (Cg xs 128).length c)∧Own w' w.heap.size 3 1 a (Cg xs 128).length c ((Cg xs 128).map Adq)∧Below w.heap.size w w':=by
  have K0:Blk (w.alloc (.cells (Al xs) 52)) w.heap.size 52 (xs.map Af):=heap_alloc_new w _
  have B0:Below w.heap.size w (w.alloc (.cells (Al xs) 52)):=(Below.refl _ w).alloc (Nat.le_refl _) _
  go_enter Tryz.func44,Tryz.ntmps44
  go_wp2_with fail
  generalize (w.alloc (.cells (Al xs) 52))=w1 at *
  have hsz1:w.heap.size+1≤w1.heap.size:=K0.lt
  go_loopw [3,5] (fun l i wr=>∃ (j:Nat) (a':Option Addr) (c':Nat),j≤128∧i=ν j∧l=.slice a' (Cg xs j).length c'∧Own wr (w.heap.size+1) 3 1 a' (Cg xs j).length c' ((Cg xs j).map Adq)∧Blk wr w.heap.size 52 (xs.map Af)∧Below w.heap.size w wr)
    (fun _ i _=>128-(intOf i).toNat)
  case atStart=>exact ⟨0,none,0,ω,rfl,rfl,Own.nil _ _ _ _,K0,B0⟩
  case round=>
    obtain ⟨j,a',c',hj,rfl,rfl,ho,kr,br⟩:=hrel
    have hstep:=Xl xs j
    have hll:=Uh xs j
    by_cases hlt:j<128
    · have HU:=hid (fun w1=>RQ xs ((j:Int)+1) w1 hx ω)
      rw [Nt xs hlt] at HU
      cases hb:Ei xs j
      · rw [if_neg (by rw [hb];simp)] at hstep
        rw [hb] at HU
        have HS:=hid hstep
        clear hb hstep
        generalize Cg xs j=L at *
        go_wp2_with (first
          | ((with_reducible refine Ez rfl (.tmp 1) rfl w.heap.size rfl xs hx kr ?_))
          | (go_at_call 76;refine (HU.out _).mono ?_;rintro e w2 ⟨rfl,b2⟩))
        go_roundw
        case rel=>exact ⟨j+1,a',c',ω,by go_num,by rw [HS.out],by rw [HS.out];exact Own.mono ho b2,Blk.mono kr b2,AO br b2 br.size⟩
        case measure=>simp [intOf];omega
      · rw [if_pos hb] at hstep
        rw [hb] at HU
        have HS:=hid hstep
        clear hb hstep
        generalize Cg xs j=L at *
        go_wp2_with (first
          | ((with_reducible refine Ez rfl (.tmp 1) rfl w.heap.size rfl xs hx kr ?_))
          | (go_at_call 76;refine (HU.out _).mono ?_;rintro e w2 ⟨rfl,b2⟩;have b2s:=b2.size)
          | (at_builtin;refine CF rfl (.tmp 12) (.tmp 15) rfl EI (w.heap.size+1) rfl rfl ((Own.mono ho b2).alloc _) (Zo _ _ _) (by simp [Value.oneCell']) ω ω (by have:=kr.lt;simp;omega) ?_;intro a3 c3 w3 o3 g3 b3))
        go_roundw
        case rel=>
          refine ⟨j+1,a3,c3,ω,by go_num,?_,?_,?_,?_⟩
          · rw [HS.out];simp
          · rw [HS.out];simpa [Adq] using o3
          · exact Blk.below ((Blk.mono kr b2).mono ((Below.refl _ _).alloc (Nat.le_refl _) _)) b3 ω
          · exact (AO br b2 br.size |>.alloc (by have:=kr.lt;omega) _).trans (b3.mono ω)
        case measure=>simp [intOf];omega
    · obtain rfl:j=128:=ω
      clear hstep
      go_wp2_with fail
      go_ret
      exact ⟨_,_,rfl,ho.low ω,br⟩
theorem NS (xs:List UInt8) (w:World) (hx:xs.length=16) :
    Calls Tryz.prog 19 #[.agg (Al xs)] w fun e w'=>e=.returned (ν (Cg xs 128).length)∧Below w.heap.size w w':=by
  have K0:Blk (w.alloc (.cells (Al xs) 52)) w.heap.size 52 (xs.map Af):=heap_alloc_new w _
  have B0:Below w.heap.size w (w.alloc (.cells (Al xs) 52)):=(Below.refl _ w).alloc (Nat.le_refl _) _
  have HA:=hid (fun w1=>ZZ xs w1 hx)
  have hll:=Uh xs 128
  generalize Cg xs 128=L at *
  go_enter Tryz.func19,Tryz.ntmps19
  go_wp2_with (first
    | ((with_reducible refine Ez rfl (.tmp 1) rfl w.heap.size rfl xs hx K0 ?_))
    | (go_at_call 44;refine (HA.out _).mono ?_;rintro e w2 ⟨a2,c2,rfl,o2,b2⟩))
  go_ret
  exact ⟨rfl,AO B0 b2 B0.size⟩
end
section
open Go.RowKit Go.WideShapes
def woB (xs ys:List UInt8) (j:Nat):Nat:=bAt xs j &&& (255-bAt ys j)
def ZO (xs ys:List UInt8) (i:Nat):List UInt8:=(List.range 16).map fun j=>UInt8.ofNat (if j<i then woB xs ys j else bAt xs j)
def Agw (xs ys:List UInt8):List UInt8:=ZO xs ys 16
end
section
open Go.RowKit Go.WideShapes
end
section
open Go.RowKit Go.WideShapes
theorem Xq {w:World} {g:Nat} {e:TypeId} {xs:List UInt8} (h:Blk w g e (xs.map Af)) (hl:xs.length=16):Bp w (some ⟨g,0,none⟩) 16 xs:=by
  refine ⟨by simp,ω,by unfold maxLen;omega,fun h=>by (cases h),fun _=>⟨g,0,rfl,h.lt,fun j u hu=>?_⟩⟩
  have:=Gi h j u hu
  exact this
theorem Td (xs:List UInt8) (w:World) (hx:xs.length=16) :
    Calls Tryz.prog 77 #[.agg (Al xs)] w fun e w'=>Vg w xs e w':=by
  have K0:Blk (w.alloc (.cells (Al xs) 52)) w.heap.size 52 (xs.map Af):=heap_alloc_new w _
  have R0:=Xq K0 hx
  have B0:Below w.heap.size w (w.alloc (.cells (Al xs) 52)):=(Below.refl _ w).alloc (Nat.le_refl _) _
  rw [← hx] at R0
  go_enter Tryz.func77,Tryz.ntmps77
  go_wp2_with (first
    | (at_builtin;refine CF rfl (.const (.slice none 0 0)) (.tmp 3) rfl E8 w.heap.size rfl (by first | rfl | (rw [← hx];rfl)) (Own.nil _ _ _ _) R0 (CI xs) ω ω (by simp) ?_;intro a1 c1 w1 o1 g1 b1))
  go_ret
  refine ⟨a1,c1,?_,?_,B0.trans b1⟩
  · first | rfl | (rw [hx];rfl)
  · simpa [Ca] using o1
theorem Kb {fn:Func} {c u:Tmp} (h:fn.results=#[.cell c 52,.tmp u]) {tmps:Array Value} {w:World} {g:Nat} {xs:List UInt8} (hc:tmps.getD c undef=π g) {e:TypeId} (hb:Blk w g e (xs.map Af)) (hl:xs.length=16) :
    (results fn tmps).run Tryz.prog w=.ok (.tuple #[.agg (Al xs),tmps.getD u undef]) w:=by
  have hv:=run_loadVar_mid (P:=Tryz.prog) w g 0 52 (xs.map Af) _ (Gi hb) υ52 rfl (by rw [JK];simp [hl])
  have hc':tmps[c]?.getD undef=π g:=by simpa using hc
  simp [results,h,hc',asAddr,hv,Al]
theorem Xe {w:World} {ops:Array Oper} {rest:List Oper} {o:Oper} {act:Act} {Q:Exit→Act→World→Prop} (hgd:o.guard=none) (x:Operand)
    (ho:o.op=.load 52 x) (b off:Nat) (hx:act.eval x=.pointer (some ⟨b,off,none⟩)) (xs:List UInt8) (hl:xs.length=16) {c:Nat} (hr:Bp w (some ⟨b,off,none⟩) c xs)
    (h:wpList Tryz.prog ops Q rest (act.put o.dst (.agg (Al xs))) w):wpList Tryz.prog ops Q (o::rest) act w:=
  wpList_load_mid hgd 52 x ho b off hx (xs.map Af) _ (fun j v hv=>by
    obtain ⟨b',off',e,_,hc⟩:=hr.at ω
    cases e
    exact hc j v hv) υ52 rfl (by rw [JK];simp [hl]) h
theorem TE (a:Option Addr) (c:Nat) (w:World):(Instr.arrayAt 52 (.slice a 16 c)).run Tryz.prog w=.ok (.pointer a) w:=by
  simp [Instr.arrayAt,run_underlying υ52]
def Gw (xs:List UInt8):List UInt8:=if xs.length<16 then AF else xs.take 16
def Zh (xs:List UInt8):Int:=if xs.length<16 then 3 else 0
theorem Wf (a:Option Addr) (c:Nat) (xs:List UInt8) (w:World) (ha:Bp w a c xs) :
    Calls Tryz.prog 43 #[.slice a xs.length c] w fun e w'=>e=.returned (.tuple #[.agg (Al (Gw xs)),ν (Zh xs)])∧Below w.heap.size w w':=by
  have hl:=EL ha
  have hcap:xs.length≤c:=ha.2.1
  have N0:Blk (w.alloc (.cells (Al AF) 52)) w.heap.size 52 (AF.map Af):=heap_alloc_new w _
  have B0:Below w.heap.size w (w.alloc (.cells (Al AF) 52)):=(Below.refl _ w).alloc (Nat.le_refl _) _
  have hr:=Row.alloc ha (.cells (Al AF) 52)
  rw [← NA] at N0 B0 hr
  by_cases h:xs.length<16
  · have h1:Gw xs=AF:=if_pos h
    have h2:Zh xs=3:=if_pos h
    rw [h1,h2]
    go_enter Tryz.func43,Tryz.ntmps43
    go_wp2_with (first
      | ((with_reducible refine DR rfl _ _ rfl w.heap.size rfl AF ?hy rfl N0 rfl ?_);(case hy=>rfl);intro w3 k3 g3))
    refine bodyPost_ret (Kb rfl rfl k3 rfl) rfl ⟨rfl,?_⟩
    exact B0.grown g3 B0.size (fun k hk=>by cases hk;omega)
  · have h1:Gw xs=xs.take 16:=if_neg h
    have h2:Zh xs=0:=if_neg h
    rw [h1,h2]
    obtain ⟨b,off,rfl,hb,_⟩:=ha.bytes ω
    have hr:=IC hr 16
    have hl16:(xs.take 16).length=16:=by simp;omega
    have h16:¬ ((xs.length:Int)<16):=ω
    have h16':(16:Nat)≤c:=ω
    have harr:=TE (some ⟨b,off,none⟩) c
    generalize xs.take 16=ys at *
    go_enter Tryz.func43,Tryz.ntmps43
    go_wp2_with (first
      | (with_reducible refine Xe rfl _ rfl b off rfl ys hl16 hr ?_)
      | (with_reducible refine DR rfl _ _ rfl w.heap.size rfl ys rfl hl16 N0 rfl ?_;intro w3 k3 g3))
    refine bodyPost_ret (Kb rfl rfl k3 hl16) rfl ⟨rfl,?_⟩
    exact B0.grown g3 B0.size (fun k hk=>by cases hk;omega)
def Agy (xs:List UInt8) (n:Nat):List Value:=(List.range n).map fun k=>Value.bool (Ei xs k)
end
end Go.Proofs.YtbfgjinpchbajaaGreatDoor
