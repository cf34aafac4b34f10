/- Parts of the proof. -/
import Derived.Test.YtpnknncmacjdkaaGreatDoorQai
namespace Go.Proofs.YtpnknncmacjdkaaGreatDoor
open Go.RowKit
open _root_.Go.Proofs.Tryz
set_option linter.unusedSimpArgs false
set_option linter.unusedVariables false
set_option linter.unusedSectionVars false
set_option maxRecDepth 100000
set_option maxHeartbeats 8000000
section
open Go.RowKit Go.Shelf
theorem Wh {X:Λ} {R:List ByteArray} (h:(R=(Bj X).map Ai∧R.length≤6)∨(6<(Bj X).length∧∃ x∈R,(47:UInt8)∈x.data.toList)) :
    (R.all DJ=true∧Kd X=some R)∨(R.all DJ=false∧Kd X=none):=by
  rcases h with ⟨rfl,h6⟩ | ⟨h6,x,hx,hs⟩
  · rw [List.length_map] at h6
    cases ha:((Bj X).map Ai).all DJ with
    | true=>exact .inl ⟨rfl,if_pos ⟨h6,ha⟩⟩
    | false=>exact .inr ⟨rfl,if_neg (fun q=>by rw [ha] at q;cases q.2)⟩
  · refine .inr ⟨?_,if_neg (fun q=>ω)⟩
    rw [List.all_eq_false]
    exact ⟨x,hx,by rw [OL hs];simp⟩
theorem Jn (X:Λ) (hX:X.length≤1000) (w:World):Calls prog 113 #[σ X] w (Tx w (Cj X)):=by
  by_cases h0:X=[47]
  · subst h0
    have HO:Hid (Cj [47]=some []):=if_pos rfl
    have hl:=Ny [47]
    go_enter func113,ntmps113
    go_wp2_with fail
    go_ret2
    exact Rq HO.out rfl (Below.refl _ _)
  · have e1:((Ai X).toList == [(47:UInt8)])=false:=by rw [Ny];simpa using h0
    have hp:Cj X=NP X:=if_neg h0
    cases X with
    | nil=>
      have HO:=hid (show Cj []=none from hp)
      have HC:=hid (fun w1=>Nn [] (fun b r h=>by cases h) w1)
      clear hp h0
      go_enter func113,ntmps113
      go_wp2_with (go_at_call 135;refine (HC.out _).mono ?_;rintro e w1 ⟨rfl,rfl⟩)
      go_ret2
      exact Iu HO.out rfl (Below.refl _ _)
    | cons b r=>
      by_cases hb:b=47
      · subst hb
        have HO:=hid (show Cj (47::r)=Kd r from hp.trans (by simp [NP]))
        have HC:=hid (fun w1=>RF r w1)
        have hr:r.length≤1000:=by simp at hX;omega
        have HS:=hid (fun w1=>Te r hr w1)
        clear hp h0 hX hr
        go_enter func113,ntmps113
        go_wp2_with (first
          | (go_at_call 135;refine (HC.out _).mono ?_;rintro e w1 ⟨rfl,rfl⟩)
          | (go_at_call 136;fail))
        refine (HS.out w).mono ?_
        rintro e w1 ⟨a,c,R,rfl,o,bb,h⟩
        have h2:=Wh h
        have O:=hid o;have B:=hid bb
        have HA:=fun w2 (q:JF w2 a c R)=>Ol a c R w2 q
        clear o bb h
        rcases h2 with ⟨ha,hn⟩ | ⟨ha,hn⟩
        · rw [ha] at HA
          have HA:=hid HA;have HN:=hid hn
          clear ha hn
          go_wp2_with (go_at_call 137;refine (HA.out _ O.out.row).mono ?_;rintro e w2 ⟨rfl,b2⟩;have O2:=hid (O.out.mono b2);have B2:=hid (Ac B.out b2);clear b2)
          go_ret2
          exact Rr (by rw [HO.out,HN.out]) rfl O2.out B2.out
        · rw [ha] at HA
          have HA:=hid HA;have HN:=hid hn
          clear ha hn
          go_wp2_with (go_at_call 137;refine (HA.out _ O.out.row).mono ?_;rintro e w2 ⟨rfl,b2⟩;have B2:=hid (Ac B.out b2);clear b2)
          go_ret2
          exact Iu (by rw [HO.out,HN.out]) rfl B2.out
      · have HO:=hid (show Cj (b::r)=none from hp.trans (by simp [NP,hb]))
        have HC:=hid (fun w1=>Nn (b::r) (fun b' r' h=>by cases h;exact hb) w1)
        clear hp h0 hb
        go_enter func113,ntmps113
        go_wp2_with (go_at_call 135;refine (HC.out _).mono ?_;rintro e w1 ⟨rfl,rfl⟩)
        go_ret2
        exact Iu HO.out rfl (Below.refl _ _)
def Agh (w:World) (o:Option (List ByteArray)) (e:Ending) (w':World):Prop:=
  (∃ (L:List ByteArray) (x:ByteArray) (a:Ω) (c:Nat),o=some (L++[x])∧c=L.length∧e=.returned (.tuple #[.slice a L.length c,.string x,ν 0])∧JF w' a c L∧Below w.heap.size w w') ∨
  ((o=none∨o=some [])∧e=.returned (.tuple #[.slice none 0 0,.string ⟨#[]⟩,ν 15])∧Below w.heap.size w w')
theorem II {α:Type} (L:List α):L=[]∨∃ A x,L=A++[x]:=by
  rcases List.eq_nil_or_concat L with h | ⟨A,x,h⟩
  · exact .inl h
  · exact .inr ⟨A,x,by rw [h];simp⟩
theorem SG (X:Λ) (hX:X.length≤1000) (w:World):Calls prog 91 #[σ X] w (Agh w (Cj X)):=by
  have HP:=hid (Jn X hX w)
  cases ho:Cj X with
  | none=>
    rw [ho] at HP
    go_enter func91,ntmps91
    go_wp2_with (go_at_call 113;fail)
    refine (HP.out).mono ?_
    rintro e w1 ⟨a,c,rfl,o,b⟩
    have B:=hid b
    clear o b
    simp only [erO,Option.getD_none,List.length_nil]
    go_wp2_with fail
    go_ret3
    exact .inr ⟨.inl rfl,rfl,B.out⟩
  | some L=>
    rw [ho] at HP
    rcases II L with rfl | ⟨A,x,rfl⟩
    · go_enter func91,ntmps91
      go_wp2_with (go_at_call 113;fail)
      refine (HP.out).mono ?_
      rintro e w1 ⟨a,c,rfl,o,b⟩
      have B:=hid b
      clear o b
      simp only [erO,Option.getD_some,List.length_nil]
      go_wp2_with fail
      go_ret3
      exact .inr ⟨.inr rfl,rfl,B.out⟩
    · go_enter func91,ntmps91
      go_wp2_with (go_at_call 113;fail)
      refine (HP.out).mono ?_
      rintro e w1 ⟨a,c,rfl,o,b⟩
      have O:=hid o;have B:=hid b
      clear o b
      simp only [erO,Option.getD_some]
      simp only [Option.getD_some] at O
      have hl:(A++[x]).length=A.length+1:=by simp
      rw [hl]
      have hrow:JF w1 a c (A++[x]):=O.out.row
      obtain ⟨g,off,rfl,hg,hc⟩:=IH hrow ω
      have hlc:A.length+1≤c:=by have:=hrow.2.1;rw [hl] at this;exact this
      have hc9:c≤9223372036854775807:=by have:=hrow.2.2.1;unfold maxLen at this;exact this
      have cx:=hc A.length ω
      have hx:(A++[x])[A.length]' ω=x:=by simp
      rw [hx] at cx
      have HROW:=hid hrow
      clear hc hx hrow hl
      have i1:(A.length:Int)<(A.length:Int)+1:=ω
      have i2:(A.length:Int)≤c:=ω
      have i3:(0:Int)≤A.length:=ω
      go_wp2_with fail
      go_quiet (fail)
      go_wp2_with fail
      go_ret3
      refine .inl ⟨A,x,some ⟨g,off,none⟩,A.length,rfl,rfl,rfl,?_,Ef B.out _⟩
      obtain ⟨h1,h2,h3,h4,h5⟩:=HROW.out
      refine ⟨by simp,Nat.le_refl _,by unfold maxLen;omega,(fun h=>by cases h),fun hn=>?_⟩
      obtain ⟨b',o',e',hb',hc'⟩:=h5 (by simp)
      refine ⟨b',o',e',hb',fun j u hu=>hc' j u ?_⟩
      rw [List.map_append,List.getElem?_append_left (by have:=(List.getElem?_eq_some_iff.1 hu).1;exact this)]
      exact hu
end
section
def EK:Λ:=[67,77,78,49,0,0,0,0]
def Ah4:Int:=1152921504606846976
def Bz (n:Int):Λ:=if btw n 1152921504606846976 then DW (BQ EK [(n,8)]) else []
theorem EJ {n:Int} (h:btw n 1152921504606846976=true):(BQ EK [(n,8)]).length=16:=by
  have h':0≤n:=by unfold btw at h;simp at h;exact h.1
  simp [BQ,Ar,Bp,h',Ay,EK]
theorem Mx (w:World) (fs:List (Int×Int)) (e:TypeId) (h:fs.length≤1000):Row (w.alloc (.cells (Cx fs).toArray e)) 2 (some ⟨w.heap.size,0,none⟩) fs.length fs.length (Cx fs):=by
  refine ⟨IY fs,Nat.le_refl _,by unfold maxLen;omega,fun h=>by (cases h),fun _=>⟨w.heap.size,0,rfl,by simp,fun j u hu=>?_⟩⟩
  have hh:=heap_alloc_new w (.cells (Cx fs).toArray e)
  unfold World.cell?
  rw [show (⟨w.heap.size,0+j,none⟩:Addr).block=w.heap.size from rfl,hh]
  simpa using hu
theorem FB (n:Int) (w:World) (hn:n≤9223372036854775807) :
    Calls prog 53 #[ν n] w fun e w'=>∃ a c,e=.returned (.tuple #[.slice a (Bz n).length c,ν (if btw n 1152921504606846976 then 0 else 1)])∧CF w' w.heap.size a c (Bz n)∧Below w.heap.size w w':=by
  by_cases hb:btw n 1152921504606846976=true
  · have hL:Bz n=DW (BQ EK [(n,8)]):=by unfold Bz;rw [if_pos hb]
    have hE:(if btw n 1152921504606846976 then (0:Int) else 1)=0:=if_pos hb
    have hl:=EJ hb
    have hl60:(BQ EK [(n,8)]).length≤60:=ω
    rw [hL,hE]
    have HB:=hid hb;have HL:=hid hl60
    clear hb hL hE hl hl60
    go_enter func53,ntmps53
    go_wp2_with fail
    refine (GQ _ _ _).mono ?_
    rintro e w1 ⟨rfl,rfl⟩
    rw [HB.out]
    go_wp2_with fail
    refine (QX ⟨#[67,77,78,49,0,0,0,0]⟩ _ _ [(n,8)] _ (by decide) (Mx w [(n,8)] 151 (by simp)) (by simp) (by simp) (by simpa using hn) HL.out).mono ?_
    rintro e w2 ⟨a2,c2,rfl,o2,b2⟩
    go_wp2_with fail
    go_ret2
    exact ⟨a2,c2,rfl,o2.low (by simp),Av ((Below.refl _ w).alloc (Nat.le_refl _) _) b2 (by simp)⟩
  · have hb':btw n 1152921504606846976=false:=by simpa using hb
    have hL:Bz n=[]:=by unfold Bz;rw [if_neg hb]
    have hE:(if btw n 1152921504606846976 then (0:Int) else 1)=1:=if_neg hb
    rw [hL,hE]
    have HB:=hid hb'
    clear hb hL hE hb'
    go_enter func53,ntmps53
    go_wp2_with fail
    refine (GQ _ _ _).mono ?_
    rintro e w1 ⟨rfl,rfl⟩
    rw [HB.out]
    go_wp2_with fail
    go_ret2
    exact ⟨none,0,rfl,Own.nil _ _ _ _,Below.refl _ _⟩
def ED (e h r er i wr:Int):List (Int×Int):=[(e,4),(h,4),(r,8),(er,1),(i,1),(wr,8)]
def GK (e h r er i wr:Int):Λ:=if Kc e h r er i wr then DW (BQ [] (ED e h r er i wr)) else []
theorem Yb {e h r er i wr:Int} (hm:Kc e h r er i wr=true):0≤e∧e≤1073741824∧0≤h∧h≤1024∧0≤r∧r≤1099511627776∧0≤wr∧wr≤1099511627776∧0≤er∧er≤255∧0≤i∧i≤32:=by
  unfold Kc at hm;exact of_decide_eq_true hm
theorem Mo (e h r er i wr:Int) (w:World) :
    Calls prog 52 #[NW e h r er i wr] w fun en w'=>∃ a c,en=.returned (.tuple #[.slice a (GK e h r er i wr).length c,ν (if Kc e h r er i wr then 0 else 1)])∧CF w' w.heap.size a c (GK e h r er i wr)∧Below w.heap.size w w':=by
  have hmay:=fun w1=>Aaq e h r er i wr w1
  unfold NW at *
  by_cases hb:Kc e h r er i wr=true
  · have hL:GK e h r er i wr=DW (BQ [] (ED e h r er i wr)):=by unfold GK;rw [if_pos hb]
    have hE:(if Kc e h r er i wr then (0:Int) else 1)=0:=if_pos hb
    have hl60:(BQ [] (ED e h r er i wr)).length≤60:=by
      have:=Dr [] (ED e h r er i wr)
      simp [ED] at this ⊢;omega
    have h9:∀ f∈ED e h r er i wr,f.1≤9223372036854775807:=by
      have:=Yb hb
      intro f hf;simp [ED] at hf
      rcases hf with rfl | rfl | rfl | rfl | rfl | rfl<;>simp<;>omega
    rw [hL,hE]
    have HB:=hid hb;have HL:=hid hl60;have H9:=hid h9;have HM:=hid hmay
    clear hb hL hE hl60 h9 hmay
    go_enter func52,ntmps52
    go_wp2_with fail
    refine (HM.out _).mono ?_
    rintro en w1 ⟨rfl,b1⟩
    rw [HB.out]
    have H0:Blk (w.alloc (.cells #[ν e,ν h,ν r,ν er,ν i,ν wr] 48)) w.heap.size 48 [ν e,ν h,ν r,ν er,ν i,ν wr]:=heap_alloc_new w _
    have H1:=Blk.mono H0 b1
    have k0:=Blk.cell H1 (i:=0) (by simp)
    have k1:=Blk.cell H1 (i:=1) (by simp)
    have k2:=Blk.cell H1 (i:=2) (by simp)
    have k3:=Blk.cell H1 (i:=3) (by simp)
    have k4:=Blk.cell H1 (i:=4) (by simp)
    have k5:=Blk.cell H1 (i:=5) (by simp)
    simp only [List.getElem_cons_zero,List.getElem_cons_succ] at k0 k1 k2 k3 k4 k5
    have B1:=hid (Av ((Below.refl _ w).alloc (Nat.le_refl _) _) b1 (by simp))
    clear H0 H1 b1 HM
    go_wp2_with fail
    refine (QX ⟨#[]⟩ _ _ (ED e h r er i wr) _ (by decide) (Mx w1 (ED e h r er i wr) 151 (by simp [ED])) (by simp [ED]) (by simp [ED]) H9.out HL.out).mono ?_
    rintro en w2 ⟨a2,c2,rfl,o2,b2⟩
    go_wp2_with fail
    go_ret2
    exact ⟨a2,c2,rfl,o2.low (Nat.le_trans B1.out.size (by simp)),Av (B1.out.alloc B1.out.size _) b2 (Nat.le_trans B1.out.size (by simp))⟩
  · have hb':Kc e h r er i wr=false:=by simpa using hb
    have hL:GK e h r er i wr=[]:=by unfold GK;rw [if_neg hb]
    have hE:(if Kc e h r er i wr then (0:Int) else 1)=1:=if_neg hb
    rw [hL,hE]
    have HB:=hid hb';have HM:=hid hmay
    clear hb hL hE hb' hmay
    go_enter func52,ntmps52
    go_wp2_with fail
    refine (HM.out _).mono ?_
    rintro en w1 ⟨rfl,b1⟩
    rw [HB.out]
    go_wp2_with fail
    go_ret2
    exact ⟨none,0,rfl,Own.nil _ _ _ _,Av ((Below.refl _ w).alloc (Nat.le_refl _) _) b1 (by simp)⟩
def Ahw (xs:Λ):Bool:=decide (64≤xs.length∧AC xs 60 4=some (Cb (xs.take 60)))
def chk (xs:Λ):Int:=if 64≤xs.length then (if AC xs 60 4=some (Cb (xs.take 60)) then 0 else 4) else 3
theorem Hu (a:Ω) (c:Nat) (xs:Λ) (w:World) (ha:RowB w a c xs) :
    Calls prog 77 #[.slice a xs.length c] w fun e w'=>e=.returned (ν (chk xs))∧Below w.heap.size w w':=by
  have hl:=Ce ha
  have hcap:xs.length≤c:=ha.2.1
  by_cases h64:64≤xs.length
  · have r60:=DC ha 60
    have hlen:(xs.take 60).length=60:=by simp;omega
    have hs:=fun w1 (b:Below w.heap.size w w1)=>Ij a c (xs.take 60) w1 (r60.mono b)
    rw [hlen] at hs
    have HS:=hid hs;clear hs hlen r60
    have hg:=DP a c xs 60 4 w ha hl
    cases hgf:AC xs 60 4 with
    | none=>
      have hk:chk xs=4:=by unfold chk;rw [if_pos h64,hgf];simp
      rw [hk]
      rw [hgf] at hg
      simp only [KN] at hg
      have HG:=hid hg
      clear hg hk hgf
      go_enter func77,ntmps77
      go_wp2_with fail
      refine HG.out.mono ?_
      rintro e w1 ⟨rfl,rfl⟩
      simp only [Option.getD_none,Option.isSome_none]
      go_wp2_with fail
      go_ret
      exact ⟨rfl,Below.refl _ _⟩
    | some v=>
      rw [hgf] at hg
      simp only [KN] at hg
      have hcl:=DM (xs.take 60)
      have HS2:=hid (HS.out w (Below.refl _ _))
      by_cases hvz:v=Cb (xs.take 60)
      · have hk:chk xs=0:=by unfold chk;rw [if_pos h64,hgf,if_pos (by rw [hvz])]
        rw [hk]
        rw [← hvz] at HS2 hcl
        have HG:=hid hg
        clear hg hk hgf HS hvz
        go_enter func77,ntmps77
        go_wp2_with fail
        refine HG.out.mono ?_
        rintro e w1 ⟨rfl,rfl⟩
        simp only [Option.getD_some,Option.isSome_some]
        go_wp2_with fail
        refine HS2.out.mono ?_
        rintro e w2 ⟨rfl,b2⟩
        go_wp2_with fail
        go_ret
        exact ⟨rfl,b2⟩
      · have hk:chk xs=4:=by unfold chk;rw [if_pos h64,hgf,if_neg (by simpa using hvz)]
        rw [hk]
        have HG:=hid hg
        clear hg hk hgf HS
        generalize Cb (xs.take 60)=z at *
        have hne:¬ (v:Int)=(z:Int):=ω
        go_enter func77,ntmps77
        go_wp2_with fail
        refine HG.out.mono ?_
        rintro e w1 ⟨rfl,rfl⟩
        simp only [Option.getD_some,Option.isSome_some]
        go_wp2_with fail
        refine HS2.out.mono ?_
        rintro e w2 ⟨rfl,b2⟩
        go_wp2_with fail
        go_ret
        exact ⟨rfl,b2⟩
  · have hk:chk xs=3:=by unfold chk;rw [if_neg h64]
    rw [hk]
    go_enter func77,ntmps77
    go_wp2_with fail
    go_ret
    exact ⟨rfl,Below.refl _ _⟩
end
section
def InoT.setB (x:InoT) (k:Nat) (n:Int):InoT:=match k with
  | 0=>{ x with b0:=n }
  | 1=>{ x with b1:=n }
  | 2=>{ x with b2:=n }
  | _=>{ x with b3:=n }
theorem AA {t:List EntT} (h:t.length=16) (k:Int) (bs:Λ):(Fp t k bs).1.length=16:=by
  unfold Fp
  split
  · rename_i hk
    split
    · exact h
    · unfold Zg
      split
      · rename_i es he
        have:=OU _ _ he;show (splice t (4*k.toNat) es).length=16;rw [length_splice _ _ _ ω];exact h
      · exact h
  · exact h
def Bu (M:MemM) (P:List PtM) (x:InoT):Nat→List EntT×Int
  | 0=>(Bd,0)
  | k+1=>if (Bu M P x k).2=0 then (if x.blk k=0 then Bu M P x k else Fp (Bu M P x k).1 k (As M P 7 (x.blk k))) else Bu M P x k
theorem Ag (M:MemM) (P:List PtM) (x:InoT):∀ k,(Bu M P x k).1.length=16
  | 0=>Ap
  | k+1=>by
    have ih:=Ag M P x k
    unfold Bu;split
    · split
      · exact ih
      · exact AA ih _ _
    · exact ih
theorem MM {M:MemM} {P:List PtM} {x:InoT} {k:Nat} (h:(Bu M P x k).2≠0):∀ m,k≤m→(Bu M P x m).2≠0
  | 0,hm=>by
    have:k=0:=ω
    subst this;exact h
  | m+1,hm=>by
    by_cases e:k=m+1
    · subst e;exact h
    · have ih:=MM h m (by omega)
      unfold Bu;rw [if_neg ih];exact ih
def An (M:MemM) (P:List PtM) (i:Int):List EntT:=
  if AU M P i≠0 then Bd else if (Aj M P i).k≠2 then Bd else if (Bu M P (Aj M P i) 4).2=0 then (Bu M P (Aj M P i) 4).1 else Bd
def BH (M:MemM) (P:List PtM) (i:Int):Int:=
  if AU M P i≠0 then AU M P i else if (Aj M P i).k≠2 then 12 else if (Bu M P (Aj M P i) 4).2=0 then 0 else 36
theorem Ah (M:MemM) (P:List PtM) (i:Int):(An M P i).length=16:=by
  unfold An;split
  · exact Ap
  · split
    · exact Ap
    · split
      · exact Ag _ _ _ _
      · exact Ap
def Aht (M:MemM) (P:List PtM):Option Nat:=(List.range 32).find? fun k=>decide (AU M P ((k:Int)+1)=0)&&decide ((Aj M P ((k:Int)+1)).k=0)
end
section
def In (x:UInt8):List Value:=[Ad x]
theorem Jb (xs:Λ) (f:Int):∀ k i:Nat,0≤Da xs f k i∧Da xs f k i≤(i+k:Nat)
 | 0,i=>⟨Int.le_refl 0,by show (0:Int)≤_;omega⟩
 | k+1,i=>by
  have ih:=Jb xs f k (i+1)
  unfold Da;split<;>omega
theorem Vd (xs:Λ):0≤Aq xs 1∧Aq xs 1≤128:=by have:=Jb xs 1 128 0;unfold Aq;omega
theorem Eg (x:UInt8):(In x).length=1:=rfl
theorem Gb (xs:Λ) (h:xs.length=16):xs.length=16:=h
theorem RX (xs:Λ):xs.flatMap In=xs.map Ad:=by
 induction xs with
 | nil=>rfl
 | cons x xs ih=>rw [List.flatMap_cons,ih];rfl
theorem FT {w:World} {g n:Nat} {R:List Ch} (h:Sep w (Ab g 5 ((List.replicate n (0:UInt8)).flatMap In)::R)) (hn:n≤maxLen:=by unfold maxLen;omega):Sep w (AG 0 5 1 (some ⟨g,0,none⟩) (List.replicate n (0:UInt8)).length n ((List.replicate n (0:UInt8)).map Ad)::R):=by
 have z:Blk w g 5 ((List.replicate n (0:UInt8)).map Ad):=by
  have z:Blk w g 5 ((List.replicate n (0:UInt8)).flatMap In):=h.get 0 rfl
  rw [RX] at z;exact z
 have o:=Pt z (Nat.zero_le g) (by simpa using hn)
 rw [List.length_map,List.length_replicate] at o
 refine h.head (Turns.refl (fun _=>False) w) (fun _ _ q=>q.elim) (c':=AG 0 5 1 (some ⟨g,0,none⟩) _ n _) (by rw [List.length_replicate];exact o) fun k q=>.inl ?_
 have q:(some g:Option Nat)=some k:=q
 cases q;rfl
def bN (M:MemM) (P:List PtM) (s:Int):Int:=if Dg M P s then 0 else if UJ M P=0 then Ps M P else 0
def bE (M:MemM) (P:List PtM) (s:Int):Int:=if Dg M P s then 18 else UJ M P
def bP (M:MemM) (P:List PtM) (s:Int):List PtM:=if Dg M P s then P else Acy M P
theorem Zw (xs:Λ):(Ep xs 128).length≤128:=by
 unfold Ep;exact Nat.le_trans (List.length_filter_le _ _) (by rw [List.length_range];exact Nat.le_refl _)
theorem JZ:(prog.info? 179).map (·.size)=some 32:=κ
theorem Hd {k:TypeDesc} (hu:prog.underlying 179=some k) {w:World} {g:Nat} {e:TypeId} {t:List EntT} (h:Blk w g e (Ao t)) (hl:t.length=16) (hk:k.isRow=true:=by rfl):(Instr.loadAt 179 (π g)).run prog w=.ok (.agg (Ao t).toArray) w:=
 ldA hu hk JZ h (by rw [List.drop_zero,List.take_of_length_le (by rw [BG,hl];exact Nat.le_refl _)]) (by rw [BG,hl])
theorem GL {Q:Exit→Act→World→Prop} {Kk:Act→World→Prop} {o:Oper} {a:Act} {w:World} {N:Nat} {l:List (Nat×Value)} {cs cs':List Ch} (h:Kn N l a) (hd:o.dst=none) {x y:Operand} (ho:o.op=.store 179 x y) (hS:Sep w cs) (i:Nat) {g:Nat} {e:TypeId} {xs ys:List EntT} (hi:cs[i]? = some (Ab g e (Ao xs))) (h0:xs.length=16) (h1:ys.length=16) (hx:opv l x=some (π g)) (hy:opv l y=some (.agg (Ao ys).toArray))
  (hcs:cs.set i (Ab g e (Ao ys))=cs') (k:∀ a' w',Kn N l a'→Sep w' cs'→Turns (fun k=>k=g) w w'→Kk a' w'):Oper.wp prog o a w Kk Q:=
 FS h hd ho hS i hi hx hy (Ao ys) rfl (by rw [BG,h1];exact JZ) (by rw [List.all_eq_true];exact Rc ys) (by rw [BG,BG,h0,h1];exact Nat.le_refl _) (L':=Ao ys) (by
  unfold splice;rw [List.take_zero,List.nil_append,List.drop_of_length_le (by rw [BG,BG,h0,h1];exact Nat.le_refl _),List.append_nil]) hcs k
theorem Jr {fn:Func} {N:Nat} {l:List (Nat×Value)} {a:Act} {w:World} (hK:Kn N l a) {c u:Nat} (h:fn.results=#[.cell c 179,.tmp u]) {g:Nat} {e:TypeId} {t:List EntT} {k:TypeDesc} {v:Value} (hc:opv l (.tmp c)=some (π g)) (hv:opv l (.tmp u)=some v) (hb:Blk w g e (Ao t)) (hu:prog.underlying 179=some k) (hl:t.length=16) (hk:k.isRow=true:=by rfl):(results fn a.tmps).run prog w=.ok (.tuple #[.agg (Ao t).toArray,v]) w:=
 Acf hK h hc hv hb hu hk (by rw [BG,hl];exact JZ)
theorem ZC {w:World} {R:List Ch} {mx:Nat} {K:VolK} {ta:Ω} {tc:Nat} {M:MemM} {P:List PtM} {spare:Int} (hS0:Sep w ([Ab mx 125 [π K.tg],txP K ta tc M P]++R)) (hM:M.V.length=23168) (hs:-9223372036854775808≤spare∧spare≤9223372036854775807) :
  CallsR prog 118 #[π mx,ν spare] w (fun v w'=>∃ ta' tc',v=.tuple #[ν (bN M P spare),ν (bE M P spare)]∧Sep w' ([Ab mx 125 [π K.tg],txP K ta' tc' M (bP M P spare)]++R)):=by
 have hS:Sep w [Ab mx 125 [π K.tg],txP K ta tc M P,Ch.many R]:=Sep.tail_many (xs:=[_,_]) hS0;clear hS0
 have hal:=Zw (Aw M P)
 have hfx:=Vd (Aw M P)
 refine AB func118 rfl (N:=34) ntmps118 (by show 2≤34;decide) [(0,π mx),(1,ν spare)] rfl fun _ h1=>sqr fun _ hK3=>mvs 2 h1 rfl fun _ h6=>wpList_nil<|hK3 _ _<|sqr fun _ hK8=>mv h6 rfl fun _ h9=>cl h9 rfl (cF func140) (Afh hS hM) fun _ v1 w2 r1 h2=>?_
 obtain ⟨rfl,s1⟩:=r1
 refine so (wn rfl) fun _ hK1=>AO h2 rfl rfl rfl rfl (z:=(AM).map Ad) (fun _=>rfl) s1 fun _ g1 w3 h3 s2 _ _=>hK1 _ _ ?_
 refine so (wn rfl) fun _ hK2=>Za h3 rfl rfl s2 0 rfl (Gb _ (by first | rfl | simp only [AX,Br,Aw,AZ])) (Gb _ (by first | rfl | simp only [AX,Br,Aw,AZ])) rfl rfl (cs':=[Ab g1 100 (((Aw M P)).map Ad),Ab mx 125 [π K.tg],txP K ta tc M P,Ch.many R]) rfl fun _ w4 h4 s3 _=>hK2 _ _ ?_
 refine h4.sn [6,5,4,0,1] rfl fun h5=>hK8 _ _<|sq fun _ hK4=>sqr fun _ hK5=>sw1 h5 rfl (rld h5 rfl rfl (PY υ100 (s3.get 0 rfl:Blk _ _ _ _) (Gb _ (by first | rfl | simp only [AX,Br,Aw,AZ])))) fun _ h7=>cl h7 rfl (cF func141) (AQ s3 (UQ (Aw M P) _ (Gb _ (by first | rfl | simp only [AX,Br,Aw,AZ])))) fun _ v2 w5 r2 h8=>?_
 obtain ⟨rfl,s4⟩:=r2
 refine bv h8 (z:=ν (128-((Ep (Aw M P) 128).length:Int))) rfl (Acx _ _ _ ω ω ω) fun _ h10=>mv h10 rfl fun _ h11=>sv1 h11 rfl (Afu h11 rfl rfl rfl ω) fun _ h12=>bv h12 (z:=.bool (decide (128-((Ep (Aw M P) 128).length:Int)≤max spare 0))) rfl (cLe _ _ _ _ rfl) fun _ h13=>h13.sn [16,6,5,4,0,1] rfl fun h14=>hK5 _ _ ?_
 rcases bC (decide (128-((Ep (Aw M P) 128).length:Int)≤max spare 0)) with hc1 | hc1
 ·skip
  have hp1:128-((Ep (Aw M P) 128).length:Int)≤max spare 0:=(dT hc1)
  refine wcT h14 rfl hc1<|h14.sk [6,5,4,0,1] rfl fun h15=>sqr fun _ hK6=>h15.sk [6,5,0,1] rfl fun h16=>mv h16 rfl fun _ h17=>h17.sk [4,6,0,1] rfl fun h18=>mv h18 rfl fun _ h19=>wpList_nil<|hK6 _ _<|wp_ret ?_
  try simp only [Exit.then,Exit.inBlock]
  refine AW (v:=.tuple #[ν 0,ν 18]) (DK h19 rfl rfl rfl) h19.defs ?_
  exact ⟨ta,tc,by unfold bN bE;rw [if_pos (show Dg M P spare from hp1),if_pos (show Dg M P spare from hp1)],by unfold bP;rw [if_pos (show Dg M P spare from hp1)];exact Sep.tail_un (xs:=[_,_]) (s4.pk [1,2,3] rfl)⟩
 ·skip
  have hp2:¬ (128-((Ep (Aw M P) 128).length:Int)≤max spare 0):=(dF hc1)
  refine wcF h14 rfl hc1<|h14.sk [6,5,4,0,1] rfl fun h20=>wp_skip<|hK4 _ _<|sqr fun _ hK7=>sw1 h20 rfl (rld h20 rfl rfl (PY υ100 (s4.get 0 rfl:Blk _ _ _ _) (Gb _ (by first | rfl | simp only [AX,Br,Aw,AZ])))) fun _ h21=>cl h21 rfl (cF func142) (AQ s4 (Ve (Aw M P) 1 _ (Gb _ (by first | rfl | simp only [AX,Br,Aw,AZ])) ω)) fun _ v3 w6 r3 h22=>?_
  obtain ⟨rfl,s5⟩:=r3
  refine mv h22 rfl fun _ h23=>h23.sn [7,6,5,4,0,1] rfl fun h24=>hK7 _ _<|sq fun K1 hK9=>?_
  have hJ79:∀ (ta9:Ω) (tc9:Nat) a' w',Kn 34 [(7,ν (Aq (Aw M P) 1)),(6,π g1),(5,ν 0),(4,ν 0),(0,π mx),(1,ν spare),(8,ν (AJ [stE M P 3 0 16,stE M (stP M P 3 0 (Bm (Aw M P) (Aq (Aw M P) 1))) 7 (Aq (Aw M P) 1) (List.replicate 64 (0:UInt8)).length]))] a'→Sep w' [Ab g1 100 (((Aw M P)).map Ad),Ab mx 125 [π K.tg],txP K ta9 tc9 M (stP M (stP M P 3 0 (Bm (Aw M P) (Aq (Aw M P) 1))) 7 (Aq (Aw M P) 1) (List.replicate 64 (0:UInt8))),Ch.many R]→K1 a' w':=by
   intro ta9 tc9 a1 w7 h25 s6
   refine hK9 _ _ ?_
   refine sq fun _ hK10=>sqr fun _ hK11=>mv h25 rfl fun _ h26=>bv h26 (z:=.bool (decide (AJ [stE M P 3 0 16,stE M (stP M P 3 0 (Bm (Aw M P) (Aq (Aw M P) 1))) 7 (Aq (Aw M P) 1) (List.replicate 64 (0:UInt8)).length]≠0))) rfl (cNe _ _ _ _ rfl) fun _ h27=>h27.sn [31,7,6,5,4,0,1,8] rfl fun h28=>hK11 _ _ ?_
   rcases bC (decide (AJ [stE M P 3 0 16,stE M (stP M P 3 0 (Bm (Aw M P) (Aq (Aw M P) 1))) 7 (Aq (Aw M P) 1) (List.replicate 64 (0:UInt8)).length]≠0)) with hc2 | hc2
   ·skip
    have hp3:AJ [stE M P 3 0 16,stE M (stP M P 3 0 (Bm (Aw M P) (Aq (Aw M P) 1))) 7 (Aq (Aw M P) 1) (List.replicate 64 (0:UInt8)).length]≠0:=(dT hc2)
    refine wcT h28 rfl hc2<|h28.sk [7,6,5,4,0,1,8] rfl fun h29=>sqr fun _ hK12=>mv h29 rfl fun _ h30=>h30.sk [32,7,6,5,0,1,8] rfl fun h31=>mv h31 rfl fun _ h32=>h32.sk [4,32,7,6,0,1,8] rfl fun h33=>mv h33 rfl fun _ h34=>h34.sn [5,4,7,6,0,1,8] rfl fun h35=>hK12 _ _ ?_
    refine wp_ret ?_
    try simp only [Exit.then,Exit.inBlock]
    refine AW (v:=.tuple #[ν 0,ν (AJ [stE M P 3 0 16,stE M (stP M P 3 0 (Bm (Aw M P) (Aq (Aw M P) 1))) 7 (Aq (Aw M P) 1) (List.replicate 64 (0:UInt8)).length])]) (DK h35 rfl rfl rfl) h35.defs ?_
    try simp only [List.length_replicate] at hp3
    exact ⟨ta9,tc9,by unfold bN bE;rw [if_neg (show ¬ Dg M P spare from hp2),if_neg (show ¬ Dg M P spare from hp2)];unfold UJ Ll Ps;(try simp only [List.length_replicate]);rw [if_neg hp3];(try rfl),by unfold bP;rw [if_neg (show ¬ Dg M P spare from hp2)];exact Sep.tail_un (xs:=[_,_]) (s6.pk [1,2,3] rfl)⟩
   ·skip
    have hp4:¬ (AJ [stE M P 3 0 16,stE M (stP M P 3 0 (Bm (Aw M P) (Aq (Aw M P) 1))) 7 (Aq (Aw M P) 1) (List.replicate 64 (0:UInt8)).length]≠0):=(dF hc2)
    refine wcF h28 rfl hc2<|h28.sk [7,6,5,4,0,1,8] rfl fun h36=>wp_skip<|hK10 _ _<|sqr fun _ hK13=>mv h36 rfl fun _ h37=>h37.sk [33,7,6,5,0,1,8] rfl fun h38=>mv h38 rfl fun _ h39=>h39.sk [4,33,7,6,0,1,8] rfl fun h40=>mv h40 rfl fun _ h41=>h41.sk [5,4,7,6,0,1,8] rfl fun h42=>?_
    refine wpList_nil<|hK13 _ _<|wp_ret ?_
    try simp only [Exit.then,Exit.inBlock]
    refine AW (v:=.tuple #[ν (Aq (Aw M P) 1),ν 0]) (DK h42 rfl rfl rfl) h42.defs ?_
    try simp only [List.length_replicate] at hp4
    exact ⟨ta9,tc9,by unfold bN bE;rw [if_neg (show ¬ Dg M P spare from hp2),if_neg (show ¬ Dg M P spare from hp2)];unfold UJ Ll Ps;(try simp only [List.length_replicate]);rw [if_pos (Classical.not_not.1 hp4),Classical.not_not.1 hp4],by unfold bP;rw [if_neg (show ¬ Dg M P spare from hp2)];exact Sep.tail_un (xs:=[_,_]) (s6.pk [1,2,3] rfl)⟩
  have s7:=s5.drew
  refine wp_region_held_drew (S:=fun w'=>Sep w' [Ab g1 100 (((Aw M P)).map Ad),Ab mx 125 [π K.tg],Ch.many R]) κ (s7.pk [0,1,3] rfl) (fun hq1=>?_)
  refine tv1 hq1 h24 0 rfl rfl (fun w1 _=>(Au h24 rfl rfl) w1) fun _ h43=>?_
  refine tv1 hq1 h43 1 rfl rfl (fun w1 hSw=>(rld h43 rfl rfl (PY υ100 (hSw.get 0 rfl:Blk _ _ _ _) (Gb _ (by first | rfl | simp only [AX,Br,Aw,AZ]))))) fun _ h44=>?_
  refine tv1 hq1 h44 2 rfl rfl (fun w1 _=>(Au h44 rfl rfl) w1) fun _ h45=>?_
  refine tv1 hq1 h45 5 rfl rfl (fun w1 _=>(Au h45 rfl rfl) w1) fun _ h46=>?_
  refine tv1 hq1 h46 6 rfl rfl (fun w1 _=>(Au h46 rfl rfl) w1) fun _ h47=>?_
  refine wpAnyH_ready (rs:=[3,7]) κ (by simp) (toc rfl (wn rfl) (fun K2 hK14=>?_) (toc rfl (wn rfl) (fun K2 hK14=>?_) AllReadyH.nil))
  ·skip
   refine BD h47 rfl rfl rfl (xs:=[.tmp 20,.tmp 21]) rfl (cF func143) rfl (vs:=[.agg (Al (Aw M P)),ν (Aq (Aw M P) 1)]) rfl (args:=#[.agg (Al (Aw M P)),ν (Aq (Aw M P) 1)]) rfl (AQ s7 (Rh (Aw M P) (Aq (Aw M P) 1) _ (Gb _ (by first | rfl | simp only [AX,Br,Aw,AZ])) ω)) fun _ v4 w8 r4 h48=>?_
   obtain ⟨rfl,s8⟩:=r4
   refine hK14 _ _ (s8.pk [0,1,3] rfl) fun hq2=>?_
   refine wpAnyH_ready (rs:=[4,7]) κ (by simp) (toc rfl (wn rfl) (fun K3 hK15=>?_) (toc rfl (wn rfl) (fun K3 hK15=>?_) AllReadyH.nil))
   ·skip
    refine BD h48 rfl rfl rfl (xs:=[.tmp 19,.tmp 22]) rfl (cF func51) rfl (vs:=[π mx,.agg (Al (Bm (Aw M P) (Aq (Aw M P) 1)))]) rfl (args:=#[π mx,.agg (Al (Bm (Aw M P) (Aq (Aw M P) 1)))]) rfl (Ju (xs:=(Bm (Aw M P) (Aq (Aw M P) 1))) (s8.pk [1,2,0,3] rfl) hM (Gb _ (by first | rfl | simp only [AX,Br,Aw,AZ]))) fun _ v5 w9 r5 h49=>?_
    obtain ⟨tax138,tcx139,rfl,s9⟩:=r5
    refine hK15 _ _ (s9.pk [2,0,3] rfl) fun hq3=>?_
    refine to_ 7 rfl (wn rfl) κ fun _ hK16=>IN Eg (by decide) h49 rfl rfl rfl rfl υ22 (z:=.int .u8 0) (n:=64) κ (m:=(0:UInt8)) rfl rfl rfl (by decide) s9 fun _ g2 w10 h50 s10 _ _=>?_
    refine hK16 _ _ (s10.pk [3,1,4] rfl) fun hq4=>?_
    have s11:Sep _ [AG 0 5 1 (some ⟨g2,0,none⟩) ((List.replicate 64 (0:UInt8))).length 64 (((List.replicate 64 (0:UInt8))).map Ad),Ab mx 125 [π K.tg],txP K tax138 tcx139 M (stP M P 3 0 (Bm (Aw M P) (Aq (Aw M P) 1))),Ab g1 100 (((Aw M P)).map Ad),Ch.many R]:=FT s10
    refine to_ 8 rfl (wn rfl) κ fun _ hK17=>BD h50 rfl rfl rfl (xs:=[.tmp 24,.const (ν 7),.tmp 25,.tmp 26]) rfl (cF func54) rfl (vs:=[π mx,ν 7,ν (Aq (Aw M P) 1),.slice (some ⟨g2,0,none⟩) 64 64]) rfl (args:=#[π mx,ν 7,ν (Aq (Aw M P) 1),.slice (some ⟨g2,0,none⟩) 64 64]) rfl (CW (kd:=7) (nm:=Aq (Aw M P) 1) (xs:=(List.replicate 64 (0:UInt8))) s11 hM (by simp)) fun _ v6 w11 r6 h51=>?_
    obtain ⟨tax157,tcx158,rfl,s12⟩:=r6
    refine hK17 _ _ (s12.pk [3,1,4] rfl) fun hq5=>?_
    refine to_ 9 rfl (wn rfl) κ fun _ hK18=>Cw h51 rfl rfl rfl (E:=26) (xs:=[(0,.tmp 23),(1,.tmp 27)]) rfl (vs:=[(0,ν (stE M P 3 0 16)),(1,ν (stE M (stP M P 3 0 (Bm (Aw M P) (Aq (Aw M P) 1))) 7 (Aq (Aw M P) 1) (List.replicate 64 (0:UInt8)).length))]) rfl (z:=[ν (stE M P 3 0 16),ν (stE M (stP M P 3 0 (Bm (Aw M P) (Aq (Aw M P) 1))) 7 (Aq (Aw M P) 1) (List.replicate 64 (0:UInt8)).length)]) (fun _=>κ) s12 fun _ g3 w12 h52 s13 _ _=>?_
    refine hK18 _ _ (s13.pk [4,2,5] rfl) fun hq6=>?_
    refine to_ 10 rfl (wn rfl) κ fun _ hK19=>BD h52 rfl rfl rfl (xs:=[.tmp 28]) rfl (cF func50) rfl (vs:=[.slice (some ⟨g3,0,none⟩) 2 2]) rfl (args:=#[.slice (some ⟨g3,0,none⟩) 2 2]) rfl (DO (L:=[stE M P 3 0 16,stE M (stP M P 3 0 (Bm (Aw M P) (Aq (Aw M P) 1))) 7 (Aq (Aw M P) 1) (List.replicate 64 (0:UInt8)).length]) s13 (Nat.le_of_ble_eq_true rfl)) fun _ v7 w13 r7 h53=>?_
    obtain ⟨rfl,s14⟩:=r7
    refine hK19 _ _ (s14.pk [4,2,5] rfl) fun hq7=>?_
    refine tv1 hq7 h53 11 rfl rfl (fun w1 _=>(Bv h53 rfl rfl) w1) fun _ h54=>?_
    refine h54.sk [8,7,6,5,4,0,1] rfl fun h55=>?_
    refine wpAnyH_done κ ?_ _
    exact hJ79 tax157 tcx158 _ _ (h55.subs rfl) (s14.pk [4,2,3,5] rfl) 
   ·skip
    refine IN Eg (by decide) h48 rfl rfl rfl rfl υ22 (z:=.int .u8 0) (n:=64) κ (m:=(0:UInt8)) rfl rfl rfl (by decide) s8 fun _ g4 w14 h56 s15 _ _=>hK15 _ _ (s15.pk [1,2,4] rfl) fun hq8=>?_
    refine to_ 4 rfl (wn rfl) κ fun _ hK20=>BD h56 rfl rfl rfl (xs:=[.tmp 19,.tmp 22]) rfl (cF func51) rfl (vs:=[π mx,.agg (Al (Bm (Aw M P) (Aq (Aw M P) 1)))]) rfl (args:=#[π mx,.agg (Al (Bm (Aw M P) (Aq (Aw M P) 1)))]) rfl (Ju (xs:=(Bm (Aw M P) (Aq (Aw M P) 1))) (s15.pk [2,3,0,1,4] rfl) hM (Gb _ (by first | rfl | simp only [AX,Br,Aw,AZ]))) fun _ v8 w15 r8 h57=>?_
    obtain ⟨tax195,tcx196,rfl,s16⟩:=r8
    refine hK20 _ _ (s16.pk [3,0,4] rfl) fun hq9=>?_
    have s17:Sep _ [AG 0 5 1 (some ⟨g4,0,none⟩) ((List.replicate 64 (0:UInt8))).length 64 (((List.replicate 64 (0:UInt8))).map Ad),Ab mx 125 [π K.tg],txP K tax195 tcx196 M (stP M P 3 0 (Bm (Aw M P) (Aq (Aw M P) 1))),Ab g1 100 (((Aw M P)).map Ad),Ch.many R]:=FT (s16.pk [2,0,1,3,4] rfl)
    refine to_ 8 rfl (wn rfl) κ fun _ hK21=>BD h57 rfl rfl rfl (xs:=[.tmp 24,.const (ν 7),.tmp 25,.tmp 26]) rfl (cF func54) rfl (vs:=[π mx,ν 7,ν (Aq (Aw M P) 1),.slice (some ⟨g4,0,none⟩) 64 64]) rfl (args:=#[π mx,ν 7,ν (Aq (Aw M P) 1),.slice (some ⟨g4,0,none⟩) 64 64]) rfl (CW (kd:=7) (nm:=Aq (Aw M P) 1) (xs:=(List.replicate 64 (0:UInt8))) s17 hM (by simp)) fun _ v9 w16 r9 h58=>?_
    obtain ⟨tax206,tcx207,rfl,s18⟩:=r9
    refine hK21 _ _ (s18.pk [3,1,4] rfl) fun hq10=>?_
    refine to_ 9 rfl (wn rfl) κ fun _ hK22=>Cw h58 rfl rfl rfl (E:=26) (xs:=[(0,.tmp 23),(1,.tmp 27)]) rfl (vs:=[(0,ν (stE M P 3 0 16)),(1,ν (stE M (stP M P 3 0 (Bm (Aw M P) (Aq (Aw M P) 1))) 7 (Aq (Aw M P) 1) (List.replicate 64 (0:UInt8)).length))]) rfl (z:=[ν (stE M P 3 0 16),ν (stE M (stP M P 3 0 (Bm (Aw M P) (Aq (Aw M P) 1))) 7 (Aq (Aw M P) 1) (List.replicate 64 (0:UInt8)).length)]) (fun _=>κ) s18 fun _ g5 w17 h59 s19 _ _=>?_
    refine hK22 _ _ (s19.pk [4,2,5] rfl) fun hq11=>?_
    refine to_ 10 rfl (wn rfl) κ fun _ hK23=>BD h59 rfl rfl rfl (xs:=[.tmp 28]) rfl (cF func50) rfl (vs:=[.slice (some ⟨g5,0,none⟩) 2 2]) rfl (args:=#[.slice (some ⟨g5,0,none⟩) 2 2]) rfl (DO (L:=[stE M P 3 0 16,stE M (stP M P 3 0 (Bm (Aw M P) (Aq (Aw M P) 1))) 7 (Aq (Aw M P) 1) (List.replicate 64 (0:UInt8)).length]) s19 (Nat.le_of_ble_eq_true rfl)) fun _ v10 w18 r10 h60=>?_
    obtain ⟨rfl,s20⟩:=r10
    refine hK23 _ _ (s20.pk [4,2,5] rfl) fun hq12=>?_
    refine tv1 hq12 h60 11 rfl rfl (fun w1 _=>(Bv h60 rfl rfl) w1) fun _ h61=>?_
    refine h61.sk [8,7,6,5,4,0,1] rfl fun h62=>?_
    refine wpAnyH_done κ ?_ _
    exact hJ79 tax206 tcx207 _ _ (h62.subs rfl) (s20.pk [4,2,3,5] rfl) 
  ·skip
   refine IN Eg (by decide) h47 rfl rfl rfl rfl υ22 (z:=.int .u8 0) (n:=64) κ (m:=(0:UInt8)) rfl rfl rfl (by decide) s7 fun _ g6 w19 h63 s21 _ _=>hK14 _ _ (s21.pk [1,2,4] rfl) fun hq13=>?_
   refine to_ 3 rfl (wn rfl) κ fun _ hK24=>BD h63 rfl rfl rfl (xs:=[.tmp 20,.tmp 21]) rfl (cF func143) rfl (vs:=[.agg (Al (Aw M P)),ν (Aq (Aw M P) 1)]) rfl (args:=#[.agg (Al (Aw M P)),ν (Aq (Aw M P) 1)]) rfl (AQ s21 (Rh (Aw M P) (Aq (Aw M P) 1) _ (Gb _ (by first | rfl | simp only [AX,Br,Aw,AZ])) ω)) fun _ v11 w20 r11 h64=>?_
   obtain ⟨rfl,s22⟩:=r11
   refine hK24 _ _ (s22.pk [1,2,4] rfl) fun hq14=>?_
   refine to_ 4 rfl (wn rfl) κ fun _ hK25=>BD h64 rfl rfl rfl (xs:=[.tmp 19,.tmp 22]) rfl (cF func51) rfl (vs:=[π mx,.agg (Al (Bm (Aw M P) (Aq (Aw M P) 1)))]) rfl (args:=#[π mx,.agg (Al (Bm (Aw M P) (Aq (Aw M P) 1)))]) rfl (Ju (xs:=(Bm (Aw M P) (Aq (Aw M P) 1))) (s22.pk [2,3,0,1,4] rfl) hM (Gb _ (by first | rfl | simp only [AX,Br,Aw,AZ]))) fun _ v12 w21 r12 h65=>?_
   obtain ⟨tax252,tcx253,rfl,s23⟩:=r12
   refine hK25 _ _ (s23.pk [3,0,4] rfl) fun hq15=>?_
   have s24:Sep _ [AG 0 5 1 (some ⟨g6,0,none⟩) ((List.replicate 64 (0:UInt8))).length 64 (((List.replicate 64 (0:UInt8))).map Ad),Ab mx 125 [π K.tg],txP K tax252 tcx253 M (stP M P 3 0 (Bm (Aw M P) (Aq (Aw M P) 1))),Ab g1 100 (((Aw M P)).map Ad),Ch.many R]:=FT (s23.pk [2,0,1,3,4] rfl)
   refine to_ 8 rfl (wn rfl) κ fun _ hK26=>BD h65 rfl rfl rfl (xs:=[.tmp 24,.const (ν 7),.tmp 25,.tmp 26]) rfl (cF func54) rfl (vs:=[π mx,ν 7,ν (Aq (Aw M P) 1),.slice (some ⟨g6,0,none⟩) 64 64]) rfl (args:=#[π mx,ν 7,ν (Aq (Aw M P) 1),.slice (some ⟨g6,0,none⟩) 64 64]) rfl (CW (kd:=7) (nm:=Aq (Aw M P) 1) (xs:=(List.replicate 64 (0:UInt8))) s24 hM (by simp)) fun _ v13 w22 r13 h66=>?_
   obtain ⟨tax263,tcx264,rfl,s25⟩:=r13
   refine hK26 _ _ (s25.pk [3,1,4] rfl) fun hq16=>?_
   refine to_ 9 rfl (wn rfl) κ fun _ hK27=>Cw h66 rfl rfl rfl (E:=26) (xs:=[(0,.tmp 23),(1,.tmp 27)]) rfl (vs:=[(0,ν (stE M P 3 0 16)),(1,ν (stE M (stP M P 3 0 (Bm (Aw M P) (Aq (Aw M P) 1))) 7 (Aq (Aw M P) 1) (List.replicate 64 (0:UInt8)).length))]) rfl (z:=[ν (stE M P 3 0 16),ν (stE M (stP M P 3 0 (Bm (Aw M P) (Aq (Aw M P) 1))) 7 (Aq (Aw M P) 1) (List.replicate 64 (0:UInt8)).length)]) (fun _=>κ) s25 fun _ g7 w23 h67 s26 _ _=>?_
   refine hK27 _ _ (s26.pk [4,2,5] rfl) fun hq17=>?_
   refine to_ 10 rfl (wn rfl) κ fun _ hK28=>BD h67 rfl rfl rfl (xs:=[.tmp 28]) rfl (cF func50) rfl (vs:=[.slice (some ⟨g7,0,none⟩) 2 2]) rfl (args:=#[.slice (some ⟨g7,0,none⟩) 2 2]) rfl (DO (L:=[stE M P 3 0 16,stE M (stP M P 3 0 (Bm (Aw M P) (Aq (Aw M P) 1))) 7 (Aq (Aw M P) 1) (List.replicate 64 (0:UInt8)).length]) s26 (Nat.le_of_ble_eq_true rfl)) fun _ v14 w24 r14 h68=>?_
   obtain ⟨rfl,s27⟩:=r14
   refine hK28 _ _ (s27.pk [4,2,5] rfl) fun hq18=>?_
   refine tv1 hq18 h68 11 rfl rfl (fun w1 _=>(Bv h68 rfl rfl) w1) fun _ h69=>?_
   refine h69.sk [8,7,6,5,4,0,1] rfl fun h70=>?_
   refine wpAnyH_done κ ?_ _
   exact hJ79 tax263 tcx264 _ _ (h70.subs rfl) (s27.pk [4,2,3,5] rfl) 
theorem Ut {w:World} {R:List Ch} {mx:Nat} {K:VolK} {ta:Ω} {tc:Nat} {M:MemM} {P:List PtM} {i:Int} (hS0:Sep w ([Ab mx 125 [π K.tg],txP K ta tc M P]++R)) (hM:M.V.length=23168)  :
  CallsR prog 114 #[π mx,ν i] w (fun v w'=>v=.tuple #[.agg (Ao (An M P i)).toArray,ν (BH M P i)]∧Sep w' ([Ab mx 125 [π K.tg],txP K ta tc M P]++R)):=by
 have hS:Sep w [Ab mx 125 [π K.tg],txP K ta tc M P,Ch.many R]:=Sep.tail_many (xs:=[_,_]) hS0;clear hS0
 refine AB func114 rfl (N:=53) ntmps114 (by show 2≤53;decide) [(0,π mx),(1,ν i)] rfl fun _ h1=>sqr fun _ hK3=>so (wn rfl) fun _ hK1=>AO h1 rfl rfl rfl rfl (z:=Ao Bd) (fun _=>rfl) hS fun _ g4 w7 h5 s8 _ _=>hK1 _ _ ?_
 refine mv h5 rfl fun _ h2=>wpList_nil<|hK3 _ _<|sqr fun _ hK2=>mvs 2 h2 rfl fun _ h3=>cl h3 rfl (cF func11) (En (i:=i) (s8.pk [1,2,0,3] rfl) hM) fun _ v1 w1 r1 h4=>?_
 obtain ⟨rfl,s1⟩:=r1
 refine mvs 3 h4 rfl fun _ h6=>so (wn rfl) fun _ hK4=>AO h6 rfl rfl rfl rfl (z:=[ν 0,ν 0,ν 0,ν 0,ν 0,ν 0,ν 0,ν 0,ν 0,ν 0,ν 0,ν 0,ν 0,ν 0,ν 0]) (fun _=>rfl) s1 fun _ g1 w2 h7 s2 _ _=>hK4 _ _ ?_
 refine stA h7 s2 0 rfl rfl rfl κ rfl rfl rfl rfl fun _ w3 h8 s3 _=>mv h8 rfl fun _ h9=>h9.sn [7,6,5,4,0,1] rfl fun h10=>hK2 _ _<|sq fun _ hK5=>sqr fun _ hK6=>mv h10 rfl fun _ h11=>bv h11 (z:=.bool (decide (AU M P i≠0))) rfl (cNe _ _ _ _ rfl) fun _ h12=>h12.sn [20,7,6,5,4,0,1] rfl fun h13=>hK6 _ _ ?_
 rcases bC (decide (AU M P i≠0)) with hc1 | hc1
 ·skip
  have hp1:AU M P i≠0:=(dT hc1)
  refine wcT h13 rfl hc1<|h13.sk [7,6,5,4,0,1] rfl fun h14=>sqr fun _ hK7=>bu h14 (v:=.agg ((Ao Bd).toArray)) rfl (fun w=>κ) fun _ h15=>mv h15 rfl fun _ h16=>so (wn rfl) fun _ hK8=>GL h16 rfl rfl s3 3 rfl (by first | exact Ap | exact Ag _ _ _ _ | exact AA (Ag _ _ _ _) _ _ | exact Ah _ _ _ | (rw [AD];exact Ah _ _ _) | assumption) (by first | exact Ap | exact Ag _ _ _ _ | exact AA (Ag _ _ _ _) _ _ | exact Ah _ _ _ | (rw [AD];exact Ah _ _ _) | assumption) rfl rfl (cs':=[Ab g1 40 (AE (Aj M P i)),Ab mx 125 [π K.tg],txP K ta tc M P,Ab g4 179 (Ao Bd),Ch.many R]) rfl fun _ w4 h17 s4 _=>hK8 _ _ ?_
  refine h17.sk [22,21,7,6,4,0,1] rfl fun h18=>mv h18 rfl fun _ h19=>h19.sn [5,7,6,4,0,1] rfl fun h20=>hK7 _ _<|wp_ret ?_
  try simp only [Exit.then,Exit.inBlock]
  refine Hk (v:=.tuple #[.agg ((Ao Bd).toArray),ν (AU M P i)]) (Jr h20 rfl rfl rfl (s4.get 3 rfl:Blk _ _ _ _) υ179 (by first | exact Ap | exact Ag _ _ _ _ | exact AA (Ag _ _ _ _) _ _ | exact Ah _ _ _ | (rw [AD];exact Ah _ _ _) | assumption)) h20.defs ?_
  exact ⟨by unfold An BH;rw [if_pos hp1,if_pos hp1],Sep.tail_un (xs:=[_,_]) (s4.pk [1,2,4] rfl)⟩
 ·skip
  have hp2:¬ (AU M P i≠0):=(dF hc1)
  refine wcF h13 rfl hc1<|h13.sk [7,6,5,4,0,1] rfl fun h21=>wp_skip<|hK5 _ _<|sq fun _ hK9=>sqr fun _ hK10=>fav h21 rfl (fQ 0) fun _ h22=>ldv h22 s3 0 υ3 rfl rfl rfl rfl fun _ h23=>bv h23 (z:=.bool (decide ((Aj M P i).k≠2))) rfl (cNe _ _ _ _ rfl) fun _ h24=>h24.sn [25,7,6,5,4,0,1] rfl fun h25=>hK10 _ _ ?_
  rcases bC (decide ((Aj M P i).k≠2)) with hc2 | hc2
  ·skip
   have hp3:(Aj M P i).k≠2:=(dT hc2)
   refine wcT h25 rfl hc2<|h25.sk [7,6,5,4,0,1] rfl fun h26=>sqr fun _ hK11=>bu h26 (v:=.agg ((Ao Bd).toArray)) rfl (fun w=>κ) fun _ h27=>so (wn rfl) fun _ hK12=>GL h27 rfl rfl s3 3 rfl (by first | exact Ap | exact Ag _ _ _ _ | exact AA (Ag _ _ _ _) _ _ | exact Ah _ _ _ | (rw [AD];exact Ah _ _ _) | assumption) (by first | exact Ap | exact Ag _ _ _ _ | exact AA (Ag _ _ _ _) _ _ | exact Ah _ _ _ | (rw [AD];exact Ah _ _ _) | assumption) rfl rfl (cs':=[Ab g1 40 (AE (Aj M P i)),Ab mx 125 [π K.tg],txP K ta tc M P,Ab g4 179 (Ao Bd),Ch.many R]) rfl fun _ w5 h28 s5 _=>hK12 _ _ ?_
   refine h28.sk [26,7,6,4,0,1] rfl fun h29=>mv h29 rfl fun _ h30=>h30.sn [5,7,6,4,0,1] rfl fun h31=>hK11 _ _<|wp_ret ?_
   try simp only [Exit.then,Exit.inBlock]
   refine Hk (v:=.tuple #[.agg ((Ao Bd).toArray),ν 12]) (Jr h31 rfl rfl rfl (s5.get 3 rfl:Blk _ _ _ _) υ179 (by first | exact Ap | exact Ag _ _ _ _ | exact AA (Ag _ _ _ _) _ _ | exact Ah _ _ _ | (rw [AD];exact Ah _ _ _) | assumption)) h31.defs ?_
   exact ⟨by unfold An BH;rw [if_neg hp2,if_neg hp2,if_pos hp3,if_pos hp3],Sep.tail_un (xs:=[_,_]) (s5.pk [1,2,4] rfl)⟩
  ·skip
   have hp4:¬ ((Aj M P i).k≠2):=(dF hc2)
   refine wcF h25 rfl hc2<|h25.sk [7,6,5,4,0,1] rfl fun h32=>wp_skip<|hK9 _ _<|sqr fun _ hK13=>so (wn rfl) fun _ hK14=>AO h32 rfl rfl rfl rfl (z:=Ao Bd) (fun _=>rfl) s3 fun _ g2 w6 h33 s6 _ _=>hK14 _ _ ?_
   refine wpList_nil<|hK13 _ _<|sq fun _ hK15=>sqr fun _ hK16=>fav h33 rfl (fQ 3) fun _ h34=>sw1 h34 rfl (rld h34 rfl rfl (ldA υ37 rfl (n:=4) κ (s6.get 1 rfl:Blk _ _ _ _) rfl rfl)) fun _ h35=>mv h35 rfl fun _ h36=>h36.sn [29,28,8,7,6,5,4,0,1] rfl fun h37=>hK16 _ _<|wp_block ?_
   refine DZ (fun (k:Nat) a' w'=>Kn 53 [(29,ν (k:Int)),(28,.agg #[ν ((Aj M P i).b0),ν ((Aj M P i).b1),ν ((Aj M P i).b2),ν ((Aj M P i).b3)]),(8,π g2),(6,π g1),(5,ν 0),(4,π g4),(0,π mx),(1,ν i)] a'∧Sep w' [Ab g2 179 (Ao (Bu M P (Aj M P i) k).1),Ab g1 40 (AE (Aj M P i)),Ab mx 125 [π K.tg],txP K ta tc M P,Ab g4 179 (Ao Bd),Ch.many R]∧(k≤4)∧((Bu M P (Aj M P i) k).2=0)) (fun (k:Nat)=>4-k) 0 ⟨h37.subs rfl,s6,Nat.zero_le _,rfl⟩ ?_
   rintro k1 a1 w8 ⟨h38,s7,hk126,hk0127⟩ K1 hK17
   refine sqr fun _ hK18=>bv h38 (z:=.bool (decide ((k1:Int)<4))) rfl (cLt _ _ _ _ rfl) fun _ h39=>wpList_nil<|hK18 _ _<|sq fun _ hK19=>?_
   rcases bC (decide ((k1:Int)<4)) with hc3 | hc3
   ·skip
    have hp5:(k1:Int)<4:=(dT hc3)
    refine wcT h39 rfl hc3<|h39.sk [29,28,8,6,5,4,0,1] rfl fun h40=>wp_skip<|hK19 _ _<|sq fun _ hK20=>wp_block ?_
    refine sqr fun _ hK21=>mv h40 rfl fun _ h41=>sv1 h41 rfl (Mt h41 rfl rfl rfl (xs:=[(Aj M P i).b0,(Aj M P i).b1,(Aj M P i).b2,(Aj M P i).b3]) rfl υ37 rfl rfl rfl (by show _<4;omega)) fun _ h42=>mvs 2 h42 rfl fun _ h43=>h43.sn [10,9,29,28,8,6,5,4,0,1] rfl fun h44=>hK21 _ _<|sq fun _ hK22=>sqr fun _ hK23=>mv h44 rfl fun _ h45=>bv h45 (z:=.bool (decide ((Aj M P i).blk k1=0))) rfl (cEq _ _ _ _ rfl) fun _ h46=>h46.sk [34,10,9,29,28,8,6,5,4,0,1] rfl fun h47=>?_
    refine wpList_nil<|hK23 _ _ ?_
    rcases bC (decide ((Aj M P i).blk k1=0)) with hc4 | hc4
    ·skip
     have hp6:(Aj M P i).blk k1=0:=(dT hc4)
     refine wcT h47 rfl hc4<|h47.sk [10,9,29,28,8,6,5,4,0,1] rfl fun h48=>wp_exit ?_
     refine hK20 _ _ ?_
     refine wp_region_lit<|bv h48 (z:=ν ((k1+1:Nat):Int)) rfl (CT _ _ _ ω ω ω) fun _ h49=>h49.sk [51,10,9,28,8,6,5,4,0,1] rfl fun h50=>mv h50 rfl fun _ h51=>h51.sk [29,10,9,28,8,6,5,4,0,1] rfl fun h52=>wpList_nil ?_
     have hn9:Bu M P (Aj M P i) (k1+1)=Bu M P (Aj M P i) k1:=by show (if _ then _ else _)=_;rw [if_pos hk0127,if_pos hp6]
     exact hK17 (k1+1) _ _ ⟨h52.subs rfl,(by rw [hn9];exact s7),ω,(by rw [hn9];exact hk0127)⟩ ω
    ·skip
     have hp7:¬ ((Aj M P i).blk k1=0):=(dF hc4)
     refine wcF h47 rfl hc4<|h47.sk [10,9,29,28,8,6,5,4,0,1] rfl fun h53=>wp_skip<|hK22 _ _<|sqr fun _ hK24=>mvs 2 h53 rfl fun _ h54=>cl h54 rfl (cF func32) (OM (kd:=7) (nm:=(Aj M P i).blk k1) (s7.pk [2,3,0,1,4,5] rfl) hM) fun _ v2 w9 r2 h55=>?_
     obtain ⟨ra_x170,rc_x171,rfl,s9⟩:=r2
     refine mvs 5 h55 rfl fun _ h56=>h56.sn [11,10,9,29,28,8,6,5,4,0,1] rfl fun h57=>hK24 _ _<|sqr fun _ hK25=>sw1 h57 rfl (rld h57 rfl rfl (Hd υ179 (s9.get 3 rfl:Blk _ _ _ _) (by first | exact Ap | exact Ag _ _ _ _ | exact AA (Ag _ _ _ _) _ _ | exact Ah _ _ _ | (rw [AD];exact Ah _ _ _) | assumption))) fun _ h58=>mvs 2 h58 rfl fun _ h59=>cl h59 rfl (cF func138) (AQ s9 (Wq ((Bu M P (Aj M P i) k1).1) (by first | exact Ap | exact Ag _ _ _ _ | exact AA (Ag _ _ _ _) _ _ | exact Ah _ _ _ | (rw [AD];exact Ah _ _ _) | assumption) (k1:Int) _ _ (As M P 7 ((Aj M P i).blk k1)) _ (s9.get 0 rfl:Own _ _ _ _ _ _ _ _).row)) fun _ v3 w10 r3 h60=>?_
     obtain ⟨rfl,s10⟩:=r3
     refine mvs 3 h60 rfl fun _ h61=>so (wn rfl) fun _ hK26=>GL h61 rfl rfl s10 3 rfl (by first | exact Ap | exact Ag _ _ _ _ | exact AA (Ag _ _ _ _) _ _ | exact Ah _ _ _ | (rw [AD];exact Ah _ _ _) | assumption) (by first | exact Ap | exact Ag _ _ _ _ | exact AA (Ag _ _ _ _) _ _ | exact Ah _ _ _ | (rw [AD];exact Ah _ _ _) | assumption) rfl rfl (cs':=[AG 0 5 1 ra_x170 ((As M P 7 ((Aj M P i).blk k1))).length rc_x171 (((As M P 7 ((Aj M P i).blk k1))).map Ad),Ab mx 125 [π K.tg],txP K ta tc M P,Ab g2 179 (Ao ((Fp ((Bu M P (Aj M P i) k1).1) (k1:Int) (As M P 7 ((Aj M P i).blk k1))).1)),Ab g1 40 (AE (Aj M P i)),Ab g4 179 (Ao Bd),Ch.many R]) rfl fun _ w11 h62 s11 _=>hK26 _ _ ?_
     refine mv h62 rfl fun _ h63=>h63.sn [7,11,10,9,29,28,8,6,5,4,0,1] rfl fun h64=>hK25 _ _<|sqr fun _ hK27=>mv h64 rfl fun _ h65=>bv h65 (z:=.bool (decide ((Fp ((Bu M P (Aj M P i) k1).1) (k1:Int) (As M P 7 ((Aj M P i).blk k1))).2≠0))) rfl (cNe _ _ _ _ rfl) fun _ h66=>h66.sn [49,7,11,10,9,29,28,8,6,5,4,0,1] rfl fun h67=>hK27 _ _ ?_
     rcases bC (decide ((Fp ((Bu M P (Aj M P i) k1).1) (k1:Int) (As M P 7 ((Aj M P i).blk k1))).2≠0)) with hc5 | hc5
     ·skip
      have hp8:(Fp ((Bu M P (Aj M P i) k1).1) (k1:Int) (As M P 7 ((Aj M P i).blk k1))).2≠0:=(dT hc5)
      refine wcT h67 rfl hc5<|h67.sk [7,11,10,9,29,28,8,6,5,4,0,1] rfl fun h68=>sqr fun _ hK28=>bu h68 (v:=.agg ((Ao Bd).toArray)) rfl (fun w=>κ) fun _ h69=>so (wn rfl) fun _ hK29=>GL h69 rfl rfl s11 5 rfl (by first | exact Ap | exact Ag _ _ _ _ | exact AA (Ag _ _ _ _) _ _ | exact Ah _ _ _ | (rw [AD];exact Ah _ _ _) | assumption) (by first | exact Ap | exact Ag _ _ _ _ | exact AA (Ag _ _ _ _) _ _ | exact Ah _ _ _ | (rw [AD];exact Ah _ _ _) | assumption) rfl rfl (cs':=[AG 0 5 1 ra_x170 ((As M P 7 ((Aj M P i).blk k1))).length rc_x171 (((As M P 7 ((Aj M P i).blk k1))).map Ad),Ab mx 125 [π K.tg],txP K ta tc M P,Ab g2 179 (Ao ((Fp ((Bu M P (Aj M P i) k1).1) (k1:Int) (As M P 7 ((Aj M P i).blk k1))).1)),Ab g1 40 (AE (Aj M P i)),Ab g4 179 (Ao Bd),Ch.many R]) rfl fun _ w12 h70 s12 _=>hK29 _ _ ?_
      refine h70.sk [50,7,11,10,9,29,28,8,6,4,0,1] rfl fun h71=>mv h71 rfl fun _ h72=>h72.sn [5,7,11,10,9,29,28,8,6,4,0,1] rfl fun h73=>hK28 _ _<|wp_ret ?_
      try simp only [Exit.then,Exit.inBlock]
      refine Hk (v:=.tuple #[.agg ((Ao Bd).toArray),.int .i64 36]) (Jr h73 rfl rfl rfl (s12.get 5 rfl:Blk _ _ _ _) Tryz.underlying179 (by first | exact Ap | exact Ag _ _ _ _ | exact AA (Ag _ _ _ _) _ _ | exact Ah _ _ _ | (rw [AD];exact Ah _ _ _) | assumption)) h73.defs ?_
      have hn9:(Bu M P (Aj M P i) (k1+1)).2≠0:=by show ((if _ then _ else _):List EntT×Int).2≠0;rw [if_pos hk0127,if_neg hp7];exact hp8
      have hn8:=MM hn9 4 ω
      exact ⟨by unfold An BH;rw [if_neg hp2,if_neg hp2,if_neg hp4,if_neg hp4,if_neg hn8,if_neg hn8],Sep.tail_un (xs:=[_,_]) (s12.pk [1,2,6] rfl)⟩
     ·skip
      have hp9:¬ ((Fp ((Bu M P (Aj M P i) k1).1) (k1:Int) (As M P 7 ((Aj M P i).blk k1))).2≠0):=(dF hc5)
      refine wcF h67 rfl hc5<|h67.sk [7,11,10,9,29,28,8,6,5,4,0,1] rfl fun h74=>wp_skip<|hK20 _ _<|wp_region_lit<|bv h74 (z:=ν ((k1+1:Nat):Int)) rfl (CT _ _ _ ω ω ω) fun _ h75=>h75.sk [51,7,11,10,9,28,8,6,5,4,0,1] rfl fun h76=>mv h76 rfl fun _ h77=>h77.sk [29,7,11,10,9,28,8,6,5,4,0,1] rfl fun h78=>wpList_nil ?_
      have hn9:Bu M P (Aj M P i) (k1+1)=Fp (Bu M P (Aj M P i) k1).1 k1 (As M P 7 ((Aj M P i).blk k1)):=by show (if _ then _ else _)=_;rw [if_pos hk0127,if_neg hp7]
      exact hK17 (k1+1) _ _ ⟨h78.subs rfl,(by rw [hn9];exact (s11.pk [3,4,1,2,5,6] rfl)),ω,(by rw [hn9];exact Classical.not_not.1 hp9)⟩ ω
   ·skip
    have hp10:¬ ((k1:Int)<4):=(dF hc3)
    refine wcF h39 rfl hc3<|h39.sk [29,28,8,6,5,4,0,1] rfl fun h79=>wp_exit ?_
    refine hK15 _ _ ?_
    refine sqr fun _ hK30=>sw1 h79 rfl (rld h79 rfl rfl (Hd υ179 (s7.get 0 rfl:Blk _ _ _ _) (by first | exact Ap | exact Ag _ _ _ _ | exact AA (Ag _ _ _ _) _ _ | exact Ah _ _ _ | (rw [AD];exact Ah _ _ _) | assumption))) fun _ h80=>so (wn rfl) fun _ hK31=>GL h80 rfl rfl s7 4 rfl (by first | exact Ap | exact Ag _ _ _ _ | exact AA (Ag _ _ _ _) _ _ | exact Ah _ _ _ | (rw [AD];exact Ah _ _ _) | assumption) (by first | exact Ap | exact Ag _ _ _ _ | exact AA (Ag _ _ _ _) _ _ | exact Ah _ _ _ | (rw [AD];exact Ah _ _ _) | assumption) rfl rfl (cs':=[Ab g2 179 (Ao (Bu M P (Aj M P i) k1).1),Ab g1 40 (AE (Aj M P i)),Ab mx 125 [π K.tg],txP K ta tc M P,Ab g4 179 (Ao ((Bu M P (Aj M P i) k1).1)),Ch.many R]) rfl fun _ w13 h81 s13 _=>hK31 _ _ ?_
    refine h81.sk [52,29,28,8,6,4,0,1] rfl fun h82=>mv h82 rfl fun _ h83=>h83.sn [5,29,28,8,6,4,0,1] rfl fun h84=>hK30 _ _<|wp_ret ?_
    try simp only [Exit.then,Exit.inBlock]
    refine Hk (v:=.tuple #[.agg ((Ao ((Bu M P (Aj M P i) k1).1)).toArray),ν 0]) (Jr h84 rfl rfl rfl (s13.get 4 rfl:Blk _ _ _ _) υ179 (by first | exact Ap | exact Ag _ _ _ _ | exact AA (Ag _ _ _ _) _ _ | exact Ah _ _ _ | (rw [AD];exact Ah _ _ _) | assumption)) h84.defs ?_
    obtain rfl:k1=4:=ω
    exact ⟨by unfold An BH;rw [if_neg hp2,if_neg hp2,if_neg hp4,if_neg hp4,if_pos hk0127,if_pos hk0127],Sep.tail_un (xs:=[_,_]) (s13.pk [2,3,5] rfl)⟩
theorem Sj {w:World} {R:List Ch} {c:Int} (hS0:Sep w ([]++R)) :
  CallsR prog 57 #[ν c] w (fun v w'=>v=.bool (decide (c≥1)&&decide (c≤8))∧Sep w' ([]++R)):=by
 have hS:Sep w [Ch.many R]:=Sep.tail_many (xs:=[]) hS0;clear hS0
 refine AB func57 rfl (N:=9) ntmps57 (by show 1≤9;decide) [(0,ν c)] rfl fun _ h1=>sqr fun _ hK3=>mv h1 rfl fun _ h4=>wpList_nil<|hK3 _ _<|sqr fun _ hK6=>mv h4 rfl fun _ h7=>bv h7 (z:=.bool (decide (c≥1))) rfl (cGe _ _ _ _ rfl) fun _ h9=>mv h9 rfl fun _ h2=>sg h2 (wT h2 rfl rfl rfl) rfl rfl rfl (fun hC1=>Au h2 rfl rfl _) fun _ h3=>sg h3 (wT h3 rfl rfl rfl) rfl rfl rfl (fun hC2=>Co h3 rfl (opg rfl hC2) rfl (cLe _ _ _ _ rfl) _) fun _ h5=>?_
 refine sv1 h5 rfl (SQ h5 rfl (E:=(decide (c≥1))) (F:=(decide (c≤8))) rfl rfl rfl (fun e=>if_pos (by rw [e];try rfl))) fun _ h6=>h6.sk [8,7,6,5,4,3,0] rfl fun h8=>mv h8 rfl fun _ h10=>h10.sn [2,0] rfl fun h11=>hK6 _ _<|wp_ret ?_
 try simp only [Exit.then,Exit.inBlock]
 refine AW (v:=.bool ((decide (c≥1))&&(decide (c≤8)))) (Cz h11 rfl rfl) h11.defs ?_
 exact ⟨by first | rfl | (rw [isCl_eq]),Sep.tail_un (xs:=[]) hS⟩
end
section
theorem VI (X:Λ) (hX:X.length≤1000) (w:World) {A:List ByteArray} {x:ByteArray} (ho:Cj X=some (A++[x])):Calls prog 91 #[σ X] w fun e w'=>∃ a,e=.returned (.tuple #[.slice a A.length A.length,.string x,ν 0])∧JF w' a A.length A∧Below w.heap.size w w'∧∀ b off,a=some ⟨b,off,none⟩→w.heap.size≤b:=by
  have HP:=hid (Jn X hX w)
  rw [ho] at HP
  go_enter func91,ntmps91
  go_wp2_with (go_at_call 113;fail)
  refine (HP.out).mono ?_
  rintro e w1 ⟨a,c,rfl,o,b⟩
  have O:=hid o;have B:=hid b
  clear o b
  simp only [erO,Option.getD_some]
  simp only [Option.getD_some] at O
  have hl:(A++[x]).length=A.length+1:=by simp
  rw [hl]
  have hrow:JF w1 a c (A++[x]):=O.out.row
  obtain ⟨g,off,rfl,hg,hc⟩:=IH hrow ω
  have hlc:A.length+1≤c:=by have:=hrow.2.1;rw [hl] at this;exact this
  have hc9:c≤9223372036854775807:=by have:=hrow.2.2.1;unfold maxLen at this;exact this
  have cx:=hc A.length ω
  have hx:(A++[x])[A.length]' ω=x:=by simp
  rw [hx] at cx
  have HROW:=hid hrow
  clear hc hx hrow hl
  have i1:(A.length:Int)<(A.length:Int)+1:=ω
  have i2:(A.length:Int)≤c:=ω
  have i3:(0:Int)≤A.length:=ω
  go_wp2_with fail
  go_quiet (fail)
  go_wp2_with fail
  go_ret3
  refine ⟨some ⟨g,off,none⟩,rfl,?_,Ef B.out _,fun b off' q=>?_⟩
  · obtain ⟨h1,h2,h3,h4,h5⟩:=HROW.out
    refine ⟨by simp,Nat.le_refl _,by unfold maxLen;omega,(fun h=>by cases h),fun hn=>?_⟩
    obtain ⟨b',o',e',hb',hc'⟩:=h5 (by simp)
    refine ⟨b',o',e',hb',fun j u hu=>hc' j u ?_⟩
    rw [List.map_append,List.getElem?_append_left (by have:=(List.getElem?_eq_some_iff.1 hu).1;exact this)]
    exact hu
  · cases q
    exact (World.ownsRow.lt O.out g rfl).1
def rwS (a:Ω) (c:Nat) (L:List ByteArray):Ch where
  F b:=∃ off,a=some ⟨b,off,none⟩∧0<L.length
  P w:=JF w a c L
  keep {w w'} h t:=t.row h fun hn b ⟨off,e⟩ q=>q ⟨off,e,hn⟩
  lt {w} h b hb:=by
    obtain ⟨off,e,hn⟩:=hb
    obtain ⟨b',off',e',hlt,_⟩:=h.2.2.2.2 hn
    rw [e] at e';cases e';exact hlt
theorem Aed {w:World} {a:Ω} {c:Nat} {L:List ByteArray} (h:JF w a c L):∃ b off,(0<L.length→a=some ⟨b,off,none⟩)∧∀ j,j<L.length→w.cell? ⟨b,off+j,none⟩=some (.string (L.getD j ⟨#[]⟩)):=by
  by_cases hn:0<L.length
  · obtain ⟨b,off,e,_,hc⟩:=h.2.2.2.2 hn
    refine ⟨b,off,fun _=>e,fun j hj=>hc j _ ?_⟩
    rw [List.getElem?_map,List.getElem?_eq_getElem hj,List.getD_eq_getElem?_getD,List.getElem?_eq_getElem hj];rfl
  · exact ⟨0,0,fun q=>absurd q hn,fun j hj=>absurd hj ω⟩
def BM:EntT:=⟨⟨#[]⟩,0⟩
def DY (M:MemM) (P:List PtM):List ByteArray→Int→Int×Int
  | [],i=>(i,0)
  | s::L,i=>
    if BH M P i≠0 then (0,BH M P i)
    else if AV (An M P i) s<0 then (0,10)
    else
      if AU M P ((An M P i).getD (AV (An M P i) s).toNat BM).ino≠0∨(Aj M P ((An M P i).getD (AV (An M P i) s).toNat BM).ino).k=0 then (0,36)
      else DY M P L ((An M P i).getD (AV (An M P i) s).toNat BM).ino
def AY (M:MemM) (P:List PtM) (L:List ByteArray):Int×Int:=if AU M P 1≠0 then (0,AU M P 1) else DY M P L 1
def AP (M:MemM) (P:List PtM) (X:Λ):Int×Int:=match Cj X with
  | some L=>AY M P L
  | none=>(0,15)
def GG (M:MemM) (P:List PtM) (X:Λ):Int×InoT×Int:=
  if (AP M P X).2≠0 then (0,BS,(AP M P X).2)
  else if AU M P (AP M P X).1≠0 then (0,BS,AU M P (AP M P X).1)
  else ((AP M P X).1,Aj M P (AP M P X).1,0)
def EL (M:MemM) (P:List PtM) (X:Λ):Int×ByteArray×Int:=match Cj X with
  | none=>(0,⟨#[]⟩,15)
  | some L=>match L.getLast? with
    | none=>(0,⟨#[]⟩,15)
    | some x=>
      if (AY M P L.dropLast).2≠0 then (0,⟨#[]⟩,(AY M P L.dropLast).2)
      else if AU M P (AY M P L.dropLast).1≠0 then (0,⟨#[]⟩,AU M P (AY M P L.dropLast).1)
      else if (Aj M P (AY M P L.dropLast).1).k≠2 then (0,⟨#[]⟩,12)
      else ((AY M P L.dropLast).1,x,0)
theorem Xr (t:List EntT) (s:ByteArray):-1≤AV t s∧AV t s<16:=by
  unfold AV
  split
  · exact ⟨Int.le_refl _,by decide⟩
  · cases h:(BF (DQ s.data.toList)).find? (Sf t s) with
    | none=>exact ⟨Int.le_refl _,by show (-1:Int)<16;decide⟩
    | some x=>
      have hm:=List.mem_of_find?_eq_some h
      unfold BF at hm
      obtain ⟨i,_,rfl⟩:=List.mem_map.1 hm
      have:=Nat.mod_lt (DQ s.data.toList+i) (show 0<16 by decide)
      exact ⟨by show (-1:Int)≤((_:Nat):Int);omega,by show (((DQ s.data.toList+i) % 16:Nat):Int)<16;omega⟩
end
section
def WG (x y:PartT):Bool:=(decide (x.k=y.k)&&decide (x.n=y.n))||decide (x.a+x.s≤y.a)||decide (y.a+y.s≤x.a)
theorem OR:(Bq.all fun x=>Bq.all fun y=>WG x y)=true:=by decide +kernel
theorem SJ:(Bq.all fun x=>decide (x.k=5)||decide (x.k=6)||decide (x.s=64))=true:=by decide +kernel
theorem VJ:(Bq.all fun x=>decide (x.k=5)||decide (x.a+x.s≤2688)||decide (6784≤x.a))=true:=by decide +kernel
theorem LD {kd nm:Int} {q:PartT} (h:AT kd nm=some q):q∈Bq∧q.k=kd∧q.n=nm:=by
  have h2:=List.find?_some h
  unfold Ac9 at h2
  refine ⟨List.mem_of_find?_eq_some h,?_⟩
  simpa using h2
theorem RS {kd nm kd' nm':Int} {q q':PartT} (h:AT kd nm=some q) (h':AT kd' nm'=some q') (hne:¬ (kd=kd'∧nm=nm')):q.a+q.s≤q'.a∨q'.a+q'.s≤q.a:=by
  have k:=LD h
  have k':=LD h'
  have z:=List.all_eq_true.1 (List.all_eq_true.1 OR q k.1) q' k'.1
  unfold WG at z
  simp only [Bool.or_eq_true,Bool.and_eq_true,decide_eq_true_eq] at z
  rcases z with (z | z) | z
  · exact absurd ⟨k.2.1.symm.trans (z.1.trans k'.2.1),k.2.2.symm.trans (z.2.trans k'.2.2)⟩ hne
  · exact .inl z
  · exact .inr z
theorem Ja {kd nm:Int} {q:PartT} (h:AT kd nm=some q) (h5:kd≠5) (h6:kd≠6):q.s=64:=by
  have k:=LD h
  have z:=List.all_eq_true.1 SJ q k.1
  simp only [Bool.or_eq_true,decide_eq_true_eq,k.2.1,h5,h6,false_or] at z
  exact z
theorem PJ {kd nm:Int} {q:PartT} (h:AT kd nm=some q) (h5:kd≠5):q.a+q.s≤2688∨6784≤q.a:=by
  have k:=LD h
  have z:=List.all_eq_true.1 VJ q k.1
  simp only [Bool.or_eq_true,decide_eq_true_eq,k.2.1,h5,false_or] at z
  exact z
theorem Dv {at_:Int} {b:Λ} {p:PtM} (h:p.at_+p.d.length≤at_∨at_+b.length≤p.at_):Jm at_ b p=b:=by
  refine CP (Cu _ _ _) fun i hi=>?_
  rw [Hh hi,if_neg ω]
theorem SA {at_:Int} {b xs:Λ} (h:xs.length≤b.length):Jm at_ b ⟨at_,xs⟩=xs++b.drop xs.length:=by
  refine CP (by rw [Cu,List.length_append,List.length_drop];omega) fun i hi=>?_
  rw [List.length_append,List.length_drop] at hi
  have hi:i<b.length:=ω
  rw [Hh hi]
  dsimp only
  simp only [List.getD_eq_getElem?_getD]
  by_cases hc:i<xs.length
  · rw [if_pos ω,List.getElem?_append_left hc,show (at_+(i:Int)-at_).toNat=i by omega]
  · rw [if_neg ω,List.getElem?_append_right ω,List.getElem?_drop,show xs.length+(i-xs.length)=i by omega]
abbrev IR (V:Λ) (at_ n:Int):Λ:=(V.drop at_.toNat).take n.toNat
theorem IS {V:Λ} {at_ n:Int} (h:0≤at_∧0≤n∧at_+n≤V.length):((IR V at_ n).length:Int)=n:=by rw [List.length_take,List.length_drop];omega
theorem Gq {V:Λ} {p:PtM} {at_ n:Int} (hp:0≤p.at_∧p.at_+p.d.length≤V.length) (h:0≤at_∧0≤n∧at_+n≤V.length):IR (stV V p) at_ n=Jm at_ (IR V at_ n) p:=by
  have l1:=IS h
  have l2:((IR (stV V p) at_ n).length:Int)=n:=IS (by rw [Bw];exact h)
  refine CP (by rw [Cu];omega) fun i hi=>?_
  rw [Cu] at hi
  rw [Hh hi]
  have e1:(IR (stV V p) at_ n).getD i 0=(stV V p).getD (at_.toNat+i) 0:=by
    simp only [List.getD_eq_getElem?_getD,List.getElem?_take,List.getElem?_drop];rw [if_pos ω]
  have e2:(IR V at_ n).getD i 0=V.getD (at_.toNat+i) 0:=by
    simp only [List.getD_eq_getElem?_getD,List.getElem?_take,List.getElem?_drop];rw [if_pos ω]
  rw [e1,e2]
  unfold stV
  rw [if_pos hp,Fy _ _ _ ω]
  by_cases hc:p.at_≤at_+(i:Int)∧at_+(i:Int)<p.at_+p.d.length
  · rw [if_pos ω,if_pos hc,show (at_+(i:Int)-p.at_).toNat=at_.toNat+i-p.at_.toNat by omega]
  · rw [if_neg ω,if_neg hc]
theorem Lr:∀ {P:List PtM} {V:Λ} {at_ n:Int} (_:∀ p∈P,0≤p.at_∧p.at_+p.d.length≤V.length) (_:0≤at_∧0≤n∧at_+n≤V.length),IR (P.foldl stV V) at_ n=ovl at_ (IR V at_ n) P
  | [],_,_,_,_,_=>rfl
  | p::P,V,at_,n,hp,h=>by
    rw [List.foldl_cons,Lr (fun q hq=>by rw [Bw];exact hp q (List.mem_cons_of_mem _ hq)) (by rw [Bw];exact h),Gq (hp p List.mem_cons_self) h]
    rfl
theorem TI:∀ (L:List PtM) (b:Λ),(∀ p∈L,p.d.length≤64)→(L.foldl EO b).length≤b.length+70*L.length
  | [],b,_=>by simp
  | p::L,b,h=>by
    have ih:=TI L (EO b p) (fun q hq=>h q (List.mem_cons_of_mem _ hq))
    have h1:(Ar (Ar b p.at_ 4) p.d.length 2).length≤(Ar b p.at_ 4).length+2:=BK _ _ 2
    have h2:(Ar b p.at_ 4).length≤b.length+4:=BK _ _ 4
    have h3:=h p List.mem_cons_self
    have h4:(EO b p).length≤b.length+70:=by unfold EO;rw [List.length_append];omega
    rw [List.foldl_cons,List.length_cons]
    omega
theorem Ou {L:List PtM} (h:∀ p∈L,p.d.length≤64):(BP L).length≤70*L.length+13:=by
  unfold BP;split
  · unfold Up
    have h1:=TI L (Ar [] L.length 2) h
    have h2:(Ar [] L.length 2).length≤0+2:=BK _ _ 2
    have h4:Bl (MA (DG L)).length≤7:=by unfold Bl;omega
    have h5:(MA (DG L)).length≤(DG L).length+4:=BK _ _ 4
    have h6:(DG L).length≤2+70*L.length:=by unfold DG;omega
    rw [List.length_append,List.length_replicate];omega
  · simp
theorem OO {p:PtM} (h:0≤p.at_∧p.at_≤23168) (hd:p.d.length≤256):Gw p=true:=by
  have hf:Bp p.at_ 4=true:=by
    unfold Bp
    rw [if_neg (by decide),if_neg (by decide),if_pos rfl,decide_eq_true ω,decide_eq_true ω];rfl
  unfold Gw
  rw [hf,decide_eq_true hd];rfl
def Od (M:MemM) (P:List PtM) (kd nm:Int):Λ:=if kd=3∨kd=4∨kd=7 then As M P kd nm else []
structure Vol (M:MemM) (P:List PtM) (s:Int→Int→Λ) (n:Nat):Prop where
  m:M.V.length=23168
  r:Cn M.V 2688 4096=([],0)
  k:∀ p∈P,0≤p.at_∧p.at_+p.d.length≤23168
  l:P.length=n
  d:∀ p∈P,p.d.length≤64
  s:Od M P=s
def CE (s:Int→Int→Λ) (kd nm:Int) (xs:Λ):Int→Int→Λ:=fun a b=>if a=kd∧b=nm then xs++(s kd nm).drop xs.length else s a b
section
variable {M:MemM} {P:List PtM} {s:Int→Int→Λ} {n:Nat}
theorem Tg {kd nm:Int} {q:PartT} {xs:Λ} (hm:M.V.length=23168) (h:AT kd nm=some q) (hx:(xs.length:Int)≤q.s) (h64:xs.length≤64) (hn:P.length<64):stE M P kd nm xs.length=0∧stP M P kd nm xs=P++[⟨q.a,xs⟩]:=by
  have hi:=Dq h
  have ho:okT M P q.a xs.length=true:=by unfold okT;rw [decide_eq_true_iff];omega
  unfold stE stP;rw [h];dsimp only
  unfold Ly Kg;rw [if_pos ho,if_pos ho];exact ⟨rfl,rfl⟩
theorem Ig {kd nm kd' nm':Int} {q:PartT} {xs:Λ} (hm:M.V.length=23168) (h:AT kd nm=some q) (hx:(xs.length:Int)≤q.s):As M (P++[⟨q.a,xs⟩]) kd' nm'=if kd'=kd∧nm'=nm then xs++(As M P kd nm).drop xs.length else As M P kd' nm':=by
  cases h':AT kd' nm' with
  | none=>
    rw [Cc h',Cc h']
    split
    · next e=>rw [e.1,e.2,h] at h';cases h'
    · rfl
  | some q'=>
    have l:=MB (P:=P) (Je hm h')
    have hi:=Dq h'
    rw [BV h',BV h',BV h]
    show ovl _ _ (P++_)=_
    rw [Qp]
    split
    · next e=>
      rw [e.1,e.2,h] at h'
      cases h'
      exact SA (by show xs.length≤(Dj M P q.a q.s).length;omega)
    · next e=>
      have z:=RS h h' (fun e'=>e ⟨e'.1.symm,e'.2.symm⟩)
      exact Dv (by show q.a+(xs.length:Int)≤_∨q'.a+((Dj M P q'.a q'.s).length:Int)≤q.a;omega)
theorem Vol.put (V:Vol M P s n) {kd nm:Int} {q:PartT} {xs:Λ} (h:AT kd nm=some q) (hk:kd=3∨kd=4∨kd=7) (hx:xs.length≤64) (hn:n<64):stE M P kd nm xs.length=0∧Vol M (stP M P kd nm xs) (CE s kd nm xs) (n+1):=by
  have h64:=Ja h ω ω
  have hi:=Dq h
  have z:=Tg V.m h (xs:=xs) (P:=P) ω hx (by have:=V.l;omega)
  refine ⟨z.1,?_⟩
  rw [z.2]
  refine ⟨V.m,V.r,fun p hp=>?_,by rw [List.length_append,V.l];rfl,fun p hp=>?_,?_⟩
  · rcases List.mem_append.1 hp with hp | hp
    · exact V.k p hp
    · rw [List.mem_singleton.1 hp];dsimp only;omega
  · rcases List.mem_append.1 hp with hp | hp
    · exact V.d p hp
    · rw [List.mem_singleton.1 hp];exact hx
  · rw [← V.s]
    funext a b
    unfold Od CE
    dsimp only
    by_cases ha:a=3∨a=4∨a=7
    · rw [if_pos ha,Ig V.m h ω,if_pos ha,if_pos hk]
    · rw [if_neg ha,if_neg ha,if_neg (fun (e:a=kd∧b=nm)=>ha (e.1 ▸ hk))]
theorem Vol.put2 (V:Vol M P s n) {kd nm:Int} {q:PartT} {xs:Λ} (h:AT kd nm=some q) (hk:¬ (kd=3∨kd=4∨kd=7)) (hx:(xs.length:Int)≤q.s) (hx2:xs.length≤64) (hn:n<64):stE M P kd nm xs.length=0∧Vol M (stP M P kd nm xs) s (n+1):=by
  have hi:=Dq h
  have z:=Tg V.m h (xs:=xs) (P:=P) ω hx2 (by have:=V.l;omega)
  refine ⟨z.1,?_⟩
  rw [z.2]
  refine ⟨V.m,V.r,fun p hp=>?_,by rw [List.length_append,V.l];rfl,fun p hp=>?_,?_⟩
  · rcases List.mem_append.1 hp with hp | hp
    · exact V.k p hp
    · rw [List.mem_singleton.1 hp];dsimp only;omega
  · rcases List.mem_append.1 hp with hp | hp
    · exact V.d p hp
    · rw [List.mem_singleton.1 hp];exact hx2
  · rw [← V.s]
    funext a b
    unfold Od
    by_cases ha:a=3∨a=4∨a=7
    · rw [if_pos ha,Ig V.m h hx,if_neg (fun (e:a=kd∧b=nm)=>hk (e.1 ▸ ha)),if_pos ha]
    · rw [if_neg ha,if_neg ha]
theorem Vol.com (V:Vol M P s n) (hn:n≤50):cmE M P=0∧cmP M P=[]∧Vol (cmM M P) [] s 0:=by
  by_cases h0:P=[]
  · subst h0
    refine ⟨rfl,rfl,?_⟩
    have e:cmM M []=M:=rfl
    rw [e]
    exact ⟨V.m,V.r,V.k,rfl,V.d,V.s⟩
  · have ok:LogOk 2688 4096 M:=⟨ω,ω,by have:=V.m;omega,by have:=V.m;omega⟩
    have hl:=Ou V.d
    have hE:CG P=true:=by
      unfold CG
      rw [decide_eq_true (by have:=V.l;omega),List.all_eq_true.2 fun p hp=>OO (by have:=V.k p hp;omega) (by have:=V.d p hp;omega)];rfl
    have eE:FW P=0:=by unfold FW;rw [if_pos hE]
    have hP:=V.l
    have ap:Dt M 2688 4096 P=0:=by unfold Dt;rw [if_pos eE,V.r];exact if_neg (by show ¬ (4096-8<0+_);omega)
    have eM:cmM M P=AI (CR M 2688 4096 P) 2688 4096:=by unfold cmM;rw [if_neg h0,if_pos ap]
    have lR:Cn (CR M 2688 4096 P).V 2688 4096=([P],0+(BP P).length):=by
      rw [Qd ok,if_pos ap,V.r];rfl
    have okA:=NA ok P
    refine ⟨by unfold cmE;rw [if_neg h0,ap],by unfold cmP;rw [if_neg h0,if_pos ap],?_⟩
    rw [eM]
    refine ⟨by rw [Cp,GP];exact V.m,NB okA,fun p hp=>(by cases hp),rfl,fun p hp=>(by cases hp),?_⟩
    rw [← V.s]
    funext a b
    unfold Od
    split
    · next ha=>
      cases hf:AT a b with
      | none=>rw [Cc hf,Cc hf]
      | some q=>
        have hi:=Dq hf
        have hg:=PJ hf ω
        have hA:CR M 2688 4096 P=Dn (CC M [⟨((2688+8+0:Nat):Int),BP P⟩]) 2688 ((0+(BP P).length:Nat):Int):=by
          unfold CR;rw [if_pos ⟨eE,by rw [V.r];show ¬ (4096-8<0+_);omega⟩,V.r]
        have l8:∀ z:Int,(Ar [] z 8).length≤8:=fun z=>Nat.le_trans (BK [] z 8) (by simp)
        rw [BV hf,BV hf]
        show IR (AI (CR M 2688 4096 P) 2688 4096).V q.a q.s=ovl q.a (IR M.V q.a q.s) P
        have eV:(AI (CR M 2688 4096 P) 2688 4096).V=stV (P.foldl stV (stV (stV M.V ⟨((2688+8+0:Nat):Int),BP P⟩) ⟨((2688:Nat):Int),Ar [] ((0+(BP P).length:Nat):Int) 8⟩)) ⟨((2688:Nat):Int),Ar [] 0 8⟩:=by
          unfold AI;rw [lR];unfold Dn;rw [CM,CM,hA];unfold Dn;rw [CM,CM]
          simp
        have m:=V.m
        have b1:=l8 ((0+(BP P).length:Nat):Int)
        have b2:=l8 0
        rw [eV,Gq (by rw [Ga,Bw,Bw,m];dsimp only;omega) (by rw [Ga,Bw,Bw,m];omega),
          Lr (by rw [Bw,Bw,m];exact V.k) (by rw [Bw,Bw,m];omega),
          Gq (by rw [Bw,m];dsimp only;omega) (by rw [Bw,m];omega),Gq (by rw [m];dsimp only;omega) (by rw [m];omega)]
        have lc:((IR M.V q.a q.s).length:Int)=q.s:=IS (by rw [m];omega)
        rw [Dv (p:=⟨((2688:Nat):Int),Ar [] 0 8⟩) (by rw [Fz,Cu,Cu];dsimp only;omega)]
        rw [Dv (p:=⟨((2688:Nat):Int),Ar [] ((0+(BP P).length:Nat):Int) 8⟩) (by rw [Cu];dsimp only;omega)]
        rw [Dv (p:=⟨((2688+8+0:Nat):Int),BP P⟩) (by dsimp only;omega)]
    · rfl
end
end
section
theorem RQ (t:List EntT) (ht:t.length=16) (s:ByteArray) (hs:s.size≤1000) (w:World):Calls prog 115 #[.agg (Ao t).toArray,.string s] w fun e w'=>e=.returned (ν (AV t s))∧Below w.heap.size w w':=JU t s ht hs w
theorem Ae7 (g j:Nat) {i:Int} (hi:i=(j:Int)) (hj:j<16) (w:World):(Instr.indexAt 179 (π g) (ν i)).run prog w=.ok (.pointer (some ⟨g,j*2,none⟩)) w:=by
 subst hi
 have u3:=υ179
 have u9:=υ177
 have z3:=Tryz.sizeOf177
 have d0:(j:Int)<16:=ω
 have d1:0≤(j:Int):=ω
 go_simp
theorem Aaf (g j:Nat) {i:Int} (hi:i=(j:Int)) (hj:j<4) (w:World):(Instr.indexAt 37 (.pointer (some ⟨g,3,none⟩)) (ν i)).run prog w=.ok (.pointer (some ⟨g,3+j,none⟩)) w:=by
 subst hi
 have u3:=υ37
 have z3:=Tryz.sizeOf3
 have d0:(j:Int)<4:=ω
 have d1:0≤(j:Int):=ω
 go_simp
theorem Agw (g j:Nat) {i:Int} (hi:i=(j:Int)) (hj:j<8) (w:World):(Instr.indexAt 38 (.pointer (some ⟨g,7,none⟩)) (ν i)).run prog w=.ok (.pointer (some ⟨g,7+j,none⟩)) w:=by
 subst hi
 have u3:=υ38
 have z3:=Tryz.sizeOf3
 have d0:(j:Int)<8:=ω
 have d1:0≤(j:Int):=ω
 go_simp
theorem Agy {T:TypeId} {k:TypeDesc} (hu:prog.underlying T=some k) (hk:k.isRow=false) {w:World} {a:Ω} {c:Nat} {L:List ByteArray} (h:JF w a c L) {b off j:Nat} (ha:a=some ⟨b,off,none⟩) (hj:j<L.length):(Instr.loadAt T (.pointer (some ⟨b,off+j,none⟩))).run prog w=.ok (.string (L.getD j ⟨#[]⟩)) w:=by
 obtain ⟨b',off',e,_,hc⟩:=h.2.2.2.2 ω
 rw [ha] at e;cases e
 refine ldC hu hk (hc j _ ?_)
 rw [List.getElem?_map,List.getElem?_eq_getElem hj,List.getD_eq_getElem?_getD,List.getElem?_eq_getElem hj];rfl
theorem Zd {t:List EntT} (ht:t.length=16) {j:Nat} (hj:j<16):(Ao t)[j*2+1]? = some (ν (t.getD j BM).ino):=by
 have h:=(EE t j ω).2
 rw [show j*2+1=2*j+1 from ω,h,List.getD_eq_getElem?_getD,List.getElem?_eq_getElem ω];rfl
def InoT.setO (x:InoT) (k:Nat) (n:Int):InoT:=match k with
 | 0=>{ x with o0:=n }
 | 1=>{ x with o1:=n }
 | 2=>{ x with o2:=n }
 | 3=>{ x with o3:=n }
 | 4=>{ x with o4:=n }
 | 5=>{ x with o5:=n }
 | 6=>{ x with o6:=n }
 | _=>{ x with o7:=n }
theorem LL (x:InoT) {k:Nat} (hk:k<4):(AE x)[3+k]? = some (ν (x.blk k)):=by
 rcases (ω:k=0∨k=1∨k=2∨k=3) with rfl | rfl | rfl | rfl<;>rfl
theorem Vl (x:InoT) {k:Nat} {n:Int} (hk:k<4):splice (AE x) (3+k) [ν n]=AE (x.setB k n):=by
 rcases (ω:k=0∨k=1∨k=2∨k=3) with rfl | rfl | rfl | rfl<;>rfl
section
variable {M:MemM} {P:List PtM} {L:List ByteArray} {k:Nat} {i:Int}
theorem Lg (hk:k<L.length):L.drop k=L.getD k ⟨#[]⟩::L.drop (k+1):=by
 rw [List.drop_eq_getElem_cons hk,List.getD_eq_getElem?_getD,List.getElem?_eq_getElem hk];rfl
theorem Zn (hk:k<L.length) (h:BH M P i≠0):DY M P (L.drop k) i=(0,BH M P i):=by
 rw [Lg hk];unfold DY;rw [if_pos h]
theorem Ww (hk:k<L.length) (h:¬ BH M P i≠0) (h2:AV (An M P i) (L.getD k ⟨#[]⟩)<0):DY M P (L.drop k) i=(0,10):=by
 rw [Lg hk];unfold DY;rw [if_neg h,if_pos h2]
theorem Zl (hk:k<L.length) (h:¬ BH M P i≠0) (h2:¬ AV (An M P i) (L.getD k ⟨#[]⟩)<0) (h3:AU M P ((An M P i).getD (AV (An M P i) (L.getD k ⟨#[]⟩)).toNat BM).ino≠0∨(Aj M P ((An M P i).getD (AV (An M P i) (L.getD k ⟨#[]⟩)).toNat BM).ino).k=0):DY M P (L.drop k) i=(0,36):=by
 rw [Lg hk];unfold DY;rw [if_neg h,if_neg h2,if_pos h3]
theorem Wv {q:Int×Int} (hw:DY M P (L.drop k) i=q) (hk:k<L.length) (h:¬ BH M P i≠0) (h2:¬ AV (An M P i) (L.getD k ⟨#[]⟩)<0) (h3:¬ AU M P ((An M P i).getD (AV (An M P i) (L.getD k ⟨#[]⟩)).toNat BM).ino≠0∧¬ (Aj M P ((An M P i).getD (AV (An M P i) (L.getD k ⟨#[]⟩)).toNat BM).ino).k=0):DY M P (L.drop (k+1)) ((An M P i).getD (AV (An M P i) (L.getD k ⟨#[]⟩)).toNat BM).ino=q:=by
 rw [← hw,Lg hk];conv=>rhs;unfold DY
 rw [if_neg h,if_neg h2,if_neg (fun q=>q.elim (fun q=>h3.1 q) (fun q=>h3.2 q))]
end
theorem Nx {α:Type} {o:Option α} (h:o.isSome=false):o=none:=by cases o<;>simp_all
theorem Qx {X:Λ} {L:List ByteArray} (h:Cj X=some L):L.length≤6:=by
 unfold Cj at h
 split at h
 ·cases h;simp
 ·unfold NP at h
  split at h
  ·split at h
   ·unfold Kd at h
    split at h
    ·rename_i hq;cases h;rw [List.length_map];exact hq.1
    ·cases h
   ·cases h
  ·cases h
theorem NJ {X:Λ} {L:List ByteArray} (h:Cj X=some L):∀ x∈L,DJ x=true:=by
 unfold Cj at h
 split at h
 ·cases h;simp
 ·unfold NP at h
  split at h
  ·split at h
   ·unfold Kd at h
    split at h
    ·rename_i hq;cases h;exact List.all_eq_true.1 hq.2
    ·cases h
   ·cases h
  ·cases h
theorem Ud {x:ByteArray} (h:DJ x=true):x.size≤12:=by
 unfold DJ at h;simp only [Bool.and_eq_true,decide_eq_true_eq] at h;omega
theorem Yc {X:Λ} {L:List ByteArray} (h:Cj X=some L) (j:Nat) (_:j<L.length):(L.getD j ⟨#[]⟩).size≤1000:=by
 have hj:j<L.length:=by assumption
 rw [List.getD_eq_getElem?_getD,List.getElem?_eq_getElem hj]
 exact Nat.le_trans (Ud (NJ h _ (List.getElem_mem hj))) ω
theorem Vz {X:Λ} {A:List ByteArray} {x:ByteArray} (h:Cj X=some (A++[x])) (j:Nat) (hj:j<A.length):(A.getD j ⟨#[]⟩).size≤1000:=by
 rw [List.getD_eq_getElem?_getD,List.getElem?_eq_getElem hj]
 exact Nat.le_trans (Ud (NJ h _ (List.mem_append_left _ (List.getElem_mem hj)))) ω
theorem SL {w:World} {R:List Ch} (hS:Sep w R) (X:Λ) (hX:X.length≤1000) {L:List ByteArray} (hp:Cj X=some L):CallsR prog 113 #[σ X] w (fun v w'=>∃ a c,v=.tuple #[.slice a L.length c,ν 0]∧Sep w' (rwS a c L::R)):=
 Calls.mono (Jn X hX w) fun e w' z=>by
  rw [hp] at z
  obtain ⟨a,c,e1,o,b⟩:=z
  exact ⟨_,e1,a,c,rfl,hS.push b (c:=rwS a c L) o.row fun k ⟨off,q,_⟩=>(World.ownsRow.lt o k (by rw [q];rfl)).1⟩
theorem VK {w:World} {R:List Ch} (hS:Sep w R) (X:Λ) (hX:X.length≤1000) (hp:(Cj X).isSome=false):CallsR prog 113 #[σ X] w (fun v w'=>∃ (a:Ω) (c:Nat),v=.tuple #[.slice a 0 c,ν 15]∧Sep w' R):=
 Calls.mono (Jn X hX w) fun e w' z=>by
  rw [Nx hp] at z
  obtain ⟨a,c,e1,o,b⟩:=z
  exact ⟨_,e1,a,c,rfl,hS.mono b⟩
def LN (X:Λ):Option ByteArray:=(Cj X).bind (·.getLast?)
theorem Sm {X:Λ} (h:(LN X).isSome=true):∃ A x,Cj X=some (A++[x]):=by
 unfold LN at h
 cases hp:Cj X with
 | none=>rw [hp] at h;cases h
 | some L=>
  rw [hp] at h
  rcases II L with rfl | ⟨A,x,rfl⟩
  ·cases h
  ·exact ⟨A,x,rfl⟩
theorem LO {X:Λ} (h:(LN X).isSome=false):Cj X=none∨Cj X=some []:=by
 unfold LN at h
 cases hp:Cj X with
 | none=>exact .inl rfl
 | some L=>
  rw [hp] at h
  rcases II L with rfl | ⟨A,x,rfl⟩
  ·exact .inr rfl
  ·simp at h
theorem OQ {w:World} {R:List Ch} (hS:Sep w R) (X:Λ) (hX:X.length≤1000) {A:List ByteArray} {x:ByteArray} (hp:Cj X=some (A++[x])):CallsR prog 91 #[σ X] w (fun v w'=>∃ a,v=.tuple #[.slice a A.length A.length,.string x,ν 0]∧Sep w' (rwS a A.length A::R)):=
 Calls.mono (VI X hX w hp) fun e w' ⟨a,e1,r,b,hf⟩=>⟨_,e1,a,rfl,hS.push b (c:=rwS a A.length A) r fun k ⟨off,q,_⟩=>hf k off q⟩
theorem Qt {w:World} {R:List Ch} (hS:Sep w R) (X:Λ) (hX:X.length≤1000) (hp:(LN X).isSome=false):CallsR prog 91 #[σ X] w (fun v w'=>v=.tuple #[.slice none 0 0,σ [],ν 15]∧Sep w' R):=
 Calls.mono (SG X hX w) fun e w' z=>by
  have hn:=LO hp
  rcases z with ⟨L,x,a,c,q,_⟩ | ⟨_,e1,b⟩
  ·rcases hn with hn | hn<;>rw [hn] at q
   ·cases q
   ·have:=(Option.some.inj q).symm;simp at this
  ·exact ⟨_,e1,rfl,hS.mono b⟩
theorem Qy {M:MemM} {P:List PtM} {X:Λ} (h:(LN X).isSome=false):EL M P X=(0,⟨#[]⟩,15):=by
 rcases LO h with q | q<;>(unfold EL;rw [q]);rfl
theorem FA {M:MemM} {P:List PtM} {X:Λ} {A:List ByteArray} {x:ByteArray} (h:Cj X=some (A++[x])):EL M P X=if (AY M P A).2≠0 then (0,⟨#[]⟩,(AY M P A).2) else if AU M P (AY M P A).1≠0 then (0,⟨#[]⟩,AU M P (AY M P A).1) else if (Aj M P (AY M P A).1).k≠2 then (0,⟨#[]⟩,12) else ((AY M P A).1,x,0):=by
 unfold EL;rw [h];dsimp only;rw [List.getLast?_concat];dsimp only;rw [List.dropLast_concat]
theorem VN {e k a:Int} {x:ByteArray} (h:e≠0∨k≠2):Value.tuple #[ν 0,σ [],ν (AJ [e,12])]=Value.tuple #[ν (if e≠0 then (0,(⟨#[]⟩:ByteArray),e) else if k≠2 then (0,⟨#[]⟩,12) else (a,x,0)).1,.string (if e≠0 then (0,(⟨#[]⟩:ByteArray),e) else if k≠2 then (0,⟨#[]⟩,12) else (a,x,0)).2.1,ν (if e≠0 then (0,(⟨#[]⟩:ByteArray),e) else if k≠2 then (0,⟨#[]⟩,12) else (a,x,0)).2.2]:=by
 by_cases he:e≠0
 ·rw [if_pos he,show AJ [e,12]=e from by unfold AJ;rw [List.find?_cons_of_pos (by simpa using he)];rfl];rfl
 ·rw [if_neg he,if_pos (h.resolve_left he)]
  have:e=0:=Classical.not_not.1 he
  subst this;rfl
def GH (M:MemM) (P:List PtM):Int×Int:=match (List.range 32).find? (fun (k:Nat)=>decide (AU M P ((k:Int)+1)=0∧(Aj M P ((k:Int)+1)).k=0)) with
 | some k=>((k:Int)+1,0)
 | none=>(0,18)
theorem VC {M:MemM} {P:List PtM} {k:Nat} (h:∀ j,j<k→¬ (AU M P ((j:Int)+1)=0∧(Aj M P ((j:Int)+1)).k=0)) (_:k<32) (hb:(¬ AU M P ((k:Int)+1)=0)∨(¬ (Aj M P ((k:Int)+1)).k=0)):∀ j,j<k+1→¬ (AU M P ((j:Int)+1)=0∧(Aj M P ((j:Int)+1)).k=0):=fun j hj=>by
 by_cases e:j=k
 ·subst e;exact fun q=>hb.elim (fun z=>z q.1) (fun z=>z q.2)
 ·exact h j ω
theorem Yk {M:MemM} {P:List PtM} (h:∀ j:Nat,j<32→¬ (AU M P ((j:Int)+1)=0∧(Aj M P ((j:Int)+1)).k=0)):GH M P=(0,18):=by
 unfold GH
 rw [List.find?_eq_none.2 fun j hj=>by simpa using h j (List.mem_range.1 hj)]
theorem NF {M:MemM} {P:List PtM} {k:Nat} (hk:k<32) (h:∀ j,j<k→¬ (AU M P ((j:Int)+1)=0∧(Aj M P ((j:Int)+1)).k=0)) (ok:AU M P ((k:Int)+1)=0∧(Aj M P ((k:Int)+1)).k=0):GH M P=((k:Int)+1,0):=by
 unfold GH
 have e:(List.range 32).find? (fun (k:Nat)=>decide (AU M P ((k:Int)+1)=0∧(Aj M P ((k:Int)+1)).k=0))=some k:=by
  rw [List.find?_range_eq_some]
  exact ⟨decide_eq_true ok,List.mem_range.2 hk,fun j hj=>by rw [decide_eq_false (h j hj)];rfl⟩
 rw [e]
def Az (M:MemM) (P:List PtM) (i:Int):InoT:=if BH M P i≠0 then BS else Aj M P i
def Eb (M:MemM) (P:List PtM) (i:Int):List EntT:=if BH M P i≠0 then Bd else An M P i
def Ot (M:MemM) (P:List PtM) (i:Int):Int:=if BH M P i≠0 then BH M P i else AU M P i
theorem Kh {fn:Func} {N:Nat} {l:List (Nat×Value)} {a:Act} {w:World} (hK:Kn N l a) {s c u:Nat} {T:TypeId} (h:fn.results=#[.tmp s,.cell c T,.tmp u]) {g:Nat} {e:TypeId} {L:List Value} {k:TypeDesc} {v v0:Value} (h0:opv l (.tmp s)=some v0) (hc:opv l (.tmp c)=some (π g)) (hv:opv l (.tmp u)=some v) (hb:Blk w g e L) (hu:prog.underlying T=some k) (hk:k.isRow=true) (hn:(prog.info? T).map (·.size)=some L.length):(results fn a.tmps).run prog w=.ok (.tuple #[v0,.agg L.toArray,v]) w:=by
 have hl:=run_loadVar_mid (P:=prog) w g 0 T L k hb.range hu hk hn
 have q0:a.tmps.getD s undef=v0:=hK.op h0
 have q1:a.tmps.getD c undef=π g:=hK.op hc
 have q2:a.tmps.getD u undef=v:=hK.op hv
 have q0':a.tmps[s]?.getD undef=v0:=by simpa using q0
 have q1':a.tmps[c]?.getD undef=π g:=by simpa using q1
 have q2':a.tmps[u]?.getD undef=v:=by simpa using q2
 simp [results,h,q0',q1',q2',asAddr,hl]
theorem QI {fn:Func} {N:Nat} {l:List (Nat×Value)} {a:Act} {w:World} (hK:Kn N l a) {c d u:Nat} {T U:TypeId} (h:fn.results=#[.cell c T,.cell d U,.tmp u]) {g g2:Nat} {e e2:TypeId} {L:List Value} {t:List EntT} {k k2:TypeDesc} {v:Value} (hc:opv l (.tmp c)=some (.pointer (some ⟨g,0,none⟩))) (hd:opv l (.tmp d)=some (.pointer (some ⟨g2,0,none⟩))) (hv:opv l (.tmp u)=some v) (hb:Blk w g e L) (hb2:Blk w g2 e2 (Ao t)) (hu:Tryz.prog.underlying T=some k) (hu2:Tryz.prog.underlying U=some k2) (ht:t.length=16) (hk:k.isRow=true:=by rfl) (hk2:k2.isRow=true:=by rfl) (hn:(Tryz.prog.info? T).map (·.size)=some L.length:=by kernel_rfl) (hn2:(Tryz.prog.info? U).map (·.size)=some 32:=by kernel_rfl):(results fn a.tmps).run Tryz.prog w=.ok (.tuple #[.agg L.toArray,.agg (Ao t).toArray,v]) w:=by
 have hl:=run_loadVar_mid (P:=prog) w g 0 T L k hb.range hu hk hn
 have hl2:=run_loadVar_mid (P:=prog) w g2 0 U (Ao t) k2 hb2.range hu2 hk2 (by rw [BG,ht];exact hn2)
 have q0:a.tmps.getD d undef=π g2:=hK.op hd
 have q1:a.tmps.getD c undef=π g:=hK.op hc
 have q2:a.tmps.getD u undef=v:=hK.op hv
 have q0':a.tmps[d]?.getD undef=π g2:=by simpa using q0
 have q1':a.tmps[c]?.getD undef=π g:=by simpa using q1
 have q2':a.tmps[u]?.getD undef=v:=by simpa using q2
 simp [results,h,q0',q1',q2',asAddr,hl,hl2]
theorem Zm {w:World} {R:List Ch} {mx:Nat} {K:VolK} {ta:Ω} {tc:Nat} {M:MemM} {P:List PtM} {la:Ω} {lc:Nat} {L:List ByteArray} (hS0:Sep w ([rwS la lc L,Ab mx 125 [π K.tg],txP K ta tc M P]++R)) (hM:M.V.length=23168) (hL:L.length≤1000) (hLn:∀ j,j<L.length→(L.getD j ⟨#[]⟩).size≤1000) :
  CallsR prog 92 #[π mx,.slice la L.length lc] w (fun v w'=>v=.tuple #[ν (AY M P L).1,ν (AY M P L).2]∧Sep w' ([rwS la lc L,Ab mx 125 [π K.tg],txP K ta tc M P]++R)):=by
 have hS:Sep w [rwS la lc L,Ab mx 125 [π K.tg],txP K ta tc M P,Ch.many R]:=Sep.tail_many (xs:=[_,_,_]) hS0;clear hS0
 obtain ⟨bl,ol,hl,_⟩:=Aed (hS.get 0 rfl:JF _ _ _ _)
 refine AB func92 rfl (N:=64) ntmps92 (by show 2≤64;decide) [(0,π mx),(1,.slice la L.length lc)] rfl fun _ h1=>sqr fun _ hK3=>mvs 2 h1 rfl fun _ h6=>wpList_nil<|hK3 _ _<|sqr fun _ hK8=>mv h6 rfl fun _ h9=>wpList_nil<|hK8 _ _<|sq fun _ hK1=>sqr fun _ hK2=>mvs 2 h9 rfl fun _ h2=>cl h2 rfl (cF func11) (En (i:=1) (hS.pk [1,2,0,3] rfl) hM) fun _ v1 w1 r1 h3=>?_
 obtain ⟨rfl,s1⟩:=r1
 refine mvs 3 h3 rfl fun _ h4=>so (wn rfl) fun _ hK4=>AO h4 rfl rfl rfl rfl (z:=[ν 0,ν 0,ν 0,ν 0,ν 0,ν 0,ν 0,ν 0,ν 0,ν 0,ν 0,ν 0,ν 0,ν 0,ν 0]) (fun _=>rfl) s1 fun _ g1 w2 h5 s2 _ _=>hK4 _ _ ?_
 refine stA h5 s2 0 rfl rfl rfl κ rfl rfl rfl rfl fun _ w3 h7 s3 _=>mv h7 rfl fun _ h8=>h8.sn [8,6,5,4,0,1] rfl fun h10=>hK2 _ _<|sqr fun _ hK5=>mv h10 rfl fun _ h11=>bv h11 (z:=.bool (decide (AU M P 1≠0))) rfl (cNe _ _ _ _ rfl) fun _ h12=>h12.sn [23,8,6,5,4,0,1] rfl fun h13=>hK5 _ _ ?_
 rcases bC (decide (AU M P 1≠0)) with hc1 | hc1
 ·skip
  have hp1:AU M P 1≠0:=(dT hc1)
  refine wcT h13 rfl hc1<|h13.sk [8,6,5,4,0,1] rfl fun h14=>sqr fun _ hK6=>mv h14 rfl fun _ h15=>h15.sk [24,8,6,5,0,1] rfl fun h16=>mv h16 rfl fun _ h17=>h17.sk [4,24,8,6,0,1] rfl fun h18=>mv h18 rfl fun _ h19=>h19.sn [5,4,8,6,0,1] rfl fun h20=>hK6 _ _ ?_
  refine wp_ret ?_
  try simp only [Exit.then,Exit.inBlock]
  refine AW (v:=.tuple #[ν 0,ν (AU M P 1)]) (DK h20 rfl rfl rfl) h20.defs ?_
  exact ⟨by unfold AY;rw [if_pos hp1],Sep.tail_un (xs:=[_,_,_]) (s3.pk [3,1,2,4] rfl)⟩
 ·skip
  have hp2:¬ (AU M P 1≠0):=(dF hc1)
  refine wcF h13 rfl hc1<|h13.sk [8,6,5,4,0,1] rfl fun h21=>wp_skip<|hK1 _ _<|sq fun _ hK7=>sqr fun _ hK9=>mv h21 rfl fun _ h22=>sv1 h22 rfl (v:=ν (L.length:Int)) (Jt h22 rfl rfl υ69) fun _ h23=>mv h23 rfl fun _ h24=>wpList_nil<|hK9 _ _<|wp_block ?_
  refine Rm (fun (k:Nat) (i:Int) a' w'=>Kn 64 [(27,ν (k:Int)),(26,ν (L.length:Int)),(25,.slice la L.length lc),(8,ν (AU M P 1)),(6,ν i),(5,ν 0),(4,ν 0),(0,π mx),(1,.slice la L.length lc)] a'∧Sep w' [Ab g1 40 (AE (Aj M P 1)),Ab mx 125 [π K.tg],txP K ta tc M P,rwS la lc L,Ch.many R]∧(k≤L.length)∧(DY M P (L.drop k) i=DY M P L 1)) (fun (k:Nat) (i:Int)=>L.length-k) 0 1 ⟨h24.subs rfl,s3,Nat.zero_le _,(by rw [List.drop_zero])⟩ ?_
  rintro k1 i1 a1 w4 ⟨h25,s4,hk81,hw82⟩ K1 hK10
  refine sqr fun _ hK11=>bv h25 (z:=.bool (decide ((k1:Int)<(L.length:Int)))) rfl (cLt _ _ _ _ rfl) fun _ h26=>wpList_nil<|hK11 _ _<|sq fun _ hK12=>?_
  rcases bC (decide ((k1:Int)<(L.length:Int))) with hc2 | hc2
  ·skip
   have hp3:(k1:Int)<(L.length:Int):=(dT hc2)
   refine wcT h26 rfl hc2<|h26.sk [27,26,25,8,6,5,4,0,1] rfl fun h27=>wp_skip<|hK12 _ _<|sq fun _ hK13=>wp_block ?_
   refine sqr fun _ hK14=>sv1 h27 rfl (v:=.pointer (some ⟨bl,ol+k1,none⟩)) (Eo h27 rfl rfl rfl (fun w=>ixO υ69 κ (sz:=1) (hl ω) (j:=k1) rfl ω ω w)) fun _ h28=>sw1 h28 rfl (v:=.string (L.getD k1 ⟨#[]⟩)) (rld h28 rfl rfl (Agy υ9 rfl (s4.get 3 rfl:JF _ _ _ _) (hl ω) ω)) fun _ h29=>mv h29 rfl fun _ h30=>h30.sn [10,27,26,25,8,6,5,4,0,1] rfl fun h31=>hK14 _ _<|sqr fun _ hK15=>mvs 2 h31 rfl fun _ h32=>cl h32 rfl (cF func114) (Ut (i:=i1) (s4.pk [1,2,0,3,4] rfl) hM) fun _ v2 w5 r2 h33=>?_
   obtain ⟨rfl,s5⟩:=r2
   refine mvs 3 h33 rfl fun _ h34=>so (wn rfl) fun _ hK16=>AO h34 rfl rfl rfl rfl (z:=Ao Bd) (fun _=>rfl) s5 fun _ g2 w6 h35 s6 _ _=>hK16 _ _ ?_
   refine so (wn rfl) fun _ hK17=>GL h35 rfl rfl s6 0 rfl (by first | exact Ap | exact Ag _ _ _ _ | exact AA (Ag _ _ _ _) _ _ | exact Ah _ _ _ | (rw [AD];exact Ah _ _ _) | assumption) (by first | exact Ap | exact Ag _ _ _ _ | exact AA (Ag _ _ _ _) _ _ | exact Ah _ _ _ | (rw [AD];exact Ah _ _ _) | assumption) rfl rfl (cs':=[Ab g2 179 (Ao (An M P i1)),Ab mx 125 [π K.tg],txP K ta tc M P,Ab g1 40 (AE (Aj M P 1)),rwS la lc L,Ch.many R]) rfl fun _ w7 h36 s7 _=>hK17 _ _ ?_
   refine mv h36 rfl fun _ h37=>h37.sn [12,11,10,27,26,25,8,6,5,4,0,1] rfl fun h38=>hK15 _ _<|sq fun _ hK18=>sqr fun _ hK19=>mv h38 rfl fun _ h39=>bv h39 (z:=.bool (decide (BH M P i1≠0))) rfl (cNe _ _ _ _ rfl) fun _ h40=>h40.sn [38,12,11,10,27,26,25,8,6,5,4,0,1] rfl fun h41=>hK19 _ _ ?_
   rcases bC (decide (BH M P i1≠0)) with hc3 | hc3
   ·skip
    have hp4:BH M P i1≠0:=(dT hc3)
    refine wcT h41 rfl hc3<|h41.sk [12,11,10,27,26,25,8,6,5,4,0,1] rfl fun h42=>sqr fun _ hK20=>mv h42 rfl fun _ h43=>h43.sk [39,12,11,10,27,26,25,8,6,5,0,1] rfl fun h44=>mv h44 rfl fun _ h45=>h45.sk [4,39,12,11,10,27,26,25,8,6,0,1] rfl fun h46=>mv h46 rfl fun _ h47=>h47.sn [5,4,12,11,10,27,26,25,8,6,0,1] rfl fun h48=>hK20 _ _ ?_
    refine wp_ret ?_
    try simp only [Exit.then,Exit.inBlock]
    refine AW (v:=.tuple #[ν 0,ν (BH M P i1)]) (DK h48 rfl rfl rfl) h48.defs ?_
    have hu:AY M P L=DY M P (L.drop k1) i1:=by unfold AY;rw [if_neg hp2,hw82]
    exact ⟨by rw [hu,Zn ω hp4],Sep.tail_un (xs:=[_,_,_]) (s7.pk [4,1,2,5] rfl)⟩
   ·skip
    have hp5:¬ (BH M P i1≠0):=(dF hc3)
    refine wcF h41 rfl hc3<|h41.sk [12,11,10,27,26,25,8,6,5,4,0,1] rfl fun h49=>wp_skip<|hK18 _ _<|sqr fun _ hK21=>sw1 h49 rfl (v:=.agg ((Ao (An M P i1)).toArray)) (rld h49 rfl rfl (Hd υ179 (s7.get 0 rfl:Blk _ _ _ _) (by first | exact Ap | exact Ag _ _ _ _ | exact AA (Ag _ _ _ _) _ _ | exact Ah _ _ _ | (rw [AD];exact Ah _ _ _) | assumption))) fun _ h50=>mv h50 rfl fun _ h51=>cl h51 rfl (cF func115) (AQ s7 (RQ (An M P i1) (by first | exact Ap | exact Ag _ _ _ _ | exact AA (Ag _ _ _ _) _ _ | exact Ah _ _ _ | (rw [AD];exact Ah _ _ _) | assumption) (L.getD k1 ⟨#[]⟩) (hLn _ ω) _)) fun _ v3 w8 r3 h52=>?_
    obtain ⟨rfl,s8⟩:=r3
    have hfb170:=Xr (An M P i1) (L.getD k1 ⟨#[]⟩)
    refine mv h52 rfl fun _ h53=>h53.sn [13,12,11,10,27,26,25,8,6,5,4,0,1] rfl fun h54=>hK21 _ _<|sq fun _ hK22=>sqr fun _ hK23=>mv h54 rfl fun _ h55=>bv h55 (z:=.bool (decide (AV (An M P i1) (L.getD k1 ⟨#[]⟩)<0))) rfl (cLt _ _ _ _ rfl) fun _ h56=>h56.sn [44,13,12,11,10,27,26,25,8,6,5,4,0,1] rfl fun h57=>hK23 _ _ ?_
    rcases bC (decide (AV (An M P i1) (L.getD k1 ⟨#[]⟩)<0)) with hc4 | hc4
    ·skip
     have hp6:AV (An M P i1) (L.getD k1 ⟨#[]⟩)<0:=(dT hc4)
     refine wcT h57 rfl hc4<|h57.sk [13,12,11,10,27,26,25,8,6,5,4,0,1] rfl fun h58=>sqr fun _ hK24=>h58.sk [13,12,11,10,27,26,25,8,6,5,0,1] rfl fun h59=>mv h59 rfl fun _ h60=>h60.sk [4,13,12,11,10,27,26,25,8,6,0,1] rfl fun h61=>mv h61 rfl fun _ h62=>wpList_nil<|hK24 _ _<|wp_ret ?_
     try simp only [Exit.then,Exit.inBlock]
     refine AW (v:=.tuple #[ν 0,ν 10]) (DK h62 rfl rfl rfl) h62.defs ?_
     have hu:AY M P L=DY M P (L.drop k1) i1:=by unfold AY;rw [if_neg hp2,hw82]
     exact ⟨by rw [hu,Ww ω hp5 hp6],Sep.tail_un (xs:=[_,_,_]) (s8.pk [4,1,2,5] rfl)⟩
    ·skip
     have hp7:¬ (AV (An M P i1) (L.getD k1 ⟨#[]⟩)<0):=(dF hc4)
     refine wcF h57 rfl hc4<|h57.sk [13,12,11,10,27,26,25,8,6,5,4,0,1] rfl fun h63=>wp_skip<|hK22 _ _<|sqr fun _ hK25=>mv h63 rfl fun _ h64=>sv1 h64 rfl (v:=.pointer (some ⟨g2,((AV (An M P i1) (L.getD k1 ⟨#[]⟩)).toNat)*2,none⟩)) (Eo h64 rfl rfl rfl (fun w=>Ae7 g2 ((AV (An M P i1) (L.getD k1 ⟨#[]⟩)).toNat) ω ω w)) fun _ h65=>sv1 h65 rfl (v:=.pointer (some ⟨g2,((AV (An M P i1) (L.getD k1 ⟨#[]⟩)).toNat)*2+1,none⟩)) (rfa h65 rfl rfl (fQ 1)) fun _ h66=>sw1 h66 rfl (v:=ν (((An M P i1).getD ((AV (An M P i1) (L.getD k1 ⟨#[]⟩)).toNat) BM).ino)) (rld h66 rfl rfl (ldB υ3 rfl (s8.get 0 rfl:Blk _ _ _ _) (Zd (by first | exact Ap | exact Ag _ _ _ _ | exact AA (Ag _ _ _ _) _ _ | exact Ah _ _ _ | (rw [AD];exact Ah _ _ _) | assumption) ω))) fun _ h67=>h67.sk [48,47,46,45,13,12,11,10,27,26,25,8,5,4,0,1] rfl fun h68=>mv h68 rfl fun _ h69=>?_
     refine h69.sn [6,13,12,11,10,27,26,25,8,5,4,0,1] rfl fun h70=>hK25 _ _<|sqr fun _ hK26=>mvs 2 h70 rfl fun _ h71=>cl h71 rfl (cF func11) (En (i:=((An M P i1).getD ((AV (An M P i1) (L.getD k1 ⟨#[]⟩)).toNat) BM).ino) (s8.pk [1,2,0,3,4,5] rfl) hM) fun _ v4 w9 r4 h72=>?_
     obtain ⟨rfl,s9⟩:=r4
     refine mvs 3 h72 rfl fun _ h73=>so (wn rfl) fun _ hK27=>AO h73 rfl rfl rfl rfl (z:=[ν 0,ν 0,ν 0,ν 0,ν 0,ν 0,ν 0,ν 0,ν 0,ν 0,ν 0,ν 0,ν 0,ν 0,ν 0]) (fun _=>rfl) s9 fun _ g3 w10 h74 s10 _ _=>hK27 _ _ ?_
     refine stA h74 s10 0 rfl rfl rfl κ rfl rfl rfl rfl fun _ w11 h75 s11 _=>mv h75 rfl fun _ h76=>h76.sn [15,14,6,13,12,11,10,27,26,25,8,5,4,0,1] rfl fun h77=>hK26 _ _<|sqr fun _ hK28=>mv h77 rfl fun _ h78=>bv h78 (z:=.bool (decide (AU M P (((An M P i1).getD ((AV (An M P i1) (L.getD k1 ⟨#[]⟩)).toNat) BM).ino)≠0))) rfl (cNe _ _ _ _ rfl) fun _ h79=>mv h79 rfl fun _ h80=>sg h80 (wF h80 rfl rfl rfl) rfl rfl rfl (v:=π g3) (fun hC1=>rfa h80 rfl rfl (fQ 0) _) fun _ h81=>sg h81 (wF h81 rfl rfl rfl) rfl rfl rfl (v:=ν ((Aj M P (((An M P i1).getD ((AV (An M P i1) (L.getD k1 ⟨#[]⟩)).toNat) BM).ino)).k)) (fun hC2=>(rld h81 rfl (opg rfl hC2) (ldB υ3 rfl (s11.get 0 rfl:Blk _ _ _ _) rfl))) fun _ h82=>?_
     refine sg h82 (wF h82 rfl rfl rfl) rfl rfl rfl (v:=.bool (decide ((Aj M P (((An M P i1).getD ((AV (An M P i1) (L.getD k1 ⟨#[]⟩)).toNat) BM).ino)).k=0))) (fun hC3=>Co h82 rfl (opg rfl hC3) rfl (cEq _ _ _ _ rfl) _) fun _ h83=>sv1 h83 rfl (v:=.bool ((decide (AU M P (((An M P i1).getD ((AV (An M P i1) (L.getD k1 ⟨#[]⟩)).toNat) BM).ino)≠0))||(decide ((Aj M P (((An M P i1).getD ((AV (An M P i1) (L.getD k1 ⟨#[]⟩)).toNat) BM).ino)).k=0)))) (Hm h83 rfl (E:=(decide (AU M P (((An M P i1).getD ((AV (An M P i1) (L.getD k1 ⟨#[]⟩)).toNat) BM).ino)≠0))) (F:=(decide ((Aj M P (((An M P i1).getD ((AV (An M P i1) (L.getD k1 ⟨#[]⟩)).toNat) BM).ino)).k=0))) rfl rfl rfl (fun e=>if_pos (by rw [e];try rfl))) fun _ h84=>h84.sn [61,15,14,6,13,12,11,10,27,26,25,8,5,4,0,1] rfl fun h85=>hK28 _ _ ?_
     rcases bC ((decide (AU M P (((An M P i1).getD ((AV (An M P i1) (L.getD k1 ⟨#[]⟩)).toNat) BM).ino)≠0))||(decide ((Aj M P (((An M P i1).getD ((AV (An M P i1) (L.getD k1 ⟨#[]⟩)).toNat) BM).ino)).k=0))) with hc5 | hc5
     ·skip
      have hp8:(AU M P (((An M P i1).getD ((AV (An M P i1) (L.getD k1 ⟨#[]⟩)).toNat) BM).ino)≠0)∨((Aj M P (((An M P i1).getD ((AV (An M P i1) (L.getD k1 ⟨#[]⟩)).toNat) BM).ino)).k=0):=((orT hc5).imp (fun q=>(dT q)) (fun q=>(dT q)))
      refine wcT h85 rfl hc5<|h85.sk [15,14,6,13,12,11,10,27,26,25,8,5,4,0,1] rfl fun h86=>sqr fun _ hK29=>h86.sk [15,14,6,13,12,11,10,27,26,25,8,5,0,1] rfl fun h87=>mv h87 rfl fun _ h88=>h88.sk [4,15,14,6,13,12,11,10,27,26,25,8,0,1] rfl fun h89=>mv h89 rfl fun _ h90=>wpList_nil<|hK29 _ _<|wp_ret ?_
      try simp only [Exit.then,Exit.inBlock]
      refine AW (v:=.tuple #[ν 0,ν 36]) (DK h90 rfl rfl rfl) h90.defs ?_
      have hu:AY M P L=DY M P (L.drop k1) i1:=by unfold AY;rw [if_neg hp2,hw82]
      exact ⟨by rw [hu,Zl ω hp5 hp7 hp8],Sep.tail_un (xs:=[_,_,_]) (s11.pk [5,1,2,6] rfl)⟩
     ·skip
      have hp9:(¬ (AU M P (((An M P i1).getD ((AV (An M P i1) (L.getD k1 ⟨#[]⟩)).toNat) BM).ino)≠0))∧(¬ ((Aj M P (((An M P i1).getD ((AV (An M P i1) (L.getD k1 ⟨#[]⟩)).toNat) BM).ino)).k=0)):=(And.intro (dF (orF hc5).1) (dF (orF hc5).2))
      refine wcF h85 rfl hc5<|h85.sk [15,14,6,13,12,11,10,27,26,25,8,5,4,0,1] rfl fun h91=>wp_skip<|hK13 _ _<|wp_region_lit<|bv h91 (z:=ν ((k1+1:Nat):Int)) rfl (CT _ _ _ ω ω ω) fun _ h92=>h92.sk [62,15,14,6,13,12,11,10,26,25,8,5,4,0,1] rfl fun h93=>mv h93 rfl fun _ h94=>h94.sk [27,15,14,6,13,12,11,10,26,25,8,5,4,0,1] rfl fun h95=>wpList_nil ?_
      have hn9:=Wv hw82 ω hp5 hp7 hp9
      exact hK10 (k1+1) (((An M P i1).getD ((AV (An M P i1) (L.getD k1 ⟨#[]⟩)).toNat) BM).ino) _ _ ⟨h95.subs rfl,(s11.pk [4,1,2,5,6] rfl),ω,hn9⟩ ω
  ·skip
   have hp10:¬ ((k1:Int)<(L.length:Int)):=(dF hc2)
   refine wcF h26 rfl hc2<|h26.sk [27,26,25,8,6,5,4,0,1] rfl fun h96=>wp_exit ?_
   refine hK7 _ _ ?_
   refine sqr fun _ hK30=>mv h96 rfl fun _ h97=>h97.sk [63,27,26,25,8,6,5,0,1] rfl fun h98=>mv h98 rfl fun _ h99=>h99.sk [4,63,27,26,25,8,6,0,1] rfl fun h100=>mv h100 rfl fun _ h101=>h101.sn [5,4,27,26,25,8,6,0,1] rfl fun h102=>hK30 _ _<|wp_ret ?_
   try simp only [Exit.then,Exit.inBlock]
   refine AW (v:=.tuple #[ν i1,ν 0]) (DK h102 rfl rfl rfl) h102.defs ?_
   have hu:AY M P L=DY M P (L.drop k1) i1:=by unfold AY;rw [if_neg hp2,hw82]
   exact ⟨by rw [hu,List.drop_of_length_le ω];rfl,Sep.tail_un (xs:=[_,_,_]) (s4.pk [3,1,2,4] rfl)⟩
theorem Acp {w:World} {R:List Ch} {mx:Nat} {K:VolK} {ta:Ω} {tc:Nat} {M:MemM} {P:List PtM} {X:Λ} (hS0:Sep w ([Ab mx 125 [π K.tg],txP K ta tc M P]++R)) (hM:M.V.length=23168) (hX:X.length≤1000) :
  CallsR prog 90 #[π mx,σ X] w (fun v w'=>v=.tuple #[ν (AP M P X).1,ν (AP M P X).2]∧Sep w' ([Ab mx 125 [π K.tg],txP K ta tc M P]++R)):=by
 have hS:Sep w [Ab mx 125 [π K.tg],txP K ta tc M P,Ch.many R]:=Sep.tail_many (xs:=[_,_]) hS0;clear hS0
 refine AB func90 rfl (N:=21) ntmps90 (by show 2≤21;decide) [(0,π mx),(1,σ X)] rfl fun _ h1=>sqr fun _ hK3=>mvs 2 h1 rfl fun _ h6=>wpList_nil<|hK3 _ _<|sqr fun _ hK8=>mv h6 rfl fun _ h9=>?_
 rcases bC ((Cj X).isSome) with hc1 | hc1
 ·skip
  obtain ⟨L13,hp1⟩:=Option.isSome_iff_exists.1 hc1
  have hp14l:=Qx hp1
  refine cl h9 rfl (cF func113) (SL hS X ω hp1) fun _ v1 w1 r1 h2=>?_
  obtain ⟨pa_x15,pc_x16,rfl,s1⟩:=r1
  refine mvs 5 h2 rfl fun _ h3=>h3.sn [7,6,5,4,0,1] rfl fun h4=>hK8 _ _<|sq fun _ hK1=>sqr fun _ hK2=>mv h4 rfl fun _ h5=>bv h5 rfl (cNe _ _ _ _ rfl) fun _ h7=>h7.sn [14,7,6,5,4,0,1] rfl fun h8=>hK2 _ _<|wcF h8 rfl rfl<|h8.sk [7,6,5,4,0,1] rfl fun h10=>?_
  refine wp_skip<|hK1 _ _<|sqr fun _ hK4=>mvs 2 h10 rfl fun _ h11=>cl h11 rfl (cF func92) (Zm s1 hM ω (Yc hp1)) fun _ v2 w2 r2 h12=>?_
  obtain ⟨rfl,s2⟩:=r2
  refine mvs 2 h12 rfl fun _ h13=>h13.sk [20,19,18,17,16,7,6,5,0,1] rfl fun h14=>mv h14 rfl fun _ h15=>h15.sk [4,20,19,18,17,16,7,6,0,1] rfl fun h16=>mv h16 rfl fun _ h17=>h17.sn [5,4,7,6,0,1] rfl fun h18=>hK4 _ _<|wp_ret ?_
  try simp only [Exit.then,Exit.inBlock]
  refine AW (v:=.tuple #[ν ((AY M P L13).1),ν ((AY M P L13).2)]) (DK h18 rfl rfl rfl) h18.defs ?_
  exact ⟨by unfold AP;rw [hp1],Sep.tail_un (xs:=[_,_]) (s2.pk [1,2,3] rfl)⟩
 ·skip
  refine cl h9 rfl (cF func113) (VK hS X ω hc1) fun _ v3 w3 r3 h19=>?_
  obtain ⟨pa_x67,pc_x68,rfl,s3⟩:=r3
  refine mvs 5 h19 rfl fun _ h20=>h20.sn [7,6,5,4,0,1] rfl fun h21=>hK8 _ _<|sq fun _ hK5=>sqr fun _ hK6=>mv h21 rfl fun _ h22=>bv h22 rfl (cNe _ _ _ _ rfl) fun _ h23=>h23.sn [14,7,6,5,4,0,1] rfl fun h24=>hK6 _ _<|wcT h24 rfl rfl<|h24.sk [7,6,5,4,0,1] rfl fun h25=>?_
  refine sqr fun _ hK7=>mv h25 rfl fun _ h26=>h26.sk [15,7,6,5,0,1] rfl fun h27=>mv h27 rfl fun _ h28=>h28.sk [4,15,7,6,0,1] rfl fun h29=>mv h29 rfl fun _ h30=>h30.sn [5,4,7,6,0,1] rfl fun h31=>hK7 _ _<|wp_ret ?_
  try simp only [Exit.then,Exit.inBlock]
  refine AW (v:=.tuple #[ν 0,ν 15]) (DK h31 rfl rfl rfl) h31.defs ?_
  exact ⟨by unfold AP;rw [Nx hc1],Sep.tail_un (xs:=[_,_]) s3⟩
theorem Adu {w:World} {R:List Ch} {mx:Nat} {K:VolK} {ta:Ω} {tc:Nat} {M:MemM} {P:List PtM} {X:Λ} (hS0:Sep w ([Ab mx 125 [π K.tg],txP K ta tc M P]++R)) (hM:M.V.length=23168) (hX:X.length≤1000) :
  CallsR prog 58 #[π mx,σ X] w (fun v w'=>v=.tuple #[ν (GG M P X).1,.agg (AE (GG M P X).2.1).toArray,ν (GG M P X).2.2]∧Sep w' ([Ab mx 125 [π K.tg],txP K ta tc M P]++R)):=by
 have hS:Sep w [Ab mx 125 [π K.tg],txP K ta tc M P,Ch.many R]:=Sep.tail_many (xs:=[_,_]) hS0;clear hS0
 refine AB func58 rfl (N:=32) ntmps58 (by show 2≤32;decide) [(0,π mx),(1,σ X)] rfl fun _ h1=>sqr fun _ hK3=>mv h1 rfl fun _ h4=>so (wn rfl) fun _ hK1=>AO h4 rfl rfl rfl rfl (z:=[ν 0,ν 0,ν 0,ν 0,ν 0,ν 0,ν 0,ν 0,ν 0,ν 0,ν 0,ν 0,ν 0,ν 0,ν 0]) (fun _=>rfl) hS fun _ g6 w9 h7 s1 _ _=>hK1 _ _ ?_
 refine mv h7 rfl fun _ h2=>wpList_nil<|hK3 _ _<|sqr fun _ hK2=>mvs 2 h2 rfl fun _ h3=>cl h3 rfl (cF func90) (Acp (X:=X) (s1.pk [1,2,0,3] rfl) hM ω) fun _ v1 w2 r1 h5=>?_
 obtain ⟨rfl,s2⟩:=r1
 refine mvs 5 h5 rfl fun _ h6=>h6.sn [8,7,6,5,4,0,1] rfl fun h8=>hK2 _ _<|sq fun _ hK4=>sqr fun _ hK5=>mv h8 rfl fun _ h9=>bv h9 (z:=.bool (decide ((AP M P X).2≠0))) rfl (cNe _ _ _ _ rfl) fun _ h10=>h10.sn [17,8,7,6,5,4,0,1] rfl fun h11=>hK5 _ _ ?_
 rcases bC (decide ((AP M P X).2≠0)) with hc1 | hc1
 ·skip
  have hp1:(AP M P X).2≠0:=(dT hc1)
  refine wcT h11 rfl hc1<|h11.sk [8,7,6,5,4,0,1] rfl fun h12=>sqr fun _ hK6=>bu h12 (v:=.agg (AE BS).toArray) rfl (fun w=>κ) fun _ h13=>mv h13 rfl fun _ h14=>h14.sk [19,18,8,7,6,5,0,1] rfl fun h15=>mv h15 rfl fun _ h16=>stA h16 s2 2 rfl rfl rfl κ rfl rfl rfl rfl fun _ w3 h17 s3 _=>h17.sk [4,19,18,8,7,5,0,1] rfl fun h18=>mv h18 rfl fun _ h19=>?_
  refine h19.sn [6,4,8,7,5,0,1] rfl fun h20=>hK6 _ _<|wp_ret ?_
  try simp only [Exit.then,Exit.inBlock]
  refine Hk (v:=.tuple #[ν 0,.agg (AE BS).toArray,ν ((AP M P X).2)]) (Kh h20 rfl rfl rfl rfl (s3.get 2 rfl:Blk _ _ _ _) υ40 rfl κ) h20.defs ?_
  exact ⟨by unfold GG;rw [if_pos hp1],Sep.tail_un (xs:=[_,_]) (s3.pk [0,1,3] rfl)⟩
 ·skip
  have hp2:¬ ((AP M P X).2≠0):=(dF hc1)
  refine wcF h11 rfl hc1<|h11.sk [8,7,6,5,4,0,1] rfl fun h21=>wp_skip<|hK4 _ _<|sqr fun _ hK7=>mvs 2 h21 rfl fun _ h22=>cl h22 rfl (cF func11) (En (i:=(AP M P X).1) s2 hM) fun _ v2 w4 r2 h23=>?_
  obtain ⟨rfl,s4⟩:=r2
  refine mvs 3 h23 rfl fun _ h24=>so (wn rfl) fun _ hK8=>AO h24 rfl rfl rfl rfl (z:=[ν 0,ν 0,ν 0,ν 0,ν 0,ν 0,ν 0,ν 0,ν 0,ν 0,ν 0,ν 0,ν 0,ν 0,ν 0]) (fun _=>rfl) s4 fun _ g1 w5 h25 s5 _ _=>hK8 _ _ ?_
  refine stA h25 s5 0 rfl rfl rfl κ rfl rfl rfl rfl fun _ w6 h26 s6 _=>h26.sk [9,25,24,20,23,22,21,7,6,5,4,0,1] rfl fun h27=>mv h27 rfl fun _ h28=>h28.sn [8,9,7,6,5,4,0,1] rfl fun h29=>hK7 _ _<|sq fun _ hK9=>sqr fun _ hK10=>mv h29 rfl fun _ h30=>bv h30 (z:=.bool (decide (AU M P ((AP M P X).1)≠0))) rfl (cNe _ _ _ _ rfl) fun _ h31=>h31.sn [27,8,9,7,6,5,4,0,1] rfl fun h32=>hK10 _ _ ?_
  rcases bC (decide (AU M P ((AP M P X).1)≠0)) with hc2 | hc2
  ·skip
   have hp3:AU M P ((AP M P X).1)≠0:=(dT hc2)
   refine wcT h32 rfl hc2<|h32.sk [8,9,7,6,5,4,0,1] rfl fun h33=>sqr fun _ hK11=>bu h33 (v:=.agg (AE BS).toArray) rfl (fun w=>κ) fun _ h34=>mv h34 rfl fun _ h35=>h35.sk [29,28,8,9,7,6,5,0,1] rfl fun h36=>mv h36 rfl fun _ h37=>stA h37 s6 3 rfl rfl rfl κ rfl rfl rfl rfl fun _ w7 h38 s7 _=>h38.sk [4,29,28,8,9,7,5,0,1] rfl fun h39=>mv h39 rfl fun _ h40=>?_
   refine h40.sn [6,4,8,9,7,5,0,1] rfl fun h41=>hK11 _ _<|wp_ret ?_
   try simp only [Exit.then,Exit.inBlock]
   refine Hk (v:=.tuple #[ν 0,.agg (AE BS).toArray,ν (AU M P ((AP M P X).1))]) (Kh h41 rfl rfl rfl rfl (s7.get 3 rfl:Blk _ _ _ _) υ40 rfl κ) h41.defs ?_
   exact ⟨by unfold GG;rw [if_neg hp2,if_pos hp3],Sep.tail_un (xs:=[_,_]) (s7.pk [1,2,4] rfl)⟩
  ·skip
   have hp4:¬ (AU M P ((AP M P X).1)≠0):=(dF hc2)
   refine wcF h32 rfl hc2<|h32.sk [8,9,7,6,5,4,0,1] rfl fun h42=>wp_skip<|hK9 _ _<|sq fun _ hK12=>?_
   have s8:=s6.drew
   refine wp_region_held_drew (S:=fun w'=>Sep w' [Ab g1 40 (AE (Aj M P ((AP M P X).1))),Ab mx 125 [π K.tg],txP K ta tc M P,Ch.many R]) κ (s8.pk [0,1,2,4] rfl) (fun hq1=>?_)
   refine tv1 hq1 h42 0 rfl rfl (fun w1 _=>(Au h42 rfl rfl) w1) fun _ h43=>?_
   refine tv1 hq1 h43 1 rfl rfl (fun w1 hSw=>(rld h43 rfl rfl (ldA υ40 rfl (n:=15) κ (hSw.get 0 rfl:Blk _ _ _ _) rfl rfl))) fun _ h44=>?_
   refine h44.sk [31,30,8,9,7,6,5,0,1] rfl fun h45=>?_
   refine tv1 hq1 h45 2 rfl rfl (fun w1 _=>(Bv h45 rfl rfl) w1) fun _ h46=>?_
   refine to_ 3 rfl (wn rfl) κ fun _ hK13=>FS h46 rfl rfl s8 3 rfl rfl rfl [ν ((Aj M P ((AP M P X).1)).k),ν ((Aj M P ((AP M P X).1)).l),ν ((Aj M P ((AP M P X).1)).s),ν ((Aj M P ((AP M P X).1)).b0),ν ((Aj M P ((AP M P X).1)).b1),ν ((Aj M P ((AP M P X).1)).b2),ν ((Aj M P ((AP M P X).1)).b3),ν ((Aj M P ((AP M P X).1)).o0),ν ((Aj M P ((AP M P X).1)).o1),ν ((Aj M P ((AP M P X).1)).o2),ν ((Aj M P ((AP M P X).1)).o3),ν ((Aj M P ((AP M P X).1)).o4),ν ((Aj M P ((AP M P X).1)).o5),ν ((Aj M P ((AP M P X).1)).o6),ν ((Aj M P ((AP M P X).1)).o7)] rfl κ rfl (by show 0+15≤15;decide) (L':=[ν ((Aj M P ((AP M P X).1)).k),ν ((Aj M P ((AP M P X).1)).l),ν ((Aj M P ((AP M P X).1)).s),ν ((Aj M P ((AP M P X).1)).b0),ν ((Aj M P ((AP M P X).1)).b1),ν ((Aj M P ((AP M P X).1)).b2),ν ((Aj M P ((AP M P X).1)).b3),ν ((Aj M P ((AP M P X).1)).o0),ν ((Aj M P ((AP M P X).1)).o1),ν ((Aj M P ((AP M P X).1)).o2),ν ((Aj M P ((AP M P X).1)).o3),ν ((Aj M P ((AP M P X).1)).o4),ν ((Aj M P ((AP M P X).1)).o5),ν ((Aj M P ((AP M P X).1)).o6),ν ((Aj M P ((AP M P X).1)).o7)]) rfl (cs':=[Ab g1 40 (AE (Aj M P ((AP M P X).1))),Ab mx 125 [π K.tg],txP K ta tc M P,Ab g6 40 (AE (Aj M P ((AP M P X).1))),Ch.many R]) rfl fun _ w8 h47 s9 _=>?_
   refine hK13 _ _ (s9.pk [0,1,2,4] rfl) fun hq2=>h47.sk [4,31,30,8,9,7,5,0,1] rfl fun h48=>?_
   refine tv1 hq2 h48 4 rfl rfl (fun w1 _=>(Bv h48 rfl rfl) w1) fun _ h49=>?_
   refine h49.sk [6,4,8,9,7,5,0,1] rfl fun h50=>?_
   refine wpAnyH_done κ ?_ _
   refine hK12 _ _ ?_
   refine wp_ret ?_
   try simp only [Exit.then,Exit.inBlock]
   refine Hk (v:=.tuple #[ν ((AP M P X).1),.agg (AE (Aj M P ((AP M P X).1))).toArray,ν 0]) (Kh h50 rfl rfl rfl rfl (s9.get 3 rfl:Blk _ _ _ _) υ40 rfl κ) h50.defs ?_
   exact ⟨by unfold GG;rw [if_neg hp2,if_neg hp4],Sep.tail_un (xs:=[_,_]) (s9.pk [1,2,4] rfl)⟩
theorem Aa8 {w:World} {R:List Ch} {mx:Nat} {K:VolK} {ta:Ω} {tc:Nat} {M:MemM} {P:List PtM} {X:Λ} (hS0:Sep w ([Ab mx 125 [π K.tg],txP K ta tc M P]++R)) (hM:M.V.length=23168) (hX:X.length≤1000) :
  CallsR prog 60 #[π mx,σ X] w (fun v w'=>v=.tuple #[ν (EL M P X).1,.string (EL M P X).2.1,ν (EL M P X).2.2]∧Sep w' ([Ab mx 125 [π K.tg],txP K ta tc M P]++R)):=by
 have hS:Sep w [Ab mx 125 [π K.tg],txP K ta tc M P,Ch.many R]:=Sep.tail_many (xs:=[_,_]) hS0;clear hS0
 refine AB func60 rfl (N:=49) ntmps60 (by show 2≤49;decide) [(0,π mx),(1,σ X)] rfl fun _ h1=>sqr fun _ hK3=>mvs 3 h1 rfl fun _ h8=>wpList_nil<|hK3 _ _<|sqr fun _ hK1=>mv h8 rfl fun _ h2=>?_
 rcases bC ((LN X).isSome) with hc1 | hc1
 ·skip
  obtain ⟨L15,x16,hp1⟩:=Sm hc1
  have hp17l:=Qx hp1;rw [List.length_append] at hp17l
  refine cl h2 rfl (cF func91) (OQ hS X ω hp1) fun _ v1 w1 r1 h3=>?_
  obtain ⟨pa_x18,rfl,s1⟩:=r1
  refine mvs 7 h3 rfl fun _ h4=>h4.sn [9,8,7,6,5,4,0,1] rfl fun h5=>hK1 _ _<|sq fun _ hK2=>sqr fun _ hK4=>mv h5 rfl fun _ h6=>bv h6 rfl (cNe _ _ _ _ rfl) fun _ h7=>h7.sn [20,9,8,7,6,5,4,0,1] rfl fun h9=>hK4 _ _<|wcF h9 rfl rfl<|h9.sk [9,8,7,6,5,4,0,1] rfl fun h10=>?_
  refine wp_skip<|hK2 _ _<|sqr fun _ hK5=>mvs 2 h10 rfl fun _ h11=>cl h11 rfl (cF func92) (Zm s1 hM ω (Vz hp1)) fun _ v2 w2 r2 h12=>?_
  obtain ⟨rfl,s2⟩:=r2
  refine mvs 4 h12 rfl fun _ h13=>h13.sk [10,27,26,22,25,24,23,8,7,6,5,4,0,1] rfl fun h14=>mv h14 rfl fun _ h15=>h15.sn [9,10,8,7,6,5,4,0,1] rfl fun h16=>hK5 _ _<|sq fun _ hK6=>sqr fun _ hK7=>mv h16 rfl fun _ h17=>bv h17 (z:=.bool (decide ((AY M P L15).2≠0))) rfl (cNe _ _ _ _ rfl) fun _ h18=>h18.sn [29,9,10,8,7,6,5,4,0,1] rfl fun h19=>hK7 _ _ ?_
  rcases bC (decide ((AY M P L15).2≠0)) with hc2 | hc2
  ·skip
   have hp2:(AY M P L15).2≠0:=(dT hc2)
   refine wcT h19 rfl hc2<|h19.sk [9,10,8,7,6,5,4,0,1] rfl fun h20=>sqr fun _ hK8=>mv h20 rfl fun _ h21=>h21.sk [30,9,10,8,7,6,5,0,1] rfl fun h22=>mv h22 rfl fun _ h23=>h23.sk [4,30,9,10,8,7,6,0,1] rfl fun h24=>mv h24 rfl fun _ h25=>h25.sk [5,4,30,9,10,8,7,0,1] rfl fun h26=>mv h26 rfl fun _ h27=>?_
   refine h27.sn [6,5,4,9,10,8,7,0,1] rfl fun h28=>hK8 _ _<|wp_ret ?_
   try simp only [Exit.then,Exit.inBlock]
   refine AW (v:=.tuple #[ν 0,σ [],ν ((AY M P L15).2)]) (Abl h28 rfl rfl rfl rfl) h28.defs ?_
   exact ⟨by rw [FA hp1,if_pos hp2];rfl,Sep.tail_un (xs:=[_,_]) (s2.pk [1,2,3] rfl)⟩
  ·skip
   have hp3:¬ ((AY M P L15).2≠0):=(dF hc2)
   refine wcF h19 rfl hc2<|h19.sk [9,10,8,7,6,5,4,0,1] rfl fun h29=>wp_skip<|hK6 _ _<|sq fun _ hK9=>sqr fun _ hK10=>mvs 2 h29 rfl fun _ h30=>cl h30 rfl (cF func11) (En (i:=(AY M P L15).1) (s2.pk [1,2,0,3] rfl) hM) fun _ v3 w3 r3 h31=>?_
   obtain ⟨rfl,s3⟩:=r3
   refine mvs 3 h31 rfl fun _ h32=>so (wn rfl) fun _ hK11=>AO h32 rfl rfl rfl rfl (z:=[ν 0,ν 0,ν 0,ν 0,ν 0,ν 0,ν 0,ν 0,ν 0,ν 0,ν 0,ν 0,ν 0,ν 0,ν 0]) (fun _=>rfl) s3 fun _ g1 w4 h33 s4 _ _=>hK11 _ _ ?_
   refine stA h33 s4 0 rfl rfl rfl κ rfl rfl rfl rfl fun _ w5 h34 s5 _=>mv h34 rfl fun _ h35=>h35.sn [12,11,9,10,8,7,6,5,4,0,1] rfl fun h36=>hK10 _ _<|sqr fun _ hK12=>mv h36 rfl fun _ h37=>bv h37 (z:=.bool (decide (AU M P ((AY M P L15).1)≠0))) rfl (cNe _ _ _ _ rfl) fun _ h38=>mv h38 rfl fun _ h39=>sg h39 (wF h39 rfl rfl rfl) rfl rfl rfl (fun hC1=>rfa h39 rfl rfl (fQ 0) _) fun _ h40=>sg h40 (wF h40 rfl rfl rfl) rfl rfl rfl (fun hC2=>(rld h40 rfl (opg rfl hC2) (ldB υ3 rfl (s5.get 0 rfl:Blk _ _ _ _) rfl))) fun _ h41=>?_
   refine sg h41 (wF h41 rfl rfl rfl) rfl rfl rfl (fun hC3=>Co h41 rfl (opg rfl hC3) rfl (cNe _ _ _ _ rfl) _) fun _ h42=>sv1 h42 rfl (Hm h42 rfl (E:=(decide (AU M P ((AY M P L15).1)≠0))) (F:=(decide ((Aj M P ((AY M P L15).1)).k≠2))) rfl rfl rfl (fun e=>if_pos (by rw [e];try rfl))) fun _ h43=>h43.sn [43,12,11,9,10,8,7,6,5,4,0,1] rfl fun h44=>hK12 _ _ ?_
   rcases bC ((decide (AU M P ((AY M P L15).1)≠0))||(decide ((Aj M P ((AY M P L15).1)).k≠2))) with hc3 | hc3
   ·skip
    have hp4:(AU M P ((AY M P L15).1)≠0)∨((Aj M P ((AY M P L15).1)).k≠2):=((orT hc3).imp (fun q=>(dT q)) (fun q=>(dT q)))
    refine wcT h44 rfl hc3<|h44.sk [12,11,9,10,8,7,6,5,4,0,1] rfl fun h45=>sqr fun _ hK13=>mv h45 rfl fun _ h46=>so (wn rfl) fun _ hK14=>Cw h46 rfl rfl rfl (E:=26) (xs:=[(0,.tmp 44),(1,.const (ν 12))]) rfl (vs:=[(0,ν (AU M P ((AY M P L15).1))),(1,ν 12)]) rfl (z:=[ν (AU M P ((AY M P L15).1)),ν 12]) (fun _=>κ) s5 fun _ g2 w6 h47 s6 _ _=>hK14 _ _ ?_
    refine cl h47 rfl (cF func50) (DO (L:=[AU M P ((AY M P L15).1),12]) s6 (Nat.le_of_ble_eq_true rfl)) fun _ v4 w7 r4 h48=>?_
    obtain ⟨rfl,s7⟩:=r4
    refine h48.sk [46,45,44,12,11,9,10,8,7,6,5,0,1] rfl fun h49=>mv h49 rfl fun _ h50=>h50.sk [4,46,45,44,12,11,9,10,8,7,6,0,1] rfl fun h51=>mv h51 rfl fun _ h52=>h52.sk [5,4,46,45,44,12,11,9,10,8,7,0,1] rfl fun h53=>mv h53 rfl fun _ h54=>h54.sn [6,5,4,12,11,9,10,8,7,0,1] rfl fun h55=>hK13 _ _<|wp_ret ?_
    try simp only [Exit.then,Exit.inBlock]
    refine AW (v:=.tuple #[ν 0,σ [],ν (AJ [AU M P ((AY M P L15).1),12])]) (Abl h55 rfl rfl rfl rfl) h55.defs ?_
    exact ⟨by rw [FA hp1,if_neg hp3];exact VN hp4,Sep.tail_un (xs:=[_,_]) (s7.pk [2,3,5] rfl)⟩
   ·skip
    have hp5:(¬ (AU M P ((AY M P L15).1)≠0))∧(¬ ((Aj M P ((AY M P L15).1)).k≠2)):=(And.intro (dF (orF hc3).1) (dF (orF hc3).2))
    refine wcF h44 rfl hc3<|h44.sk [12,11,9,10,8,7,6,5,4,0,1] rfl fun h56=>wp_skip<|hK9 _ _<|sqr fun _ hK15=>mvs 2 h56 rfl fun _ h57=>h57.sk [48,47,12,11,9,10,8,7,6,5,0,1] rfl fun h58=>mv h58 rfl fun _ h59=>h59.sk [4,48,47,12,11,9,10,8,7,6,0,1] rfl fun h60=>mv h60 rfl fun _ h61=>h61.sk [5,4,48,47,12,11,9,10,8,7,0,1] rfl fun h62=>?_
    refine mv h62 rfl fun _ h63=>h63.sn [6,5,4,12,11,9,10,8,7,0,1] rfl fun h64=>hK15 _ _<|wp_ret ?_
    try simp only [Exit.then,Exit.inBlock]
    refine AW (v:=.tuple #[ν ((AY M P L15).1),.string x16,ν 0]) (Abl h64 rfl rfl rfl rfl) h64.defs ?_
    exact ⟨by rw [FA hp1,if_neg hp3,if_neg hp5.1,if_neg hp5.2],Sep.tail_un (xs:=[_,_]) (s5.pk [1,2,4] rfl)⟩
 ·skip
  refine cl h2 rfl (cF func91) (Qt hS X ω hc1) fun _ v5 w8 r5 h65=>?_
  obtain ⟨rfl,s8⟩:=r5
  refine mvs 7 h65 rfl fun _ h66=>h66.sn [9,8,7,6,5,4,0,1] rfl fun h67=>hK1 _ _<|sq fun _ hK16=>sqr fun _ hK17=>mv h67 rfl fun _ h68=>bv h68 rfl (cNe _ _ _ _ rfl) fun _ h69=>h69.sn [20,9,8,7,6,5,4,0,1] rfl fun h70=>hK17 _ _<|wcT h70 rfl rfl<|h70.sk [9,8,7,6,5,4,0,1] rfl fun h71=>?_
  refine sqr fun _ hK18=>mv h71 rfl fun _ h72=>h72.sk [21,9,8,7,6,5,0,1] rfl fun h73=>mv h73 rfl fun _ h74=>h74.sk [4,21,9,8,7,6,0,1] rfl fun h75=>mv h75 rfl fun _ h76=>h76.sk [5,4,21,9,8,7,0,1] rfl fun h77=>mv h77 rfl fun _ h78=>h78.sn [6,5,4,9,8,7,0,1] rfl fun h79=>hK18 _ _ ?_
  refine wp_ret ?_
  try simp only [Exit.then,Exit.inBlock]
  refine AW (v:=.tuple #[ν 0,σ [],ν 15]) (Abl h79 rfl rfl rfl rfl) h79.defs ?_
  exact ⟨by rw [Qy hc1];rfl,Sep.tail_un (xs:=[_,_]) s8⟩
theorem Adv {w:World} {R:List Ch} {mx:Nat} {K:VolK} {ta:Ω} {tc:Nat} {M:MemM} {P:List PtM} (hS0:Sep w ([Ab mx 125 [π K.tg],txP K ta tc M P]++R)) (hM:M.V.length=23168)  :
  CallsR prog 93 #[π mx] w (fun v w'=>v=.tuple #[ν (GH M P).1,ν (GH M P).2]∧Sep w' ([Ab mx 125 [π K.tg],txP K ta tc M P]++R)):=by
 have hS:Sep w [Ab mx 125 [π K.tg],txP K ta tc M P,Ch.many R]:=Sep.tail_many (xs:=[_,_]) hS0;clear hS0
 refine AB func93 rfl (N:=27) ntmps93 (by show 1≤27;decide) [(0,π mx)] rfl fun _ h1=>sqr fun _ hK3=>mvs 2 h1 rfl fun _ h6=>wpList_nil<|hK3 _ _<|sq fun _ hK8=>sqr fun _ hK9=>mv h6 rfl fun _ h2=>wpList_nil<|hK9 _ _<|wp_block ?_
 refine DZ (fun (k:Nat) a' w'=>Kn 27 [(7,ν (k:Int)),(3,ν 0),(2,ν 0),(0,π mx)] a'∧Sep w' [Ab mx 125 [π K.tg],txP K ta tc M P,Ch.many R]∧(k≤32)∧(∀ j,j<k→¬ (AU M P ((j:Int)+1)=0∧(Aj M P ((j:Int)+1)).k=0))) (fun (k:Nat)=>32-k) 0 ⟨h2.subs rfl,hS,Nat.zero_le _,(fun j hj=>absurd hj (Nat.not_lt_zero _))⟩ ?_
 rintro k1 a1 w1 ⟨h3,s1,hk17,hn18⟩ K1 hK1
 refine sqr fun _ hK2=>bv h3 (z:=.bool (decide ((k1:Int)<32))) rfl (cLt _ _ _ _ rfl) fun _ h4=>wpList_nil<|hK2 _ _<|sq fun _ hK4=>?_
 rcases bC (decide ((k1:Int)<32)) with hc1 | hc1
 ·skip
  have hp1:(k1:Int)<32:=(dT hc1)
  refine wcT h4 rfl hc1<|h4.sk [7,3,2,0] rfl fun h5=>wp_skip<|hK4 _ _<|sq fun _ hK5=>wp_block ?_
  refine sqr fun _ hK6=>mvs 2 h5 rfl fun _ h7=>h7.sn [4,7,3,2,0] rfl fun h8=>hK6 _ _<|sqr fun _ hK7=>mvs 2 h8 rfl fun _ h9=>bv h9 (z:=ν ((k1+1:Nat):Int)) rfl (CT _ _ _ ω ω ω) fun _ h10=>cl h10 rfl (cF func11) (En (i:=((k1+1:Nat):Int)) s1 hM) fun _ v1 w2 r1 h11=>?_
  obtain ⟨rfl,s2⟩:=r1
  refine mvs 3 h11 rfl fun _ h12=>so (wn rfl) fun _ hK10=>AO h12 rfl rfl rfl rfl (z:=[ν 0,ν 0,ν 0,ν 0,ν 0,ν 0,ν 0,ν 0,ν 0,ν 0,ν 0,ν 0,ν 0,ν 0,ν 0]) (fun _=>rfl) s2 fun _ g1 w3 h13 s3 _ _=>hK10 _ _ ?_
  refine stA h13 s3 0 rfl rfl rfl κ rfl rfl rfl rfl fun _ w4 h14 s4 _=>mv h14 rfl fun _ h15=>h15.sn [6,5,4,7,3,2,0] rfl fun h16=>hK7 _ _<|sqr fun _ hK11=>mv h16 rfl fun _ h17=>bv h17 (z:=.bool (decide (AU M P ((k1+1:Nat):Int)=0))) rfl (cEq _ _ _ _ rfl) fun _ h18=>mv h18 rfl fun _ h19=>sg h19 (wT h19 rfl rfl rfl) rfl rfl rfl (fun hC1=>rfa h19 rfl rfl (fQ 0) _) fun _ h20=>sg h20 (wT h20 rfl rfl rfl) rfl rfl rfl (fun hC2=>(rld h20 rfl (opg rfl hC2) (ldB υ3 rfl (s4.get 0 rfl:Blk _ _ _ _) rfl))) fun _ h21=>?_
  refine sg h21 (wT h21 rfl rfl rfl) rfl rfl rfl (fun hC3=>Co h21 rfl (opg rfl hC3) rfl (cEq _ _ _ _ rfl) _) fun _ h22=>sv1 h22 rfl (SQ h22 rfl (E:=(decide (AU M P ((k1+1:Nat):Int)=0))) (F:=(decide ((Aj M P ((k1+1:Nat):Int)).k=0))) rfl rfl rfl (fun e=>if_pos (by rw [e];try rfl))) fun _ h23=>h23.sn [23,6,5,4,7,3,2,0] rfl fun h24=>hK11 _ _ ?_
  rcases bC ((decide (AU M P ((k1+1:Nat):Int)=0))&&(decide ((Aj M P ((k1+1:Nat):Int)).k=0))) with hc2 | hc2
  ·skip
   have hp2:(AU M P ((k1+1:Nat):Int)=0)∧((Aj M P ((k1+1:Nat):Int)).k=0):=(And.intro (dT (Zy hc2).1) (dT (Zy hc2).2))
   refine wcT h24 rfl hc2<|h24.sk [6,5,4,7,3,2,0] rfl fun h25=>sqr fun _ hK12=>mv h25 rfl fun _ h26=>bv h26 (z:=ν ((k1+1:Nat):Int)) rfl (CT _ _ _ ω ω ω) fun _ h27=>h27.sk [25,24,6,5,4,7,3,0] rfl fun h28=>mv h28 rfl fun _ h29=>h29.sk [2,25,24,6,5,4,7,0] rfl fun h30=>mv h30 rfl fun _ h31=>h31.sk [3,2,6,5,4,7,0] rfl fun h32=>?_
   refine wpList_nil<|hK12 _ _<|wp_ret ?_
   try simp only [Exit.then,Exit.inBlock]
   refine AW (v:=.tuple #[ν ((k1+1:Nat):Int),ν 0]) (DK h32 rfl rfl rfl) h32.defs ?_
   exact ⟨by rw [NF ω hn18 hp2];rfl,Sep.tail_un (xs:=[_,_]) (s4.pk [1,2,3] rfl)⟩
  ·skip
   have hp3:(¬ (AU M P ((k1+1:Nat):Int)=0))∨(¬ ((Aj M P ((k1+1:Nat):Int)).k=0)):=((Aeq hc2).imp (fun q=>(dF q)) (fun q=>(dF q)))
   refine wcF h24 rfl hc2<|h24.sk [6,5,4,7,3,2,0] rfl fun h33=>wp_skip<|hK5 _ _<|wp_region_lit<|bv h33 (z:=ν ((k1+1:Nat):Int)) rfl (CT _ _ _ ω ω ω) fun _ h34=>h34.sk [26,6,5,4,3,2,0] rfl fun h35=>mv h35 rfl fun _ h36=>h36.sk [7,6,5,4,3,2,0] rfl fun h37=>wpList_nil ?_
   exact hK1 (k1+1) _ _ ⟨h37.subs rfl,(s4.pk [1,2,3] rfl),ω,(VC hn18 ω hp3)⟩ ω
 ·skip
  have hp4:¬ ((k1:Int)<32):=(dF hc1)
  refine wcF h4 rfl hc1<|h4.sk [7,3,2,0] rfl fun h38=>wp_exit ?_
  refine hK8 _ _ ?_
  refine sqr fun _ hK13=>h38.sk [7,3,0] rfl fun h39=>mv h39 rfl fun _ h40=>h40.sk [2,7,0] rfl fun h41=>mv h41 rfl fun _ h42=>wpList_nil<|hK13 _ _<|wp_ret ?_
  try simp only [Exit.then,Exit.inBlock]
  refine AW (v:=.tuple #[ν 0,ν 18]) (DK h42 rfl rfl rfl) h42.defs ?_
  exact ⟨by rw [Yk (fun j hj=>hn18 j ω)],Sep.tail_un (xs:=[_,_]) s1⟩
theorem Kq {w:World} {R:List Ch} {mx:Nat} {K:VolK} {ta:Ω} {tc:Nat} {M:MemM} {P:List PtM} {i:Int} (hS0:Sep w ([Ab mx 125 [π K.tg],txP K ta tc M P]++R)) (hM:M.V.length=23168)  :
  CallsR prog 116 #[π mx,ν i] w (fun v w'=>v=.tuple #[.agg (AE (Az M P i)).toArray,.agg (Ao (Eb M P i)).toArray,ν (Ot M P i)]∧Sep w' ([Ab mx 125 [π K.tg],txP K ta tc M P]++R)):=by
 have hS:Sep w [Ab mx 125 [π K.tg],txP K ta tc M P,Ch.many R]:=Sep.tail_many (xs:=[_,_]) hS0;clear hS0
 refine AB func116 rfl (N:=30) ntmps116 (by show 2≤30;decide) [(0,π mx),(1,ν i)] rfl fun _ h1=>sqr fun _ hK3=>so (wn rfl) fun _ hK1=>AO h1 rfl rfl rfl rfl (z:=[ν 0,ν 0,ν 0,ν 0,ν 0,ν 0,ν 0,ν 0,ν 0,ν 0,ν 0,ν 0,ν 0,ν 0,ν 0]) (fun _=>rfl) hS fun _ g4 w7 h5 s8 _ _=>hK1 _ _ ?_
 refine so (wn rfl) fun _ hK2=>AO h5 rfl rfl rfl rfl (z:=Ao Bd) (fun _=>rfl) s8 fun _ g1 w2 h2 s1 _ _=>hK2 _ _ ?_
 refine mv h2 rfl fun _ h3=>wpList_nil<|hK3 _ _<|sqr fun _ hK4=>mvs 2 h3 rfl fun _ h4=>cl h4 rfl (cF func114) (Ut (i:=i) (s1.pk [2,3,0,1,4] rfl) hM) fun _ v1 w3 r1 h6=>?_
 obtain ⟨rfl,s2⟩:=r1
 refine mvs 3 h6 rfl fun _ h7=>so (wn rfl) fun _ hK5=>AO h7 rfl rfl rfl rfl (z:=Ao Bd) (fun _=>rfl) s2 fun _ g2 w4 h8 s3 _ _=>hK5 _ _ ?_
 refine so (wn rfl) fun _ hK6=>GL h8 rfl rfl s3 0 rfl (by first | exact Ap | exact Ag _ _ _ _ | exact AA (Ag _ _ _ _) _ _ | exact Ah _ _ _ | (rw [AD];exact Ah _ _ _) | assumption) (by first | exact Ap | exact Ag _ _ _ _ | exact AA (Ag _ _ _ _) _ _ | exact Ah _ _ _ | (rw [AD];exact Ah _ _ _) | assumption) rfl rfl (cs':=[Ab g2 179 (Ao (An M P i)),Ab mx 125 [π K.tg],txP K ta tc M P,Ab g1 179 (Ao Bd),Ab g4 40 (AE BS),Ch.many R]) rfl fun _ w5 h9 s4 _=>hK6 _ _ ?_
 refine mv h9 rfl fun _ h10=>h10.sn [8,7,6,5,4,0,1] rfl fun h11=>hK4 _ _<|sq fun _ hK7=>sqr fun _ hK8=>mv h11 rfl fun _ h12=>bv h12 (z:=.bool (decide (BH M P i≠0))) rfl (cNe _ _ _ _ rfl) fun _ h13=>h13.sn [17,8,7,6,5,4,0,1] rfl fun h14=>hK8 _ _ ?_
 rcases bC (decide (BH M P i≠0)) with hc1 | hc1
 ·skip
  have hp1:BH M P i≠0:=(dT hc1)
  refine wcT h14 rfl hc1<|h14.sk [8,7,6,5,4,0,1] rfl fun h15=>sqr fun _ hK9=>bu h15 (v:=.agg (AE BS).toArray) rfl (fun w=>κ) fun _ h16=>bu h16 (v:=.agg ((Ao Bd).toArray)) rfl (fun w=>κ) fun _ h17=>mv h17 rfl fun _ h18=>stA h18 s4 4 rfl rfl rfl κ rfl rfl rfl rfl fun _ w6 h19 s5 _=>so (wn rfl) fun _ hK10=>GL h19 rfl rfl s5 3 rfl (by first | exact Ap | exact Ag _ _ _ _ | exact AA (Ag _ _ _ _) _ _ | exact Ah _ _ _ | (rw [AD];exact Ah _ _ _) | assumption) (by first | exact Ap | exact Ag _ _ _ _ | exact AA (Ag _ _ _ _) _ _ | exact Ah _ _ _ | (rw [AD];exact Ah _ _ _) | assumption) rfl rfl (cs':=[Ab g2 179 (Ao (An M P i)),Ab mx 125 [π K.tg],txP K ta tc M P,Ab g1 179 (Ao Bd),Ab g4 40 (AE BS),Ch.many R]) rfl fun _ w8 h20 s6 _=>hK10 _ _ ?_
  refine h20.sk [20,19,18,8,7,5,4,0,1] rfl fun h21=>mv h21 rfl fun _ h22=>h22.sn [6,8,7,5,4,0,1] rfl fun h23=>hK9 _ _<|wp_ret ?_
  try simp only [Exit.then,Exit.inBlock]
  refine Hk (v:=.tuple #[.agg (AE BS).toArray,.agg ((Ao Bd).toArray),ν (BH M P i)]) (QI h23 rfl rfl rfl rfl (s6.get 4 rfl:Blk _ _ _ _) (s6.get 3 rfl:Blk _ _ _ _) υ40 υ179 (by first | exact Ap | exact Ag _ _ _ _ | exact AA (Ag _ _ _ _) _ _ | exact Ah _ _ _ | (rw [AD];exact Ah _ _ _) | assumption)) h23.defs ?_
  exact ⟨by unfold Az Eb Ot;rw [if_pos hp1,if_pos hp1,if_pos hp1],Sep.tail_un (xs:=[_,_]) (s6.pk [1,2,5] rfl)⟩
 ·skip
  have hp2:¬ (BH M P i≠0):=(dF hc1)
  refine wcF h14 rfl hc1<|h14.sk [8,7,6,5,4,0,1] rfl fun h24=>wp_skip<|hK7 _ _<|sqr fun _ hK11=>mvs 2 h24 rfl fun _ h25=>cl h25 rfl (cF func11) (En (i:=i) (s4.pk [1,2,0,3,4,5] rfl) hM) fun _ v2 w9 r2 h26=>?_
  obtain ⟨rfl,s7⟩:=r2
  refine mvs 3 h26 rfl fun _ h27=>so (wn rfl) fun _ hK12=>AO h27 rfl rfl rfl rfl (z:=[ν 0,ν 0,ν 0,ν 0,ν 0,ν 0,ν 0,ν 0,ν 0,ν 0,ν 0,ν 0,ν 0,ν 0,ν 0]) (fun _=>rfl) s7 fun _ g3 w10 h28 s9 _ _=>hK12 _ _ ?_
  refine stA h28 s9 0 rfl rfl rfl κ rfl rfl rfl rfl fun _ w11 h29 s10 _=>h29.sk [9,26,25,21,24,23,22,7,6,5,4,0,1] rfl fun h30=>mv h30 rfl fun _ h31=>h31.sn [8,9,7,6,5,4,0,1] rfl fun h32=>hK11 _ _<|sq fun _ hK13=>?_
  have s11:=s10.drew
  refine wp_region_held_drew (S:=fun w'=>Sep w' [Ab g3 40 (AE (Aj M P i)),Ab mx 125 [π K.tg],txP K ta tc M P,Ab g2 179 (Ao (An M P i)),Ch.many R]) κ (s11.pk [0,1,2,3,6] rfl) (fun hq1=>?_)
  refine tv1 hq1 h32 0 rfl rfl (fun w1 hSw=>(rld h32 rfl rfl (ldA υ40 rfl (n:=15) κ (hSw.get 0 rfl:Blk _ _ _ _) rfl rfl))) fun _ h33=>?_
  refine tv1 hq1 h33 1 rfl rfl (fun w1 hSw=>(rld h33 rfl rfl (Hd υ179 (hSw.get 3 rfl:Blk _ _ _ _) (by first | exact Ap | exact Ag _ _ _ _ | exact AA (Ag _ _ _ _) _ _ | exact Ah _ _ _ | (rw [AD];exact Ah _ _ _) | assumption)))) fun _ h34=>?_
  refine tv1 hq1 h34 2 rfl rfl (fun w1 _=>(Au h34 rfl rfl) w1) fun _ h35=>?_
  refine to_ 3 rfl (wn rfl) κ fun _ hK14=>FS h35 rfl rfl s11 5 rfl rfl rfl [ν ((Aj M P i).k),ν ((Aj M P i).l),ν ((Aj M P i).s),ν ((Aj M P i).b0),ν ((Aj M P i).b1),ν ((Aj M P i).b2),ν ((Aj M P i).b3),ν ((Aj M P i).o0),ν ((Aj M P i).o1),ν ((Aj M P i).o2),ν ((Aj M P i).o3),ν ((Aj M P i).o4),ν ((Aj M P i).o5),ν ((Aj M P i).o6),ν ((Aj M P i).o7)] rfl κ rfl (by show 0+15≤15;decide) (L':=[ν ((Aj M P i).k),ν ((Aj M P i).l),ν ((Aj M P i).s),ν ((Aj M P i).b0),ν ((Aj M P i).b1),ν ((Aj M P i).b2),ν ((Aj M P i).b3),ν ((Aj M P i).o0),ν ((Aj M P i).o1),ν ((Aj M P i).o2),ν ((Aj M P i).o3),ν ((Aj M P i).o4),ν ((Aj M P i).o5),ν ((Aj M P i).o6),ν ((Aj M P i).o7)]) rfl (cs':=[Ab g3 40 (AE (Aj M P i)),Ab mx 125 [π K.tg],txP K ta tc M P,Ab g2 179 (Ao (An M P i)),Ab g1 179 (Ao Bd),Ab g4 40 (AE (Aj M P i)),Ch.many R]) rfl fun _ w12 h36 s12 _=>?_
  refine hK14 _ _ (s12.pk [0,1,2,3,6] rfl) fun hq2=>?_
  refine to_ 4 rfl (wn rfl) κ fun _ hK15=>GL h36 rfl rfl s12 4 rfl (by first | exact Ap | exact Ag _ _ _ _ | exact AA (Ag _ _ _ _) _ _ | exact Ah _ _ _ | (rw [AD];exact Ah _ _ _) | assumption) (by first | exact Ap | exact Ag _ _ _ _ | exact AA (Ag _ _ _ _) _ _ | exact Ah _ _ _ | (rw [AD];exact Ah _ _ _) | assumption) rfl rfl (cs':=[Ab g3 40 (AE (Aj M P i)),Ab mx 125 [π K.tg],txP K ta tc M P,Ab g2 179 (Ao (An M P i)),Ab g1 179 (Ao (An M P i)),Ab g4 40 (AE (Aj M P i)),Ch.many R]) rfl fun _ w13 h37 s13 _=>?_
  refine hK15 _ _ (s13.pk [0,1,2,3,6] rfl) fun hq3=>h37.sk [29,28,27,8,9,7,5,4,0,1] rfl fun h38=>?_
  refine tv1 hq3 h38 5 rfl rfl (fun w1 _=>(Bv h38 rfl rfl) w1) fun _ h39=>?_
  refine h39.sk [6,8,9,7,5,4,0,1] rfl fun h40=>?_
  refine wpAnyH_done κ ?_ _
  refine hK13 _ _ ?_
  refine wp_ret ?_
  try simp only [Exit.then,Exit.inBlock]
  refine Hk (v:=.tuple #[.agg (AE (Aj M P i)).toArray,.agg ((Ao (An M P i)).toArray),ν (AU M P i)]) (QI h40 rfl rfl rfl rfl (s13.get 5 rfl:Blk _ _ _ _) (s13.get 4 rfl:Blk _ _ _ _) υ40 υ179 (by first | exact Ap | exact Ag _ _ _ _ | exact AA (Ag _ _ _ _) _ _ | exact Ah _ _ _ | (rw [AD];exact Ah _ _ _) | assumption)) h40.defs ?_
  exact ⟨by unfold Az Eb Ot;rw [if_neg hp2,if_neg hp2,if_neg hp2],Sep.tail_un (xs:=[_,_]) (s13.pk [1,2,6] rfl)⟩
end
end Go.Proofs.YtpnknncmacjdkaaGreatDoor
