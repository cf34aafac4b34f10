/- Parts of the proof. -/
import Derived.Test.YthiplgahhejmcaaGreatDoorQai
namespace Go.Proofs.YthiplgahhejmcaaGreatDoor
open Go.RowKit
open _root_.Go.Proofs.Tryz
set_option linter.unusedSimpArgs false
set_option linter.unusedVariables false
set_option linter.unusedSectionVars false
set_option maxRecDepth 100000
set_option maxHeartbeats 8000000
section
open Go.RowKit Go.Shelf
def JR (rest:Λ):Option (List ByteArray):=if (Bj rest).length≤6∧((Bj rest).map Aw).all DC=true then some ((Bj rest).map Aw) else none
def NC:Λ→Option (List ByteArray)
  | b::r=>if b=47 then JR r else none
  | []=>none
def BK (X:Λ):Option (List ByteArray):=if X=[47] then some [] else NC X
def erO (o:Option (List ByteArray)):Int:=match o with | some _=>0 | none=>15
def SU (w:World) (o:Option (List ByteArray)) (e:Ending) (w':World):Prop:=
  ∃ a c,e=.returned (.tuple #[.slice a (o.getD []).length c,ν (erO o)])∧Ab0 w' w.heap.size a c (o.getD [])∧Below w.heap.size w w'
theorem Ip {w w':World} {o:Option (List ByteArray)} {e:Ending} (ho:o=none) (he:e=.returned (.tuple #[.slice none 0 0,ν 15])) (hb:Below w.heap.size w w'):SU w o e w':=by
  subst ho;exact ⟨none,0,he,Own.nil _ _ _ _,hb⟩
theorem QR {w w':World} {o:Option (List ByteArray)} {e:Ending} (ho:o=some []) (he:e=.returned (.tuple #[.slice none 0 0,ν 0])) (hb:Below w.heap.size w w'):SU w o e w':=by
  subst ho;exact ⟨none,0,he,Own.nil _ _ _ _,hb⟩
theorem QS {w w':World} {o:Option (List ByteArray)} {e:Ending} {L:List ByteArray} {a:Ω} {c:Nat} (ho:o=some L) (he:e=.returned (.tuple #[.slice a L.length c,ν 0])) (h:Ab0 w' w.heap.size a c L) (hb:Below w.heap.size w w'):SU w o e w':=by
  subst ho;exact ⟨a,c,he,h,hb⟩
theorem Oo {x:ByteArray} (h:(47:UInt8)∈x.data.toList):DC x=false:=by
  have:QU x=false:=by
    unfold QU
    rw [List.all_eq_false]
    exact ⟨47,h,by decide⟩
  unfold DC;rw [this];simp
theorem SD (X:Λ) (hX:X.length≤1000) (w:World):Calls prog 115 #[σ X,.string ⟨#[47]⟩,ν 6] w (QT w X):=by
  have HG:=Oe X hX w
  unfold QT at HG ⊢
  have HG:=hid HG
  go_enter func115,ntmps115
  go_wp2_with (go_at_call 138;fail)
  refine (HG.out).mono ?_
  rintro e w1 ⟨a,c,R,rfl,o,b,h⟩
  have O:=hid o;have B:=hid b;have H:=hid h
  clear o b h
  go_wp2_with fail
  go_ret
  exact ⟨a,c,R,rfl,O.out,B.out,H.out⟩
theorem Rd (r:List UInt8) (w:World):Calls Tryz.prog 114 #[.string (Aw (47::r)),.string ⟨#[47]⟩] w fun e w'=>e=.returned (.tuple #[.string (Aw r),.bool true])∧w=w':=by
  have x1:(Aw (47::r)).extract 0 1=⟨#[47]⟩:=by rw [IV];rfl
  have x2:(Aw (47::r)).extract 1 (r.length+1)=Aw r:=Lm (47::r) 1
  have hs:(Aw (47::r)).size=r.length+1:=ER _
  generalize Aw (47::r)=s at *
  have d1:decide ((1:Int)≤(r.length:Int)+1)=true:=decide_eq_true (by omega)
  have i1:(1:Int)≤((r.length+1:Nat):Int):=by omega
  have HX2:=hid x2;have HS:=hid hs
  have x3:s.extract 1 s.size=Aw r:=by rw [hs];exact x2
  have i2:(1:Int)≤s.size:=by omega
  have d2:decide ((1:Int)≤(s.size:Int))=true:=decide_eq_true i2
  clear x2 hs d1 i1
  go_enter Tryz.func114,Tryz.ntmps114
  go_wp2
  go_ret2
  exact ⟨rfl,rfl⟩
theorem Ng (X:List UInt8) (hX:∀ b r,X=b::r→b≠47) (w:World):Calls Tryz.prog 114 #[.string (Aw X),.string ⟨#[47]⟩] w fun e w'=>e=.returned (.tuple #[.string (Aw X),.bool false])∧w=w':=by
  cases X with
  | nil=>
    have hs:(Aw []).size=0:=rfl
    generalize Aw []=s at *
    go_enter Tryz.func114,Tryz.ntmps114
    go_wp2
    go_ret2
    exact ⟨rfl,rfl⟩
  | cons b r=>
    have hb:¬ b=47:=hX b r rfl
    have x1:(Aw (b::r)).extract 0 1=⟨#[b]⟩:=by rw [IV];rfl
    have hs:(Aw (b::r)).size=r.length+1:=ER _
    generalize Aw (b::r)=s at *
    have i2:(1:Int)≤s.size:=ω
    have d2:decide ((1:Int)≤(s.size:Int))=true:=decide_eq_true i2
    have e1:((⟨#[b]⟩:ByteArray).toList == [47])=false:=by rw [PF];simpa using hb
    have e2:([b] == [(47:UInt8)])=false:=by simpa using hb
    have e3:=PF b
    clear hs hX
    go_enter Tryz.func114,Tryz.ntmps114
    go_wp2
    go_ret2
    exact ⟨rfl,rfl⟩
end
section
open Go.RowKit Go.Shelf
theorem Vy {X:Λ} {R:List ByteArray} (h:(R=(Bj X).map Aw∧R.length≤6)∨(6<(Bj X).length∧∃ x∈R,(47:UInt8)∈x.data.toList)) :
    (R.all DC=true∧JR X=some R)∨(R.all DC=false∧JR X=none):=by
  rcases h with ⟨rfl,h6⟩ | ⟨h6,x,hx,hs⟩
  · rw [List.length_map] at h6
    cases ha:((Bj X).map Aw).all DC with
    | true=>exact .inl ⟨rfl,if_pos ⟨h6,ha⟩⟩
    | false=>exact .inr ⟨rfl,if_neg (fun q=>by rw [ha] at q;cases q.2)⟩
  · refine .inr ⟨?_,if_neg (fun q=>ω)⟩
    rw [List.all_eq_false]
    exact ⟨x,hx,by rw [Oo hs];simp⟩
theorem Jk (X:Λ) (hX:X.length≤1000) (w:World):Calls prog 86 #[σ X] w (SU w (BK X)):=by
  by_cases h0:X=[47]
  · subst h0
    have HO:Hid (BK [47]=some []):=if_pos rfl
    have hl:=Ns [47]
    go_enter func86,ntmps86
    go_wp2_with fail
    go_ret2
    exact QR HO.out rfl (Below.refl _ _)
  · have e1:((Aw X).toList == [(47:UInt8)])=false:=by rw [Ns];simpa using h0
    have hp:BK X=NC X:=if_neg h0
    cases X with
    | nil=>
      have HO:=hid (show BK []=none from hp)
      have HC:=hid (fun w1=>Ng [] (fun b r h=>by cases h) w1)
      clear hp h0
      go_enter func86,ntmps86
      go_wp2_with (go_at_call 114;refine (HC.out _).mono ?_;rintro e w1 ⟨rfl,rfl⟩)
      go_ret2
      exact Ip HO.out rfl (Below.refl _ _)
    | cons b r=>
      by_cases hb:b=47
      · subst hb
        have HO:=hid (show BK (47::r)=JR r from hp.trans (by simp [NC]))
        have HC:=hid (fun w1=>Rd r w1)
        have hr:r.length≤1000:=by simp at hX;omega
        have HS:=hid (fun w1=>SD r hr w1)
        clear hp h0 hX hr
        go_enter func86,ntmps86
        go_wp2_with (first
          | (go_at_call 114;refine (HC.out _).mono ?_;rintro e w1 ⟨rfl,rfl⟩)
          | (go_at_call 115;fail))
        refine (HS.out w).mono ?_
        rintro e w1 ⟨a,c,R,rfl,o,bb,h⟩
        have h2:=Vy h
        have O:=hid o;have B:=hid bb
        have HA:=fun w2 (q:JA w2 a c R)=>NV a c R w2 q
        clear o bb h
        rcases h2 with ⟨ha,hn⟩ | ⟨ha,hn⟩
        · rw [ha] at HA
          have HA:=hid HA;have HN:=hid hn
          clear ha hn
          go_wp2_with (go_at_call 116;refine (HA.out _ O.out.row).mono ?_;rintro e w2 ⟨rfl,b2⟩;have O2:=hid (O.out.mono b2);have B2:=hid (Ad B.out b2);clear b2)
          go_ret2
          exact QS (by rw [HO.out,HN.out]) rfl O2.out B2.out
        · rw [ha] at HA
          have HA:=hid HA;have HN:=hid hn
          clear ha hn
          go_wp2_with (go_at_call 116;refine (HA.out _ O.out.row).mono ?_;rintro e w2 ⟨rfl,b2⟩;have B2:=hid (Ad B.out b2);clear b2)
          go_ret2
          exact Ip (by rw [HO.out,HN.out]) rfl B2.out
      · have HO:=hid (show BK (b::r)=none from hp.trans (by simp [NC,hb]))
        have HC:=hid (fun w1=>Ng (b::r) (fun b' r' h=>by cases h;exact hb) w1)
        clear hp h0 hb
        go_enter func86,ntmps86
        go_wp2_with (go_at_call 114;refine (HC.out _).mono ?_;rintro e w1 ⟨rfl,rfl⟩)
        go_ret2
        exact Ip HO.out rfl (Below.refl _ _)
def Afp (w:World) (o:Option (List ByteArray)) (e:Ending) (w':World):Prop:=
  (∃ (L:List ByteArray) (x:ByteArray) (a:Ω) (c:Nat),o=some (L++[x])∧c=L.length∧e=.returned (.tuple #[.slice a L.length c,.string x,ν 0])∧JA w' a c L∧Below w.heap.size w w') ∨
  ((o=none∨o=some [])∧e=.returned (.tuple #[.slice none 0 0,.string ⟨#[]⟩,ν 15])∧Below w.heap.size w w')
theorem II {α:Type} (L:List α):L=[]∨∃ A x,L=A++[x]:=by
  rcases List.eq_nil_or_concat L with h | ⟨A,x,h⟩
  · exact .inl h
  · exact .inr ⟨A,x,by rw [h];simp⟩
theorem Sg (X:Λ) (hX:X.length≤1000) (w:World):Calls prog 100 #[σ X] w (Afp w (BK X)):=by
  have HP:=hid (Jk X hX w)
  cases ho:BK X with
  | none=>
    rw [ho] at HP
    go_enter func100,ntmps100
    go_wp2_with (go_at_call 86;fail)
    refine (HP.out).mono ?_
    rintro e w1 ⟨a,c,rfl,o,b⟩
    have B:=hid b
    clear o b
    simp only [erO,Option.getD_none,List.length_nil]
    go_wp2_with fail
    go_ret3
    exact .inr ⟨.inl rfl,rfl,B.out⟩
  | some L=>
    rw [ho] at HP
    rcases II L with rfl | ⟨A,x,rfl⟩
    · go_enter func100,ntmps100
      go_wp2_with (go_at_call 86;fail)
      refine (HP.out).mono ?_
      rintro e w1 ⟨a,c,rfl,o,b⟩
      have B:=hid b
      clear o b
      simp only [erO,Option.getD_some,List.length_nil]
      go_wp2_with fail
      go_ret3
      exact .inr ⟨.inr rfl,rfl,B.out⟩
    · go_enter func100,ntmps100
      go_wp2_with (go_at_call 86;fail)
      refine (HP.out).mono ?_
      rintro e w1 ⟨a,c,rfl,o,b⟩
      have O:=hid o;have B:=hid b
      clear o b
      simp only [erO,Option.getD_some]
      simp only [Option.getD_some] at O
      have hl:(A++[x]).length=A.length+1:=by simp
      rw [hl]
      have hrow:JA w1 a c (A++[x]):=O.out.row
      obtain ⟨g,off,rfl,hg,hc⟩:=IH hrow ω
      have hlc:A.length+1≤c:=by have:=hrow.2.1;rw [hl] at this;exact this
      have hc9:c≤9223372036854775807:=by have:=hrow.2.2.1;unfold maxLen at this;exact this
      have cx:=hc A.length ω
      have hx:(A++[x])[A.length]' ω=x:=by simp
      rw [hx] at cx
      have HROW:=hid hrow
      clear hc hx hrow hl
      have i1:(A.length:Int)<(A.length:Int)+1:=ω
      have i2:(A.length:Int)≤c:=ω
      have i3:(0:Int)≤A.length:=ω
      go_wp2_with fail
      go_quiet (fail)
      go_wp2_with fail
      go_ret3
      refine .inl ⟨A,x,some ⟨g,off,none⟩,A.length,rfl,rfl,rfl,?_,FO B.out _⟩
      obtain ⟨h1,h2,h3,h4,h5⟩:=HROW.out
      refine ⟨by simp,Nat.le_refl _,by unfold maxLen;omega,(fun h=>by cases h),fun hn=>?_⟩
      obtain ⟨b',o',e',hb',hc'⟩:=h5 (by simp)
      refine ⟨b',o',e',hb',fun j u hu=>hc' j u ?_⟩
      rw [List.map_append,List.getElem?_append_left (by have:=(List.getElem?_eq_some_iff.1 hu).1;exact this)]
      exact hu
end
section
def LF:Λ:=[67,77,78,49,0,0,0,0]
def Ag9:Int:=1152921504606846976
def Lx (n:Int):Λ:=if btw n 1152921504606846976 then Mo (BY LF [(n,8)]) else []
theorem Ky {n:Int} (h:btw n 1152921504606846976=true):(BY LF [(n,8)]).length=16:=by
  have h':0≤n:=by unfold btw at h;simp at h;exact h.1
  simp [BY,Av,BA,h',AE,LF]
theorem Mk (w:World) (fs:List (Int×Int)) (e:TypeId) (h:fs.length≤1000):Row (w.alloc (.cells (Ct fs).toArray e)) 2 (some ⟨w.heap.size,0,none⟩) fs.length fs.length (Ct fs):=by
  refine ⟨IW fs,Nat.le_refl _,by unfold maxLen;omega,fun h=>by (cases h),fun _=>⟨w.heap.size,0,rfl,by simp,fun j u hu=>?_⟩⟩
  have hh:=heap_alloc_new w (.cells (Ct fs).toArray e)
  unfold World.cell?
  rw [show (⟨w.heap.size,0+j,none⟩:Addr).block=w.heap.size from rfl,hh]
  simpa using hu
theorem Qh (n:Int) (w:World) (hn:n≤9223372036854775807) :
    Calls prog 49 #[ν n] w fun e w'=>∃ a c,e=.returned (.tuple #[.slice a (Lx n).length c,ν (if btw n 1152921504606846976 then 0 else 1)])∧Cy w' w.heap.size a c (Lx n)∧Below w.heap.size w w':=by
  by_cases hb:btw n 1152921504606846976=true
  · have hL:Lx n=Mo (BY LF [(n,8)]):=by unfold Lx;rw [if_pos hb]
    have hE:(if btw n 1152921504606846976 then (0:Int) else 1)=0:=if_pos hb
    have hl:=Ky hb
    have hl60:(BY LF [(n,8)]).length≤60:=ω
    rw [hL,hE]
    have HB:=hid hb;have HL:=hid hl60
    clear hb hL hE hl hl60
    go_enter func49,ntmps49
    go_wp2_with fail
    refine (GN _ _ _).mono ?_
    rintro e w1 ⟨rfl,rfl⟩
    rw [HB.out]
    go_wp2_with fail
    refine (Qy ⟨#[67,77,78,49,0,0,0,0]⟩ _ _ [(n,8)] _ (by decide) (Mk w [(n,8)] 153 (by simp)) (by simp) (by simp) (by simpa using hn) HL.out).mono ?_
    rintro e w2 ⟨a2,c2,rfl,o2,b2⟩
    go_wp2_with fail
    go_ret2
    exact ⟨a2,c2,rfl,o2.low (by simp),AN ((Below.refl _ w).alloc (Nat.le_refl _) _) b2 (by simp)⟩
  · have hb':btw n 1152921504606846976=false:=by simpa using hb
    have hL:Lx n=[]:=by unfold Lx;rw [if_neg hb]
    have hE:(if btw n 1152921504606846976 then (0:Int) else 1)=1:=if_neg hb
    rw [hL,hE]
    have HB:=hid hb'
    clear hb hL hE hb'
    go_enter func49,ntmps49
    go_wp2_with fail
    refine (GN _ _ _).mono ?_
    rintro e w1 ⟨rfl,rfl⟩
    rw [HB.out]
    go_wp2_with fail
    go_ret2
    exact ⟨none,0,rfl,Own.nil _ _ _ _,Below.refl _ _⟩
def GJ (e h r er i wr:Int):List (Int×Int):=[(e,4),(h,4),(r,8),(er,1),(i,1),(wr,8)]
def Mx (e h r er i wr:Int):Λ:=if Oq e h r er i wr then Mo (BY [] (GJ e h r er i wr)) else []
theorem XC {e h r er i wr:Int} (hm:Oq e h r er i wr=true):0≤e∧e≤1073741824∧0≤h∧h≤1024∧0≤r∧r≤1099511627776∧0≤wr∧wr≤1099511627776∧0≤er∧er≤255∧0≤i∧i≤32:=by
  unfold Oq at hm;exact of_decide_eq_true hm
theorem Yb (e h r er i wr:Int) (w:World) :
    Calls prog 48 #[TJ e h r er i wr] w fun en w'=>∃ a c,en=.returned (.tuple #[.slice a (Mx e h r er i wr).length c,ν (if Oq e h r er i wr then 0 else 1)])∧Cy w' w.heap.size a c (Mx e h r er i wr)∧Below w.heap.size w w':=by
  have hmay:=fun w1=>Aaa e h r er i wr w1
  unfold TJ at *
  by_cases hb:Oq e h r er i wr=true
  · have hL:Mx e h r er i wr=Mo (BY [] (GJ e h r er i wr)):=by unfold Mx;rw [if_pos hb]
    have hE:(if Oq e h r er i wr then (0:Int) else 1)=0:=if_pos hb
    have hl60:(BY [] (GJ e h r er i wr)).length≤60:=by
      have:=GF [] (GJ e h r er i wr)
      simp [GJ] at this ⊢;omega
    have h9:∀ f∈GJ e h r er i wr,f.1≤9223372036854775807:=by
      have:=XC hb
      intro f hf;simp [GJ] at hf
      rcases hf with rfl | rfl | rfl | rfl | rfl | rfl<;>simp<;>omega
    rw [hL,hE]
    have HB:=hid hb;have HL:=hid hl60;have H9:=hid h9;have HM:=hid hmay
    clear hb hL hE hl60 h9 hmay
    go_enter func48,ntmps48
    go_wp2_with fail
    refine (HM.out _).mono ?_
    rintro en w1 ⟨rfl,b1⟩
    rw [HB.out]
    have H0:Blk (w.alloc (.cells #[ν e,ν h,ν r,ν er,ν i,ν wr] 104)) w.heap.size 104 [ν e,ν h,ν r,ν er,ν i,ν wr]:=heap_alloc_new w _
    have H1:=Blk.mono H0 b1
    have k0:=Blk.cell H1 (i:=0) (by simp)
    have k1:=Blk.cell H1 (i:=1) (by simp)
    have k2:=Blk.cell H1 (i:=2) (by simp)
    have k3:=Blk.cell H1 (i:=3) (by simp)
    have k4:=Blk.cell H1 (i:=4) (by simp)
    have k5:=Blk.cell H1 (i:=5) (by simp)
    simp only [List.getElem_cons_zero,List.getElem_cons_succ] at k0 k1 k2 k3 k4 k5
    have B1:=hid (AN ((Below.refl _ w).alloc (Nat.le_refl _) _) b1 (by simp))
    clear H0 H1 b1 HM
    go_wp2_with fail
    refine (Qy ⟨#[]⟩ _ _ (GJ e h r er i wr) _ (by decide) (Mk w1 (GJ e h r er i wr) 153 (by simp [GJ])) (by simp [GJ]) (by simp [GJ]) H9.out HL.out).mono ?_
    rintro en w2 ⟨a2,c2,rfl,o2,b2⟩
    go_wp2_with fail
    go_ret2
    exact ⟨a2,c2,rfl,o2.low (Nat.le_trans B1.out.size (by simp)),AN (B1.out.alloc B1.out.size _) b2 (Nat.le_trans B1.out.size (by simp))⟩
  · have hb':Oq e h r er i wr=false:=by simpa using hb
    have hL:Mx e h r er i wr=[]:=by unfold Mx;rw [if_neg hb]
    have hE:(if Oq e h r er i wr then (0:Int) else 1)=1:=if_neg hb
    rw [hL,hE]
    have HB:=hid hb';have HM:=hid hmay
    clear hb hL hE hb' hmay
    go_enter func48,ntmps48
    go_wp2_with fail
    refine (HM.out _).mono ?_
    rintro en w1 ⟨rfl,b1⟩
    rw [HB.out]
    go_wp2_with fail
    go_ret2
    exact ⟨none,0,rfl,Own.nil _ _ _ _,AN ((Below.refl _ w).alloc (Nat.le_refl _) _) b1 (by simp)⟩
def Ag1 (xs:Λ):Bool:=decide (64≤xs.length∧AI xs 60 4=some (Ci (xs.take 60)))
def chk (xs:Λ):Int:=if 64≤xs.length then (if AI xs 60 4=some (Ci (xs.take 60)) then 0 else 4) else 3
end
section
def InoT.setB (x:InoT) (k:Nat) (n:Int):InoT:=match k with
  | 0=>{ x with b0:=n }
  | 1=>{ x with b1:=n }
  | 2=>{ x with b2:=n }
  | _=>{ x with b3:=n }
theorem AA {t:List EntT} (h:t.length=16) (k:Int) (bs:Λ):(Ff t k bs).1.length=16:=by
  unfold Ff
  split
  · rename_i hk
    split
    · exact h
    · unfold YP
      split
      · rename_i es he
        have:=Oy _ _ he;show (splice t (4*k.toNat) es).length=16;rw [length_splice _ _ _ ω];exact h
      · exact h
  · exact h
def Bz (M:MemM) (P:List PtM) (x:InoT):Nat→List EntT×Int
  | 0=>(AB,0)
  | k+1=>if (Bz M P x k).2=0 then (if x.blk k=0 then Bz M P x k else Ff (Bz M P x k).1 k (Br M P 7 (x.blk k))) else Bz M P x k
theorem Ag (M:MemM) (P:List PtM) (x:InoT):∀ k,(Bz M P x k).1.length=16
  | 0=>Aq
  | k+1=>by
    have ih:=Ag M P x k
    unfold Bz;split
    · split
      · exact ih
      · exact AA ih _ _
    · exact ih
theorem MB {M:MemM} {P:List PtM} {x:InoT} {k:Nat} (h:(Bz M P x k).2≠0):∀ m,k≤m→(Bz M P x m).2≠0
  | 0,hm=>by
    have:k=0:=ω
    subst this;exact h
  | m+1,hm=>by
    by_cases e:k=m+1
    · subst e;exact h
    · have ih:=MB h m (by omega)
      unfold Bz;rw [if_neg ih];exact ih
def An (M:MemM) (P:List PtM) (i:Int):List EntT:=
  if AR M P i≠0 then AB else if (Al M P i).k≠2 then AB else if (Bz M P (Al M P i) 4).2=0 then (Bz M P (Al M P i) 4).1 else AB
def Bp (M:MemM) (P:List PtM) (i:Int):Int:=
  if AR M P i≠0 then AR M P i else if (Al M P i).k≠2 then 12 else if (Bz M P (Al M P i) 4).2=0 then 0 else 36
theorem Ah (M:MemM) (P:List PtM) (i:Int):(An M P i).length=16:=by
  unfold An;split
  · exact Aq
  · split
    · exact Aq
    · split
      · exact Ag _ _ _ _
      · exact Aq
def Agz (M:MemM) (P:List PtM):Option Nat:=(List.range 32).find? fun k=>decide (AR M P ((k:Int)+1)=0)&&decide ((Al M P ((k:Int)+1)).k=0)
end
section
def SY (x:UInt8):List Value:=[Ac x]
theorem IY (xs:Λ) (f:Int):∀ k i:Nat,0≤CV xs f k i∧CV xs f k i≤(i+k:Nat)
 | 0,i=>⟨Int.le_refl 0,by show (0:Int)≤_;omega⟩
 | k+1,i=>by
  have ih:=IY xs f k (i+1)
  unfold CV;split<;>omega
theorem Uv (xs:Λ):0≤As xs 1∧As xs 1≤128:=by have:=IY xs 1 128 0;unfold As;omega
theorem EK (x:UInt8):(SY x).length=1:=rfl
theorem Ca (xs:Λ) (h:xs.length=16):xs.length=16:=h
theorem Rr (xs:Λ):xs.flatMap SY=xs.map Ac:=by
 induction xs with
 | nil=>rfl
 | cons x xs ih=>rw [List.flatMap_cons,ih];rfl
theorem EJ {w:World} {g n:Nat} {R:List Ch} (h:Sep w (Ab g 5 ((List.replicate n (0:UInt8)).flatMap SY)::R)) (hn:n≤maxLen:=by unfold maxLen;omega):Sep w (Bm 0 5 1 (some ⟨g,0,none⟩) (List.replicate n (0:UInt8)).length n ((List.replicate n (0:UInt8)).map Ac)::R):=by
 have z:Blk w g 5 ((List.replicate n (0:UInt8)).map Ac):=by
  have z:Blk w g 5 ((List.replicate n (0:UInt8)).flatMap SY):=h.get 0 rfl
  rw [Rr] at z;exact z
 have o:=OR z (Nat.zero_le g) (by simpa using hn)
 rw [List.length_map,List.length_replicate] at o
 refine h.head (Turns.refl (fun _=>False) w) (fun _ _ q=>q.elim) (c':=Bm 0 5 1 (some ⟨g,0,none⟩) _ n _) (by rw [List.length_replicate];exact o) fun k q=>.inl ?_
 have q:(some g:Option Nat)=some k:=q
 cases q;rfl
def bN (M:MemM) (P:List PtM) (s:Int):Int:=if De M P s then 0 else if Ub M P=0 then OQ M P else 0
def bE (M:MemM) (P:List PtM) (s:Int):Int:=if De M P s then 18 else Ub M P
def bP (M:MemM) (P:List PtM) (s:Int):List PtM:=if De M P s then P else Ady M P
theorem Zi (xs:Λ):(DD xs 128).length≤128:=by
 unfold DD;exact Nat.le_trans (List.length_filter_le _ _) (by rw [List.length_range];exact Nat.le_refl _)
theorem JO:(prog.info? 111).map (·.size)=some 32:=κ
theorem Fb {k:TypeDesc} (hu:prog.underlying 111=some k) {w:World} {g:Nat} {e:TypeId} {t:List EntT} (h:Blk w g e (Am t)) (hl:t.length=16) (hk:k.isRow=true:=by rfl):(Instr.loadAt 111 (π g)).run prog w=.ok (.agg (Am t).toArray) w:=
 ldA hu hk JO h (by rw [List.drop_zero,List.take_of_length_le (by rw [BI,hl];exact Nat.le_refl _)]) (by rw [BI,hl])
theorem Fj {Q:Exit→Act→World→Prop} {Kk:Act→World→Prop} {o:Oper} {a:Act} {w:World} {N:Nat} {l:List (Nat×Value)} {cs cs':List Ch} (h:Kn N l a) (hd:o.dst=none) {x y:Operand} (ho:o.op=.store 111 x y) (hS:Sep w cs) (i:Nat) {g:Nat} {e:TypeId} {xs ys:List EntT} (hi:cs[i]? = some (Ab g e (Am xs))) (h0:xs.length=16) (h1:ys.length=16) (hx:opv l x=some (π g)) (hy:opv l y=some (.agg (Am ys).toArray))
  (hcs:cs.set i (Ab g e (Am ys))=cs') (k:∀ a' w',Kn N l a'→Sep w' cs'→Turns (fun k=>k=g) w w'→Kk a' w'):Oper.wp prog o a w Kk Q:=
 FN h hd ho hS i hi hx hy (Am ys) rfl (by rw [BI,h1];exact JO) (by rw [List.all_eq_true];exact QD ys) (by rw [BI,BI,h0,h1];exact Nat.le_refl _) (L':=Am ys) (by
  unfold splice;rw [List.take_zero,List.nil_append,List.drop_of_length_le (by rw [BI,BI,h0,h1];exact Nat.le_refl _),List.append_nil]) hcs k
theorem Jn {fn:Func} {N:Nat} {l:List (Nat×Value)} {a:Act} {w:World} (hK:Kn N l a) {c u:Nat} (h:fn.results=#[.cell c 111,.tmp u]) {g:Nat} {e:TypeId} {t:List EntT} {k:TypeDesc} {v:Value} (hc:opv l (.tmp c)=some (π g)) (hv:opv l (.tmp u)=some v) (hb:Blk w g e (Am t)) (hu:prog.underlying 111=some k) (hl:t.length=16) (hk:k.isRow=true:=by rfl):(results fn a.tmps).run prog w=.ok (.tuple #[.agg (Am t).toArray,v]) w:=
 Abx hK h hc hv hb hu hk (by rw [BI,hl];exact JO)
theorem Zn {w:World} {R:List Ch} {mx:Nat} {K:VolK} {ta:Ω} {tc:Nat} {M:MemM} {P:List PtM} {spare:Int} (hS0:Sep w ([Ab mx 99 [π K.tg],txP K ta tc M P]++R)) (hM:M.V.length=23168) (hs:-9223372036854775808≤spare∧spare≤9223372036854775807) :
  CallsR prog 13 #[π mx,ν spare] w (fun v w'=>∃ ta' tc',v=.tuple #[ν (bN M P spare),ν (bE M P spare)]∧Sep w' ([Ab mx 99 [π K.tg],txP K ta' tc' M (bP M P spare)]++R)):=by
 have hS:Sep w [Ab mx 99 [π K.tg],txP K ta tc M P,Ch.many R]:=Sep.tail_many (xs:=[_,_]) hS0;clear hS0
 have hal:=Zi (Ar M P)
 have hfx:=Uv (Ar M P)
 refine AG func13 rfl (N:=34) ntmps13 (by show 2≤34;decide) [(0,π mx),(1,ν spare)] rfl fun _ h1=>sqr fun _ hK3=>mvs 2 h1 rfl fun _ h6=>wpList_nil<|hK3 _ _<|sqr fun _ hK8=>mv h6 rfl fun _ h9=>cl h9 rfl (cF func11) (Tu hS hM) fun _ v1 w2 r1 h2=>?_
 obtain ⟨rfl,s1⟩:=r1
 refine so (wn rfl) fun _ hK1=>AH h2 rfl rfl rfl rfl (z:=(Aj).map Ac) (fun _=>rfl) s1 fun _ g1 w3 h3 s2 _ _=>hK1 _ _ ?_
 refine so (wn rfl) fun _ hK2=>Mz h3 rfl rfl s2 0 rfl (Ca _ (by first | rfl | simp only [AT,Ay,Ar,AJ])) (Ca _ (by first | rfl | simp only [AT,Ay,Ar,AJ])) rfl rfl (cs':=[Ab g1 27 (((Ar M P)).map Ac),Ab mx 99 [π K.tg],txP K ta tc M P,Ch.many R]) rfl fun _ w4 h4 s3 _=>hK2 _ _ ?_
 refine h4.sn [6,5,4,0,1] rfl fun h5=>hK8 _ _<|sq fun _ hK4=>sqr fun _ hK5=>sw1 h5 rfl (rld h5 rfl rfl (Il υ27 (s3.get 0 rfl:Blk _ _ _ _) (Ca _ (by first | rfl | simp only [AT,Ay,Ar,AJ])))) fun _ h7=>cl h7 rfl (cF func14) (AS s3 (Nd (Ar M P) _ (Ca _ (by first | rfl | simp only [AT,Ay,Ar,AJ])))) fun _ v2 w5 r2 h8=>?_
 obtain ⟨rfl,s4⟩:=r2
 refine bv h8 (z:=ν (128-((DD (Ar M P) 128).length:Int))) rfl (OP _ _ _ ω ω ω) fun _ h10=>mv h10 rfl fun _ h11=>sv1 h11 rfl (Ae0 h11 rfl rfl rfl ω) fun _ h12=>bv h12 (z:=.bool (decide (128-((DD (Ar M P) 128).length:Int)≤max spare 0))) rfl (cLe _ _ _ _ rfl) fun _ h13=>h13.sn [16,6,5,4,0,1] rfl fun h14=>hK5 _ _ ?_
 rcases bC (decide (128-((DD (Ar M P) 128).length:Int)≤max spare 0)) with hc1 | hc1
 ·skip
  have hp1:128-((DD (Ar M P) 128).length:Int)≤max spare 0:=(dT hc1)
  refine wcT h14 rfl hc1<|h14.sk [6,5,4,0,1] rfl fun h15=>sqr fun _ hK6=>h15.sk [6,5,0,1] rfl fun h16=>mv h16 rfl fun _ h17=>h17.sk [4,6,0,1] rfl fun h18=>mv h18 rfl fun _ h19=>wpList_nil<|hK6 _ _<|wp_ret ?_
  try simp only [Exit.then,Exit.inBlock]
  refine By (v:=.tuple #[ν 0,ν 18]) (Gc h19 rfl rfl rfl) h19.defs ?_
  exact ⟨ta,tc,by unfold bN bE;rw [if_pos (show De M P spare from hp1),if_pos (show De M P spare from hp1)],by unfold bP;rw [if_pos (show De M P spare from hp1)];exact Sep.tail_un (xs:=[_,_]) (s4.pk [1,2,3] rfl)⟩
 ·skip
  have hp2:¬ (128-((DD (Ar M P) 128).length:Int)≤max spare 0):=(dF hc1)
  refine wcF h14 rfl hc1<|h14.sk [6,5,4,0,1] rfl fun h20=>wp_skip<|hK4 _ _<|sqr fun _ hK7=>sw1 h20 rfl (rld h20 rfl rfl (Il υ27 (s4.get 0 rfl:Blk _ _ _ _) (Ca _ (by first | rfl | simp only [AT,Ay,Ar,AJ])))) fun _ h21=>cl h21 rfl (cF func15) (AS s4 (Uw (Ar M P) 1 _ (Ca _ (by first | rfl | simp only [AT,Ay,Ar,AJ])) ω)) fun _ v3 w6 r3 h22=>?_
  obtain ⟨rfl,s5⟩:=r3
  refine mv h22 rfl fun _ h23=>h23.sn [7,6,5,4,0,1] rfl fun h24=>hK7 _ _<|sq fun K1 hK9=>?_
  have hJ79:∀ (ta9:Ω) (tc9:Nat) a' w',Kn 34 [(7,ν (As (Ar M P) 1)),(6,π g1),(5,ν 0),(4,ν 0),(0,π mx),(1,ν spare),(8,ν (AC [stE M P 3 0 16,stE M (stP M P 3 0 (AZ (Ar M P) (As (Ar M P) 1))) 7 (As (Ar M P) 1) (List.replicate 64 (0:UInt8)).length]))] a'→Sep w' [Ab g1 27 (((Ar M P)).map Ac),Ab mx 99 [π K.tg],txP K ta9 tc9 M (stP M (stP M P 3 0 (AZ (Ar M P) (As (Ar M P) 1))) 7 (As (Ar M P) 1) (List.replicate 64 (0:UInt8))),Ch.many R]→K1 a' w':=by
   intro ta9 tc9 a1 w7 h25 s6
   refine hK9 _ _ ?_
   refine sq fun _ hK10=>sqr fun _ hK11=>mv h25 rfl fun _ h26=>bv h26 (z:=.bool (decide (AC [stE M P 3 0 16,stE M (stP M P 3 0 (AZ (Ar M P) (As (Ar M P) 1))) 7 (As (Ar M P) 1) (List.replicate 64 (0:UInt8)).length]≠0))) rfl (cNe _ _ _ _ rfl) fun _ h27=>h27.sn [31,7,6,5,4,0,1,8] rfl fun h28=>hK11 _ _ ?_
   rcases bC (decide (AC [stE M P 3 0 16,stE M (stP M P 3 0 (AZ (Ar M P) (As (Ar M P) 1))) 7 (As (Ar M P) 1) (List.replicate 64 (0:UInt8)).length]≠0)) with hc2 | hc2
   ·skip
    have hp3:AC [stE M P 3 0 16,stE M (stP M P 3 0 (AZ (Ar M P) (As (Ar M P) 1))) 7 (As (Ar M P) 1) (List.replicate 64 (0:UInt8)).length]≠0:=(dT hc2)
    refine wcT h28 rfl hc2<|h28.sk [7,6,5,4,0,1,8] rfl fun h29=>sqr fun _ hK12=>mv h29 rfl fun _ h30=>h30.sk [32,7,6,5,0,1,8] rfl fun h31=>mv h31 rfl fun _ h32=>h32.sk [4,32,7,6,0,1,8] rfl fun h33=>mv h33 rfl fun _ h34=>h34.sn [5,4,7,6,0,1,8] rfl fun h35=>hK12 _ _ ?_
    refine wp_ret ?_
    try simp only [Exit.then,Exit.inBlock]
    refine By (v:=.tuple #[ν 0,ν (AC [stE M P 3 0 16,stE M (stP M P 3 0 (AZ (Ar M P) (As (Ar M P) 1))) 7 (As (Ar M P) 1) (List.replicate 64 (0:UInt8)).length])]) (Gc h35 rfl rfl rfl) h35.defs ?_
    try simp only [List.length_replicate] at hp3
    exact ⟨ta9,tc9,by unfold bN bE;rw [if_neg (show ¬ De M P spare from hp2),if_neg (show ¬ De M P spare from hp2)];unfold Ub Nb OQ;(try simp only [List.length_replicate]);rw [if_neg hp3];(try rfl),by unfold bP;rw [if_neg (show ¬ De M P spare from hp2)];exact Sep.tail_un (xs:=[_,_]) (s6.pk [1,2,3] rfl)⟩
   ·skip
    have hp4:¬ (AC [stE M P 3 0 16,stE M (stP M P 3 0 (AZ (Ar M P) (As (Ar M P) 1))) 7 (As (Ar M P) 1) (List.replicate 64 (0:UInt8)).length]≠0):=(dF hc2)
    refine wcF h28 rfl hc2<|h28.sk [7,6,5,4,0,1,8] rfl fun h36=>wp_skip<|hK10 _ _<|sqr fun _ hK13=>mv h36 rfl fun _ h37=>h37.sk [33,7,6,5,0,1,8] rfl fun h38=>mv h38 rfl fun _ h39=>h39.sk [4,33,7,6,0,1,8] rfl fun h40=>mv h40 rfl fun _ h41=>h41.sk [5,4,7,6,0,1,8] rfl fun h42=>?_
    refine wpList_nil<|hK13 _ _<|wp_ret ?_
    try simp only [Exit.then,Exit.inBlock]
    refine By (v:=.tuple #[ν (As (Ar M P) 1),ν 0]) (Gc h42 rfl rfl rfl) h42.defs ?_
    try simp only [List.length_replicate] at hp4
    exact ⟨ta9,tc9,by unfold bN bE;rw [if_neg (show ¬ De M P spare from hp2),if_neg (show ¬ De M P spare from hp2)];unfold Ub Nb OQ;(try simp only [List.length_replicate]);rw [if_pos (Classical.not_not.1 hp4),Classical.not_not.1 hp4],by unfold bP;rw [if_neg (show ¬ De M P spare from hp2)];exact Sep.tail_un (xs:=[_,_]) (s6.pk [1,2,3] rfl)⟩
  have s7:=s5.drew
  refine wp_region_held_drew (S:=fun w'=>Sep w' [Ab g1 27 (((Ar M P)).map Ac),Ab mx 99 [π K.tg],Ch.many R]) κ (s7.pk [0,1,3] rfl) (fun hq1=>?_)
  refine tv1 hq1 h24 0 rfl rfl (fun w1 _=>(Au h24 rfl rfl) w1) fun _ h43=>?_
  refine tv1 hq1 h43 1 rfl rfl (fun w1 hSw=>(rld h43 rfl rfl (Il υ27 (hSw.get 0 rfl:Blk _ _ _ _) (Ca _ (by first | rfl | simp only [AT,Ay,Ar,AJ]))))) fun _ h44=>?_
  refine tv1 hq1 h44 2 rfl rfl (fun w1 _=>(Au h44 rfl rfl) w1) fun _ h45=>?_
  refine tv1 hq1 h45 5 rfl rfl (fun w1 _=>(Au h45 rfl rfl) w1) fun _ h46=>?_
  refine tv1 hq1 h46 6 rfl rfl (fun w1 _=>(Au h46 rfl rfl) w1) fun _ h47=>?_
  refine wpAnyH_ready (rs:=[3,7]) κ (by simp) (toc rfl (wn rfl) (fun K2 hK14=>?_) (toc rfl (wn rfl) (fun K2 hK14=>?_) AllReadyH.nil))
  ·skip
   refine Be h47 rfl rfl rfl (xs:=[.tmp 20,.tmp 21]) rfl (cF func16) rfl (vs:=[.agg (Ai (Ar M P)),ν (As (Ar M P) 1)]) rfl (args:=#[.agg (Ai (Ar M P)),ν (As (Ar M P) 1)]) rfl (AS s7 (MD (Ar M P) (As (Ar M P) 1) _ (Ca _ (by first | rfl | simp only [AT,Ay,Ar,AJ])) ω)) fun _ v4 w8 r4 h48=>?_
   obtain ⟨rfl,s8⟩:=r4
   refine hK14 _ _ (s8.pk [0,1,3] rfl) fun hq2=>?_
   refine wpAnyH_ready (rs:=[4,7]) κ (by simp) (toc rfl (wn rfl) (fun K3 hK15=>?_) (toc rfl (wn rfl) (fun K3 hK15=>?_) AllReadyH.nil))
   ·skip
    refine Be h48 rfl rfl rfl (xs:=[.tmp 19,.tmp 22]) rfl (cF func10) rfl (vs:=[π mx,.agg (Ai (AZ (Ar M P) (As (Ar M P) 1)))]) rfl (args:=#[π mx,.agg (Ai (AZ (Ar M P) (As (Ar M P) 1)))]) rfl (Gg (xs:=(AZ (Ar M P) (As (Ar M P) 1))) (s8.pk [1,2,0,3] rfl) hM (Ca _ (by first | rfl | simp only [AT,Ay,Ar,AJ]))) fun _ v5 w9 r5 h49=>?_
    obtain ⟨tax138,tcx139,rfl,s9⟩:=r5
    refine hK15 _ _ (s9.pk [2,0,3] rfl) fun hq3=>?_
    refine to_ 7 rfl (wn rfl) κ fun _ hK16=>Kc EK (by decide) h49 rfl rfl rfl rfl υ52 (z:=.int .u8 0) (n:=64) κ (m:=(0:UInt8)) rfl rfl rfl (by decide) s9 fun _ g2 w10 h50 s10 _ _=>?_
    refine hK16 _ _ (s10.pk [3,1,4] rfl) fun hq4=>?_
    have s11:Sep _ [Bm 0 5 1 (some ⟨g2,0,none⟩) ((List.replicate 64 (0:UInt8))).length 64 (((List.replicate 64 (0:UInt8))).map Ac),Ab mx 99 [π K.tg],txP K tax138 tcx139 M (stP M P 3 0 (AZ (Ar M P) (As (Ar M P) 1))),Ab g1 27 (((Ar M P)).map Ac),Ch.many R]:=EJ s10
    refine to_ 8 rfl (wn rfl) κ fun _ hK17=>Be h50 rfl rfl rfl (xs:=[.tmp 24,.const (ν 7),.tmp 25,.tmp 26]) rfl (cF func30) rfl (vs:=[π mx,ν 7,ν (As (Ar M P) 1),.slice (some ⟨g2,0,none⟩) 64 64]) rfl (args:=#[π mx,ν 7,ν (As (Ar M P) 1),.slice (some ⟨g2,0,none⟩) 64 64]) rfl (CP (kd:=7) (nm:=As (Ar M P) 1) (xs:=(List.replicate 64 (0:UInt8))) s11 hM (by simp)) fun _ v6 w11 r6 h51=>?_
    obtain ⟨tax157,tcx158,rfl,s12⟩:=r6
    refine hK17 _ _ (s12.pk [3,1,4] rfl) fun hq5=>?_
    refine to_ 9 rfl (wn rfl) κ fun _ hK18=>CB h51 rfl rfl rfl (E:=31) (xs:=[(0,.tmp 23),(1,.tmp 27)]) rfl (vs:=[(0,ν (stE M P 3 0 16)),(1,ν (stE M (stP M P 3 0 (AZ (Ar M P) (As (Ar M P) 1))) 7 (As (Ar M P) 1) (List.replicate 64 (0:UInt8)).length))]) rfl (z:=[ν (stE M P 3 0 16),ν (stE M (stP M P 3 0 (AZ (Ar M P) (As (Ar M P) 1))) 7 (As (Ar M P) 1) (List.replicate 64 (0:UInt8)).length)]) (fun _=>κ) s12 fun _ g3 w12 h52 s13 _ _=>?_
    refine hK18 _ _ (s13.pk [4,2,5] rfl) fun hq6=>?_
    refine to_ 10 rfl (wn rfl) κ fun _ hK19=>Be h52 rfl rfl rfl (xs:=[.tmp 28]) rfl (cF func38) rfl (vs:=[.slice (some ⟨g3,0,none⟩) 2 2]) rfl (args:=#[.slice (some ⟨g3,0,none⟩) 2 2]) rfl (CI (L:=[stE M P 3 0 16,stE M (stP M P 3 0 (AZ (Ar M P) (As (Ar M P) 1))) 7 (As (Ar M P) 1) (List.replicate 64 (0:UInt8)).length]) s13 (Nat.le_of_ble_eq_true rfl)) fun _ v7 w13 r7 h53=>?_
    obtain ⟨rfl,s14⟩:=r7
    refine hK19 _ _ (s14.pk [4,2,5] rfl) fun hq7=>?_
    refine tv1 hq7 h53 11 rfl rfl (fun w1 _=>(BH h53 rfl rfl) w1) fun _ h54=>?_
    refine h54.sk [8,7,6,5,4,0,1] rfl fun h55=>?_
    refine wpAnyH_done κ ?_ _
    exact hJ79 tax157 tcx158 _ _ (h55.subs rfl) (s14.pk [4,2,3,5] rfl) 
   ·skip
    refine Kc EK (by decide) h48 rfl rfl rfl rfl υ52 (z:=.int .u8 0) (n:=64) κ (m:=(0:UInt8)) rfl rfl rfl (by decide) s8 fun _ g4 w14 h56 s15 _ _=>hK15 _ _ (s15.pk [1,2,4] rfl) fun hq8=>?_
    refine to_ 4 rfl (wn rfl) κ fun _ hK20=>Be h56 rfl rfl rfl (xs:=[.tmp 19,.tmp 22]) rfl (cF func10) rfl (vs:=[π mx,.agg (Ai (AZ (Ar M P) (As (Ar M P) 1)))]) rfl (args:=#[π mx,.agg (Ai (AZ (Ar M P) (As (Ar M P) 1)))]) rfl (Gg (xs:=(AZ (Ar M P) (As (Ar M P) 1))) (s15.pk [2,3,0,1,4] rfl) hM (Ca _ (by first | rfl | simp only [AT,Ay,Ar,AJ]))) fun _ v8 w15 r8 h57=>?_
    obtain ⟨tax195,tcx196,rfl,s16⟩:=r8
    refine hK20 _ _ (s16.pk [3,0,4] rfl) fun hq9=>?_
    have s17:Sep _ [Bm 0 5 1 (some ⟨g4,0,none⟩) ((List.replicate 64 (0:UInt8))).length 64 (((List.replicate 64 (0:UInt8))).map Ac),Ab mx 99 [π K.tg],txP K tax195 tcx196 M (stP M P 3 0 (AZ (Ar M P) (As (Ar M P) 1))),Ab g1 27 (((Ar M P)).map Ac),Ch.many R]:=EJ (s16.pk [2,0,1,3,4] rfl)
    refine to_ 8 rfl (wn rfl) κ fun _ hK21=>Be h57 rfl rfl rfl (xs:=[.tmp 24,.const (ν 7),.tmp 25,.tmp 26]) rfl (cF func30) rfl (vs:=[π mx,ν 7,ν (As (Ar M P) 1),.slice (some ⟨g4,0,none⟩) 64 64]) rfl (args:=#[π mx,ν 7,ν (As (Ar M P) 1),.slice (some ⟨g4,0,none⟩) 64 64]) rfl (CP (kd:=7) (nm:=As (Ar M P) 1) (xs:=(List.replicate 64 (0:UInt8))) s17 hM (by simp)) fun _ v9 w16 r9 h58=>?_
    obtain ⟨tax206,tcx207,rfl,s18⟩:=r9
    refine hK21 _ _ (s18.pk [3,1,4] rfl) fun hq10=>?_
    refine to_ 9 rfl (wn rfl) κ fun _ hK22=>CB h58 rfl rfl rfl (E:=31) (xs:=[(0,.tmp 23),(1,.tmp 27)]) rfl (vs:=[(0,ν (stE M P 3 0 16)),(1,ν (stE M (stP M P 3 0 (AZ (Ar M P) (As (Ar M P) 1))) 7 (As (Ar M P) 1) (List.replicate 64 (0:UInt8)).length))]) rfl (z:=[ν (stE M P 3 0 16),ν (stE M (stP M P 3 0 (AZ (Ar M P) (As (Ar M P) 1))) 7 (As (Ar M P) 1) (List.replicate 64 (0:UInt8)).length)]) (fun _=>κ) s18 fun _ g5 w17 h59 s19 _ _=>?_
    refine hK22 _ _ (s19.pk [4,2,5] rfl) fun hq11=>?_
    refine to_ 10 rfl (wn rfl) κ fun _ hK23=>Be h59 rfl rfl rfl (xs:=[.tmp 28]) rfl (cF func38) rfl (vs:=[.slice (some ⟨g5,0,none⟩) 2 2]) rfl (args:=#[.slice (some ⟨g5,0,none⟩) 2 2]) rfl (CI (L:=[stE M P 3 0 16,stE M (stP M P 3 0 (AZ (Ar M P) (As (Ar M P) 1))) 7 (As (Ar M P) 1) (List.replicate 64 (0:UInt8)).length]) s19 (Nat.le_of_ble_eq_true rfl)) fun _ v10 w18 r10 h60=>?_
    obtain ⟨rfl,s20⟩:=r10
    refine hK23 _ _ (s20.pk [4,2,5] rfl) fun hq12=>?_
    refine tv1 hq12 h60 11 rfl rfl (fun w1 _=>(BH h60 rfl rfl) w1) fun _ h61=>?_
    refine h61.sk [8,7,6,5,4,0,1] rfl fun h62=>?_
    refine wpAnyH_done κ ?_ _
    exact hJ79 tax206 tcx207 _ _ (h62.subs rfl) (s20.pk [4,2,3,5] rfl) 
  ·skip
   refine Kc EK (by decide) h47 rfl rfl rfl rfl υ52 (z:=.int .u8 0) (n:=64) κ (m:=(0:UInt8)) rfl rfl rfl (by decide) s7 fun _ g6 w19 h63 s21 _ _=>hK14 _ _ (s21.pk [1,2,4] rfl) fun hq13=>?_
   refine to_ 3 rfl (wn rfl) κ fun _ hK24=>Be h63 rfl rfl rfl (xs:=[.tmp 20,.tmp 21]) rfl (cF func16) rfl (vs:=[.agg (Ai (Ar M P)),ν (As (Ar M P) 1)]) rfl (args:=#[.agg (Ai (Ar M P)),ν (As (Ar M P) 1)]) rfl (AS s21 (MD (Ar M P) (As (Ar M P) 1) _ (Ca _ (by first | rfl | simp only [AT,Ay,Ar,AJ])) ω)) fun _ v11 w20 r11 h64=>?_
   obtain ⟨rfl,s22⟩:=r11
   refine hK24 _ _ (s22.pk [1,2,4] rfl) fun hq14=>?_
   refine to_ 4 rfl (wn rfl) κ fun _ hK25=>Be h64 rfl rfl rfl (xs:=[.tmp 19,.tmp 22]) rfl (cF func10) rfl (vs:=[π mx,.agg (Ai (AZ (Ar M P) (As (Ar M P) 1)))]) rfl (args:=#[π mx,.agg (Ai (AZ (Ar M P) (As (Ar M P) 1)))]) rfl (Gg (xs:=(AZ (Ar M P) (As (Ar M P) 1))) (s22.pk [2,3,0,1,4] rfl) hM (Ca _ (by first | rfl | simp only [AT,Ay,Ar,AJ]))) fun _ v12 w21 r12 h65=>?_
   obtain ⟨tax252,tcx253,rfl,s23⟩:=r12
   refine hK25 _ _ (s23.pk [3,0,4] rfl) fun hq15=>?_
   have s24:Sep _ [Bm 0 5 1 (some ⟨g6,0,none⟩) ((List.replicate 64 (0:UInt8))).length 64 (((List.replicate 64 (0:UInt8))).map Ac),Ab mx 99 [π K.tg],txP K tax252 tcx253 M (stP M P 3 0 (AZ (Ar M P) (As (Ar M P) 1))),Ab g1 27 (((Ar M P)).map Ac),Ch.many R]:=EJ (s23.pk [2,0,1,3,4] rfl)
   refine to_ 8 rfl (wn rfl) κ fun _ hK26=>Be h65 rfl rfl rfl (xs:=[.tmp 24,.const (ν 7),.tmp 25,.tmp 26]) rfl (cF func30) rfl (vs:=[π mx,ν 7,ν (As (Ar M P) 1),.slice (some ⟨g6,0,none⟩) 64 64]) rfl (args:=#[π mx,ν 7,ν (As (Ar M P) 1),.slice (some ⟨g6,0,none⟩) 64 64]) rfl (CP (kd:=7) (nm:=As (Ar M P) 1) (xs:=(List.replicate 64 (0:UInt8))) s24 hM (by simp)) fun _ v13 w22 r13 h66=>?_
   obtain ⟨tax263,tcx264,rfl,s25⟩:=r13
   refine hK26 _ _ (s25.pk [3,1,4] rfl) fun hq16=>?_
   refine to_ 9 rfl (wn rfl) κ fun _ hK27=>CB h66 rfl rfl rfl (E:=31) (xs:=[(0,.tmp 23),(1,.tmp 27)]) rfl (vs:=[(0,ν (stE M P 3 0 16)),(1,ν (stE M (stP M P 3 0 (AZ (Ar M P) (As (Ar M P) 1))) 7 (As (Ar M P) 1) (List.replicate 64 (0:UInt8)).length))]) rfl (z:=[ν (stE M P 3 0 16),ν (stE M (stP M P 3 0 (AZ (Ar M P) (As (Ar M P) 1))) 7 (As (Ar M P) 1) (List.replicate 64 (0:UInt8)).length)]) (fun _=>κ) s25 fun _ g7 w23 h67 s26 _ _=>?_
   refine hK27 _ _ (s26.pk [4,2,5] rfl) fun hq17=>?_
   refine to_ 10 rfl (wn rfl) κ fun _ hK28=>Be h67 rfl rfl rfl (xs:=[.tmp 28]) rfl (cF func38) rfl (vs:=[.slice (some ⟨g7,0,none⟩) 2 2]) rfl (args:=#[.slice (some ⟨g7,0,none⟩) 2 2]) rfl (CI (L:=[stE M P 3 0 16,stE M (stP M P 3 0 (AZ (Ar M P) (As (Ar M P) 1))) 7 (As (Ar M P) 1) (List.replicate 64 (0:UInt8)).length]) s26 (Nat.le_of_ble_eq_true rfl)) fun _ v14 w24 r14 h68=>?_
   obtain ⟨rfl,s27⟩:=r14
   refine hK28 _ _ (s27.pk [4,2,5] rfl) fun hq18=>?_
   refine tv1 hq18 h68 11 rfl rfl (fun w1 _=>(BH h68 rfl rfl) w1) fun _ h69=>?_
   refine h69.sk [8,7,6,5,4,0,1] rfl fun h70=>?_
   refine wpAnyH_done κ ?_ _
   exact hJ79 tax263 tcx264 _ _ (h70.subs rfl) (s27.pk [4,2,3,5] rfl) 
theorem OJ {w:World} {R:List Ch} {mx:Nat} {K:VolK} {ta:Ω} {tc:Nat} {M:MemM} {P:List PtM} {i:Int} (hS0:Sep w ([Ab mx 99 [π K.tg],txP K ta tc M P]++R)) (hM:M.V.length=23168)  :
  CallsR prog 54 #[π mx,ν i] w (fun v w'=>v=.tuple #[.agg (Am (An M P i)).toArray,ν (Bp M P i)]∧Sep w' ([Ab mx 99 [π K.tg],txP K ta tc M P]++R)):=by
 have hS:Sep w [Ab mx 99 [π K.tg],txP K ta tc M P,Ch.many R]:=Sep.tail_many (xs:=[_,_]) hS0;clear hS0
 refine AG func54 rfl (N:=53) ntmps54 (by show 2≤53;decide) [(0,π mx),(1,ν i)] rfl fun _ h1=>sqr fun _ hK3=>so (wn rfl) fun _ hK1=>AH h1 rfl rfl rfl rfl (z:=Am AB) (fun _=>rfl) hS fun _ g4 w7 h5 s8 _ _=>hK1 _ _ ?_
 refine mv h5 rfl fun _ h2=>wpList_nil<|hK3 _ _<|sqr fun _ hK2=>mvs 2 h2 rfl fun _ h3=>cl h3 rfl (cF func8) (Fv (i:=i) (s8.pk [1,2,0,3] rfl) hM) fun _ v1 w1 r1 h4=>?_
 obtain ⟨rfl,s1⟩:=r1
 refine mvs 3 h4 rfl fun _ h6=>so (wn rfl) fun _ hK4=>AH h6 rfl rfl rfl rfl (z:=[ν 0,ν 0,ν 0,ν 0,ν 0,ν 0,ν 0,ν 0,ν 0,ν 0,ν 0,ν 0,ν 0,ν 0,ν 0]) (fun _=>rfl) s1 fun _ g1 w2 h7 s2 _ _=>hK4 _ _ ?_
 refine stA h7 s2 0 rfl rfl rfl κ rfl rfl rfl rfl fun _ w3 h8 s3 _=>mv h8 rfl fun _ h9=>h9.sn [7,6,5,4,0,1] rfl fun h10=>hK2 _ _<|sq fun _ hK5=>sqr fun _ hK6=>mv h10 rfl fun _ h11=>bv h11 (z:=.bool (decide (AR M P i≠0))) rfl (cNe _ _ _ _ rfl) fun _ h12=>h12.sn [20,7,6,5,4,0,1] rfl fun h13=>hK6 _ _ ?_
 rcases bC (decide (AR M P i≠0)) with hc1 | hc1
 ·skip
  have hp1:AR M P i≠0:=(dT hc1)
  refine wcT h13 rfl hc1<|h13.sk [7,6,5,4,0,1] rfl fun h14=>sqr fun _ hK7=>bu h14 (v:=.agg ((Am AB).toArray)) rfl (fun w=>κ) fun _ h15=>mv h15 rfl fun _ h16=>so (wn rfl) fun _ hK8=>Fj h16 rfl rfl s3 3 rfl (by first | exact Aq | exact Ag _ _ _ _ | exact AA (Ag _ _ _ _) _ _ | exact Ah _ _ _ | (rw [Az];exact Ah _ _ _) | assumption) (by first | exact Aq | exact Ag _ _ _ _ | exact AA (Ag _ _ _ _) _ _ | exact Ah _ _ _ | (rw [Az];exact Ah _ _ _) | assumption) rfl rfl (cs':=[Ab g1 25 (Ak (Al M P i)),Ab mx 99 [π K.tg],txP K ta tc M P,Ab g4 111 (Am AB),Ch.many R]) rfl fun _ w4 h17 s4 _=>hK8 _ _ ?_
  refine h17.sk [22,21,7,6,4,0,1] rfl fun h18=>mv h18 rfl fun _ h19=>h19.sn [5,7,6,4,0,1] rfl fun h20=>hK7 _ _<|wp_ret ?_
  try simp only [Exit.then,Exit.inBlock]
  refine GI (v:=.tuple #[.agg ((Am AB).toArray),ν (AR M P i)]) (Jn h20 rfl rfl rfl (s4.get 3 rfl:Blk _ _ _ _) υ111 (by first | exact Aq | exact Ag _ _ _ _ | exact AA (Ag _ _ _ _) _ _ | exact Ah _ _ _ | (rw [Az];exact Ah _ _ _) | assumption)) h20.defs ?_
  exact ⟨by unfold An Bp;rw [if_pos hp1,if_pos hp1],Sep.tail_un (xs:=[_,_]) (s4.pk [1,2,4] rfl)⟩
 ·skip
  have hp2:¬ (AR M P i≠0):=(dF hc1)
  refine wcF h13 rfl hc1<|h13.sk [7,6,5,4,0,1] rfl fun h21=>wp_skip<|hK5 _ _<|sq fun _ hK9=>sqr fun _ hK10=>fav h21 rfl (fQ 0) fun _ h22=>ldv h22 s3 0 υ3 rfl rfl rfl rfl fun _ h23=>bv h23 (z:=.bool (decide ((Al M P i).k≠2))) rfl (cNe _ _ _ _ rfl) fun _ h24=>h24.sn [25,7,6,5,4,0,1] rfl fun h25=>hK10 _ _ ?_
  rcases bC (decide ((Al M P i).k≠2)) with hc2 | hc2
  ·skip
   have hp3:(Al M P i).k≠2:=(dT hc2)
   refine wcT h25 rfl hc2<|h25.sk [7,6,5,4,0,1] rfl fun h26=>sqr fun _ hK11=>bu h26 (v:=.agg ((Am AB).toArray)) rfl (fun w=>κ) fun _ h27=>so (wn rfl) fun _ hK12=>Fj h27 rfl rfl s3 3 rfl (by first | exact Aq | exact Ag _ _ _ _ | exact AA (Ag _ _ _ _) _ _ | exact Ah _ _ _ | (rw [Az];exact Ah _ _ _) | assumption) (by first | exact Aq | exact Ag _ _ _ _ | exact AA (Ag _ _ _ _) _ _ | exact Ah _ _ _ | (rw [Az];exact Ah _ _ _) | assumption) rfl rfl (cs':=[Ab g1 25 (Ak (Al M P i)),Ab mx 99 [π K.tg],txP K ta tc M P,Ab g4 111 (Am AB),Ch.many R]) rfl fun _ w5 h28 s5 _=>hK12 _ _ ?_
   refine h28.sk [26,7,6,4,0,1] rfl fun h29=>mv h29 rfl fun _ h30=>h30.sn [5,7,6,4,0,1] rfl fun h31=>hK11 _ _<|wp_ret ?_
   try simp only [Exit.then,Exit.inBlock]
   refine GI (v:=.tuple #[.agg ((Am AB).toArray),ν 12]) (Jn h31 rfl rfl rfl (s5.get 3 rfl:Blk _ _ _ _) υ111 (by first | exact Aq | exact Ag _ _ _ _ | exact AA (Ag _ _ _ _) _ _ | exact Ah _ _ _ | (rw [Az];exact Ah _ _ _) | assumption)) h31.defs ?_
   exact ⟨by unfold An Bp;rw [if_neg hp2,if_neg hp2,if_pos hp3,if_pos hp3],Sep.tail_un (xs:=[_,_]) (s5.pk [1,2,4] rfl)⟩
  ·skip
   have hp4:¬ ((Al M P i).k≠2):=(dF hc2)
   refine wcF h25 rfl hc2<|h25.sk [7,6,5,4,0,1] rfl fun h32=>wp_skip<|hK9 _ _<|sqr fun _ hK13=>so (wn rfl) fun _ hK14=>AH h32 rfl rfl rfl rfl (z:=Am AB) (fun _=>rfl) s3 fun _ g2 w6 h33 s6 _ _=>hK14 _ _ ?_
   refine wpList_nil<|hK13 _ _<|sq fun _ hK15=>sqr fun _ hK16=>fav h33 rfl (fQ 3) fun _ h34=>sw1 h34 rfl (rld h34 rfl rfl (ldA υ22 rfl (n:=4) κ (s6.get 1 rfl:Blk _ _ _ _) rfl rfl)) fun _ h35=>mv h35 rfl fun _ h36=>h36.sn [29,28,8,7,6,5,4,0,1] rfl fun h37=>hK16 _ _<|wp_block ?_
   refine CF (fun (k:Nat) a' w'=>Kn 53 [(29,ν (k:Int)),(28,.agg #[ν ((Al M P i).b0),ν ((Al M P i).b1),ν ((Al M P i).b2),ν ((Al M P i).b3)]),(8,π g2),(6,π g1),(5,ν 0),(4,π g4),(0,π mx),(1,ν i)] a'∧Sep w' [Ab g2 111 (Am (Bz M P (Al M P i) k).1),Ab g1 25 (Ak (Al M P i)),Ab mx 99 [π K.tg],txP K ta tc M P,Ab g4 111 (Am AB),Ch.many R]∧(k≤4)∧((Bz M P (Al M P i) k).2=0)) (fun (k:Nat)=>4-k) 0 ⟨h37.subs rfl,s6,Nat.zero_le _,rfl⟩ ?_
   rintro k1 a1 w8 ⟨h38,s7,hk126,hk0127⟩ K1 hK17
   refine sqr fun _ hK18=>bv h38 (z:=.bool (decide ((k1:Int)<4))) rfl (cLt _ _ _ _ rfl) fun _ h39=>wpList_nil<|hK18 _ _<|sq fun _ hK19=>?_
   rcases bC (decide ((k1:Int)<4)) with hc3 | hc3
   ·skip
    have hp5:(k1:Int)<4:=(dT hc3)
    refine wcT h39 rfl hc3<|h39.sk [29,28,8,6,5,4,0,1] rfl fun h40=>wp_skip<|hK19 _ _<|sq fun _ hK20=>wp_block ?_
    refine sqr fun _ hK21=>mv h40 rfl fun _ h41=>sv1 h41 rfl (Jp h41 rfl rfl rfl (xs:=[(Al M P i).b0,(Al M P i).b1,(Al M P i).b2,(Al M P i).b3]) rfl υ22 rfl rfl rfl (by show _<4;omega)) fun _ h42=>mvs 2 h42 rfl fun _ h43=>h43.sn [10,9,29,28,8,6,5,4,0,1] rfl fun h44=>hK21 _ _<|sq fun _ hK22=>sqr fun _ hK23=>mv h44 rfl fun _ h45=>bv h45 (z:=.bool (decide ((Al M P i).blk k1=0))) rfl (cEq _ _ _ _ rfl) fun _ h46=>h46.sk [34,10,9,29,28,8,6,5,4,0,1] rfl fun h47=>?_
    refine wpList_nil<|hK23 _ _ ?_
    rcases bC (decide ((Al M P i).blk k1=0)) with hc4 | hc4
    ·skip
     have hp6:(Al M P i).blk k1=0:=(dT hc4)
     refine wcT h47 rfl hc4<|h47.sk [10,9,29,28,8,6,5,4,0,1] rfl fun h48=>wp_exit ?_
     refine hK20 _ _ ?_
     refine wp_region_lit<|bv h48 (z:=ν ((k1+1:Nat):Int)) rfl (DE _ _ _ ω ω ω) fun _ h49=>h49.sk [51,10,9,28,8,6,5,4,0,1] rfl fun h50=>mv h50 rfl fun _ h51=>h51.sk [29,10,9,28,8,6,5,4,0,1] rfl fun h52=>wpList_nil ?_
     have hn9:Bz M P (Al M P i) (k1+1)=Bz M P (Al M P i) k1:=by show (if _ then _ else _)=_;rw [if_pos hk0127,if_pos hp6]
     exact hK17 (k1+1) _ _ ⟨h52.subs rfl,(by rw [hn9];exact s7),ω,(by rw [hn9];exact hk0127)⟩ ω
    ·skip
     have hp7:¬ ((Al M P i).blk k1=0):=(dF hc4)
     refine wcF h47 rfl hc4<|h47.sk [10,9,29,28,8,6,5,4,0,1] rfl fun h53=>wp_skip<|hK22 _ _<|sqr fun _ hK24=>mvs 2 h53 rfl fun _ h54=>cl h54 rfl (cF func27) (Ot (kd:=7) (nm:=(Al M P i).blk k1) (s7.pk [2,3,0,1,4,5] rfl) hM) fun _ v2 w9 r2 h55=>?_
     obtain ⟨ra_x170,rc_x171,rfl,s9⟩:=r2
     refine mvs 5 h55 rfl fun _ h56=>h56.sn [11,10,9,29,28,8,6,5,4,0,1] rfl fun h57=>hK24 _ _<|sqr fun _ hK25=>sw1 h57 rfl (rld h57 rfl rfl (Fb υ111 (s9.get 3 rfl:Blk _ _ _ _) (by first | exact Aq | exact Ag _ _ _ _ | exact AA (Ag _ _ _ _) _ _ | exact Ah _ _ _ | (rw [Az];exact Ah _ _ _) | assumption))) fun _ h58=>mvs 2 h58 rfl fun _ h59=>cl h59 rfl (cF func88) (AS s9 (VI ((Bz M P (Al M P i) k1).1) (by first | exact Aq | exact Ag _ _ _ _ | exact AA (Ag _ _ _ _) _ _ | exact Ah _ _ _ | (rw [Az];exact Ah _ _ _) | assumption) (k1:Int) _ _ (Br M P 7 ((Al M P i).blk k1)) _ (s9.get 0 rfl:Own _ _ _ _ _ _ _ _).row)) fun _ v3 w10 r3 h60=>?_
     obtain ⟨rfl,s10⟩:=r3
     refine mvs 3 h60 rfl fun _ h61=>so (wn rfl) fun _ hK26=>Fj h61 rfl rfl s10 3 rfl (by first | exact Aq | exact Ag _ _ _ _ | exact AA (Ag _ _ _ _) _ _ | exact Ah _ _ _ | (rw [Az];exact Ah _ _ _) | assumption) (by first | exact Aq | exact Ag _ _ _ _ | exact AA (Ag _ _ _ _) _ _ | exact Ah _ _ _ | (rw [Az];exact Ah _ _ _) | assumption) rfl rfl (cs':=[Bm 0 5 1 ra_x170 ((Br M P 7 ((Al M P i).blk k1))).length rc_x171 (((Br M P 7 ((Al M P i).blk k1))).map Ac),Ab mx 99 [π K.tg],txP K ta tc M P,Ab g2 111 (Am ((Ff ((Bz M P (Al M P i) k1).1) (k1:Int) (Br M P 7 ((Al M P i).blk k1))).1)),Ab g1 25 (Ak (Al M P i)),Ab g4 111 (Am AB),Ch.many R]) rfl fun _ w11 h62 s11 _=>hK26 _ _ ?_
     refine mv h62 rfl fun _ h63=>h63.sn [7,11,10,9,29,28,8,6,5,4,0,1] rfl fun h64=>hK25 _ _<|sqr fun _ hK27=>mv h64 rfl fun _ h65=>bv h65 (z:=.bool (decide ((Ff ((Bz M P (Al M P i) k1).1) (k1:Int) (Br M P 7 ((Al M P i).blk k1))).2≠0))) rfl (cNe _ _ _ _ rfl) fun _ h66=>h66.sn [49,7,11,10,9,29,28,8,6,5,4,0,1] rfl fun h67=>hK27 _ _ ?_
     rcases bC (decide ((Ff ((Bz M P (Al M P i) k1).1) (k1:Int) (Br M P 7 ((Al M P i).blk k1))).2≠0)) with hc5 | hc5
     ·skip
      have hp8:(Ff ((Bz M P (Al M P i) k1).1) (k1:Int) (Br M P 7 ((Al M P i).blk k1))).2≠0:=(dT hc5)
      refine wcT h67 rfl hc5<|h67.sk [7,11,10,9,29,28,8,6,5,4,0,1] rfl fun h68=>sqr fun _ hK28=>bu h68 (v:=.agg ((Am AB).toArray)) rfl (fun w=>κ) fun _ h69=>so (wn rfl) fun _ hK29=>Fj h69 rfl rfl s11 5 rfl (by first | exact Aq | exact Ag _ _ _ _ | exact AA (Ag _ _ _ _) _ _ | exact Ah _ _ _ | (rw [Az];exact Ah _ _ _) | assumption) (by first | exact Aq | exact Ag _ _ _ _ | exact AA (Ag _ _ _ _) _ _ | exact Ah _ _ _ | (rw [Az];exact Ah _ _ _) | assumption) rfl rfl (cs':=[Bm 0 5 1 ra_x170 ((Br M P 7 ((Al M P i).blk k1))).length rc_x171 (((Br M P 7 ((Al M P i).blk k1))).map Ac),Ab mx 99 [π K.tg],txP K ta tc M P,Ab g2 111 (Am ((Ff ((Bz M P (Al M P i) k1).1) (k1:Int) (Br M P 7 ((Al M P i).blk k1))).1)),Ab g1 25 (Ak (Al M P i)),Ab g4 111 (Am AB),Ch.many R]) rfl fun _ w12 h70 s12 _=>hK29 _ _ ?_
      refine h70.sk [50,7,11,10,9,29,28,8,6,4,0,1] rfl fun h71=>mv h71 rfl fun _ h72=>h72.sn [5,7,11,10,9,29,28,8,6,4,0,1] rfl fun h73=>hK28 _ _<|wp_ret ?_
      try simp only [Exit.then,Exit.inBlock]
      refine GI (v:=.tuple #[.agg ((Am AB).toArray),ν 36]) (Jn h73 rfl rfl rfl (s12.get 5 rfl:Blk _ _ _ _) υ111 (by first | exact Aq | exact Ag _ _ _ _ | exact AA (Ag _ _ _ _) _ _ | exact Ah _ _ _ | (rw [Az];exact Ah _ _ _) | assumption)) h73.defs ?_
      have hn9:(Bz M P (Al M P i) (k1+1)).2≠0:=by show ((if _ then _ else _):List EntT×Int).2≠0;rw [if_pos hk0127,if_neg hp7];exact hp8
      have hn8:=MB hn9 4 ω
      exact ⟨by unfold An Bp;rw [if_neg hp2,if_neg hp2,if_neg hp4,if_neg hp4,if_neg hn8,if_neg hn8],Sep.tail_un (xs:=[_,_]) (s12.pk [1,2,6] rfl)⟩
     ·skip
      have hp9:¬ ((Ff ((Bz M P (Al M P i) k1).1) (k1:Int) (Br M P 7 ((Al M P i).blk k1))).2≠0):=(dF hc5)
      refine wcF h67 rfl hc5<|h67.sk [7,11,10,9,29,28,8,6,5,4,0,1] rfl fun h74=>wp_skip<|hK20 _ _<|wp_region_lit<|bv h74 (z:=ν ((k1+1:Nat):Int)) rfl (DE _ _ _ ω ω ω) fun _ h75=>h75.sk [51,7,11,10,9,28,8,6,5,4,0,1] rfl fun h76=>mv h76 rfl fun _ h77=>h77.sk [29,7,11,10,9,28,8,6,5,4,0,1] rfl fun h78=>wpList_nil ?_
      have hn9:Bz M P (Al M P i) (k1+1)=Ff (Bz M P (Al M P i) k1).1 k1 (Br M P 7 ((Al M P i).blk k1)):=by show (if _ then _ else _)=_;rw [if_pos hk0127,if_neg hp7]
      exact hK17 (k1+1) _ _ ⟨h78.subs rfl,(by rw [hn9];exact (s11.pk [3,4,1,2,5,6] rfl)),ω,(by rw [hn9];exact Classical.not_not.1 hp9)⟩ ω
   ·skip
    have hp10:¬ ((k1:Int)<4):=(dF hc3)
    refine wcF h39 rfl hc3<|h39.sk [29,28,8,6,5,4,0,1] rfl fun h79=>wp_exit ?_
    refine hK15 _ _ ?_
    refine sqr fun _ hK30=>sw1 h79 rfl (rld h79 rfl rfl (Fb υ111 (s7.get 0 rfl:Blk _ _ _ _) (by first | exact Aq | exact Ag _ _ _ _ | exact AA (Ag _ _ _ _) _ _ | exact Ah _ _ _ | (rw [Az];exact Ah _ _ _) | assumption))) fun _ h80=>so (wn rfl) fun _ hK31=>Fj h80 rfl rfl s7 4 rfl (by first | exact Aq | exact Ag _ _ _ _ | exact AA (Ag _ _ _ _) _ _ | exact Ah _ _ _ | (rw [Az];exact Ah _ _ _) | assumption) (by first | exact Aq | exact Ag _ _ _ _ | exact AA (Ag _ _ _ _) _ _ | exact Ah _ _ _ | (rw [Az];exact Ah _ _ _) | assumption) rfl rfl (cs':=[Ab g2 111 (Am (Bz M P (Al M P i) k1).1),Ab g1 25 (Ak (Al M P i)),Ab mx 99 [π K.tg],txP K ta tc M P,Ab g4 111 (Am ((Bz M P (Al M P i) k1).1)),Ch.many R]) rfl fun _ w13 h81 s13 _=>hK31 _ _ ?_
    refine h81.sk [52,29,28,8,6,4,0,1] rfl fun h82=>mv h82 rfl fun _ h83=>h83.sn [5,29,28,8,6,4,0,1] rfl fun h84=>hK30 _ _<|wp_ret ?_
    try simp only [Exit.then,Exit.inBlock]
    refine GI (v:=.tuple #[.agg ((Am ((Bz M P (Al M P i) k1).1)).toArray),ν 0]) (Jn h84 rfl rfl rfl (s13.get 4 rfl:Blk _ _ _ _) υ111 (by first | exact Aq | exact Ag _ _ _ _ | exact AA (Ag _ _ _ _) _ _ | exact Ah _ _ _ | (rw [Az];exact Ah _ _ _) | assumption)) h84.defs ?_
    obtain rfl:k1=4:=ω
    exact ⟨by unfold An Bp;rw [if_neg hp2,if_neg hp2,if_neg hp4,if_neg hp4,if_pos hk0127,if_pos hk0127],Sep.tail_un (xs:=[_,_]) (s13.pk [2,3,5] rfl)⟩
theorem LC {w:World} {R:List Ch} {c:Int} (hS0:Sep w ([]++R)) :
  CallsR prog 69 #[ν c] w (fun v w'=>v=.bool (decide (c≥1)&&decide (c≤8))∧Sep w' ([]++R)):=by
 have hS:Sep w [Ch.many R]:=Sep.tail_many (xs:=[]) hS0;clear hS0
 refine AG func69 rfl (N:=9) ntmps69 (by show 1≤9;decide) [(0,ν c)] rfl fun _ h1=>sqr fun _ hK3=>mv h1 rfl fun _ h4=>wpList_nil<|hK3 _ _<|sqr fun _ hK6=>mv h4 rfl fun _ h7=>bv h7 (z:=.bool (decide (c≥1))) rfl (cGe _ _ _ _ rfl) fun _ h9=>mv h9 rfl fun _ h2=>sg h2 (wT h2 rfl rfl rfl) rfl rfl rfl (fun hC1=>Au h2 rfl rfl _) fun _ h3=>sg h3 (wT h3 rfl rfl rfl) rfl rfl rfl (fun hC2=>BR h3 rfl (opg rfl hC2) rfl (cLe _ _ _ _ rfl) _) fun _ h5=>?_
 refine sv1 h5 rfl (OE h5 rfl (E:=(decide (c≥1))) (F:=(decide (c≤8))) rfl rfl rfl (fun e=>if_pos (by rw [e];try rfl))) fun _ h6=>h6.sk [8,7,6,5,4,3,0] rfl fun h8=>mv h8 rfl fun _ h10=>h10.sn [2,0] rfl fun h11=>hK6 _ _<|wp_ret ?_
 try simp only [Exit.then,Exit.inBlock]
 refine By (v:=.bool ((decide (c≥1))&&(decide (c≤8)))) (Cx h11 rfl rfl) h11.defs ?_
 exact ⟨by first | rfl | (rw [isCl_eq]),Sep.tail_un (xs:=[]) hS⟩
end
section
theorem Vb (X:Λ) (hX:X.length≤1000) (w:World) {A:List ByteArray} {x:ByteArray} (ho:BK X=some (A++[x])):Calls prog 100 #[σ X] w fun e w'=>∃ a,e=.returned (.tuple #[.slice a A.length A.length,.string x,ν 0])∧JA w' a A.length A∧Below w.heap.size w w'∧∀ b off,a=some ⟨b,off,none⟩→w.heap.size≤b:=by
  have HP:=hid (Jk X hX w)
  rw [ho] at HP
  go_enter func100,ntmps100
  go_wp2_with (go_at_call 86;fail)
  refine (HP.out).mono ?_
  rintro e w1 ⟨a,c,rfl,o,b⟩
  have O:=hid o;have B:=hid b
  clear o b
  simp only [erO,Option.getD_some]
  simp only [Option.getD_some] at O
  have hl:(A++[x]).length=A.length+1:=by simp
  rw [hl]
  have hrow:JA w1 a c (A++[x]):=O.out.row
  obtain ⟨g,off,rfl,hg,hc⟩:=IH hrow ω
  have hlc:A.length+1≤c:=by have:=hrow.2.1;rw [hl] at this;exact this
  have hc9:c≤9223372036854775807:=by have:=hrow.2.2.1;unfold maxLen at this;exact this
  have cx:=hc A.length ω
  have hx:(A++[x])[A.length]' ω=x:=by simp
  rw [hx] at cx
  have HROW:=hid hrow
  clear hc hx hrow hl
  have i1:(A.length:Int)<(A.length:Int)+1:=ω
  have i2:(A.length:Int)≤c:=ω
  have i3:(0:Int)≤A.length:=ω
  go_wp2_with fail
  go_quiet (fail)
  go_wp2_with fail
  go_ret3
  refine ⟨some ⟨g,off,none⟩,rfl,?_,FO B.out _,fun b off' q=>?_⟩
  · obtain ⟨h1,h2,h3,h4,h5⟩:=HROW.out
    refine ⟨by simp,Nat.le_refl _,by unfold maxLen;omega,(fun h=>by cases h),fun hn=>?_⟩
    obtain ⟨b',o',e',hb',hc'⟩:=h5 (by simp)
    refine ⟨b',o',e',hb',fun j u hu=>hc' j u ?_⟩
    rw [List.map_append,List.getElem?_append_left (by have:=(List.getElem?_eq_some_iff.1 hu).1;exact this)]
    exact hu
  · cases q
    exact (World.ownsRow.lt O.out g rfl).1
def rwS (a:Ω) (c:Nat) (L:List ByteArray):Ch where
  F b:=∃ off,a=some ⟨b,off,none⟩∧0<L.length
  P w:=JA w a c L
  keep {w w'} h t:=t.row h fun hn b ⟨off,e⟩ q=>q ⟨off,e,hn⟩
  lt {w} h b hb:=by
    obtain ⟨off,e,hn⟩:=hb
    obtain ⟨b',off',e',hlt,_⟩:=h.2.2.2.2 hn
    rw [e] at e';cases e';exact hlt
theorem Adh {w:World} {a:Ω} {c:Nat} {L:List ByteArray} (h:JA w a c L):∃ b off,(0<L.length→a=some ⟨b,off,none⟩)∧∀ j,j<L.length→w.cell? ⟨b,off+j,none⟩=some (.string (L.getD j ⟨#[]⟩)):=by
  by_cases hn:0<L.length
  · obtain ⟨b,off,e,_,hc⟩:=h.2.2.2.2 hn
    refine ⟨b,off,fun _=>e,fun j hj=>hc j _ ?_⟩
    rw [List.getElem?_map,List.getElem?_eq_getElem hj,List.getD_eq_getElem?_getD,List.getElem?_eq_getElem hj];rfl
  · exact ⟨0,0,fun q=>absurd q hn,fun j hj=>absurd hj ω⟩
def Bv:EntT:=⟨⟨#[]⟩,0⟩
def DT (M:MemM) (P:List PtM):List ByteArray→Int→Int×Int
  | [],i=>(i,0)
  | s::L,i=>
    if Bp M P i≠0 then (0,Bp M P i)
    else if AQ (An M P i) s<0 then (0,10)
    else
      if AR M P ((An M P i).getD (AQ (An M P i) s).toNat Bv).ino≠0∨(Al M P ((An M P i).getD (AQ (An M P i) s).toNat Bv).ino).k=0 then (0,36)
      else DT M P L ((An M P i).getD (AQ (An M P i) s).toNat Bv).ino
def AV (M:MemM) (P:List PtM) (L:List ByteArray):Int×Int:=if AR M P 1≠0 then (0,AR M P 1) else DT M P L 1
def AL (M:MemM) (P:List PtM) (X:Λ):Int×Int:=match BK X with
  | some L=>AV M P L
  | none=>(0,15)
def Ey (M:MemM) (P:List PtM) (X:Λ):Int×InoT×Int:=
  if (AL M P X).2≠0 then (0,AD,(AL M P X).2)
  else if AR M P (AL M P X).1≠0 then (0,AD,AR M P (AL M P X).1)
  else ((AL M P X).1,Al M P (AL M P X).1,0)
def Eb (M:MemM) (P:List PtM) (X:Λ):Int×ByteArray×Int:=match BK X with
  | none=>(0,⟨#[]⟩,15)
  | some L=>match L.getLast? with
    | none=>(0,⟨#[]⟩,15)
    | some x=>
      if (AV M P L.dropLast).2≠0 then (0,⟨#[]⟩,(AV M P L.dropLast).2)
      else if AR M P (AV M P L.dropLast).1≠0 then (0,⟨#[]⟩,AR M P (AV M P L.dropLast).1)
      else if (Al M P (AV M P L.dropLast).1).k≠2 then (0,⟨#[]⟩,12)
      else ((AV M P L.dropLast).1,x,0)
theorem WO (t:List EntT) (s:ByteArray):-1≤AQ t s∧AQ t s<16:=by
  unfold AQ
  split
  · exact ⟨Int.le_refl _,by decide⟩
  · cases h:(BG (DJ s.data.toList)).find? (Rz t s) with
    | none=>exact ⟨Int.le_refl _,by show (-1:Int)<16;decide⟩
    | some x=>
      have hm:=List.mem_of_find?_eq_some h
      unfold BG at hm
      obtain ⟨i,_,rfl⟩:=List.mem_map.1 hm
      have:=Nat.mod_lt (DJ s.data.toList+i) (show 0<16 by decide)
      exact ⟨by show (-1:Int)≤((_:Nat):Int);omega,by show (((DJ s.data.toList+i) % 16:Nat):Int)<16;omega⟩
end
section
theorem Rm (t:List EntT) (ht:t.length=16) (s:ByteArray) (hs:s.size≤1000) (w:World):Calls prog 117 #[.agg (Am t).toArray,.string s] w fun e w'=>e=.returned (ν (AQ t s))∧Below w.heap.size w w':=Hq t s ht hs w
theorem Abt (g j:Nat) {i:Int} (hi:i=(j:Int)) (hj:j<16) (w:World):(Instr.indexAt 111 (π g) (ν i)).run prog w=.ok (.pointer (some ⟨g,j*2,none⟩)) w:=by
 subst hi
 have u3:=υ111
 have u9:=υ109
 have z3:=Tryz.sizeOf109
 have d0:(j:Int)<16:=ω
 have d1:0≤(j:Int):=ω
 go_simp
theorem Oj (g j:Nat) {i:Int} (hi:i=(j:Int)) (hj:j<4) (w:World):(Instr.indexAt 22 (.pointer (some ⟨g,3,none⟩)) (ν i)).run prog w=.ok (.pointer (some ⟨g,3+j,none⟩)) w:=by
 subst hi
 have u3:=υ22
 have z3:=Tryz.sizeOf3
 have d0:(j:Int)<4:=ω
 have d1:0≤(j:Int):=ω
 go_simp
theorem ZM (g j:Nat) {i:Int} (hi:i=(j:Int)) (hj:j<8) (w:World):(Instr.indexAt 23 (.pointer (some ⟨g,7,none⟩)) (ν i)).run prog w=.ok (.pointer (some ⟨g,7+j,none⟩)) w:=by
 subst hi
 have u3:=υ23
 have z3:=Tryz.sizeOf3
 have d0:(j:Int)<8:=ω
 have d1:0≤(j:Int):=ω
 go_simp
theorem Af6 {T:TypeId} {k:TypeDesc} (hu:prog.underlying T=some k) (hk:k.isRow=false) {w:World} {a:Ω} {c:Nat} {L:List ByteArray} (h:JA w a c L) {b off j:Nat} (ha:a=some ⟨b,off,none⟩) (hj:j<L.length):(Instr.loadAt T (.pointer (some ⟨b,off+j,none⟩))).run prog w=.ok (.string (L.getD j ⟨#[]⟩)) w:=by
 obtain ⟨b',off',e,_,hc⟩:=h.2.2.2.2 ω
 rw [ha] at e;cases e
 refine ldC hu hk (hc j _ ?_)
 rw [List.getElem?_map,List.getElem?_eq_getElem hj,List.getD_eq_getElem?_getD,List.getElem?_eq_getElem hj];rfl
theorem YM {t:List EntT} (ht:t.length=16) {j:Nat} (hj:j<16):(Am t)[j*2+1]? = some (ν (t.getD j Bv).ino):=by
 have h:=(DR t j ω).2
 rw [show j*2+1=2*j+1 from ω,h,List.getD_eq_getElem?_getD,List.getElem?_eq_getElem ω];rfl
def InoT.setO (x:InoT) (k:Nat) (n:Int):InoT:=match k with
 | 0=>{ x with o0:=n }
 | 1=>{ x with o1:=n }
 | 2=>{ x with o2:=n }
 | 3=>{ x with o3:=n }
 | 4=>{ x with o4:=n }
 | 5=>{ x with o5:=n }
 | 6=>{ x with o6:=n }
 | _=>{ x with o7:=n }
theorem EW (x:InoT) {k:Nat} (hk:k<4):(Ak x)[3+k]? = some (ν (x.blk k)):=by
 rcases (ω:k=0∨k=1∨k=2∨k=3) with rfl | rfl | rfl | rfl<;>rfl
theorem Np (x:InoT) {k:Nat} {n:Int} (hk:k<4):splice (Ak x) (3+k) [ν n]=Ak (x.setB k n):=by
 rcases (ω:k=0∨k=1∨k=2∨k=3) with rfl | rfl | rfl | rfl<;>rfl
section
variable {M:MemM} {P:List PtM} {L:List ByteArray} {k:Nat} {i:Int}
theorem KT (hk:k<L.length):L.drop k=L.getD k ⟨#[]⟩::L.drop (k+1):=by
 rw [List.drop_eq_getElem_cons hk,List.getD_eq_getElem?_getD,List.getElem?_eq_getElem hk];rfl
theorem YY (hk:k<L.length) (h:Bp M P i≠0):DT M P (L.drop k) i=(0,Bp M P i):=by
 rw [KT hk];unfold DT;rw [if_pos h]
theorem VN (hk:k<L.length) (h:¬ Bp M P i≠0) (h2:AQ (An M P i) (L.getD k ⟨#[]⟩)<0):DT M P (L.drop k) i=(0,10):=by
 rw [KT hk];unfold DT;rw [if_neg h,if_pos h2]
theorem YW (hk:k<L.length) (h:¬ Bp M P i≠0) (h2:¬ AQ (An M P i) (L.getD k ⟨#[]⟩)<0) (h3:AR M P ((An M P i).getD (AQ (An M P i) (L.getD k ⟨#[]⟩)).toNat Bv).ino≠0∨(Al M P ((An M P i).getD (AQ (An M P i) (L.getD k ⟨#[]⟩)).toNat Bv).ino).k=0):DT M P (L.drop k) i=(0,36):=by
 rw [KT hk];unfold DT;rw [if_neg h,if_neg h2,if_pos h3]
theorem VM {q:Int×Int} (hw:DT M P (L.drop k) i=q) (hk:k<L.length) (h:¬ Bp M P i≠0) (h2:¬ AQ (An M P i) (L.getD k ⟨#[]⟩)<0) (h3:¬ AR M P ((An M P i).getD (AQ (An M P i) (L.getD k ⟨#[]⟩)).toNat Bv).ino≠0∧¬ (Al M P ((An M P i).getD (AQ (An M P i) (L.getD k ⟨#[]⟩)).toNat Bv).ino).k=0):DT M P (L.drop (k+1)) ((An M P i).getD (AQ (An M P i) (L.getD k ⟨#[]⟩)).toNat Bv).ino=q:=by
 rw [← hw,KT hk];conv=>rhs;unfold DT
 rw [if_neg h,if_neg h2,if_neg (fun q=>q.elim (fun q=>h3.1 q) (fun q=>h3.2 q))]
end
theorem Nq {α:Type} {o:Option α} (h:o.isSome=false):o=none:=by cases o<;>simp_all
theorem LS {X:Λ} {L:List ByteArray} (h:BK X=some L):L.length≤6:=by
 unfold BK at h
 split at h
 ·cases h;simp
 ·unfold NC at h
  split at h
  ·split at h
   ·unfold JR at h
    split at h
    ·rename_i hq;cases h;rw [List.length_map];exact hq.1
    ·cases h
   ·cases h
  ·cases h
theorem Ny {X:Λ} {L:List ByteArray} (h:BK X=some L):∀ x∈L,DC x=true:=by
 unfold BK at h
 split at h
 ·cases h;simp
 ·unfold NC at h
  split at h
  ·split at h
   ·unfold JR at h
    split at h
    ·rename_i hq;cases h;exact List.all_eq_true.1 hq.2
    ·cases h
   ·cases h
  ·cases h
theorem Tv {x:ByteArray} (h:DC x=true):x.size≤12:=by
 unfold DC at h;simp only [Bool.and_eq_true,decide_eq_true_eq] at h;omega
theorem XE {X:Λ} {L:List ByteArray} (h:BK X=some L) (j:Nat) (_:j<L.length):(L.getD j ⟨#[]⟩).size≤1000:=by
 have hj:j<L.length:=by assumption
 rw [List.getD_eq_getElem?_getD,List.getElem?_eq_getElem hj]
 exact Nat.le_trans (Tv (Ny h _ (List.getElem_mem hj))) ω
theorem US {X:Λ} {A:List ByteArray} {x:ByteArray} (h:BK X=some (A++[x])) (j:Nat) (hj:j<A.length):(A.getD j ⟨#[]⟩).size≤1000:=by
 rw [List.getD_eq_getElem?_getD,List.getElem?_eq_getElem hj]
 exact Nat.le_trans (Tv (Ny h _ (List.mem_append_left _ (List.getElem_mem hj)))) ω
theorem LT {w:World} {R:List Ch} (hS:Sep w R) (X:Λ) (hX:X.length≤1000) {L:List ByteArray} (hp:BK X=some L):CallsR prog 86 #[σ X] w (fun v w'=>∃ a c,v=.tuple #[.slice a L.length c,ν 0]∧Sep w' (rwS a c L::R)):=
 Calls.mono (Jk X hX w) fun e w' z=>by
  rw [hp] at z
  obtain ⟨a,c,e1,o,b⟩:=z
  exact ⟨_,e1,a,c,rfl,hS.push b (c:=rwS a c L) o.row fun k ⟨off,q,_⟩=>(World.ownsRow.lt o k (by rw [q];rfl)).1⟩
theorem Vd {w:World} {R:List Ch} (hS:Sep w R) (X:Λ) (hX:X.length≤1000) (hp:(BK X).isSome=false):CallsR prog 86 #[σ X] w (fun v w'=>∃ (a:Ω) (c:Nat),v=.tuple #[.slice a 0 c,ν 15]∧Sep w' R):=
 Calls.mono (Jk X hX w) fun e w' z=>by
  rw [Nq hp] at z
  obtain ⟨a,c,e1,o,b⟩:=z
  exact ⟨_,e1,a,c,rfl,hS.mono b⟩
def Fw (X:Λ):Option ByteArray:=(BK X).bind (·.getLast?)
theorem IA {X:Λ} (h:(Fw X).isSome=true):∃ A x,BK X=some (A++[x]):=by
 unfold Fw at h
 cases hp:BK X with
 | none=>rw [hp] at h;cases h
 | some L=>
  rw [hp] at h
  rcases II L with rfl | ⟨A,x,rfl⟩
  ·cases h
  ·exact ⟨A,x,rfl⟩
theorem LD {X:Λ} (h:(Fw X).isSome=false):BK X=none∨BK X=some []:=by
 unfold Fw at h
 cases hp:BK X with
 | none=>exact .inl rfl
 | some L=>
  rw [hp] at h
  rcases II L with rfl | ⟨A,x,rfl⟩
  ·exact .inr rfl
  ·simp at h
theorem Ov {w:World} {R:List Ch} (hS:Sep w R) (X:Λ) (hX:X.length≤1000) {A:List ByteArray} {x:ByteArray} (hp:BK X=some (A++[x])):CallsR prog 100 #[σ X] w (fun v w'=>∃ a,v=.tuple #[.slice a A.length A.length,.string x,ν 0]∧Sep w' (rwS a A.length A::R)):=
 Calls.mono (Vb X hX w hp) fun e w' ⟨a,e1,r,b,hf⟩=>⟨_,e1,a,rfl,hS.push b (c:=rwS a A.length A) r fun k ⟨off,q,_⟩=>hf k off q⟩
theorem PY {w:World} {R:List Ch} (hS:Sep w R) (X:Λ) (hX:X.length≤1000) (hp:(Fw X).isSome=false):CallsR prog 100 #[σ X] w (fun v w'=>v=.tuple #[.slice none 0 0,σ [],ν 15]∧Sep w' R):=
 Calls.mono (Sg X hX w) fun e w' z=>by
  have hn:=LD hp
  rcases z with ⟨L,x,a,c,q,_⟩ | ⟨_,e1,b⟩
  ·rcases hn with hn | hn<;>rw [hn] at q
   ·cases q
   ·have:=(Option.some.inj q).symm;simp at this
  ·exact ⟨_,e1,rfl,hS.mono b⟩
theorem Qc {M:MemM} {P:List PtM} {X:Λ} (h:(Fw X).isSome=false):Eb M P X=(0,⟨#[]⟩,15):=by
 rcases LD h with q | q<;>(unfold Eb;rw [q]);rfl
theorem Fy {M:MemM} {P:List PtM} {X:Λ} {A:List ByteArray} {x:ByteArray} (h:BK X=some (A++[x])):Eb M P X=if (AV M P A).2≠0 then (0,⟨#[]⟩,(AV M P A).2) else if AR M P (AV M P A).1≠0 then (0,⟨#[]⟩,AR M P (AV M P A).1) else if (Al M P (AV M P A).1).k≠2 then (0,⟨#[]⟩,12) else ((AV M P A).1,x,0):=by
 unfold Eb;rw [h];dsimp only;rw [List.getLast?_concat];dsimp only;rw [List.dropLast_concat]
theorem Vg {e k a:Int} {x:ByteArray} (h:e≠0∨k≠2):Value.tuple #[ν 0,σ [],ν (AC [e,12])]=Value.tuple #[ν (if e≠0 then (0,(⟨#[]⟩:ByteArray),e) else if k≠2 then (0,⟨#[]⟩,12) else (a,x,0)).1,.string (if e≠0 then (0,(⟨#[]⟩:ByteArray),e) else if k≠2 then (0,⟨#[]⟩,12) else (a,x,0)).2.1,ν (if e≠0 then (0,(⟨#[]⟩:ByteArray),e) else if k≠2 then (0,⟨#[]⟩,12) else (a,x,0)).2.2]:=by
 by_cases he:e≠0
 ·rw [if_pos he,show AC [e,12]=e from by unfold AC;rw [List.find?_cons_of_pos (by simpa using he)];rfl];rfl
 ·rw [if_neg he,if_pos (h.resolve_left he)]
  have:e=0:=Classical.not_not.1 he
  subst this;rfl
def Hb (M:MemM) (P:List PtM):Int×Int:=match (List.range 32).find? (fun (k:Nat)=>decide (AR M P ((k:Int)+1)=0∧(Al M P ((k:Int)+1)).k=0)) with
 | some k=>((k:Int)+1,0)
 | none=>(0,18)
theorem UV {M:MemM} {P:List PtM} {k:Nat} (h:∀ j,j<k→¬ (AR M P ((j:Int)+1)=0∧(Al M P ((j:Int)+1)).k=0)) (_:k<32) (hb:(¬ AR M P ((k:Int)+1)=0)∨(¬ (Al M P ((k:Int)+1)).k=0)):∀ j,j<k+1→¬ (AR M P ((j:Int)+1)=0∧(Al M P ((j:Int)+1)).k=0):=fun j hj=>by
 by_cases e:j=k
 ·subst e;exact fun q=>hb.elim (fun z=>z q.1) (fun z=>z q.2)
 ·exact h j ω
theorem XN {M:MemM} {P:List PtM} (h:∀ j:Nat,j<32→¬ (AR M P ((j:Int)+1)=0∧(Al M P ((j:Int)+1)).k=0)):Hb M P=(0,18):=by
 unfold Hb
 rw [List.find?_eq_none.2 fun j hj=>by simpa using h j (List.mem_range.1 hj)]
theorem Nv {M:MemM} {P:List PtM} {k:Nat} (hk:k<32) (h:∀ j,j<k→¬ (AR M P ((j:Int)+1)=0∧(Al M P ((j:Int)+1)).k=0)) (ok:AR M P ((k:Int)+1)=0∧(Al M P ((k:Int)+1)).k=0):Hb M P=((k:Int)+1,0):=by
 unfold Hb
 have e:(List.range 32).find? (fun (k:Nat)=>decide (AR M P ((k:Int)+1)=0∧(Al M P ((k:Int)+1)).k=0))=some k:=by
  rw [List.find?_range_eq_some]
  exact ⟨decide_eq_true ok,List.mem_range.2 hk,fun j hj=>by rw [decide_eq_false (h j hj)];rfl⟩
 rw [e]
def Bl (M:MemM) (P:List PtM) (i:Int):InoT:=if Bp M P i≠0 then AD else Al M P i
def GS (M:MemM) (P:List PtM) (i:Int):List EntT:=if Bp M P i≠0 then AB else An M P i
def Pf (M:MemM) (P:List PtM) (i:Int):Int:=if Bp M P i≠0 then Bp M P i else AR M P i
theorem JY {fn:Func} {N:Nat} {l:List (Nat×Value)} {a:Act} {w:World} (hK:Kn N l a) {s c u:Nat} {T:TypeId} (h:fn.results=#[.tmp s,.cell c T,.tmp u]) {g:Nat} {e:TypeId} {L:List Value} {k:TypeDesc} {v v0:Value} (h0:opv l (.tmp s)=some v0) (hc:opv l (.tmp c)=some (π g)) (hv:opv l (.tmp u)=some v) (hb:Blk w g e L) (hu:prog.underlying T=some k) (hk:k.isRow=true) (hn:(prog.info? T).map (·.size)=some L.length):(results fn a.tmps).run prog w=.ok (.tuple #[v0,.agg L.toArray,v]) w:=by
 have hl:=run_loadVar_mid (P:=prog) w g 0 T L k hb.range hu hk hn
 have q0:a.tmps.getD s undef=v0:=hK.op h0
 have q1:a.tmps.getD c undef=π g:=hK.op hc
 have q2:a.tmps.getD u undef=v:=hK.op hv
 have q0':a.tmps[s]?.getD undef=v0:=by simpa using q0
 have q1':a.tmps[c]?.getD undef=π g:=by simpa using q1
 have q2':a.tmps[u]?.getD undef=v:=by simpa using q2
 simp [results,h,q0',q1',q2',asAddr,hl]
theorem Qn {fn:Func} {N:Nat} {l:List (Nat×Value)} {a:Act} {w:World} (hK:Kn N l a) {c d u:Nat} {T U:TypeId} (h:fn.results=#[.cell c T,.cell d U,.tmp u]) {g g2:Nat} {e e2:TypeId} {L:List Value} {t:List EntT} {k k2:TypeDesc} {v:Value} (hc:opv l (.tmp c)=some (.pointer (some ⟨g,0,none⟩))) (hd:opv l (.tmp d)=some (.pointer (some ⟨g2,0,none⟩))) (hv:opv l (.tmp u)=some v) (hb:Blk w g e L) (hb2:Blk w g2 e2 (Am t)) (hu:Tryz.prog.underlying T=some k) (hu2:Tryz.prog.underlying U=some k2) (ht:t.length=16) (hk:k.isRow=true:=by rfl) (hk2:k2.isRow=true:=by rfl) (hn:(Tryz.prog.info? T).map (·.size)=some L.length:=by kernel_rfl) (hn2:(Tryz.prog.info? U).map (·.size)=some 32:=by kernel_rfl):(results fn a.tmps).run Tryz.prog w=.ok (.tuple #[.agg L.toArray,.agg (Am t).toArray,v]) w:=by
 have hl:=run_loadVar_mid (P:=prog) w g 0 T L k hb.range hu hk hn
 have hl2:=run_loadVar_mid (P:=prog) w g2 0 U (Am t) k2 hb2.range hu2 hk2 (by rw [BI,ht];exact hn2)
 have q0:a.tmps.getD d undef=π g2:=hK.op hd
 have q1:a.tmps.getD c undef=π g:=hK.op hc
 have q2:a.tmps.getD u undef=v:=hK.op hv
 have q0':a.tmps[d]?.getD undef=π g2:=by simpa using q0
 have q1':a.tmps[c]?.getD undef=π g:=by simpa using q1
 have q2':a.tmps[u]?.getD undef=v:=by simpa using q2
 simp [results,h,q0',q1',q2',asAddr,hl,hl2]
theorem YX {w:World} {R:List Ch} {mx:Nat} {K:VolK} {ta:Ω} {tc:Nat} {M:MemM} {P:List PtM} {la:Ω} {lc:Nat} {L:List ByteArray} (hS0:Sep w ([rwS la lc L,Ab mx 99 [π K.tg],txP K ta tc M P]++R)) (hM:M.V.length=23168) (hL:L.length≤1000) (hLn:∀ j,j<L.length→(L.getD j ⟨#[]⟩).size≤1000) :
  CallsR prog 87 #[π mx,.slice la L.length lc] w (fun v w'=>v=.tuple #[ν (AV M P L).1,ν (AV M P L).2]∧Sep w' ([rwS la lc L,Ab mx 99 [π K.tg],txP K ta tc M P]++R)):=by
 have hS:Sep w [rwS la lc L,Ab mx 99 [π K.tg],txP K ta tc M P,Ch.many R]:=Sep.tail_many (xs:=[_,_,_]) hS0;clear hS0
 obtain ⟨bl,ol,hl,_⟩:=Adh (hS.get 0 rfl:JA _ _ _ _)
 refine AG func87 rfl (N:=64) ntmps87 (by show 2≤64;decide) [(0,π mx),(1,.slice la L.length lc)] rfl fun _ h1=>sqr fun _ hK3=>mvs 2 h1 rfl fun _ h6=>wpList_nil<|hK3 _ _<|sqr fun _ hK8=>mv h6 rfl fun _ h9=>wpList_nil<|hK8 _ _<|sq fun _ hK1=>sqr fun _ hK2=>mvs 2 h9 rfl fun _ h2=>cl h2 rfl (cF func8) (Fv (i:=1) (hS.pk [1,2,0,3] rfl) hM) fun _ v1 w1 r1 h3=>?_
 obtain ⟨rfl,s1⟩:=r1
 refine mvs 3 h3 rfl fun _ h4=>so (wn rfl) fun _ hK4=>AH h4 rfl rfl rfl rfl (z:=[ν 0,ν 0,ν 0,ν 0,ν 0,ν 0,ν 0,ν 0,ν 0,ν 0,ν 0,ν 0,ν 0,ν 0,ν 0]) (fun _=>rfl) s1 fun _ g1 w2 h5 s2 _ _=>hK4 _ _ ?_
 refine stA h5 s2 0 rfl rfl rfl κ rfl rfl rfl rfl fun _ w3 h7 s3 _=>mv h7 rfl fun _ h8=>h8.sn [8,6,5,4,0,1] rfl fun h10=>hK2 _ _<|sqr fun _ hK5=>mv h10 rfl fun _ h11=>bv h11 (z:=.bool (decide (AR M P 1≠0))) rfl (cNe _ _ _ _ rfl) fun _ h12=>h12.sn [23,8,6,5,4,0,1] rfl fun h13=>hK5 _ _ ?_
 rcases bC (decide (AR M P 1≠0)) with hc1 | hc1
 ·skip
  have hp1:AR M P 1≠0:=(dT hc1)
  refine wcT h13 rfl hc1<|h13.sk [8,6,5,4,0,1] rfl fun h14=>sqr fun _ hK6=>mv h14 rfl fun _ h15=>h15.sk [24,8,6,5,0,1] rfl fun h16=>mv h16 rfl fun _ h17=>h17.sk [4,24,8,6,0,1] rfl fun h18=>mv h18 rfl fun _ h19=>h19.sn [5,4,8,6,0,1] rfl fun h20=>hK6 _ _ ?_
  refine wp_ret ?_
  try simp only [Exit.then,Exit.inBlock]
  refine By (v:=.tuple #[ν 0,ν (AR M P 1)]) (Gc h20 rfl rfl rfl) h20.defs ?_
  exact ⟨by unfold AV;rw [if_pos hp1],Sep.tail_un (xs:=[_,_,_]) (s3.pk [3,1,2,4] rfl)⟩
 ·skip
  have hp2:¬ (AR M P 1≠0):=(dF hc1)
  refine wcF h13 rfl hc1<|h13.sk [8,6,5,4,0,1] rfl fun h21=>wp_skip<|hK1 _ _<|sq fun _ hK7=>sqr fun _ hK9=>mv h21 rfl fun _ h22=>sv1 h22 rfl (v:=ν (L.length:Int)) (Jq h22 rfl rfl υ60) fun _ h23=>mv h23 rfl fun _ h24=>wpList_nil<|hK9 _ _<|wp_block ?_
  refine Za (fun (k:Nat) (i:Int) a' w'=>Kn 64 [(27,ν (k:Int)),(26,ν (L.length:Int)),(25,.slice la L.length lc),(8,ν (AR M P 1)),(6,ν i),(5,ν 0),(4,ν 0),(0,π mx),(1,.slice la L.length lc)] a'∧Sep w' [Ab g1 25 (Ak (Al M P 1)),Ab mx 99 [π K.tg],txP K ta tc M P,rwS la lc L,Ch.many R]∧(k≤L.length)∧(DT M P (L.drop k) i=DT M P L 1)) (fun (k:Nat) (i:Int)=>L.length-k) 0 1 ⟨h24.subs rfl,s3,Nat.zero_le _,(by rw [List.drop_zero])⟩ ?_
  rintro k1 i1 a1 w4 ⟨h25,s4,hk81,hw82⟩ K1 hK10
  refine sqr fun _ hK11=>bv h25 (z:=.bool (decide ((k1:Int)<(L.length:Int)))) rfl (cLt _ _ _ _ rfl) fun _ h26=>wpList_nil<|hK11 _ _<|sq fun _ hK12=>?_
  rcases bC (decide ((k1:Int)<(L.length:Int))) with hc2 | hc2
  ·skip
   have hp3:(k1:Int)<(L.length:Int):=(dT hc2)
   refine wcT h26 rfl hc2<|h26.sk [27,26,25,8,6,5,4,0,1] rfl fun h27=>wp_skip<|hK12 _ _<|sq fun _ hK13=>wp_block ?_
   refine sqr fun _ hK14=>sv1 h27 rfl (v:=.pointer (some ⟨bl,ol+k1,none⟩)) (Bq h27 rfl rfl rfl (fun w=>ixO υ60 κ (sz:=1) (hl ω) (j:=k1) rfl ω ω w)) fun _ h28=>sw1 h28 rfl (v:=.string (L.getD k1 ⟨#[]⟩)) (rld h28 rfl rfl (Af6 υ9 rfl (s4.get 3 rfl:JA _ _ _ _) (hl ω) ω)) fun _ h29=>mv h29 rfl fun _ h30=>h30.sn [10,27,26,25,8,6,5,4,0,1] rfl fun h31=>hK14 _ _<|sqr fun _ hK15=>mvs 2 h31 rfl fun _ h32=>cl h32 rfl (cF func54) (OJ (i:=i1) (s4.pk [1,2,0,3,4] rfl) hM) fun _ v2 w5 r2 h33=>?_
   obtain ⟨rfl,s5⟩:=r2
   refine mvs 3 h33 rfl fun _ h34=>so (wn rfl) fun _ hK16=>AH h34 rfl rfl rfl rfl (z:=Am AB) (fun _=>rfl) s5 fun _ g2 w6 h35 s6 _ _=>hK16 _ _ ?_
   refine so (wn rfl) fun _ hK17=>Fj h35 rfl rfl s6 0 rfl (by first | exact Aq | exact Ag _ _ _ _ | exact AA (Ag _ _ _ _) _ _ | exact Ah _ _ _ | (rw [Az];exact Ah _ _ _) | assumption) (by first | exact Aq | exact Ag _ _ _ _ | exact AA (Ag _ _ _ _) _ _ | exact Ah _ _ _ | (rw [Az];exact Ah _ _ _) | assumption) rfl rfl (cs':=[Ab g2 111 (Am (An M P i1)),Ab mx 99 [π K.tg],txP K ta tc M P,Ab g1 25 (Ak (Al M P 1)),rwS la lc L,Ch.many R]) rfl fun _ w7 h36 s7 _=>hK17 _ _ ?_
   refine mv h36 rfl fun _ h37=>h37.sn [12,11,10,27,26,25,8,6,5,4,0,1] rfl fun h38=>hK15 _ _<|sq fun _ hK18=>sqr fun _ hK19=>mv h38 rfl fun _ h39=>bv h39 (z:=.bool (decide (Bp M P i1≠0))) rfl (cNe _ _ _ _ rfl) fun _ h40=>h40.sn [38,12,11,10,27,26,25,8,6,5,4,0,1] rfl fun h41=>hK19 _ _ ?_
   rcases bC (decide (Bp M P i1≠0)) with hc3 | hc3
   ·skip
    have hp4:Bp M P i1≠0:=(dT hc3)
    refine wcT h41 rfl hc3<|h41.sk [12,11,10,27,26,25,8,6,5,4,0,1] rfl fun h42=>sqr fun _ hK20=>mv h42 rfl fun _ h43=>h43.sk [39,12,11,10,27,26,25,8,6,5,0,1] rfl fun h44=>mv h44 rfl fun _ h45=>h45.sk [4,39,12,11,10,27,26,25,8,6,0,1] rfl fun h46=>mv h46 rfl fun _ h47=>h47.sn [5,4,12,11,10,27,26,25,8,6,0,1] rfl fun h48=>hK20 _ _ ?_
    refine wp_ret ?_
    try simp only [Exit.then,Exit.inBlock]
    refine By (v:=.tuple #[ν 0,ν (Bp M P i1)]) (Gc h48 rfl rfl rfl) h48.defs ?_
    have hu:AV M P L=DT M P (L.drop k1) i1:=by unfold AV;rw [if_neg hp2,hw82]
    exact ⟨by rw [hu,YY ω hp4],Sep.tail_un (xs:=[_,_,_]) (s7.pk [4,1,2,5] rfl)⟩
   ·skip
    have hp5:¬ (Bp M P i1≠0):=(dF hc3)
    refine wcF h41 rfl hc3<|h41.sk [12,11,10,27,26,25,8,6,5,4,0,1] rfl fun h49=>wp_skip<|hK18 _ _<|sqr fun _ hK21=>sw1 h49 rfl (v:=.agg ((Am (An M P i1)).toArray)) (rld h49 rfl rfl (Fb υ111 (s7.get 0 rfl:Blk _ _ _ _) (by first | exact Aq | exact Ag _ _ _ _ | exact AA (Ag _ _ _ _) _ _ | exact Ah _ _ _ | (rw [Az];exact Ah _ _ _) | assumption))) fun _ h50=>mv h50 rfl fun _ h51=>cl h51 rfl (cF func117) (AS s7 (Rm (An M P i1) (by first | exact Aq | exact Ag _ _ _ _ | exact AA (Ag _ _ _ _) _ _ | exact Ah _ _ _ | (rw [Az];exact Ah _ _ _) | assumption) (L.getD k1 ⟨#[]⟩) (hLn _ ω) _)) fun _ v3 w8 r3 h52=>?_
    obtain ⟨rfl,s8⟩:=r3
    have hfb170:=WO (An M P i1) (L.getD k1 ⟨#[]⟩)
    refine mv h52 rfl fun _ h53=>h53.sn [13,12,11,10,27,26,25,8,6,5,4,0,1] rfl fun h54=>hK21 _ _<|sq fun _ hK22=>sqr fun _ hK23=>mv h54 rfl fun _ h55=>bv h55 (z:=.bool (decide (AQ (An M P i1) (L.getD k1 ⟨#[]⟩)<0))) rfl (cLt _ _ _ _ rfl) fun _ h56=>h56.sn [44,13,12,11,10,27,26,25,8,6,5,4,0,1] rfl fun h57=>hK23 _ _ ?_
    rcases bC (decide (AQ (An M P i1) (L.getD k1 ⟨#[]⟩)<0)) with hc4 | hc4
    ·skip
     have hp6:AQ (An M P i1) (L.getD k1 ⟨#[]⟩)<0:=(dT hc4)
     refine wcT h57 rfl hc4<|h57.sk [13,12,11,10,27,26,25,8,6,5,4,0,1] rfl fun h58=>sqr fun _ hK24=>h58.sk [13,12,11,10,27,26,25,8,6,5,0,1] rfl fun h59=>mv h59 rfl fun _ h60=>h60.sk [4,13,12,11,10,27,26,25,8,6,0,1] rfl fun h61=>mv h61 rfl fun _ h62=>wpList_nil<|hK24 _ _<|wp_ret ?_
     try simp only [Exit.then,Exit.inBlock]
     refine By (v:=.tuple #[ν 0,ν 10]) (Gc h62 rfl rfl rfl) h62.defs ?_
     have hu:AV M P L=DT M P (L.drop k1) i1:=by unfold AV;rw [if_neg hp2,hw82]
     exact ⟨by rw [hu,VN ω hp5 hp6],Sep.tail_un (xs:=[_,_,_]) (s8.pk [4,1,2,5] rfl)⟩
    ·skip
     have hp7:¬ (AQ (An M P i1) (L.getD k1 ⟨#[]⟩)<0):=(dF hc4)
     refine wcF h57 rfl hc4<|h57.sk [13,12,11,10,27,26,25,8,6,5,4,0,1] rfl fun h63=>wp_skip<|hK22 _ _<|sqr fun _ hK25=>mv h63 rfl fun _ h64=>sv1 h64 rfl (v:=.pointer (some ⟨g2,((AQ (An M P i1) (L.getD k1 ⟨#[]⟩)).toNat)*2,none⟩)) (Bq h64 rfl rfl rfl (fun w=>Abt g2 ((AQ (An M P i1) (L.getD k1 ⟨#[]⟩)).toNat) ω ω w)) fun _ h65=>sv1 h65 rfl (v:=.pointer (some ⟨g2,((AQ (An M P i1) (L.getD k1 ⟨#[]⟩)).toNat)*2+1,none⟩)) (rfa h65 rfl rfl (fQ 1)) fun _ h66=>sw1 h66 rfl (v:=ν (((An M P i1).getD ((AQ (An M P i1) (L.getD k1 ⟨#[]⟩)).toNat) Bv).ino)) (rld h66 rfl rfl (ldB υ3 rfl (s8.get 0 rfl:Blk _ _ _ _) (YM (by first | exact Aq | exact Ag _ _ _ _ | exact AA (Ag _ _ _ _) _ _ | exact Ah _ _ _ | (rw [Az];exact Ah _ _ _) | assumption) ω))) fun _ h67=>h67.sk [48,47,46,45,13,12,11,10,27,26,25,8,5,4,0,1] rfl fun h68=>mv h68 rfl fun _ h69=>?_
     refine h69.sn [6,13,12,11,10,27,26,25,8,5,4,0,1] rfl fun h70=>hK25 _ _<|sqr fun _ hK26=>mvs 2 h70 rfl fun _ h71=>cl h71 rfl (cF func8) (Fv (i:=((An M P i1).getD ((AQ (An M P i1) (L.getD k1 ⟨#[]⟩)).toNat) Bv).ino) (s8.pk [1,2,0,3,4,5] rfl) hM) fun _ v4 w9 r4 h72=>?_
     obtain ⟨rfl,s9⟩:=r4
     refine mvs 3 h72 rfl fun _ h73=>so (wn rfl) fun _ hK27=>AH h73 rfl rfl rfl rfl (z:=[ν 0,ν 0,ν 0,ν 0,ν 0,ν 0,ν 0,ν 0,ν 0,ν 0,ν 0,ν 0,ν 0,ν 0,ν 0]) (fun _=>rfl) s9 fun _ g3 w10 h74 s10 _ _=>hK27 _ _ ?_
     refine stA h74 s10 0 rfl rfl rfl κ rfl rfl rfl rfl fun _ w11 h75 s11 _=>mv h75 rfl fun _ h76=>h76.sn [15,14,6,13,12,11,10,27,26,25,8,5,4,0,1] rfl fun h77=>hK26 _ _<|sqr fun _ hK28=>mv h77 rfl fun _ h78=>bv h78 (z:=.bool (decide (AR M P (((An M P i1).getD ((AQ (An M P i1) (L.getD k1 ⟨#[]⟩)).toNat) Bv).ino)≠0))) rfl (cNe _ _ _ _ rfl) fun _ h79=>mv h79 rfl fun _ h80=>sg h80 (wF h80 rfl rfl rfl) rfl rfl rfl (v:=π g3) (fun hC1=>rfa h80 rfl rfl (fQ 0) _) fun _ h81=>sg h81 (wF h81 rfl rfl rfl) rfl rfl rfl (v:=ν ((Al M P (((An M P i1).getD ((AQ (An M P i1) (L.getD k1 ⟨#[]⟩)).toNat) Bv).ino)).k)) (fun hC2=>(rld h81 rfl (opg rfl hC2) (ldB υ3 rfl (s11.get 0 rfl:Blk _ _ _ _) rfl))) fun _ h82=>?_
     refine sg h82 (wF h82 rfl rfl rfl) rfl rfl rfl (v:=.bool (decide ((Al M P (((An M P i1).getD ((AQ (An M P i1) (L.getD k1 ⟨#[]⟩)).toNat) Bv).ino)).k=0))) (fun hC3=>BR h82 rfl (opg rfl hC3) rfl (cEq _ _ _ _ rfl) _) fun _ h83=>sv1 h83 rfl (v:=.bool ((decide (AR M P (((An M P i1).getD ((AQ (An M P i1) (L.getD k1 ⟨#[]⟩)).toNat) Bv).ino)≠0))||(decide ((Al M P (((An M P i1).getD ((AQ (An M P i1) (L.getD k1 ⟨#[]⟩)).toNat) Bv).ino)).k=0)))) (Hg h83 rfl (E:=(decide (AR M P (((An M P i1).getD ((AQ (An M P i1) (L.getD k1 ⟨#[]⟩)).toNat) Bv).ino)≠0))) (F:=(decide ((Al M P (((An M P i1).getD ((AQ (An M P i1) (L.getD k1 ⟨#[]⟩)).toNat) Bv).ino)).k=0))) rfl rfl rfl (fun e=>if_pos (by rw [e];try rfl))) fun _ h84=>h84.sn [61,15,14,6,13,12,11,10,27,26,25,8,5,4,0,1] rfl fun h85=>hK28 _ _ ?_
     rcases bC ((decide (AR M P (((An M P i1).getD ((AQ (An M P i1) (L.getD k1 ⟨#[]⟩)).toNat) Bv).ino)≠0))||(decide ((Al M P (((An M P i1).getD ((AQ (An M P i1) (L.getD k1 ⟨#[]⟩)).toNat) Bv).ino)).k=0))) with hc5 | hc5
     ·skip
      have hp8:(AR M P (((An M P i1).getD ((AQ (An M P i1) (L.getD k1 ⟨#[]⟩)).toNat) Bv).ino)≠0)∨((Al M P (((An M P i1).getD ((AQ (An M P i1) (L.getD k1 ⟨#[]⟩)).toNat) Bv).ino)).k=0):=((orT hc5).imp (fun q=>(dT q)) (fun q=>(dT q)))
      refine wcT h85 rfl hc5<|h85.sk [15,14,6,13,12,11,10,27,26,25,8,5,4,0,1] rfl fun h86=>sqr fun _ hK29=>h86.sk [15,14,6,13,12,11,10,27,26,25,8,5,0,1] rfl fun h87=>mv h87 rfl fun _ h88=>h88.sk [4,15,14,6,13,12,11,10,27,26,25,8,0,1] rfl fun h89=>mv h89 rfl fun _ h90=>wpList_nil<|hK29 _ _<|wp_ret ?_
      try simp only [Exit.then,Exit.inBlock]
      refine By (v:=.tuple #[ν 0,ν 36]) (Gc h90 rfl rfl rfl) h90.defs ?_
      have hu:AV M P L=DT M P (L.drop k1) i1:=by unfold AV;rw [if_neg hp2,hw82]
      exact ⟨by rw [hu,YW ω hp5 hp7 hp8],Sep.tail_un (xs:=[_,_,_]) (s11.pk [5,1,2,6] rfl)⟩
     ·skip
      have hp9:(¬ (AR M P (((An M P i1).getD ((AQ (An M P i1) (L.getD k1 ⟨#[]⟩)).toNat) Bv).ino)≠0))∧(¬ ((Al M P (((An M P i1).getD ((AQ (An M P i1) (L.getD k1 ⟨#[]⟩)).toNat) Bv).ino)).k=0)):=(And.intro (dF (orF hc5).1) (dF (orF hc5).2))
      refine wcF h85 rfl hc5<|h85.sk [15,14,6,13,12,11,10,27,26,25,8,5,4,0,1] rfl fun h91=>wp_skip<|hK13 _ _<|wp_region_lit<|bv h91 (z:=ν ((k1+1:Nat):Int)) rfl (DE _ _ _ ω ω ω) fun _ h92=>h92.sk [62,15,14,6,13,12,11,10,26,25,8,5,4,0,1] rfl fun h93=>mv h93 rfl fun _ h94=>h94.sk [27,15,14,6,13,12,11,10,26,25,8,5,4,0,1] rfl fun h95=>wpList_nil ?_
      have hn9:=VM hw82 ω hp5 hp7 hp9
      exact hK10 (k1+1) (((An M P i1).getD ((AQ (An M P i1) (L.getD k1 ⟨#[]⟩)).toNat) Bv).ino) _ _ ⟨h95.subs rfl,(s11.pk [4,1,2,5,6] rfl),ω,hn9⟩ ω
  ·skip
   have hp10:¬ ((k1:Int)<(L.length:Int)):=(dF hc2)
   refine wcF h26 rfl hc2<|h26.sk [27,26,25,8,6,5,4,0,1] rfl fun h96=>wp_exit ?_
   refine hK7 _ _ ?_
   refine sqr fun _ hK30=>mv h96 rfl fun _ h97=>h97.sk [63,27,26,25,8,6,5,0,1] rfl fun h98=>mv h98 rfl fun _ h99=>h99.sk [4,63,27,26,25,8,6,0,1] rfl fun h100=>mv h100 rfl fun _ h101=>h101.sn [5,4,27,26,25,8,6,0,1] rfl fun h102=>hK30 _ _<|wp_ret ?_
   try simp only [Exit.then,Exit.inBlock]
   refine By (v:=.tuple #[ν i1,ν 0]) (Gc h102 rfl rfl rfl) h102.defs ?_
   have hu:AV M P L=DT M P (L.drop k1) i1:=by unfold AV;rw [if_neg hp2,hw82]
   exact ⟨by rw [hu,List.drop_of_length_le ω];rfl,Sep.tail_un (xs:=[_,_,_]) (s4.pk [3,1,2,4] rfl)⟩
theorem VX {w:World} {R:List Ch} {mx:Nat} {K:VolK} {ta:Ω} {tc:Nat} {M:MemM} {P:List PtM} {X:Λ} (hS0:Sep w ([Ab mx 99 [π K.tg],txP K ta tc M P]++R)) (hM:M.V.length=23168) (hX:X.length≤1000) :
  CallsR prog 53 #[π mx,σ X] w (fun v w'=>v=.tuple #[ν (AL M P X).1,ν (AL M P X).2]∧Sep w' ([Ab mx 99 [π K.tg],txP K ta tc M P]++R)):=by
 have hS:Sep w [Ab mx 99 [π K.tg],txP K ta tc M P,Ch.many R]:=Sep.tail_many (xs:=[_,_]) hS0;clear hS0
 refine AG func53 rfl (N:=21) ntmps53 (by show 2≤21;decide) [(0,π mx),(1,σ X)] rfl fun _ h1=>sqr fun _ hK3=>mvs 2 h1 rfl fun _ h6=>wpList_nil<|hK3 _ _<|sqr fun _ hK8=>mv h6 rfl fun _ h9=>?_
 rcases bC ((BK X).isSome) with hc1 | hc1
 ·skip
  obtain ⟨L13,hp1⟩:=Option.isSome_iff_exists.1 hc1
  have hp14l:=LS hp1
  refine cl h9 rfl (cF func86) (LT hS X ω hp1) fun _ v1 w1 r1 h2=>?_
  obtain ⟨pa_x15,pc_x16,rfl,s1⟩:=r1
  refine mvs 5 h2 rfl fun _ h3=>h3.sn [7,6,5,4,0,1] rfl fun h4=>hK8 _ _<|sq fun _ hK1=>sqr fun _ hK2=>mv h4 rfl fun _ h5=>bv h5 rfl (cNe _ _ _ _ rfl) fun _ h7=>h7.sn [14,7,6,5,4,0,1] rfl fun h8=>hK2 _ _<|wcF h8 rfl rfl<|h8.sk [7,6,5,4,0,1] rfl fun h10=>?_
  refine wp_skip<|hK1 _ _<|sqr fun _ hK4=>mvs 2 h10 rfl fun _ h11=>cl h11 rfl (cF func87) (YX s1 hM ω (XE hp1)) fun _ v2 w2 r2 h12=>?_
  obtain ⟨rfl,s2⟩:=r2
  refine mvs 2 h12 rfl fun _ h13=>h13.sk [20,19,18,17,16,7,6,5,0,1] rfl fun h14=>mv h14 rfl fun _ h15=>h15.sk [4,20,19,18,17,16,7,6,0,1] rfl fun h16=>mv h16 rfl fun _ h17=>h17.sn [5,4,7,6,0,1] rfl fun h18=>hK4 _ _<|wp_ret ?_
  try simp only [Exit.then,Exit.inBlock]
  refine By (v:=.tuple #[ν ((AV M P L13).1),ν ((AV M P L13).2)]) (Gc h18 rfl rfl rfl) h18.defs ?_
  exact ⟨by unfold AL;rw [hp1],Sep.tail_un (xs:=[_,_]) (s2.pk [1,2,3] rfl)⟩
 ·skip
  refine cl h9 rfl (cF func86) (Vd hS X ω hc1) fun _ v3 w3 r3 h19=>?_
  obtain ⟨pa_x67,pc_x68,rfl,s3⟩:=r3
  refine mvs 5 h19 rfl fun _ h20=>h20.sn [7,6,5,4,0,1] rfl fun h21=>hK8 _ _<|sq fun _ hK5=>sqr fun _ hK6=>mv h21 rfl fun _ h22=>bv h22 rfl (cNe _ _ _ _ rfl) fun _ h23=>h23.sn [14,7,6,5,4,0,1] rfl fun h24=>hK6 _ _<|wcT h24 rfl rfl<|h24.sk [7,6,5,4,0,1] rfl fun h25=>?_
  refine sqr fun _ hK7=>mv h25 rfl fun _ h26=>h26.sk [15,7,6,5,0,1] rfl fun h27=>mv h27 rfl fun _ h28=>h28.sk [4,15,7,6,0,1] rfl fun h29=>mv h29 rfl fun _ h30=>h30.sn [5,4,7,6,0,1] rfl fun h31=>hK7 _ _<|wp_ret ?_
  try simp only [Exit.then,Exit.inBlock]
  refine By (v:=.tuple #[ν 0,ν 15]) (Gc h31 rfl rfl rfl) h31.defs ?_
  exact ⟨by unfold AL;rw [Nq hc1],Sep.tail_un (xs:=[_,_]) s3⟩
theorem XL {w:World} {R:List Ch} {mx:Nat} {K:VolK} {ta:Ω} {tc:Nat} {M:MemM} {P:List PtM} {X:Λ} (hS0:Sep w ([Ab mx 99 [π K.tg],txP K ta tc M P]++R)) (hM:M.V.length=23168) (hX:X.length≤1000) :
  CallsR prog 70 #[π mx,σ X] w (fun v w'=>v=.tuple #[ν (Ey M P X).1,.agg (Ak (Ey M P X).2.1).toArray,ν (Ey M P X).2.2]∧Sep w' ([Ab mx 99 [π K.tg],txP K ta tc M P]++R)):=by
 have hS:Sep w [Ab mx 99 [π K.tg],txP K ta tc M P,Ch.many R]:=Sep.tail_many (xs:=[_,_]) hS0;clear hS0
 refine AG func70 rfl (N:=32) ntmps70 (by show 2≤32;decide) [(0,π mx),(1,σ X)] rfl fun _ h1=>sqr fun _ hK3=>mv h1 rfl fun _ h4=>so (wn rfl) fun _ hK1=>AH h4 rfl rfl rfl rfl (z:=[ν 0,ν 0,ν 0,ν 0,ν 0,ν 0,ν 0,ν 0,ν 0,ν 0,ν 0,ν 0,ν 0,ν 0,ν 0]) (fun _=>rfl) hS fun _ g6 w9 h7 s1 _ _=>hK1 _ _ ?_
 refine mv h7 rfl fun _ h2=>wpList_nil<|hK3 _ _<|sqr fun _ hK2=>mvs 2 h2 rfl fun _ h3=>cl h3 rfl (cF func53) (VX (X:=X) (s1.pk [1,2,0,3] rfl) hM ω) fun _ v1 w2 r1 h5=>?_
 obtain ⟨rfl,s2⟩:=r1
 refine mvs 5 h5 rfl fun _ h6=>h6.sn [8,7,6,5,4,0,1] rfl fun h8=>hK2 _ _<|sq fun _ hK4=>sqr fun _ hK5=>mv h8 rfl fun _ h9=>bv h9 (z:=.bool (decide ((AL M P X).2≠0))) rfl (cNe _ _ _ _ rfl) fun _ h10=>h10.sn [17,8,7,6,5,4,0,1] rfl fun h11=>hK5 _ _ ?_
 rcases bC (decide ((AL M P X).2≠0)) with hc1 | hc1
 ·skip
  have hp1:(AL M P X).2≠0:=(dT hc1)
  refine wcT h11 rfl hc1<|h11.sk [8,7,6,5,4,0,1] rfl fun h12=>sqr fun _ hK6=>bu h12 (v:=.agg (Ak AD).toArray) rfl (fun w=>κ) fun _ h13=>mv h13 rfl fun _ h14=>h14.sk [19,18,8,7,6,5,0,1] rfl fun h15=>mv h15 rfl fun _ h16=>stA h16 s2 2 rfl rfl rfl κ rfl rfl rfl rfl fun _ w3 h17 s3 _=>h17.sk [4,19,18,8,7,5,0,1] rfl fun h18=>mv h18 rfl fun _ h19=>?_
  refine h19.sn [6,4,8,7,5,0,1] rfl fun h20=>hK6 _ _<|wp_ret ?_
  try simp only [Exit.then,Exit.inBlock]
  refine GI (v:=.tuple #[ν 0,.agg (Ak AD).toArray,ν ((AL M P X).2)]) (JY h20 rfl rfl rfl rfl (s3.get 2 rfl:Blk _ _ _ _) υ25 rfl κ) h20.defs ?_
  exact ⟨by unfold Ey;rw [if_pos hp1],Sep.tail_un (xs:=[_,_]) (s3.pk [0,1,3] rfl)⟩
 ·skip
  have hp2:¬ ((AL M P X).2≠0):=(dF hc1)
  refine wcF h11 rfl hc1<|h11.sk [8,7,6,5,4,0,1] rfl fun h21=>wp_skip<|hK4 _ _<|sqr fun _ hK7=>mvs 2 h21 rfl fun _ h22=>cl h22 rfl (cF func8) (Fv (i:=(AL M P X).1) s2 hM) fun _ v2 w4 r2 h23=>?_
  obtain ⟨rfl,s4⟩:=r2
  refine mvs 3 h23 rfl fun _ h24=>so (wn rfl) fun _ hK8=>AH h24 rfl rfl rfl rfl (z:=[ν 0,ν 0,ν 0,ν 0,ν 0,ν 0,ν 0,ν 0,ν 0,ν 0,ν 0,ν 0,ν 0,ν 0,ν 0]) (fun _=>rfl) s4 fun _ g1 w5 h25 s5 _ _=>hK8 _ _ ?_
  refine stA h25 s5 0 rfl rfl rfl κ rfl rfl rfl rfl fun _ w6 h26 s6 _=>h26.sk [9,25,24,20,23,22,21,7,6,5,4,0,1] rfl fun h27=>mv h27 rfl fun _ h28=>h28.sn [8,9,7,6,5,4,0,1] rfl fun h29=>hK7 _ _<|sq fun _ hK9=>sqr fun _ hK10=>mv h29 rfl fun _ h30=>bv h30 (z:=.bool (decide (AR M P ((AL M P X).1)≠0))) rfl (cNe _ _ _ _ rfl) fun _ h31=>h31.sn [27,8,9,7,6,5,4,0,1] rfl fun h32=>hK10 _ _ ?_
  rcases bC (decide (AR M P ((AL M P X).1)≠0)) with hc2 | hc2
  ·skip
   have hp3:AR M P ((AL M P X).1)≠0:=(dT hc2)
   refine wcT h32 rfl hc2<|h32.sk [8,9,7,6,5,4,0,1] rfl fun h33=>sqr fun _ hK11=>bu h33 (v:=.agg (Ak AD).toArray) rfl (fun w=>κ) fun _ h34=>mv h34 rfl fun _ h35=>h35.sk [29,28,8,9,7,6,5,0,1] rfl fun h36=>mv h36 rfl fun _ h37=>stA h37 s6 3 rfl rfl rfl κ rfl rfl rfl rfl fun _ w7 h38 s7 _=>h38.sk [4,29,28,8,9,7,5,0,1] rfl fun h39=>mv h39 rfl fun _ h40=>?_
   refine h40.sn [6,4,8,9,7,5,0,1] rfl fun h41=>hK11 _ _<|wp_ret ?_
   try simp only [Exit.then,Exit.inBlock]
   refine GI (v:=.tuple #[ν 0,.agg (Ak AD).toArray,ν (AR M P ((AL M P X).1))]) (JY h41 rfl rfl rfl rfl (s7.get 3 rfl:Blk _ _ _ _) υ25 rfl κ) h41.defs ?_
   exact ⟨by unfold Ey;rw [if_neg hp2,if_pos hp3],Sep.tail_un (xs:=[_,_]) (s7.pk [1,2,4] rfl)⟩
  ·skip
   have hp4:¬ (AR M P ((AL M P X).1)≠0):=(dF hc2)
   refine wcF h32 rfl hc2<|h32.sk [8,9,7,6,5,4,0,1] rfl fun h42=>wp_skip<|hK9 _ _<|sq fun _ hK12=>?_
   have s8:=s6.drew
   refine wp_region_held_drew (S:=fun w'=>Sep w' [Ab g1 25 (Ak (Al M P ((AL M P X).1))),Ab mx 99 [π K.tg],txP K ta tc M P,Ch.many R]) κ (s8.pk [0,1,2,4] rfl) (fun hq1=>?_)
   refine tv1 hq1 h42 0 rfl rfl (fun w1 _=>(Au h42 rfl rfl) w1) fun _ h43=>?_
   refine tv1 hq1 h43 1 rfl rfl (fun w1 hSw=>(rld h43 rfl rfl (ldA υ25 rfl (n:=15) κ (hSw.get 0 rfl:Blk _ _ _ _) rfl rfl))) fun _ h44=>?_
   refine h44.sk [31,30,8,9,7,6,5,0,1] rfl fun h45=>?_
   refine tv1 hq1 h45 2 rfl rfl (fun w1 _=>(BH h45 rfl rfl) w1) fun _ h46=>?_
   refine to_ 3 rfl (wn rfl) κ fun _ hK13=>FN h46 rfl rfl s8 3 rfl rfl rfl [ν ((Al M P ((AL M P X).1)).k),ν ((Al M P ((AL M P X).1)).l),ν ((Al M P ((AL M P X).1)).s),ν ((Al M P ((AL M P X).1)).b0),ν ((Al M P ((AL M P X).1)).b1),ν ((Al M P ((AL M P X).1)).b2),ν ((Al M P ((AL M P X).1)).b3),ν ((Al M P ((AL M P X).1)).o0),ν ((Al M P ((AL M P X).1)).o1),ν ((Al M P ((AL M P X).1)).o2),ν ((Al M P ((AL M P X).1)).o3),ν ((Al M P ((AL M P X).1)).o4),ν ((Al M P ((AL M P X).1)).o5),ν ((Al M P ((AL M P X).1)).o6),ν ((Al M P ((AL M P X).1)).o7)] rfl κ rfl (by show 0+15≤15;decide) (L':=[ν ((Al M P ((AL M P X).1)).k),ν ((Al M P ((AL M P X).1)).l),ν ((Al M P ((AL M P X).1)).s),ν ((Al M P ((AL M P X).1)).b0),ν ((Al M P ((AL M P X).1)).b1),ν ((Al M P ((AL M P X).1)).b2),ν ((Al M P ((AL M P X).1)).b3),ν ((Al M P ((AL M P X).1)).o0),ν ((Al M P ((AL M P X).1)).o1),ν ((Al M P ((AL M P X).1)).o2),ν ((Al M P ((AL M P X).1)).o3),ν ((Al M P ((AL M P X).1)).o4),ν ((Al M P ((AL M P X).1)).o5),ν ((Al M P ((AL M P X).1)).o6),ν ((Al M P ((AL M P X).1)).o7)]) rfl (cs':=[Ab g1 25 (Ak (Al M P ((AL M P X).1))),Ab mx 99 [π K.tg],txP K ta tc M P,Ab g6 25 (Ak (Al M P ((AL M P X).1))),Ch.many R]) rfl fun _ w8 h47 s9 _=>?_
   refine hK13 _ _ (s9.pk [0,1,2,4] rfl) fun hq2=>h47.sk [4,31,30,8,9,7,5,0,1] rfl fun h48=>?_
   refine tv1 hq2 h48 4 rfl rfl (fun w1 _=>(BH h48 rfl rfl) w1) fun _ h49=>?_
   refine h49.sk [6,4,8,9,7,5,0,1] rfl fun h50=>?_
   refine wpAnyH_done κ ?_ _
   refine hK12 _ _ ?_
   refine wp_ret ?_
   try simp only [Exit.then,Exit.inBlock]
   refine GI (v:=.tuple #[ν ((AL M P X).1),.agg (Ak (Al M P ((AL M P X).1))).toArray,ν 0]) (JY h50 rfl rfl rfl rfl (s9.get 3 rfl:Blk _ _ _ _) υ25 rfl κ) h50.defs ?_
   exact ⟨by unfold Ey;rw [if_neg hp2,if_neg hp4],Sep.tail_un (xs:=[_,_]) (s9.pk [1,2,4] rfl)⟩
theorem Aaq {w:World} {R:List Ch} {mx:Nat} {K:VolK} {ta:Ω} {tc:Nat} {M:MemM} {P:List PtM} {X:Λ} (hS0:Sep w ([Ab mx 99 [π K.tg],txP K ta tc M P]++R)) (hM:M.V.length=23168) (hX:X.length≤1000) :
  CallsR prog 67 #[π mx,σ X] w (fun v w'=>v=.tuple #[ν (Eb M P X).1,.string (Eb M P X).2.1,ν (Eb M P X).2.2]∧Sep w' ([Ab mx 99 [π K.tg],txP K ta tc M P]++R)):=by
 have hS:Sep w [Ab mx 99 [π K.tg],txP K ta tc M P,Ch.many R]:=Sep.tail_many (xs:=[_,_]) hS0;clear hS0
 refine AG func67 rfl (N:=49) ntmps67 (by show 2≤49;decide) [(0,π mx),(1,σ X)] rfl fun _ h1=>sqr fun _ hK3=>mvs 3 h1 rfl fun _ h8=>wpList_nil<|hK3 _ _<|sqr fun _ hK1=>mv h8 rfl fun _ h2=>?_
 rcases bC ((Fw X).isSome) with hc1 | hc1
 ·skip
  obtain ⟨L15,x16,hp1⟩:=IA hc1
  have hp17l:=LS hp1;rw [List.length_append] at hp17l
  refine cl h2 rfl (cF func100) (Ov hS X ω hp1) fun _ v1 w1 r1 h3=>?_
  obtain ⟨pa_x18,rfl,s1⟩:=r1
  refine mvs 7 h3 rfl fun _ h4=>h4.sn [9,8,7,6,5,4,0,1] rfl fun h5=>hK1 _ _<|sq fun _ hK2=>sqr fun _ hK4=>mv h5 rfl fun _ h6=>bv h6 rfl (cNe _ _ _ _ rfl) fun _ h7=>h7.sn [20,9,8,7,6,5,4,0,1] rfl fun h9=>hK4 _ _<|wcF h9 rfl rfl<|h9.sk [9,8,7,6,5,4,0,1] rfl fun h10=>?_
  refine wp_skip<|hK2 _ _<|sqr fun _ hK5=>mvs 2 h10 rfl fun _ h11=>cl h11 rfl (cF func87) (YX s1 hM ω (US hp1)) fun _ v2 w2 r2 h12=>?_
  obtain ⟨rfl,s2⟩:=r2
  refine mvs 4 h12 rfl fun _ h13=>h13.sk [10,27,26,22,25,24,23,8,7,6,5,4,0,1] rfl fun h14=>mv h14 rfl fun _ h15=>h15.sn [9,10,8,7,6,5,4,0,1] rfl fun h16=>hK5 _ _<|sq fun _ hK6=>sqr fun _ hK7=>mv h16 rfl fun _ h17=>bv h17 (z:=.bool (decide ((AV M P L15).2≠0))) rfl (cNe _ _ _ _ rfl) fun _ h18=>h18.sn [29,9,10,8,7,6,5,4,0,1] rfl fun h19=>hK7 _ _ ?_
  rcases bC (decide ((AV M P L15).2≠0)) with hc2 | hc2
  ·skip
   have hp2:(AV M P L15).2≠0:=(dT hc2)
   refine wcT h19 rfl hc2<|h19.sk [9,10,8,7,6,5,4,0,1] rfl fun h20=>sqr fun _ hK8=>mv h20 rfl fun _ h21=>h21.sk [30,9,10,8,7,6,5,0,1] rfl fun h22=>mv h22 rfl fun _ h23=>h23.sk [4,30,9,10,8,7,6,0,1] rfl fun h24=>mv h24 rfl fun _ h25=>h25.sk [5,4,30,9,10,8,7,0,1] rfl fun h26=>mv h26 rfl fun _ h27=>?_
   refine h27.sn [6,5,4,9,10,8,7,0,1] rfl fun h28=>hK8 _ _<|wp_ret ?_
   try simp only [Exit.then,Exit.inBlock]
   refine By (v:=.tuple #[ν 0,σ [],ν ((AV M P L15).2)]) (Aa2 h28 rfl rfl rfl rfl) h28.defs ?_
   exact ⟨by rw [Fy hp1,if_pos hp2];rfl,Sep.tail_un (xs:=[_,_]) (s2.pk [1,2,3] rfl)⟩
  ·skip
   have hp3:¬ ((AV M P L15).2≠0):=(dF hc2)
   refine wcF h19 rfl hc2<|h19.sk [9,10,8,7,6,5,4,0,1] rfl fun h29=>wp_skip<|hK6 _ _<|sq fun _ hK9=>sqr fun _ hK10=>mvs 2 h29 rfl fun _ h30=>cl h30 rfl (cF func8) (Fv (i:=(AV M P L15).1) (s2.pk [1,2,0,3] rfl) hM) fun _ v3 w3 r3 h31=>?_
   obtain ⟨rfl,s3⟩:=r3
   refine mvs 3 h31 rfl fun _ h32=>so (wn rfl) fun _ hK11=>AH h32 rfl rfl rfl rfl (z:=[ν 0,ν 0,ν 0,ν 0,ν 0,ν 0,ν 0,ν 0,ν 0,ν 0,ν 0,ν 0,ν 0,ν 0,ν 0]) (fun _=>rfl) s3 fun _ g1 w4 h33 s4 _ _=>hK11 _ _ ?_
   refine stA h33 s4 0 rfl rfl rfl κ rfl rfl rfl rfl fun _ w5 h34 s5 _=>mv h34 rfl fun _ h35=>h35.sn [12,11,9,10,8,7,6,5,4,0,1] rfl fun h36=>hK10 _ _<|sqr fun _ hK12=>mv h36 rfl fun _ h37=>bv h37 (z:=.bool (decide (AR M P ((AV M P L15).1)≠0))) rfl (cNe _ _ _ _ rfl) fun _ h38=>mv h38 rfl fun _ h39=>sg h39 (wF h39 rfl rfl rfl) rfl rfl rfl (fun hC1=>rfa h39 rfl rfl (fQ 0) _) fun _ h40=>sg h40 (wF h40 rfl rfl rfl) rfl rfl rfl (fun hC2=>(rld h40 rfl (opg rfl hC2) (ldB υ3 rfl (s5.get 0 rfl:Blk _ _ _ _) rfl))) fun _ h41=>?_
   refine sg h41 (wF h41 rfl rfl rfl) rfl rfl rfl (fun hC3=>BR h41 rfl (opg rfl hC3) rfl (cNe _ _ _ _ rfl) _) fun _ h42=>sv1 h42 rfl (Hg h42 rfl (E:=(decide (AR M P ((AV M P L15).1)≠0))) (F:=(decide ((Al M P ((AV M P L15).1)).k≠2))) rfl rfl rfl (fun e=>if_pos (by rw [e];try rfl))) fun _ h43=>h43.sn [43,12,11,9,10,8,7,6,5,4,0,1] rfl fun h44=>hK12 _ _ ?_
   rcases bC ((decide (AR M P ((AV M P L15).1)≠0))||(decide ((Al M P ((AV M P L15).1)).k≠2))) with hc3 | hc3
   ·skip
    have hp4:(AR M P ((AV M P L15).1)≠0)∨((Al M P ((AV M P L15).1)).k≠2):=((orT hc3).imp (fun q=>(dT q)) (fun q=>(dT q)))
    refine wcT h44 rfl hc3<|h44.sk [12,11,9,10,8,7,6,5,4,0,1] rfl fun h45=>sqr fun _ hK13=>mv h45 rfl fun _ h46=>so (wn rfl) fun _ hK14=>CB h46 rfl rfl rfl (E:=31) (xs:=[(0,.tmp 44),(1,.const (ν 12))]) rfl (vs:=[(0,ν (AR M P ((AV M P L15).1))),(1,ν 12)]) rfl (z:=[ν (AR M P ((AV M P L15).1)),ν 12]) (fun _=>κ) s5 fun _ g2 w6 h47 s6 _ _=>hK14 _ _ ?_
    refine cl h47 rfl (cF func38) (CI (L:=[AR M P ((AV M P L15).1),12]) s6 (Nat.le_of_ble_eq_true rfl)) fun _ v4 w7 r4 h48=>?_
    obtain ⟨rfl,s7⟩:=r4
    refine h48.sk [46,45,44,12,11,9,10,8,7,6,5,0,1] rfl fun h49=>mv h49 rfl fun _ h50=>h50.sk [4,46,45,44,12,11,9,10,8,7,6,0,1] rfl fun h51=>mv h51 rfl fun _ h52=>h52.sk [5,4,46,45,44,12,11,9,10,8,7,0,1] rfl fun h53=>mv h53 rfl fun _ h54=>h54.sn [6,5,4,12,11,9,10,8,7,0,1] rfl fun h55=>hK13 _ _<|wp_ret ?_
    try simp only [Exit.then,Exit.inBlock]
    refine By (v:=.tuple #[ν 0,σ [],ν (AC [AR M P ((AV M P L15).1),12])]) (Aa2 h55 rfl rfl rfl rfl) h55.defs ?_
    exact ⟨by rw [Fy hp1,if_neg hp3];exact Vg hp4,Sep.tail_un (xs:=[_,_]) (s7.pk [2,3,5] rfl)⟩
   ·skip
    have hp5:(¬ (AR M P ((AV M P L15).1)≠0))∧(¬ ((Al M P ((AV M P L15).1)).k≠2)):=(And.intro (dF (orF hc3).1) (dF (orF hc3).2))
    refine wcF h44 rfl hc3<|h44.sk [12,11,9,10,8,7,6,5,4,0,1] rfl fun h56=>wp_skip<|hK9 _ _<|sqr fun _ hK15=>mvs 2 h56 rfl fun _ h57=>h57.sk [48,47,12,11,9,10,8,7,6,5,0,1] rfl fun h58=>mv h58 rfl fun _ h59=>h59.sk [4,48,47,12,11,9,10,8,7,6,0,1] rfl fun h60=>mv h60 rfl fun _ h61=>h61.sk [5,4,48,47,12,11,9,10,8,7,0,1] rfl fun h62=>?_
    refine mv h62 rfl fun _ h63=>h63.sn [6,5,4,12,11,9,10,8,7,0,1] rfl fun h64=>hK15 _ _<|wp_ret ?_
    try simp only [Exit.then,Exit.inBlock]
    refine By (v:=.tuple #[ν ((AV M P L15).1),.string x16,ν 0]) (Aa2 h64 rfl rfl rfl rfl) h64.defs ?_
    exact ⟨by rw [Fy hp1,if_neg hp3,if_neg hp5.1,if_neg hp5.2],Sep.tail_un (xs:=[_,_]) (s5.pk [1,2,4] rfl)⟩
 ·skip
  refine cl h2 rfl (cF func100) (PY hS X ω hc1) fun _ v5 w8 r5 h65=>?_
  obtain ⟨rfl,s8⟩:=r5
  refine mvs 7 h65 rfl fun _ h66=>h66.sn [9,8,7,6,5,4,0,1] rfl fun h67=>hK1 _ _<|sq fun _ hK16=>sqr fun _ hK17=>mv h67 rfl fun _ h68=>bv h68 rfl (cNe _ _ _ _ rfl) fun _ h69=>h69.sn [20,9,8,7,6,5,4,0,1] rfl fun h70=>hK17 _ _<|wcT h70 rfl rfl<|h70.sk [9,8,7,6,5,4,0,1] rfl fun h71=>?_
  refine sqr fun _ hK18=>mv h71 rfl fun _ h72=>h72.sk [21,9,8,7,6,5,0,1] rfl fun h73=>mv h73 rfl fun _ h74=>h74.sk [4,21,9,8,7,6,0,1] rfl fun h75=>mv h75 rfl fun _ h76=>h76.sk [5,4,21,9,8,7,0,1] rfl fun h77=>mv h77 rfl fun _ h78=>h78.sn [6,5,4,9,8,7,0,1] rfl fun h79=>hK18 _ _ ?_
  refine wp_ret ?_
  try simp only [Exit.then,Exit.inBlock]
  refine By (v:=.tuple #[ν 0,σ [],ν 15]) (Aa2 h79 rfl rfl rfl rfl) h79.defs ?_
  exact ⟨by rw [Qc hc1];rfl,Sep.tail_un (xs:=[_,_]) s8⟩
theorem Ac3 {w:World} {R:List Ch} {mx:Nat} {K:VolK} {ta:Ω} {tc:Nat} {M:MemM} {P:List PtM} (hS0:Sep w ([Ab mx 99 [π K.tg],txP K ta tc M P]++R)) (hM:M.V.length=23168)  :
  CallsR prog 101 #[π mx] w (fun v w'=>v=.tuple #[ν (Hb M P).1,ν (Hb M P).2]∧Sep w' ([Ab mx 99 [π K.tg],txP K ta tc M P]++R)):=by
 have hS:Sep w [Ab mx 99 [π K.tg],txP K ta tc M P,Ch.many R]:=Sep.tail_many (xs:=[_,_]) hS0;clear hS0
 refine AG func101 rfl (N:=27) ntmps101 (by show 1≤27;decide) [(0,π mx)] rfl fun _ h1=>sqr fun _ hK3=>mvs 2 h1 rfl fun _ h6=>wpList_nil<|hK3 _ _<|sq fun _ hK8=>sqr fun _ hK9=>mv h6 rfl fun _ h2=>wpList_nil<|hK9 _ _<|wp_block ?_
 refine CF (fun (k:Nat) a' w'=>Kn 27 [(7,ν (k:Int)),(3,ν 0),(2,ν 0),(0,π mx)] a'∧Sep w' [Ab mx 99 [π K.tg],txP K ta tc M P,Ch.many R]∧(k≤32)∧(∀ j,j<k→¬ (AR M P ((j:Int)+1)=0∧(Al M P ((j:Int)+1)).k=0))) (fun (k:Nat)=>32-k) 0 ⟨h2.subs rfl,hS,Nat.zero_le _,(fun j hj=>absurd hj (Nat.not_lt_zero _))⟩ ?_
 rintro k1 a1 w1 ⟨h3,s1,hk17,hn18⟩ K1 hK1
 refine sqr fun _ hK2=>bv h3 (z:=.bool (decide ((k1:Int)<32))) rfl (cLt _ _ _ _ rfl) fun _ h4=>wpList_nil<|hK2 _ _<|sq fun _ hK4=>?_
 rcases bC (decide ((k1:Int)<32)) with hc1 | hc1
 ·skip
  have hp1:(k1:Int)<32:=(dT hc1)
  refine wcT h4 rfl hc1<|h4.sk [7,3,2,0] rfl fun h5=>wp_skip<|hK4 _ _<|sq fun _ hK5=>wp_block ?_
  refine sqr fun _ hK6=>mvs 2 h5 rfl fun _ h7=>h7.sn [4,7,3,2,0] rfl fun h8=>hK6 _ _<|sqr fun _ hK7=>mvs 2 h8 rfl fun _ h9=>bv h9 (z:=ν ((k1+1:Nat):Int)) rfl (DE _ _ _ ω ω ω) fun _ h10=>cl h10 rfl (cF func8) (Fv (i:=((k1+1:Nat):Int)) s1 hM) fun _ v1 w2 r1 h11=>?_
  obtain ⟨rfl,s2⟩:=r1
  refine mvs 3 h11 rfl fun _ h12=>so (wn rfl) fun _ hK10=>AH h12 rfl rfl rfl rfl (z:=[ν 0,ν 0,ν 0,ν 0,ν 0,ν 0,ν 0,ν 0,ν 0,ν 0,ν 0,ν 0,ν 0,ν 0,ν 0]) (fun _=>rfl) s2 fun _ g1 w3 h13 s3 _ _=>hK10 _ _ ?_
  refine stA h13 s3 0 rfl rfl rfl κ rfl rfl rfl rfl fun _ w4 h14 s4 _=>mv h14 rfl fun _ h15=>h15.sn [6,5,4,7,3,2,0] rfl fun h16=>hK7 _ _<|sqr fun _ hK11=>mv h16 rfl fun _ h17=>bv h17 (z:=.bool (decide (AR M P ((k1+1:Nat):Int)=0))) rfl (cEq _ _ _ _ rfl) fun _ h18=>mv h18 rfl fun _ h19=>sg h19 (wT h19 rfl rfl rfl) rfl rfl rfl (fun hC1=>rfa h19 rfl rfl (fQ 0) _) fun _ h20=>sg h20 (wT h20 rfl rfl rfl) rfl rfl rfl (fun hC2=>(rld h20 rfl (opg rfl hC2) (ldB υ3 rfl (s4.get 0 rfl:Blk _ _ _ _) rfl))) fun _ h21=>?_
  refine sg h21 (wT h21 rfl rfl rfl) rfl rfl rfl (fun hC3=>BR h21 rfl (opg rfl hC3) rfl (cEq _ _ _ _ rfl) _) fun _ h22=>sv1 h22 rfl (OE h22 rfl (E:=(decide (AR M P ((k1+1:Nat):Int)=0))) (F:=(decide ((Al M P ((k1+1:Nat):Int)).k=0))) rfl rfl rfl (fun e=>if_pos (by rw [e];try rfl))) fun _ h23=>h23.sn [23,6,5,4,7,3,2,0] rfl fun h24=>hK11 _ _ ?_
  rcases bC ((decide (AR M P ((k1+1:Nat):Int)=0))&&(decide ((Al M P ((k1+1:Nat):Int)).k=0))) with hc2 | hc2
  ·skip
   have hp2:(AR M P ((k1+1:Nat):Int)=0)∧((Al M P ((k1+1:Nat):Int)).k=0):=(And.intro (dT (ON hc2).1) (dT (ON hc2).2))
   refine wcT h24 rfl hc2<|h24.sk [6,5,4,7,3,2,0] rfl fun h25=>sqr fun _ hK12=>mv h25 rfl fun _ h26=>bv h26 (z:=ν ((k1+1:Nat):Int)) rfl (DE _ _ _ ω ω ω) fun _ h27=>h27.sk [25,24,6,5,4,7,3,0] rfl fun h28=>mv h28 rfl fun _ h29=>h29.sk [2,25,24,6,5,4,7,0] rfl fun h30=>mv h30 rfl fun _ h31=>h31.sk [3,2,6,5,4,7,0] rfl fun h32=>?_
   refine wpList_nil<|hK12 _ _<|wp_ret ?_
   try simp only [Exit.then,Exit.inBlock]
   refine By (v:=.tuple #[ν ((k1+1:Nat):Int),ν 0]) (Gc h32 rfl rfl rfl) h32.defs ?_
   exact ⟨by rw [Nv ω hn18 hp2];rfl,Sep.tail_un (xs:=[_,_]) (s4.pk [1,2,3] rfl)⟩
  ·skip
   have hp3:(¬ (AR M P ((k1+1:Nat):Int)=0))∨(¬ ((Al M P ((k1+1:Nat):Int)).k=0)):=((Ab5 hc2).imp (fun q=>(dF q)) (fun q=>(dF q)))
   refine wcF h24 rfl hc2<|h24.sk [6,5,4,7,3,2,0] rfl fun h33=>wp_skip<|hK5 _ _<|wp_region_lit<|bv h33 (z:=ν ((k1+1:Nat):Int)) rfl (DE _ _ _ ω ω ω) fun _ h34=>h34.sk [26,6,5,4,3,2,0] rfl fun h35=>mv h35 rfl fun _ h36=>h36.sk [7,6,5,4,3,2,0] rfl fun h37=>wpList_nil ?_
   exact hK1 (k1+1) _ _ ⟨h37.subs rfl,(s4.pk [1,2,3] rfl),ω,(UV hn18 ω hp3)⟩ ω
 ·skip
  have hp4:¬ ((k1:Int)<32):=(dF hc1)
  refine wcF h4 rfl hc1<|h4.sk [7,3,2,0] rfl fun h38=>wp_exit ?_
  refine hK8 _ _ ?_
  refine sqr fun _ hK13=>h38.sk [7,3,0] rfl fun h39=>mv h39 rfl fun _ h40=>h40.sk [2,7,0] rfl fun h41=>mv h41 rfl fun _ h42=>wpList_nil<|hK13 _ _<|wp_ret ?_
  try simp only [Exit.then,Exit.inBlock]
  refine By (v:=.tuple #[ν 0,ν 18]) (Gc h42 rfl rfl rfl) h42.defs ?_
  exact ⟨by rw [XN (fun j hj=>hn18 j ω)],Sep.tail_un (xs:=[_,_]) s1⟩
theorem Kf {w:World} {R:List Ch} {mx:Nat} {K:VolK} {ta:Ω} {tc:Nat} {M:MemM} {P:List PtM} {i:Int} (hS0:Sep w ([Ab mx 99 [π K.tg],txP K ta tc M P]++R)) (hM:M.V.length=23168)  :
  CallsR prog 126 #[π mx,ν i] w (fun v w'=>v=.tuple #[.agg (Ak (Bl M P i)).toArray,.agg (Am (GS M P i)).toArray,ν (Pf M P i)]∧Sep w' ([Ab mx 99 [π K.tg],txP K ta tc M P]++R)):=by
 have hS:Sep w [Ab mx 99 [π K.tg],txP K ta tc M P,Ch.many R]:=Sep.tail_many (xs:=[_,_]) hS0;clear hS0
 refine AG func126 rfl (N:=30) ntmps126 (by show 2≤30;decide) [(0,π mx),(1,ν i)] rfl fun _ h1=>sqr fun _ hK3=>so (wn rfl) fun _ hK1=>AH h1 rfl rfl rfl rfl (z:=[ν 0,ν 0,ν 0,ν 0,ν 0,ν 0,ν 0,ν 0,ν 0,ν 0,ν 0,ν 0,ν 0,ν 0,ν 0]) (fun _=>rfl) hS fun _ g4 w7 h5 s8 _ _=>hK1 _ _ ?_
 refine so (wn rfl) fun _ hK2=>AH h5 rfl rfl rfl rfl (z:=Am AB) (fun _=>rfl) s8 fun _ g1 w2 h2 s1 _ _=>hK2 _ _ ?_
 refine mv h2 rfl fun _ h3=>wpList_nil<|hK3 _ _<|sqr fun _ hK4=>mvs 2 h3 rfl fun _ h4=>cl h4 rfl (cF func54) (OJ (i:=i) (s1.pk [2,3,0,1,4] rfl) hM) fun _ v1 w3 r1 h6=>?_
 obtain ⟨rfl,s2⟩:=r1
 refine mvs 3 h6 rfl fun _ h7=>so (wn rfl) fun _ hK5=>AH h7 rfl rfl rfl rfl (z:=Am AB) (fun _=>rfl) s2 fun _ g2 w4 h8 s3 _ _=>hK5 _ _ ?_
 refine so (wn rfl) fun _ hK6=>Fj h8 rfl rfl s3 0 rfl (by first | exact Aq | exact Ag _ _ _ _ | exact AA (Ag _ _ _ _) _ _ | exact Ah _ _ _ | (rw [Az];exact Ah _ _ _) | assumption) (by first | exact Aq | exact Ag _ _ _ _ | exact AA (Ag _ _ _ _) _ _ | exact Ah _ _ _ | (rw [Az];exact Ah _ _ _) | assumption) rfl rfl (cs':=[Ab g2 111 (Am (An M P i)),Ab mx 99 [π K.tg],txP K ta tc M P,Ab g1 111 (Am AB),Ab g4 25 (Ak AD),Ch.many R]) rfl fun _ w5 h9 s4 _=>hK6 _ _ ?_
 refine mv h9 rfl fun _ h10=>h10.sn [8,7,6,5,4,0,1] rfl fun h11=>hK4 _ _<|sq fun _ hK7=>sqr fun _ hK8=>mv h11 rfl fun _ h12=>bv h12 (z:=.bool (decide (Bp M P i≠0))) rfl (cNe _ _ _ _ rfl) fun _ h13=>h13.sn [17,8,7,6,5,4,0,1] rfl fun h14=>hK8 _ _ ?_
 rcases bC (decide (Bp M P i≠0)) with hc1 | hc1
 ·skip
  have hp1:Bp M P i≠0:=(dT hc1)
  refine wcT h14 rfl hc1<|h14.sk [8,7,6,5,4,0,1] rfl fun h15=>sqr fun _ hK9=>bu h15 (v:=.agg (Ak AD).toArray) rfl (fun w=>κ) fun _ h16=>bu h16 (v:=.agg ((Am AB).toArray)) rfl (fun w=>κ) fun _ h17=>mv h17 rfl fun _ h18=>stA h18 s4 4 rfl rfl rfl κ rfl rfl rfl rfl fun _ w6 h19 s5 _=>so (wn rfl) fun _ hK10=>Fj h19 rfl rfl s5 3 rfl (by first | exact Aq | exact Ag _ _ _ _ | exact AA (Ag _ _ _ _) _ _ | exact Ah _ _ _ | (rw [Az];exact Ah _ _ _) | assumption) (by first | exact Aq | exact Ag _ _ _ _ | exact AA (Ag _ _ _ _) _ _ | exact Ah _ _ _ | (rw [Az];exact Ah _ _ _) | assumption) rfl rfl (cs':=[Ab g2 111 (Am (An M P i)),Ab mx 99 [π K.tg],txP K ta tc M P,Ab g1 111 (Am AB),Ab g4 25 (Ak AD),Ch.many R]) rfl fun _ w8 h20 s6 _=>hK10 _ _ ?_
  refine h20.sk [20,19,18,8,7,5,4,0,1] rfl fun h21=>mv h21 rfl fun _ h22=>h22.sn [6,8,7,5,4,0,1] rfl fun h23=>hK9 _ _<|wp_ret ?_
  try simp only [Exit.then,Exit.inBlock]
  refine GI (v:=.tuple #[.agg (Ak AD).toArray,.agg ((Am AB).toArray),ν (Bp M P i)]) (Qn h23 rfl rfl rfl rfl (s6.get 4 rfl:Blk _ _ _ _) (s6.get 3 rfl:Blk _ _ _ _) υ25 υ111 (by first | exact Aq | exact Ag _ _ _ _ | exact AA (Ag _ _ _ _) _ _ | exact Ah _ _ _ | (rw [Az];exact Ah _ _ _) | assumption)) h23.defs ?_
  exact ⟨by unfold Bl GS Pf;rw [if_pos hp1,if_pos hp1,if_pos hp1],Sep.tail_un (xs:=[_,_]) (s6.pk [1,2,5] rfl)⟩
 ·skip
  have hp2:¬ (Bp M P i≠0):=(dF hc1)
  refine wcF h14 rfl hc1<|h14.sk [8,7,6,5,4,0,1] rfl fun h24=>wp_skip<|hK7 _ _<|sqr fun _ hK11=>mvs 2 h24 rfl fun _ h25=>cl h25 rfl (cF func8) (Fv (i:=i) (s4.pk [1,2,0,3,4,5] rfl) hM) fun _ v2 w9 r2 h26=>?_
  obtain ⟨rfl,s7⟩:=r2
  refine mvs 3 h26 rfl fun _ h27=>so (wn rfl) fun _ hK12=>AH h27 rfl rfl rfl rfl (z:=[ν 0,ν 0,ν 0,ν 0,ν 0,ν 0,ν 0,ν 0,ν 0,ν 0,ν 0,ν 0,ν 0,ν 0,ν 0]) (fun _=>rfl) s7 fun _ g3 w10 h28 s9 _ _=>hK12 _ _ ?_
  refine stA h28 s9 0 rfl rfl rfl κ rfl rfl rfl rfl fun _ w11 h29 s10 _=>h29.sk [9,26,25,21,24,23,22,7,6,5,4,0,1] rfl fun h30=>mv h30 rfl fun _ h31=>h31.sn [8,9,7,6,5,4,0,1] rfl fun h32=>hK11 _ _<|sq fun _ hK13=>?_
  have s11:=s10.drew
  refine wp_region_held_drew (S:=fun w'=>Sep w' [Ab g3 25 (Ak (Al M P i)),Ab mx 99 [π K.tg],txP K ta tc M P,Ab g2 111 (Am (An M P i)),Ch.many R]) κ (s11.pk [0,1,2,3,6] rfl) (fun hq1=>?_)
  refine tv1 hq1 h32 0 rfl rfl (fun w1 hSw=>(rld h32 rfl rfl (ldA υ25 rfl (n:=15) κ (hSw.get 0 rfl:Blk _ _ _ _) rfl rfl))) fun _ h33=>?_
  refine tv1 hq1 h33 1 rfl rfl (fun w1 hSw=>(rld h33 rfl rfl (Fb υ111 (hSw.get 3 rfl:Blk _ _ _ _) (by first | exact Aq | exact Ag _ _ _ _ | exact AA (Ag _ _ _ _) _ _ | exact Ah _ _ _ | (rw [Az];exact Ah _ _ _) | assumption)))) fun _ h34=>?_
  refine tv1 hq1 h34 2 rfl rfl (fun w1 _=>(Au h34 rfl rfl) w1) fun _ h35=>?_
  refine to_ 3 rfl (wn rfl) κ fun _ hK14=>FN h35 rfl rfl s11 5 rfl rfl rfl [ν ((Al M P i).k),ν ((Al M P i).l),ν ((Al M P i).s),ν ((Al M P i).b0),ν ((Al M P i).b1),ν ((Al M P i).b2),ν ((Al M P i).b3),ν ((Al M P i).o0),ν ((Al M P i).o1),ν ((Al M P i).o2),ν ((Al M P i).o3),ν ((Al M P i).o4),ν ((Al M P i).o5),ν ((Al M P i).o6),ν ((Al M P i).o7)] rfl κ rfl (by show 0+15≤15;decide) (L':=[ν ((Al M P i).k),ν ((Al M P i).l),ν ((Al M P i).s),ν ((Al M P i).b0),ν ((Al M P i).b1),ν ((Al M P i).b2),ν ((Al M P i).b3),ν ((Al M P i).o0),ν ((Al M P i).o1),ν ((Al M P i).o2),ν ((Al M P i).o3),ν ((Al M P i).o4),ν ((Al M P i).o5),ν ((Al M P i).o6),ν ((Al M P i).o7)]) rfl (cs':=[Ab g3 25 (Ak (Al M P i)),Ab mx 99 [π K.tg],txP K ta tc M P,Ab g2 111 (Am (An M P i)),Ab g1 111 (Am AB),Ab g4 25 (Ak (Al M P i)),Ch.many R]) rfl fun _ w12 h36 s12 _=>?_
  refine hK14 _ _ (s12.pk [0,1,2,3,6] rfl) fun hq2=>?_
  refine to_ 4 rfl (wn rfl) κ fun _ hK15=>Fj h36 rfl rfl s12 4 rfl (by first | exact Aq | exact Ag _ _ _ _ | exact AA (Ag _ _ _ _) _ _ | exact Ah _ _ _ | (rw [Az];exact Ah _ _ _) | assumption) (by first | exact Aq | exact Ag _ _ _ _ | exact AA (Ag _ _ _ _) _ _ | exact Ah _ _ _ | (rw [Az];exact Ah _ _ _) | assumption) rfl rfl (cs':=[Ab g3 25 (Ak (Al M P i)),Ab mx 99 [π K.tg],txP K ta tc M P,Ab g2 111 (Am (An M P i)),Ab g1 111 (Am (An M P i)),Ab g4 25 (Ak (Al M P i)),Ch.many R]) rfl fun _ w13 h37 s13 _=>?_
  refine hK15 _ _ (s13.pk [0,1,2,3,6] rfl) fun hq3=>h37.sk [29,28,27,8,9,7,5,4,0,1] rfl fun h38=>?_
  refine tv1 hq3 h38 5 rfl rfl (fun w1 _=>(BH h38 rfl rfl) w1) fun _ h39=>?_
  refine h39.sk [6,8,9,7,5,4,0,1] rfl fun h40=>?_
  refine wpAnyH_done κ ?_ _
  refine hK13 _ _ ?_
  refine wp_ret ?_
  try simp only [Exit.then,Exit.inBlock]
  refine GI (v:=.tuple #[.agg (Ak (Al M P i)).toArray,.agg ((Am (An M P i)).toArray),ν (AR M P i)]) (Qn h40 rfl rfl rfl rfl (s13.get 5 rfl:Blk _ _ _ _) (s13.get 4 rfl:Blk _ _ _ _) υ25 υ111 (by first | exact Aq | exact Ag _ _ _ _ | exact AA (Ag _ _ _ _) _ _ | exact Ah _ _ _ | (rw [Az];exact Ah _ _ _) | assumption)) h40.defs ?_
  exact ⟨by unfold Bl GS Pf;rw [if_neg hp2,if_neg hp2,if_neg hp2],Sep.tail_un (xs:=[_,_]) (s13.pk [1,2,6] rfl)⟩
end
end Go.Proofs.YthiplgahhejmcaaGreatDoor
