/- Parts of the proof. -/
import Derived.Lib.ConvBytes
import Derived.Laws.AppendOwn
import Derived.Test.YtjgajoljgepioaaGreatQae
namespace Go.Proofs.YtjgajoljgepioaaGreat
open Go.RowKit
set_option linter.unusedSimpArgs false
set_option linter.unusedVariables false
set_option linter.unusedSectionVars false
set_option maxRecDepth 100000
set_option maxHeartbeats 8000000
section
def rNs (xs:List UInt8):Nat→Nat→Bool→Nat×Bool×List (List UInt8)
  | 0,at_,no=>(at_,no,[])
  | n+1,at_,no=>((rNs xs n (BM xs 1 12 at_ no []).1 (BM xs 1 12 at_ no []).2.1).1,(rNs xs n (BM xs 1 12 at_ no []).1 (BM xs 1 12 at_ no []).2.1).2.1,(BM xs 1 12 at_ no []).2.2::(rNs xs n (BM xs 1 12 at_ no []).1 (BM xs 1 12 at_ no []).2.1).2.2)
def Gc (xs:List UInt8) (s:RM):RM:=if s.no=true then s else match Bp xs s.at_ 1 with
  | none=>⟨s.at_+1,true,s.P⟩
  | some n=>if n≤16 then ⟨(rNs xs n (s.at_+1) false).1,(rNs xs n (s.at_+1) false).2.1,{ s.P with N:=(rNs xs n (s.at_+1) false).2.2 }⟩ else ⟨s.at_+1,true,s.P⟩
theorem Ux (pre:List (List UInt8)) (n j:Nat) (s:List UInt8) (hj:pre.length=j) (hn:j<n):(pre.map AS++List.replicate (n-j) (AS [])).set j (AS s)=(pre++[s]).map AS++List.replicate (n-(j+1)) (AS []):=by
  obtain ⟨k,rfl⟩:∃ k,n=j+(k+1):=⟨n-j-1,ω⟩
  have e1:j+(k+1)-j=k+1:=ω
  have e2:j+(k+1)-(j+1)=k:=ω
  rw [e1,e2,List.set_append_right _ _ (by simp;omega)]
  simp [hj,List.replicate_succ]
def NmP (W0 w:World) (g pk:Nat) (a:Option Addr) (c:Nat) (xs:List UInt8) (s:RM):Prop:=∃ na nc,RdP W0 w g pk a c xs na s.P.N.length nc s∧Own w W0.heap.size 9 1 na s.P.N.length nc (s.P.N.map AS)
theorem Ql {W0 w:World} {g pk:Nat} {a:Option Addr} {c:Nat} {xs:List UInt8} {s:RM} (h:RdP W0 w g pk a c xs none 0 0 s) (hN0:s.P.N=[]) (r0:BB W0 a c xs) (hg:W0.heap.size≤g) (hpk:W0.heap.size≤pk) (hl:xs.length≤1000000) :
    Calls Tryz.prog 110 #[π g,.pointer (some ⟨pk,23,none⟩)] w fun e w'=>e=.returned (.tuple #[])∧NmP W0 w' g pk a c xs (Gc xs s)∧Turns (fun x=>x=g∨x=pk) w w':=by
  obtain ⟨h1,h2,h3,h4⟩:=h
  have hne:pk≠g:=CR h3 h1 (by decide)
  have hgl:=h1.lt
  have hpl:=h3.lt
  have hW0:=h4.size
  have c23:w.cell? ⟨pk,23,none⟩=some (.slice none 0 0):=h3.cell (i:=23) (by show 23<43;omega)
  obtain ⟨w1,hw1,b1,s1,kn,ka⟩:=KD w 0
  have hN:=ER (w:=w1) (s:=⟨s.at_,s.no,[ν 0]⟩) (show CoG w1 g a c xs s.at_ s.no from Blk.mono h1 b1) r0 (h4.trans (b1.mono hW0)) hg h2 hl 1 (by decide) (some ⟨w.heap.size+1,0,none⟩) 1 w.heap.size 3 [0] (by decide) (Ec ka 1 1 rfl ω)
    (fun _ b hb=>by obtain ⟨off,e⟩:=hb;cases e;omega) ω hW0 kn (fun i hi=>by
      obtain rfl:i=0:=by simp at hi;omega
      exact Nat.one_pos)
  obtain ⟨nv,at1,no1,hS,hbad,hgood⟩:∃ (nv at1:Nat) (no1:Bool),[0].foldl (BH xs 1) ⟨s.at_,s.no,[ν 0]⟩=⟨at1,no1,[ν (nv:Int)]⟩∧((no1||!decide (nv≤16))=true→Gc xs s=⟨at1,true,s.P⟩)∧((no1||!decide (nv≤16))=false→Gc xs s=⟨(rNs xs nv at1 false).1,(rNs xs nv at1 false).2.1,{ s.P with N:=(rNs xs nv at1 false).2.2 }⟩):=by
    by_cases hno:s.no=true
    · refine ⟨0,s.at_,true,?_,fun _=>?_,fun q=>(by cases q)⟩
      · rw [hno];rfl
      · have:s=⟨s.at_,true,s.P⟩:=by cases s;simp at hno;rw [hno]
        exact (if_pos hno).trans this
    · cases hv:Bp xs s.at_ 1 with
      | none=>
        refine ⟨0,s.at_+1,true,?_,fun _=>?_,fun q=>(by cases q)⟩
        · show BH xs 1 ⟨s.at_,s.no,[ν 0]⟩ 0=_
          unfold BH
          rw [if_neg hno]
          simp [hv]
        · unfold Gc;rw [if_neg hno,hv]
      | some v=>
        refine ⟨v,s.at_+1,false,?_,fun q=>?_,fun q=>?_⟩
        · show BH xs 1 ⟨s.at_,s.no,[ν 0]⟩ 0=_
          unfold BH
          rw [if_neg hno]
          simp [hv]
        · unfold Gc;rw [if_neg hno,hv]
          simp only
          rw [if_neg (by simpa using q)]
        · unfold Gc;rw [if_neg hno,hv]
          simp only
          rw [if_pos (by simpa using q)]
  rw [hS] at hN
  have HN:=hid hN;have HW1:=hid hw1;have B1:=hid b1;have H3:=hid h3;have H4:=hid h4;have HNN:=hid hN0
  have HX1:=hid hbad;have HX2:=hid hgood;have R0:=hid r0
  clear hN hw1 b1 kn ka h1 h3 h4 hS hbad hgood h2 hN0 r0
  obtain ⟨okb,hok⟩:∃ okb,decide ((nv:Int)≤16)=okb:=⟨_,rfl⟩
  have hok2:decide (nv≤16)=okb:=by rw [← hok];exact decide_eq_decide.2 ω
  by_cases hor:(no1||!okb)=true
  · rw [HX1.out (by rw [hok2];exact hor)]
    have HOR:=hid hor
    clear hor HX1 HX2
    go_enter Tryz.func110,Tryz.ntmps110
    go_wp2_with fail
    rw [← HW1.out]
    refine HN.out.mono ?_
    rintro e w2 ⟨rfl,hb2,hat2,hn2,_,t2⟩
    have n2:=hn2.cell (i:=0) (by simp)
    simp only [List.getElem_cons_zero] at n2
    have CB2:=hid hb2;have T2:=hid t2;have HAT2:=hid hat2
    clear hb2 t2 hn2 hat2
    go_wp2_with fail
    refine (Cq CB2.out okb).mono ?_
    rintro e w3 ⟨rfl,hw3⟩
    rw [HOR.out] at hw3
    have hb3:Blk w3 g 107 [.bool false,.slice a xs.length c,ν (at1:Int),.bool true]:=by rw [hw3];exact Blk.set CB2.out 3 _
    have t3:Turns (fun x=>x=g) w2 w3:=by rw [hw3];exact AG g 3 _
    have x3:=hb3.cell (i:=3) (by simp)
    simp only [List.getElem_cons_zero,List.getElem_cons_succ] at x3
    have T3:=hid t3;have CB3:=hid hb3
    clear hb3 t3 hw3 n2
    go_wp2_with fail
    refine bodyPost_ret (results_none rfl _ _ _) rfl ?_
    have ht:Turns (fun x=>x=g∨x=pk) w w3:=((Turns.of_below B1.out).trans' (T2.out.trans (T3.out.mono (fun _ q=>.inl q))) (fun x hx q=>q.elim .inl (fun e=>ω)))
    have hp3:=((Turns.of_below (X:=fun x=>x=g) B1.out).trans' (T2.out.trans (T3.out.mono (fun _ q=>.inl q))) (fun x hx q=>q.elim id (fun e=>ω))).blk H3.out hne
    refine ⟨rfl,⟨none,0,⟨CB3.out,⟨HAT2.out.1,fun q=>(by cases q)⟩,?_,H4.out.trans (ht.below hW0 (fun x hx=>by rcases hx with e | e<;>rw [e]<;>assumption))⟩,?_⟩,ht⟩
    · show Blk w3 pk 39 (pkC s.P none s.P.N.length 0)
      rw [HNN.out];exact hp3
    · show Own w3 W0.heap.size 9 1 none s.P.N.length 0 (s.P.N.map AS)
      rw [HNN.out];exact Own.nil _ _ _ _
  · have hor':(no1||!okb)=false:=by simpa using hor
    obtain ⟨rfl,rfl⟩:no1=false∧okb=true:=by
      cases no1<;>cases okb<;>simp at hor' ⊢
    rw [HX2.out (by rw [hok2];rfl)]
    obtain ⟨⟨ra,rn,rs⟩,hrr⟩:∃ r,r=rNs xs nv at1 false:=⟨_,rfl⟩
    rw [← hrr]
    simp only
    have HRR:=hid hrr
    clear hrr
    have hn16:nv≤16:=of_decide_eq_true hok2
    clear hor hor' HX1 HX2
    rcases Nat.eq_zero_or_pos nv with rfl | hpos
    · go_enter Tryz.func110,Tryz.ntmps110
      go_wp2_with fail
      rw [← HW1.out]
      refine HN.out.mono ?_
      rintro e w2 ⟨rfl,hb2,hat2,hn2,_,t2⟩
      have n2:=hn2.cell (i:=0) (by simp)
      simp only [List.getElem_cons_zero] at n2
      have CB2:=hid hb2;have T2:=hid t2;have HAT2:=hid hat2;have KN2:=hid hn2
      clear hb2 t2 hn2 hat2
      go_wp2_with fail
      refine (Cq CB2.out true).mono ?_
      rintro e w3 ⟨rfl,hw3⟩
      have hb3:Blk w3 g 107 [.bool false,.slice a xs.length c,ν (at1:Int),.bool false]:=by rw [hw3];exact Blk.set CB2.out 3 _
      have t3:Turns (fun x=>x=g) w2 w3:=by rw [hw3];exact AG g 3 _
      have x3:=hb3.cell (i:=3) (by simp)
      have x0:=hb3.cell (i:=0) (by simp)
      simp only [List.getElem_cons_zero,List.getElem_cons_succ] at x3 x0
      have n3:w3.cell? ⟨w.heap.size,0,none⟩=some (ν ((0:Nat):Int)):=(t3.blk KN2.out ω).cell (i:=0) (by simp)
      have ht:Turns (fun x=>x=g∨x=pk) w w3:=((Turns.of_below B1.out).trans' (T2.out.trans (t3.mono (fun _ q=>.inl q))) (fun x hx q=>q.elim .inl (fun e=>ω)))
      have hp3:=((Turns.of_below (X:=fun x=>x=g) B1.out).trans' (T2.out.trans (t3.mono (fun _ q=>.inl q))) (fun x hx q=>q.elim id (fun e=>ω))).blk H3.out hne
      have p23:w3.cell? ⟨pk,23,none⟩=some (.slice none 0 0):=hp3.cell (i:=23) (by show 23<43;omega)
      have HT:=hid ht;have CB3:=hid hb3;have HP3:=hid hp3
      clear hb3 t3 hw3 n2 ht hp3
      go_wp2_with fail
      go_loopw [38,5] (fun i _ wr=>i=ν 0∧wr=w3) (fun i _ _=>0)
      case atStart=>exact ⟨rfl,rfl⟩
      case round=>
        obtain ⟨rfl,rfl⟩:=hrel
        go_wp2_with fail
        go_end0
        obtain ⟨rfl,rfl,rfl⟩:ra=at1∧rn=false∧rs=[]:=by have:=HRR.out;simpa [rNs] using this
        refine ⟨rfl,⟨none,0,⟨CB3.out,HAT2.out,HP3.out,H4.out.trans (HT.out.below hW0 (fun x hx=>by rcases hx with e | e<;>rw [e]<;>assumption))⟩,Own.nil _ _ _ _⟩,HT.out⟩
    · have d5:decide ((0:Int)<(nv:Int))=true:=decide_eq_true ω
      go_enter Tryz.func110,Tryz.ntmps110
      go_wp2_with fail
      rw [← HW1.out]
      refine HN.out.mono ?_
      rintro e w2 ⟨rfl,hb2,hat2,hn2,_,t2⟩
      have n2:=hn2.cell (i:=0) (by simp)
      simp only [List.getElem_cons_zero] at n2
      have CB2:=hid hb2;have T2:=hid t2;have HAT2:=hid hat2;have KN2:=hid hn2
      clear hb2 t2 hn2 hat2
      go_wp2_with fail
      refine (Cq CB2.out true).mono ?_
      rintro e w3 ⟨rfl,hw3⟩
      have hb3:Blk w3 g 107 [.bool false,.slice a xs.length c,ν (at1:Int),.bool false]:=by rw [hw3];exact Blk.set CB2.out 3 _
      have t3:Turns (fun x=>x=g) w2 w3:=by rw [hw3];exact AG g 3 _
      have x3:=hb3.cell (i:=3) (by simp)
      have x0:=hb3.cell (i:=0) (by simp)
      simp only [List.getElem_cons_zero,List.getElem_cons_succ] at x3 x0
      have n3:w3.cell? ⟨w.heap.size,0,none⟩=some (ν (nv:Int)):=(t3.blk KN2.out ω).cell (i:=0) (by simp)
      have ht:Turns (fun x=>x=g∨x=pk) w w3:=((Turns.of_below B1.out).trans' (T2.out.trans (t3.mono (fun _ q=>.inl q))) (fun x hx q=>q.elim .inl (fun e=>ω)))
      have hp3:=((Turns.of_below (X:=fun x=>x=g) B1.out).trans' (T2.out.trans (t3.mono (fun _ q=>.inl q))) (fun x hx q=>q.elim id (fun e=>ω))).blk H3.out hne
      have hs3:w.heap.size≤w3.heap.size:=ht.size
      have HT:=hid ht;have CB3:=hid hb3;have HP3:=hid hp3
      clear hb3 t3 hw3 n2 ht hp3
      go_wp2_with (at_make;refine Gy rfl (.tmp 31) (.tmp 31) rfl υ29 (bytes:=16) (z:=AS []) κ rfl rfl rfl rfl rfl ω ω ?_;intro w4 k4 b4;have y23:w4.cell? ⟨pk,23,none⟩=some (.slice none 0 0):=(HP3.out.mono b4).cell (i:=23) (by show 23<43;omega);have f23:=(HP3.out.mono b4).frozen 23;have K4:=hid k4;have B4:=hid b4;clear k4 b4)
      obtain ⟨nb,hnb⟩:∃ nb,nb=w3.heap.size:=⟨_,rfl⟩
      rw [← hnb]
      have hnbw:w.heap.size≤nb:=ω
      have k4:Blk w4 nb 9 (List.replicate nv (AS [])):=by rw [hnb];exact K4.out
      have hnpk:nb≠pk:=by have:=HP3.out.lt;omega
      have hng:nb≠g:=by have:=CB3.out.lt;omega
      have tp:Turns (fun x=>x=pk) w4 (w4.setCell ⟨pk,23,none⟩ (.slice (some ⟨nb,0,none⟩) nv nv)):=AG pk 23 _
      have hp5:Blk (w4.setCell ⟨pk,23,none⟩ (.slice (some ⟨nb,0,none⟩) nv nv)) pk 39 (pkC s.P (some ⟨nb,0,none⟩) nv nv):=Blk.set (HP3.out.mono B4.out) 23 _
      have k5:=tp.blk k4 hnpk
      have cb5:=tp.blk (CB3.out.mono B4.out) (fun e=>hne e.symm)
      have t5:Turns (fun x=>x=g∨x=pk∨w.heap.size≤x) w (w4.setCell ⟨pk,23,none⟩ (.slice (some ⟨nb,0,none⟩) nv nv)):=((HT.out.trans (Turns.of_below B4.out)).trans (tp.mono (fun _ q=>.inr q))).mono (fun _ q=>q.elim .inl (fun e=>.inr (.inl e)))
      generalize w4.setCell ⟨pk,23,none⟩ (.slice (some ⟨nb,0,none⟩) nv nv)=w5 at *
      have p5:w5.cell? ⟨pk,23,none⟩=some (.slice (some ⟨nb,0,none⟩) nv nv):=hp5.cell (i:=23) (by show 23<43;omega)
      have K5:=hid k5;have HP5:=hid hp5;have CB5:=hid cb5;have T5:=hid t5
      clear k4 tp hp5 k5 cb5 t5 y23 f23 hnb c23 x3 x0 n3
      go_wp2_with fail
      go_loopw [38,5] (fun i _ wr=>∃ (j at2:Nat) (no2:Bool) (pre:List (List UInt8)),j≤nv∧i=ν j∧pre.length=j∧CoG wr g a c xs at2 no2∧MW xs at2 no2∧Blk wr pk 39 (pkC s.P (some ⟨nb,0,none⟩) nv nv)∧Blk wr nb 9 (pre.map AS++List.replicate (nv-j) (AS []))∧(ra,rn,rs)=((rNs xs (nv-j) at2 no2).1,(rNs xs (nv-j) at2 no2).2.1,pre++(rNs xs (nv-j) at2 no2).2.2)∧Turns (fun x=>x=g∨x=pk∨w.heap.size≤x) w wr) (fun i _ _=>nv-(intOf i).toNat)
      case atStart=>exact ⟨0,at1,false,[],Nat.zero_le _,rfl,rfl,CB5.out,HAT2.out,HP5.out,K5.out,HRR.out,T5.out⟩
      case round=>
        obtain ⟨j,at2,no2,pre,hj,rfl,hpre,hcb,hat,hpp,hbb,heq,ht⟩:=hrel
        by_cases hlt:j<nv
        · have d0:decide ((j:Int)<(nv:Int))=true:=decide_eq_true ω
          have p23:wr.cell? ⟨pk,23,none⟩=some (.slice (some ⟨nb,0,none⟩) nv nv):=hpp.cell (i:=23) (by show 23<43;omega)
          have hbr:Below W0.heap.size W0 wr:=H4.out.trans (ht.below hW0 (fun x hx=>by rcases hx with e | e | e<;>omega))
          have hget:(pre.map AS++List.replicate (nv-j) (AS []))[j]? = some (AS []):=by
            rw [List.getElem?_append_right (by simp [hpre])]
            rw [List.length_map,hpre,Nat.sub_self,List.getElem?_replicate,if_pos ω]
          have htx:=MN hcb R0.out hbr hg hat hl 1 12 (by decide) (by decide) nb j 9 _ hng ω hbb [] (by simp) hget
          have hst:=Ux pre nv j (BM xs 1 12 at2 no2 []).2.2 hpre hlt
          have hnj:nv-j=(nv-(j+1))+1:=ω
          rw [hnj] at heq
          simp only [rNs] at heq
          generalize BM xs 1 12 at2 no2 []=tt at *
          obtain ⟨ta,tn,ts⟩:=tt
          simp only at heq htx hst
          have HTX:=hid htx
          clear htx
          have HE:=hid heq;have HS:=hid hst;have HT2:=hid ht;have HPP:=hid hpp;have HPR:=hid hpre
          clear heq hst ht hcb hat hpp hbb hget hbr hpre hnj
          go_wp2_with fail
          refine HTX.out.mono ?_
          rintro e w6 ⟨rfl,h6,a6,k6,t6⟩
          rw [HS.out] at k6
          have hp6:=t6.blk HPP.out (fun q=>q.elim hne (fun e=>hnpk e.symm))
          have H6:=hid h6;have A6:=hid a6;have K6:=hid k6;have HP6:=hid hp6;have T6:=hid (HT2.out.trans (t6.mono (Y:=fun x=>x=g∨x=pk∨w.heap.size≤x) (fun _ q=>q.elim .inl (fun e=>.inr (.inr ω)))))
          clear h6 a6 k6 t6 hp6 p23
          go_wp2_with fail
          go_roundw
          case rel=>exact ⟨j+1,ta,tn,pre++[ts],ω,by go_num,by rw [List.length_append,HPR.out];rfl,H6.out,A6.out,HP6.out,K6.out,by rw [HE.out,List.append_assoc];rfl,T6.out⟩
          case measure=>simp [intOf];omega
        · obtain rfl:j=nv:=ω
          have d0:decide ((j:Int)<(j:Int))=false:=decide_eq_false ω
          have p23:wr.cell? ⟨pk,23,none⟩=some (.slice (some ⟨nb,0,none⟩) j j):=hpp.cell (i:=23) (by show 23<43;omega)
          have htt:Turns (fun x=>x=g∨x=pk) w wr:=ht.mono' (fun k hk q=>by rcases q with e | e | e;exact .inl e;exact .inr e;omega)
          have hbr:Below W0.heap.size W0 wr:=H4.out.trans (htt.below hW0 (fun x hx=>by rcases hx with e | e<;>omega))
          rw [Nat.sub_self] at heq hbb
          obtain ⟨rfl,rfl,rfl⟩:ra=at2∧rn=no2∧rs=pre:=by simpa [rNs] using heq
          rw [List.replicate_zero,List.append_nil] at hbb
          have hown:=Own.of_blk (B:=W0.heap.size) (sz:=1) (n:=j) (c:=j) hbb ω (Nat.le_refl _) (by unfold maxLen;omega) (by simp [hpre])
          rw [List.take_of_length_le (by simp [hpre])] at hown
          have HO:=hid hown;have HCB:=hid hcb;have HAT:=hid hat;have HPP:=hid hpp;have HTT:=hid htt;have HBR:=hid hbr;have HPR:=hid hpre
          clear hown hcb hat hpp htt hbr hbb heq ht hpre
          go_wp2_with fail
          go_end0
          refine ⟨rfl,⟨some ⟨nb,0,none⟩,j,⟨HCB.out,HAT.out,?_,HBR.out⟩,?_⟩,HTT.out⟩
          · show Blk _ pk 39 (pkC s.P (some ⟨nb,0,none⟩) rs.length j)
            rw [HPR.out];exact HPP.out
          · show Own _ _ _ _ _ rs.length j (rs.map AS)
            rw [HPR.out];exact HO.out
end
section
def Uh (xs:List UInt8) (s:RM):RM:=AF xs 2 ([28,29].foldl (AF xs 1) (AF xs 2 ([24,25].foldl (AF xs 1) (AF xs 4 (AF xs 8 (AF xs 1 (AF xs 1 (AF xs 1 (s) 4) 19) 18) 27) 5)) 26)) 30
def QB (xs:List UInt8) (s:RM):RM:=Gc xs ([31,32,33,34].foldl (AF xs 1) (Uh xs s))
theorem Cf (xs:List UInt8) (k:Nat) (s:RM) (o:Nat):(AF xs k s o).P.N=s.P.N:=by unfold AF;split<;>rfl
theorem Ex (xs:List UInt8) (k:Nat) (os:List Nat) (s:RM):(os.foldl (AF xs k) s).P.N=s.P.N:=by
  induction os generalizing s with
  | nil=>rfl
  | cons o os ih=>rw [List.foldl_cons,ih,Cf]
theorem RdP.nums {W0 w:World} {g pk:Nat} {a:Option Addr} {c:Nat} {xs:List UInt8} {na:Option Addr} {nn nc:Nat} {s:RM} (h:RdP W0 w g pk a c xs na nn nc s) (r0:BB W0 a c xs) (hg:W0.heap.size≤g) (hpk:W0.heap.size≤pk) (hl:xs.length≤1000000) (k:Nat) (hk:k≤8) (os:List Nat) (ho:∀ o∈os,DT o=true) (hfew:os.length≤10) (s':RM) (hs:os.foldl (AF xs k) s=s') :
    Calls Tryz.prog 67 #[π g,ν k,.slice (some ⟨w.heap.size,0,none⟩) os.length os.length] (w.alloc (.cells ((os.map fun o=>(.pointer (some ⟨pk,o,none⟩):Value))).toArray 120))
      fun e w'=>e=.returned (.tuple #[])∧RdP W0 w' g pk a c xs na nn nc s'∧Turns (fun x=>x=g∨x=pk) w w':=by
  subst hs;exact Da h r0 hg hpk hl k hk os ho hfew
theorem NA {W0 w:World} {g pk:Nat} {a:Option Addr} {c:Nat} {xs:List UInt8} {s:RM} (h:RdP W0 w g pk a c xs none 0 0 s) (hN0:s.P.N=[]) (r0:BB W0 a c xs) (hg:W0.heap.size≤g) (hpk:W0.heap.size≤pk) (hl:xs.length≤1000000) :
    Calls Tryz.prog 94 #[π g,π pk] w fun e w'=>e=.returned (.tuple #[])∧NmP W0 w' g pk a c xs (QB xs s)∧Turns (fun x=>x=g∨x=pk) w w':=by
  unfold QB Uh
  obtain ⟨s1,hs1⟩:∃ s1,s1=AF xs 1 s 4:=⟨_,rfl⟩
  obtain ⟨s2,hs2⟩:∃ s2,s2=AF xs 1 s1 19:=⟨_,rfl⟩
  obtain ⟨s3,hs3⟩:∃ s3,s3=AF xs 1 s2 18:=⟨_,rfl⟩
  obtain ⟨s4,hs4⟩:∃ s4,s4=AF xs 8 s3 27:=⟨_,rfl⟩
  obtain ⟨s5,hs5⟩:∃ s5,s5=AF xs 4 s4 5:=⟨_,rfl⟩
  obtain ⟨s6,hs6⟩:∃ s6,s6=[24,25].foldl (AF xs 1) s5:=⟨_,rfl⟩
  obtain ⟨s7,hs7⟩:∃ s7,s7=AF xs 2 s6 26:=⟨_,rfl⟩
  obtain ⟨s8,hs8⟩:∃ s8,s8=[28,29].foldl (AF xs 1) s7:=⟨_,rfl⟩
  obtain ⟨s9,hs9⟩:∃ s9,s9=AF xs 2 s8 30:=⟨_,rfl⟩
  rw [← hs1,← hs2,← hs3,← hs4,← hs5,← hs6,← hs7,← hs8,← hs9]
  obtain ⟨s10,hs10⟩:∃ s10,s10=[31,32,33,34].foldl (AF xs 1) s9:=⟨_,rfl⟩
  rw [← hs10]
  have HS10:=hid hs10
  clear hs10
  have hN9:s9.P.N=[]:=by rw [hs9,hs8,hs7,hs6,hs5,hs4,hs3,hs2,hs1];simp only [Cf,Ex,List.foldl_cons,List.foldl_nil];exact hN0
  have HS1:=hid hs1;have HS2:=hid hs2;have HS3:=hid hs3;have HS4:=hid hs4;have HS5:=hid hs5;have HS6:=hid hs6;have HS7:=hid hs7;have HS8:=hid hs8;have HS9:=hid hs9
  have H0:=hid h;have R0:=hid r0;have HN9:=hid hN9
  have T0:=hid (Turns.refl (fun x=>x=g∨x=pk) w)
  clear h r0 hN0 hN9 hs1 hs2 hs3 hs4 hs5 hs6 hs7 hs8 hs9
  go_enter Tryz.func94,Tryz.ntmps94
  go_wp2_with fail
  refine (H0.out.nums R0.out hg hpk hl 1 (by decide) [4] (by decide) (by decide) s1 HS1.out.symm).mono ?_
  rintro e w1 ⟨rfl,h1,t1⟩
  have H1:=hid h1;have T1:=hid (T0.out.trans t1);clear h1 t1
  go_wp2_with fail
  refine (Ll H1.out R0.out hg hpk hl).mono ?_
  rintro e w2 ⟨rfl,h2,t2⟩
  rw [← HS2.out] at h2
  have H2:=hid h2;have T2:=hid (T1.out.trans t2);clear h2 t2
  go_wp2_with fail
  refine (H2.out.nums R0.out hg hpk hl 1 (by decide) [18] (by decide) (by decide) s3 HS3.out.symm).mono ?_
  rintro e w3 ⟨rfl,h3,t3⟩
  have H3:=hid h3;have T3:=hid (T2.out.trans t3);clear h3 t3
  go_wp2_with fail
  refine (H3.out.nums R0.out hg hpk hl 8 (by decide) [27] (by decide) (by decide) s4 HS4.out.symm).mono ?_
  rintro e w4 ⟨rfl,h4,t4⟩
  have H4:=hid h4;have T4:=hid (T3.out.trans t4);clear h4 t4
  go_wp2_with fail
  refine (H4.out.nums R0.out hg hpk hl 4 (by decide) [5] (by decide) (by decide) s5 HS5.out.symm).mono ?_
  rintro e w5 ⟨rfl,h5,t5⟩
  have H5:=hid h5;have T5:=hid (T4.out.trans t5);clear h5 t5
  go_wp2_with fail
  go_region
  all_goals
    go_wp2_with fail
  go_region_with (go_at_call 67;refine ((H5.out.drewN 2).nums R0.out hg hpk hl 1 (by decide) [24,25] (by decide) (by decide) s6 HS6.out.symm).mono ?_;rintro e w6 ⟨rfl,h6,t6⟩;have H6:=hid h6;have T6:=hid ((T5.out.trans (Turns.of_below (Av (Below.refl _ _) 2))).trans t6);clear h6 t6)
  go_wp2_with fail
  refine (H6.out.nums R0.out hg hpk hl 2 (by decide) [26] (by decide) (by decide) s7 HS7.out.symm).mono ?_
  rintro e w7 ⟨rfl,h7,t7⟩
  have H7:=hid h7;have T7:=hid (T6.out.trans t7);clear h7 t7
  go_wp2_with fail
  go_region_with (go_at_call 67;refine ((H7.out.drewN 1).nums R0.out hg hpk hl 1 (by decide) [28,29] (by decide) (by decide) s8 HS8.out.symm).mono ?_;rintro e w8 ⟨rfl,h8,t8⟩;have H8:=hid h8;have T8:=hid ((T7.out.trans (Turns.of_below (Av (Below.refl _ _) 1))).trans t8);clear h8 t8)
  go_wp2_with fail
  refine (H8.out.nums R0.out hg hpk hl 2 (by decide) [30] (by decide) (by decide) s9 HS9.out.symm).mono ?_
  rintro e w9 ⟨rfl,h9,t9⟩
  have H9:=hid h9;have T9:=hid (T8.out.trans t9);clear h9 t9
  go_wp2_with fail
  go_loopw [73,6] (fun i _ wr=>∃ j:Nat,j≤4∧i=ν j∧RdP W0 wr g pk a c xs none 0 0 (([31,32,33,34].take j).foldl (AF xs 1) s9)∧Turns (fun x=>x=g∨x=pk) w wr) (fun i _ _=>4-(intOf i).toNat)
  case atStart=>exact ⟨0,Nat.zero_le _,rfl,H9.out,T9.out⟩
  case round=>
    obtain ⟨j,hj,rfl,hm',ht⟩:=hrel
    by_cases hlt:j<4
    · have d0:decide ((j:Int)<4)=true:=decide_eq_true ω
      have hnum:DT (31+j)=true:=by rcases (ω:j=0∨j=1∨j=2∨j=3) with e | e | e | e<;>subst e<;>rfl
      have hstep:[31+j].foldl (AF xs 1) (([31,32,33,34].take j).foldl (AF xs 1) s9)=([31,32,33,34].take (j+1)).foldl (AF xs 1) s9:=by rcases (ω:j=0∨j=1∨j=2∨j=3) with e | e | e | e<;>subst e<;>rfl
      have HZ:=hid (hm'.nums R0.out hg hpk hl 1 (by decide) [31+j] (by intro o ho;rw [List.mem_singleton] at ho;rw [ho];exact hnum) (by simp) _ hstep)
      have HT:=hid ht
      clear hm' ht hnum hstep
      go_wp2_with fail
      refine HZ.out.mono ?_
      rintro e w10 ⟨rfl,h10,t10⟩
      have H10:=hid h10;have T10:=hid (HT.out.trans t10)
      clear h10 t10
      go_wp2_with fail
      go_roundw
      case rel=>exact ⟨j+1,ω,by go_num,H10.out,T10.out⟩
      case measure=>simp [intOf];omega
    · obtain rfl:j=4:=ω
      have hE:([31,32,33,34].take 4).foldl (AF xs 1) s9=s10:=HS10.out.symm
      have hN10:s10.P.N=[]:=by rw [HS10.out,Ex];exact HN9.out
      rw [hE] at hm'
      have HM:=hid hm';have HT:=hid ht;have HN10:=hid hN10
      clear hm' ht hE hN10
      go_wp2_with fail
      refine (Ql HM.out HN10.out R0.out hg hpk hl).mono ?_
      rintro e w11 ⟨rfl,h11,t11⟩
      have H11:=hid h11;have T11:=hid (HT.out.trans t11)
      clear h11 t11
      go_wp2_with fail
      go_end0
      exact ⟨rfl,H11.out,T11.out⟩
end
section
def BT (xs:List UInt8) (s:RM):RM:=FW (AF xs 8 (AF xs 4 ([0,1].foldl (AF xs 1) s) 2) 3) (Mf ((AF xs 8 (AF xs 4 ([0,1].foldl (AF xs 1) s) 2) 3).P.I 1))
def LE (xs:List UInt8) (k:Int) (s:RM):RM:=if k=1 then Vw xs s else if k=2 then Nw xs s else if k=3 then Rm xs s else if k=4 then QB xs s else if k=5 then AF xs 1 s 18 else ⟨s.at_,true,s.P⟩
def Bm (xs:List UInt8) (s:RM):RM:=LE xs ((BT xs s).P.I 0) (BT xs s)
theorem KR (xs:List UInt8) (k most:Nat) (s:RM) (o:Nat):(Gw xs k most s o).P.N=s.P.N:=rfl
theorem RdP.nm {W0 w:World} {g pk:Nat} {a:Option Addr} {c:Nat} {xs:List UInt8} {s:RM} (h:RdP W0 w g pk a c xs none 0 0 s) (hN:s.P.N=[]):NmP W0 w g pk a c xs s:=by
  refine ⟨none,0,?_,?_⟩
  · rw [hN];exact h
  · rw [hN];exact Own.nil _ _ _ _
def Cx (s:RM):Prop:=s.P.N=[]∧∀ o,s.P.S o=[]
theorem Ge {W0 w:World} {g pk:Nat} {a:Option Addr} {c:Nat} {xs:List UInt8} {s:RM} (h:RdP W0 w g pk a c xs none 0 0 s) (hE:Cx s) (r0:BB W0 a c xs) (hg:W0.heap.size≤g) (hpk:W0.heap.size≤pk) (hl:xs.length≤1000000) (k:Int) (f:FuncId) (hf:Fo k=some f) :
    Calls Tryz.prog f #[π g,π pk] w fun e w'=>e=.returned (.tuple #[])∧NmP W0 w' g pk a c xs (LE xs k s)∧Turns (fun x=>x=g∨x=pk) w w':=by
  have hs7:(s.P.S 7).length≤10000:=by rw [hE.2];simp
  have hs11:(s.P.S 11).length≤10000∧(s.P.S 12).length≤10000:=by rw [hE.2,hE.2];simp
  unfold Fo at hf
  unfold LE
  by_cases k1:k=1
  · rw [if_pos k1] at hf ⊢
    cases hf
    refine (NP h r0 hg hpk hl hs7).mono ?_
    rintro e w' ⟨rfl,h1,t1⟩
    exact ⟨rfl,h1.nm (by unfold Vw FP;rw [Ex,KR,Cf,Cf];show (AF xs 1 s 4).P.N=[];rw [Cf];exact hE.1),t1⟩
  rw [if_neg k1] at hf ⊢
  by_cases k2:k=2
  · rw [if_pos k2] at hf ⊢
    cases hf
    refine (Mh h r0 hg hpk hl hs7).mono ?_
    rintro e w' ⟨rfl,h1,t1⟩
    exact ⟨rfl,h1.nm (by unfold Nw FP;rw [Cf,KR,Cf];show (AF xs 1 s 4).P.N=[];rw [Cf];exact hE.1),t1⟩
  rw [if_neg k2] at hf ⊢
  by_cases k3:k=3
  · rw [if_pos k3] at hf ⊢
    cases hf
    refine (Pf h r0 hg hpk hl hs11).mono ?_
    rintro e w' ⟨rfl,h1,t1⟩
    exact ⟨rfl,h1.nm (by unfold Rm;rw [Cf,Cf,KR,KR,Ex];exact hE.1),t1⟩
  rw [if_neg k3] at hf ⊢
  by_cases k4:k=4
  · rw [if_pos k4] at hf ⊢
    cases hf
    exact NA h hE.1 r0 hg hpk hl
  rw [if_neg k4] at hf ⊢
  by_cases k5:k=5
  · rw [if_pos k5] at hf ⊢
    cases hf
    refine (OX h r0 hg hpk hl).mono ?_
    rintro e w' ⟨rfl,h1,t1⟩
    exact ⟨rfl,h1.nm (by rw [Cf];exact hE.1),t1⟩
  · rw [if_neg k5] at hf;cases hf
theorem Il (xs:List UInt8) (k:Nat) (os:List Nat) (s:RM):(os.foldl (AF xs k) s).P.S=s.P.S:=by
  induction os generalizing s with
  | nil=>rfl
  | cons o os ih=>rw [List.foldl_cons,ih,CK]
theorem RdP.chk' {W0 w:World} {g pk:Nat} {a:Option Addr} {c:Nat} {xs:List UInt8} {na:Option Addr} {nn nc:Nat} {s:RM} (h:RdP W0 w g pk a c xs na nn nc s) (hg:W0.heap.size≤g) (ok:Bool):Calls Tryz.prog 68 #[π g,.bool ok] w fun e w'=>e=.returned (.tuple #[])∧RdP W0 w' g pk a c xs na nn nc (FW s ok)∧Turns (fun x=>x=g∨x=pk) w w':=by
  refine (RdP.chk h hg ok).mono ?_
  rintro e w' ⟨rfl,h1,t1⟩
  exact ⟨rfl,h1,t1.mono (fun _ q=>.inl q)⟩
theorem RdP.wrong {W0 w:World} {g pk:Nat} {a:Option Addr} {c:Nat} {xs:List UInt8} {na:Option Addr} {nn nc:Nat} {s:RM} (h:RdP W0 w g pk a c xs na nn nc s) (hg:W0.heap.size≤g):RdP W0 (w.setCell ⟨g,3,none⟩ (.bool true)) g pk a c xs na nn nc ⟨s.at_,true,s.P⟩∧Turns (fun x=>x=g∨x=pk) w (w.setCell ⟨g,3,none⟩ (.bool true)):=by
  obtain ⟨h1,h2,h3,h4⟩:=h
  have t:Turns (fun x=>x=g) w (w.setCell ⟨g,3,none⟩ (.bool true)):=AG g 3 _
  exact ⟨⟨Blk.set h1 3 _,⟨h2.1,fun q=>(by cases q)⟩,t.blk h3 (CR h3 h1 (by decide)),h4.trans (t.below h4.size (fun x hx=>by rw [hx];exact hg))⟩,t.mono (fun _ q=>.inl q)⟩
end
section
def Li (o:Option (PkM×List UInt8)) (f:Fld):Option (PkM×List UInt8):=o.bind fun a=>Of a.1 a.2 f
theorem Od (fs:List Fld):fs.foldl Li none=none:=by
  induction fs with
  | nil=>rfl
  | cons f fs ih=>exact ih
theorem Oe (fs:List Fld) (Q:PkM) (xs:List UInt8):fs.foldl Li (some (Q,xs))=PH Q xs fs:=by
  induction fs generalizing Q xs with
  | nil=>rfl
  | cons f fs ih=>
    show fs.foldl Li (Of Q xs f)=_
    unfold PH
    cases Of Q xs f with
    | none=>rw [Od];rfl
    | some a=>rw [ih];rfl
def AgR (xs:List UInt8) (s:RM) (c:Bool) (o:Option (PkM×List UInt8)):Prop:=if s.no=false∧c=true then o=some (s.P,xs.drop s.at_)∧s.at_≤xs.length else o=none
theorem AgR.no {xs:List UInt8} {s:RM} {c:Bool} {o:Option (PkM×List UInt8)} (h:AgR xs s c o) (hn:¬ (s.no=false∧c=true)):o=none:=by unfold AgR at h;rwa [if_neg hn] at h
theorem AgR.yes {xs:List UInt8} {s:RM} {c:Bool} {o:Option (PkM×List UInt8)} (h:AgR xs s c o) (h1:s.no=false) (h2:c=true):o=some (s.P,xs.drop s.at_)∧s.at_≤xs.length:=by unfold AgR at h;rwa [if_pos ⟨h1,h2⟩] at h
theorem AgR.mkNo {xs:List UInt8} {s:RM} {c:Bool} {o:Option (PkM×List UInt8)} (hn:¬ (s.no=false∧c=true)) (h:o=none):AgR xs s c o:=by unfold AgR;rw [if_neg hn];exact h
theorem AgR.mkYes {xs:List UInt8} {s:RM} {c:Bool} {o:Option (PkM×List UInt8)} (h1:s.no=false) (h2:c=true) (h:o=some (s.P,xs.drop s.at_)) (h3:s.at_≤xs.length):AgR xs s c o:=by unfold AgR;rw [if_pos ⟨h1,h2⟩];exact ⟨h,h3⟩
theorem IZ {xs:List UInt8} {at_ k:Nat} (h:at_≤xs.length):Bp (xs.drop at_) 0 k=Bp xs at_ k:=by
  unfold Bp
  rw [List.drop_drop,List.length_drop]
  have e1:(at_:Int).toNat=at_:=by simp
  have e2:at_+(0:Int).toNat=at_:=by simp
  rw [e1,e2]
  by_cases hc:BD k=true∧0≤(0:Int)∧(0:Int)+k≤((xs.length-at_:Nat):Int)
  · rw [if_pos hc,if_pos (show BD k=true∧0≤(at_:Int)∧(at_:Int)+k≤xs.length from ⟨hc.1,ω,ω⟩)]
  · rw [if_neg hc,if_neg (fun (q:BD k=true∧0≤(at_:Int)∧(at_:Int)+k≤xs.length)=>hc ⟨q.1,ω,ω⟩)]
theorem KL {xs:List UInt8} {at_ k v:Nat} (h:Bp xs at_ k=some v):at_+k≤xs.length∧(v:Int)≤BJ:=by
  unfold Bp at h
  split at h
  · next h1=>
    split at h
    · next h2=>
      cases h
      exact ⟨ω,by unfold BJ;omega⟩
    · cases h
  · cases h
theorem Rl {xs:List UInt8} {k o:Nat} {s:RM} (h:s.no=true):AF xs k s o=s:=if_pos h
theorem OT {xs:List UInt8} {k o:Nat} {s:RM} (h:s.no=false):AF xs k s o=⟨s.at_+k,!(Bp xs s.at_ k).isSome,Ck s.P o (((Bp xs s.at_ k).getD 0:Nat):Int)⟩:=if_neg (by simp [h])
theorem AgR.num {xs:List UInt8} {s:RM} {c:Bool} {o:Option (PkM×List UInt8)} (h:AgR xs s c o) (k o':Nat) (lo hi:Int):AgR xs (AF xs k s o') (c&&okB lo hi ((AF xs k s o').P.I o')) (Li o (.num k o' lo hi)):=by
  by_cases hn:s.no=false∧c=true
  · obtain ⟨e,hl⟩:=h.yes hn.1 hn.2
    obtain ⟨h1,h2⟩:=hn
    subst h2
    rw [e]
    show AgR xs _ _ ((RL k lo hi (xs.drop s.at_)).map fun a=>(Ck s.P o' a.1,a.2))
    rw [OT h1]
    unfold RL
    rw [IZ hl]
    cases hg:Bp xs s.at_ k with
    | none=>exact AgR.mkNo (by simp) rfl
    | some v=>
      have hin:=KL hg
      have ev:(Ck s.P o' (((some v).getD 0:Nat):Int)).I o'=(v:Int):=by simp [Ck]
      show AgR xs ⟨s.at_+k,_,_⟩ (true&&okB lo hi ((Ck s.P o' (((some v).getD 0:Nat):Int)).I o')) _
      rw [ev]
      by_cases hb:lo≤(v:Int)∧(v:Int)≤hi
      · refine AgR.mkYes (by simp) (by rw [Bool.true_and];exact Ey.2 hb) ?_ (by show s.at_+k≤_;omega)
        simp only [hb,and_self,if_true,Option.map_some,List.drop_drop,Option.getD_some]
      · refine AgR.mkNo (fun q=>hb (Ey.1 (by simpa using q.2))) ?_
        simp only [hb,if_false,Option.map_none]
  · rw [h.no hn]
    refine AgR.mkNo (fun q=>hn ?_) rfl
    cases hm:s.no with
    | true=>rw [Rl hm,hm] at q;exact absurd q.1 (by simp)
    | false=>refine ⟨rfl,?_⟩;have:=q.2;simp at this;exact this.1
theorem AgR.num0 {xs:List UInt8} {s:RM} {c:Bool} {o:Option (PkM×List UInt8)} (h:AgR xs s c o) (k o':Nat):AgR xs (AF xs k s o') c (Li o (.num k o' 0 BJ)):=by
  have h1:=h.num k o' 0 BJ
  by_cases hb:okB 0 BJ ((AF xs k s o').P.I o')=true
  · rwa [hb,Bool.and_true] at h1
  · have e:=h1.no (fun q=>hb (by have:=q.2;simp at this;exact this.2))
    refine AgR.mkNo (fun q=>hb ?_) e
    cases hm:s.no with
    | true=>rw [Rl hm,hm] at q;exact absurd q.1 (by simp)
    | false=>
      rw [OT hm] at q ⊢
      cases hg:Bp xs s.at_ k with
      | none=>rw [hg] at q;exact absurd q.1 (by simp)
      | some v=>
        have hin:=KL hg
        exact Ey.2 ⟨by simp [Ck],by simpa [Ck] using hin.2⟩
theorem AgR.chk {xs:List UInt8} {s:RM} {c ok:Bool} {o:Option (PkM×List UInt8)} (h:AgR xs s (c&&ok) o):AgR xs (FW s ok) c o:=by
  cases ok with
  | true=>rw [Bool.and_true] at h;unfold FW;simpa using h
  | false=>exact AgR.mkNo (by simp [FW]) (h.no (by simp))
theorem Pu {xs:List UInt8} {k most at_:Nat} {s0:List UInt8}:BM xs k most at_ true s0=(at_,true,s0):=if_pos rfl
theorem MP {xs:List UInt8} {k most at_:Nat} {s0:List UInt8} (hl:at_≤xs.length):((BM xs k most at_ false s0).2.1=false→Md k most (xs.drop at_)=some ((BM xs k most at_ false s0).2.2,xs.drop (BM xs k most at_ false s0).1)∧(BM xs k most at_ false s0).1≤xs.length)∧((BM xs k most at_ false s0).2.1=true→Md k most (xs.drop at_)=none):=by
  unfold BM Md
  rw [if_neg (by simp),IZ hl]
  cases hg:Bp xs at_ k with
  | none=>exact ⟨fun q=>(by cases q),fun _=>rfl⟩
  | some v=>
    have hin:=KL hg
    simp only
    by_cases hm:v≤most
    · rw [if_pos hm]
      by_cases hx:xs.length<at_+k+v
      · rw [if_pos hx,if_neg (by rw [List.length_drop];omega)]
        exact ⟨fun q=>(by cases q),fun _=>rfl⟩
      · rw [if_neg hx,if_pos ⟨hm,by rw [List.length_drop];omega⟩]
        refine ⟨fun _=>⟨?_,by show at_+k+v≤_;omega⟩,fun q=>(by cases q)⟩
        rw [List.drop_drop,List.drop_drop,Nat.add_assoc]
    · rw [if_neg hm,if_neg (fun q=>hm q.1)]
      exact ⟨fun q=>(by cases q),fun _=>rfl⟩
theorem AgR.text {xs:List UInt8} {s:RM} {c:Bool} {o:Option (PkM×List UInt8)} (h:AgR xs s c o) (k most o':Nat):AgR xs (Gw xs k most s o') c (Li o (.text k most o')):=by
  by_cases hn:s.no=false∧c=true
  · obtain ⟨e,hl⟩:=h.yes hn.1 hn.2
    rw [e]
    show AgR xs _ _ ((Md k most (xs.drop s.at_)).map fun a=>(Pn s.P o' a.1,a.2))
    unfold Gw
    rw [hn.1]
    have hd:=MP (k:=k) (most:=most) (s0:=s.P.S o') hl
    cases ht:(BM xs k most s.at_ false (s.P.S o')).2.1 with
    | false=>
      obtain ⟨h1,h2⟩:=hd.1 ht
      rw [h1]
      exact AgR.mkYes rfl hn.2 rfl h2
    | true=>
      rw [hd.2 ht]
      exact AgR.mkNo (by simp) rfl
  · rw [h.no hn]
    refine AgR.mkNo (fun q=>hn ⟨?_,q.2⟩) rfl
    cases hm:s.no with
    | false=>rfl
    | true=>
      have q1:=q.1
      unfold Gw at q1
      rw [hm,Pu] at q1
      exact absurd q1 (by simp)
theorem Wx (xs:List UInt8) (n at_:Nat):(rNs xs n at_ true).2.1=true:=by
  induction n generalizing at_ with
  | zero=>rfl
  | succ n ih=>simp only [rNs,Pu];exact ih _
theorem Vx (xs:List UInt8) (n at_:Nat) (hl:at_≤xs.length):((rNs xs n at_ false).2.1=false→Mo n (xs.drop at_)=some ((rNs xs n at_ false).2.2,xs.drop (rNs xs n at_ false).1)∧(rNs xs n at_ false).1≤xs.length)∧((rNs xs n at_ false).2.1=true→Mo n (xs.drop at_)=none):=by
  induction n generalizing at_ with
  | zero=>exact ⟨fun _=>⟨rfl,hl⟩,fun q=>(by cases q)⟩
  | succ n ih=>
    have hd:=MP (k:=1) (most:=12) (s0:=[]) hl
    simp only [rNs]
    unfold Mo
    cases ht:(BM xs 1 12 at_ false []).2.1 with
    | true=>
      rw [hd.2 ht,Wx]
      exact ⟨fun q=>(by cases q),fun _=>rfl⟩
    | false=>
      obtain ⟨h1,h2⟩:=hd.1 ht
      rw [h1,Option.bind_some]
      have hi:=ih (BM xs 1 12 at_ false []).1 h2
      refine ⟨fun q=>?_,fun q=>?_⟩
      · obtain ⟨h3,h4⟩:=hi.1 q
        rw [h3];exact ⟨rfl,h4⟩
      · rw [hi.2 q];rfl
theorem AgR.names {xs:List UInt8} {s:RM} {o:Option (PkM×List UInt8)} (h:AgR xs s true o):AgR xs (Gc xs s) true (Li o .names):=by
  cases hm:s.no with
  | false=>
    obtain ⟨e,hl⟩:=h.yes hm rfl
    rw [e]
    show AgR xs _ _ (Of s.P (xs.drop s.at_) .names)
    unfold Gc Of
    rw [if_neg (by simp [hm])]
    simp only
    have e0:Bp (xs.drop s.at_) 0 1=Bp xs s.at_ 1:=IZ (k:=1) hl
    rw [e0]
    cases hg:Bp xs s.at_ 1 with
    | none=>exact AgR.mkNo (by simp) rfl
    | some n=>
      have hin:=KL (k:=1) hg
      simp only
      by_cases h16:n≤16
      · rw [if_pos h16,if_pos h16,List.drop_drop]
        have hd:=Vx xs n (s.at_+1) hin.1
        cases hr:(rNs xs n (s.at_+1) false).2.1 with
        | false=>
          obtain ⟨h1,h2⟩:=hd.1 hr
          rw [h1]
          exact AgR.mkYes rfl rfl rfl h2
        | true=>
          rw [hd.2 hr]
          exact AgR.mkNo (by simp) rfl
      · rw [if_neg h16,if_neg h16]
        exact AgR.mkNo (by simp) rfl
  | true=>
    rw [h.no (by simp [hm])]
    refine AgR.mkNo (fun q=>?_) rfl
    unfold Gc at q
    rw [if_pos hm,hm] at q
    exact absurd q.1 (by simp)
theorem TG (xs:List UInt8) (P0:PkM):AgR xs (BT xs ⟨0,false,P0⟩) (okB 1 5 ((BT xs ⟨0,false,P0⟩).P.I 0)) (Ah.foldl Li (some (P0,xs))):=by
  have h0:AgR xs ⟨0,false,P0⟩ true (some (P0,xs)):=AgR.mkYes rfl rfl (by simp) (Nat.zero_le _)
  have h1:=h0.num 1 0 1 5
  have h2:=h1.num 1 1 1 8
  have h3:=h2.num0 4 2
  have h4:=h3.num0 8 3
  rw [Bool.true_and] at h4
  have s2I:∀ (k:Nat) (s:RM) (o o':Nat),o≠o'→(AF xs k s o).P.I o'=s.P.I o':=fun k s o o' ho=>by
    unfold AF
    split
    · rfl
    · simp only [Ck];rw [if_neg (fun e=>ho e.symm)]
  have e0:(AF xs 1 ⟨0,false,P0⟩ 0).P.I 0=(BT xs ⟨0,false,P0⟩).P.I 0:=by
    unfold BT
    show _=(AF xs 8 (AF xs 4 (AF xs 1 (AF xs 1 ⟨0,false,P0⟩ 0) 1) 2) 3).P.I 0
    rw [s2I 8 _ 3 0 (by decide),s2I 4 _ 2 0 (by decide),s2I 1 _ 1 0 (by decide)]
  have e1:(AF xs 1 (AF xs 1 ⟨0,false,P0⟩ 0) 1).P.I 1=(AF xs 8 (AF xs 4 ([0,1].foldl (AF xs 1) ⟨0,false,P0⟩) 2) 3).P.I 1:=by
    show _=(AF xs 8 (AF xs 4 (AF xs 1 (AF xs 1 ⟨0,false,P0⟩ 0) 1) 2) 3).P.I 1
    rw [s2I 8 _ 3 1 (by decide),s2I 4 _ 2 1 (by decide)]
  rw [e0,e1] at h4
  exact AgR.chk (ok:=okB 1 8 _) h4
theorem SW {xs:List UInt8} {s:RM} {o:Option (PkM×List UInt8)} {k:Int} (h:AgR xs s true o) (hk:okB 1 5 k=true):AgR xs (LE xs k s) true ((Al k).foldl Li o):=by
  have hk':=Ey.1 hk
  rcases (ω:k=1∨k=2∨k=3∨k=4∨k=5) with e | e | e | e | e
  all_goals subst e
  · have h1:AgR xs (FP xs s) true (Li o (.num 1 4 1 4)):=AgR.chk (ok:=okB 1 4 _) (h.num 1 4 1 4)
    exact ((((h1.num0 4 5).num0 2 6).text 2 128 7).num0 8 8).num0 8 9
  · have h1:AgR xs (FP xs s) true (Li o (.num 1 4 1 4)):=AgR.chk (ok:=okB 1 4 _) (h.num 1 4 1 4)
    exact ((h1.num0 1 19).text 2 128 7).num0 8 8
  · exact (((((h.num0 1 4).num0 1 18).text 1 100 11).text 1 100 12).num0 1 13).num0 4 16
  · exact (((((((((((((((h.num0 1 4).num0 1 19).num0 1 18).num0 8 27).num0 4 5).num0 1 24).num0 1 25).num0 2 26).num0 1 28).num0 1 29).num0 2 30).num0 1 31).num0 1 32).num0 1 33).num0 1 34).names
  · exact h.num0 1 18
def P0z:PkM:=⟨fun _=>0,fun _=>[],[]⟩
def Tg (xs:List UInt8):Option (PkM×List UInt8):=(PH P0z xs Ah).bind fun a=>PH a.1 a.2 (Al (a.1.I 0))
def RN (xs:List UInt8):Option PkM:=match Tg xs with
  | some (Q,[])=>some Q
  | _=>none
theorem OU (xs:List UInt8):((Bm xs ⟨0,false,P0z⟩).no=false→Tg xs=some ((Bm xs ⟨0,false,P0z⟩).P,xs.drop (Bm xs ⟨0,false,P0z⟩).at_)∧(Bm xs ⟨0,false,P0z⟩).at_≤xs.length)∧((Bm xs ⟨0,false,P0z⟩).no=true→Tg xs=none):=by
  have h1:=TG xs P0z
  rw [Oe] at h1
  unfold Bm Tg
  cases hk:okB 1 5 ((BT xs ⟨0,false,P0z⟩).P.I 0) with
  | true=>
    rw [hk] at h1
    have h2:=SW h1 hk
    cases hn:(BT xs ⟨0,false,P0z⟩).no with
    | false=>
      have e:=(h1.yes hn rfl).1
      rw [e,Oe] at h2
      rw [e,Option.bind_some]
      exact ⟨fun q=>h2.yes q rfl,fun q=>h2.no (by rw [q];simp)⟩
    | true=>
      have e:=h1.no (by rw [hn];simp)
      rw [e,Od] at h2
      rw [e,Option.bind_none]
      refine ⟨fun q=>?_,fun _=>rfl⟩
      have:=(h2.yes q rfl).1;cases this
  | false=>
    rw [hk] at h1
    rw [h1.no (by simp),Option.bind_none]
    refine ⟨fun q=>?_,fun _=>rfl⟩
    have hk':¬ (1≤(BT xs ⟨0,false,P0z⟩).P.I 0∧(BT xs ⟨0,false,P0z⟩).P.I 0≤5):=fun q=>by rw [Ey.2 q] at hk;cases hk
    unfold LE at q
    rw [if_neg ω,if_neg ω,if_neg ω,if_neg ω,if_neg ω] at q
    cases q
def VW (xs:List UInt8):Bool:=!(Bm xs ⟨0,false,P0z⟩).no&&decide ((Bm xs ⟨0,false,P0z⟩).at_=xs.length)
theorem UP (xs:List UInt8):RN xs=if VW xs=true then some (Bm xs ⟨0,false,P0z⟩).P else none:=by
  have h:=OU xs
  unfold RN VW
  cases hn:(Bm xs ⟨0,false,P0z⟩).no with
  | true=>rw [h.2 hn,if_neg (by simp)]
  | false=>
    obtain ⟨e,hl⟩:=h.1 hn
    rw [e]
    by_cases hx:(Bm xs ⟨0,false,P0z⟩).at_=xs.length
    · rw [hx,List.drop_length,if_pos (by simp)]
    · rw [if_neg (by simp [hx])]
      obtain ⟨y,ys,hy⟩:=List.exists_cons_of_length_pos (l:=xs.drop (Bm xs ⟨0,false,P0z⟩).at_) (by rw [List.length_drop];omega)
      rw [hy]
end
section
structure SideM where
  ep:Int
  last:Int
  told:PkM
  had:Bool
def Ac (e:Int):SideM:=⟨e,0,P0z,false⟩
structure CardM where
  M:MemM
  S:List SideM
  fresh:Bool
abbrev pk0 (P:PkM):List Value:=pkC P none 0 0
def Ai (P:PkM) (e:Int) (d:List UInt8) (o:Int):PkM where
  I k:=if k=0 then 2 else if k=1 then P.I 1 else if k=2 then P.I 2 else if k=3 then P.I 3 else if k=4 then P.I 4 else if k=8 then o else if k=19 then e else 0
  S k:=if k=7 then d else []
  N:=[]
def AM (s:SideM):List Value:=ν s.ep::ν s.last::(pk0 s.told++[.bool s.had])
theorem Cg (s:SideM):(AM s).length=46:=rfl
def An (m:Nat) (S:List SideM) (fr:Bool):List Value:=pG m::(S.flatMap AM++[.bool fr])
section
variable {m:Nat} {S:List SideM} {fr:Bool}
theorem CY (hS:S.length=8):(An m S fr).length=370:=by
  show ((S.flatMap AM)++[_]).length+1=370
  rw [List.length_append,GY Cg,hS];rfl
theorem FJ (hS:S.length=8) {j k o:Nat} (hj:j<8) (hk:k<46) (ho:1+j*46+k=o):(An m S fr)[o]? = (AM (S.getD j (Ac 0)))[k]?:=by
  subst ho
  rw [← Qj Cg (L:=S) (Ac 0) ω hk rfl]
  show (_::_)[_]? = _
  rw [show 1+j*46+k=(j*46+k)+1 from ω,List.getElem?_cons_succ,List.getElem?_append_left (by rw [GY Cg,hS];omega)]
theorem MZ (hS:S.length=8):(An m S fr)[369]? = some (.bool fr):=by
  show (_::_)[368+1]? = _
  rw [List.getElem?_cons_succ,List.getElem?_append_right (by rw [GY Cg,hS];omega),GY Cg,hS];rfl
theorem RH (hS:S.length=8) {j o:Nat} (hj:j<8) (ho:1+j*46+2=o):((An m S fr).drop o).take 43=pk0 (S.getD j (Ac 0)).told:=by
  apply List.ext_getElem?
  intro i
  rw [List.getElem?_take]
  split
  · rename_i hi
    rw [List.getElem?_drop,FJ (fr:=fr) hS hj (k:=2+i) ω ω]
    show (_::_::(_++[_]))[2+i]? = _
    rw [show 2+i=i+1+1 from ω,List.getElem?_cons_succ,List.getElem?_cons_succ,List.getElem?_append_left (show i<43 from hi)]
  · rw [List.getElem?_eq_none];show 43≤i;omega
theorem Jg {α:Type} (L vs:List α) (o i:Nat) (h:o+vs.length≤L.length):(splice L o vs)[i]? = if o≤i∧i<o+vs.length then vs[i-o]? else L[i]?:=by
  unfold splice
  by_cases h1:i<o
  · rw [if_neg ω,List.getElem?_append_left (by rw [List.length_take];omega),List.getElem?_take_of_lt h1]
  · rw [List.getElem?_append_right (by rw [List.length_take];omega),List.length_take,Nat.min_eq_left ω]
    by_cases h2:i<o+vs.length
    · rw [if_pos ω,List.getElem?_append_left ω]
    · rw [if_neg ω,List.getElem?_append_right ω,List.getElem?_drop];congr 1;omega
theorem KZ (hS:S.length=8) {j k o:Nat} {vs:List Value} {s':SideM} (hj:j<8) (hk:k+vs.length≤46) (ho:1+j*46+k=o) (hs:splice (AM (S.getD j (Ac 0))) k vs=AM s'):splice (An m S fr) o vs=An m (S.set j s') fr:=by
  subst ho
  have hS':(S.set j s').length=8:=by rw [List.length_set];exact hS
  apply List.ext_getElem?
  intro i
  rw [Jg _ _ _ _ (by rw [CY hS];omega)]
  by_cases h0:i=0
  · subst h0;rw [if_neg ω];rfl
  by_cases h9:369≤i
  · rw [if_neg ω]
    by_cases h8:i=369
    · subst h8;rw [MZ hS,MZ hS']
    · rw [List.getElem?_eq_none (by rw [CY hS];omega),List.getElem?_eq_none (by rw [CY hS'];omega)]
  · obtain ⟨q,r,hq,hr,rfl⟩:∃ q r,q<8∧r<46∧i=1+q*46+r:=⟨(i-1) / 46,(i-1) % 46,ω,ω,ω⟩
    rw [FJ hS hq hr rfl,FJ hS' hq hr rfl]
    by_cases hqj:q=j
    · subst hqj
      rw [show (S.set q s').getD q (Ac 0)=s' from by rw [List.getD_eq_getElem?_getD,List.getElem?_set_self ω];rfl,← hs,Jg _ _ _ _ (by rw [Cg];exact hk)]
      by_cases hc:k≤r∧r<k+vs.length
      · rw [if_pos ω,if_pos hc];congr 1;omega
      · rw [if_neg ω,if_neg hc]
    · rw [if_neg ω,show (S.set j s').getD q (Ac 0)=S.getD q (Ac 0) from by rw [List.getD_eq_getElem?_getD,List.getD_eq_getElem?_getD,List.getElem?_set_ne ω]]
theorem La (hS:S.length=8) (b:Bool):splice (An m S fr) 369 [.bool b]=An m S b:=by
  have hl:=GY Cg S
  unfold splice
  show (pG m::(S.flatMap AM++[_])).take 369++([_]++_)=pG m::(S.flatMap AM++[_])
  rw [show (369:Nat)=368+1 from rfl,List.take_succ_cons,List.take_append_of_le_length ω,List.take_of_length_le ω,List.drop_of_length_le (show (An m S fr).length≤368+1+[Value.bool b].length from Nat.le_of_eq (CY hS))]
  simp
end
end
section
def wfP (P:PkM):Prop:=∀ o,wfI (P.I o)
def CJ (c at_ n:Int):Bool:=inF ⟨6,c,6784+1024*(c-1),1024⟩ at_ n
def Ju (P:PkM):Bool:=CJ (P.I 1) (P.I 5) (P.I 6)||(match ofP (P.I 5) with
 | some q=>decide (q.k=7)&&inF q (P.I 5) (P.I 6)
 | none=>false)
theorem RY {c:Int} (h1:1≤c) (h8:c≤8):Lp 6 c=some ⟨6,c,6784+1024*(c-1),1024⟩:=by
 rcases (ω:c=1∨c=2∨c=3∨c=4∨c=5∨c=6∨c=7∨c=8) with rfl | rfl | rfl | rfl | rfl | rfl | rfl | rfl<;>kernel_rfl
theorem WQ (g j:Nat) (i:Int) (hi:i=(j:Int)) (hj:j<8) (w:World):(Instr.indexAt 81 (.pointer (some ⟨g,1,none⟩)) (ν i)).run Tryz.prog w=.ok (.pointer (some ⟨g,1+j*46,none⟩)) w:=by
 subst hi
 rcases (ω:j=0∨j=1∨j=2∨j=3∨j=4∨j=5∨j=6∨j=7) with rfl | rfl | rfl | rfl | rfl | rfl | rfl | rfl<;>rfl
theorem Gv (P:PkM):(pk0 P).all (·.oneCell')=true:=rfl
theorem IK (g off:Nat) (w:World):(Instr.fieldAt 39 (.pointer (some ⟨g,off,none⟩)) 1).run Tryz.prog w=.ok (.pointer (some ⟨g,off+1,none⟩)) w:=rfl
theorem Jm (args:Array Value) (w:World):(callFunc 100 args).run Tryz.prog w=.ok (.enter 100 args) w:=by
 have h:=Tryz.func100
 go_simp
theorem IL (g off:Nat) (w:World):(Instr.fieldAt 39 (.pointer (some ⟨g,off,none⟩)) 5).run Tryz.prog w=.ok (.pointer (some ⟨g,off+5,none⟩)) w:=rfl
theorem Kz (args:Array Value) (w:World):(callFunc 101 args).run Tryz.prog w=.ok (.enter 101 args) w:=by
 have h:=Tryz.func101
 go_simp
theorem Fc (g off:Nat) (w:World):(Instr.fieldAt 39 (.pointer (some ⟨g,off,none⟩)) 5).run Tryz.prog w=.ok (.pointer (some ⟨g,off+5,none⟩)) w:=rfl
theorem Hf (args:Array Value) (w:World):(callFunc 103 args).run Tryz.prog w=.ok (.enter 103 args) w:=by
 have h:=Tryz.func103
 go_simp
theorem DA (g off:Nat) (w:World):(Instr.fieldAt 39 (.pointer (some ⟨g,off,none⟩)) 6).run Tryz.prog w=.ok (.pointer (some ⟨g,off+6,none⟩)) w:=rfl
theorem Dl (args:Array Value) (w:World):(callFunc 76 args).run Tryz.prog w=.ok (.enter 76 args) w:=by
 have h:=Tryz.func76
 go_simp
theorem Iv (g off:Nat) (w:World):(Instr.fieldAt 104 (.pointer (some ⟨g,off,none⟩)) 0).run Tryz.prog w=.ok (.pointer (some ⟨g,off+0,none⟩)) w:=rfl
theorem KA (args:Array Value) (w:World):(callFunc 101 args).run Tryz.prog w=.ok (.enter 101 args) w:=by
 have h:=Tryz.func101
 go_simp
theorem Iw (g off:Nat) (w:World):(Instr.fieldAt 83 (.pointer (some ⟨g,off,none⟩)) 1).run Tryz.prog w=.ok (.pointer (some ⟨g,off+1,none⟩)) w:=rfl
theorem LA {w:World} {R:List Ch} {P:PkM} {pa:Option Addr} {pc:Nat} {n:Int} (hS0:Sep w R) (hc:1≤P.I 1∧P.I 1≤8) (wP:wfP P) (hn:wfI n) :
  CallsR Tryz.prog 76 #[.agg (pkC P pa P.N.length pc).toArray,ν n] w (fun v w'=>v=.bool (CJ (P.I 1) (P.I 5) n)∧Sep w' R):=by
 have hS:Sep w [Ch.many R]:=Sep.tail_many (xs:=[]) hS0;clear hS0
 refine Cd Tryz.func76 rfl (N:=21) Tryz.ntmps76 (by show 2≤21;decide) [(0,.agg (pkC P pa P.N.length pc).toArray),(1,ν n)] rfl fun _ h1=>sqr fun _ hK3=>so (wn rfl) fun _ hK1=>Jk h1 rfl rfl rfl rfl rfl (z:=(pkC P pa P.N.length pc)) rfl hS fun _ g4 w7 h5 s8 _ _=>hK1 _ _ ?_
 refine mv h5 rfl fun _ h2=>wpList_nil<|hK3 _ _<|sqr fun _ hK2=>fav h2 rfl (IK _ _) fun _ h3=>ldv h3 s8 0 υ3 rfl rfl rfl rfl fun _ h4=>cl h4 rfl Jm (Er s8 (UX (RY hc.1 hc.2) _)) fun _ v1 w1 r1 h6=>?_
 obtain ⟨rfl,s1⟩:=r1
 refine mvs 3 h6 rfl fun _ h7=>so (wn rfl) fun _ hK4=>Cj h7 rfl rfl rfl rfl (z:=[ν 0,ν 0,ν 0,ν 0]) (fun _=>rfl) s1 fun _ g1 w2 h8 s2 _ _=>hK4 _ _ ?_
 refine stA h8 s2 0 rfl rfl rfl κ rfl rfl rfl rfl fun _ w3 h9 s3 _=>mv h9 rfl fun _ h10=>h10.sn [6,5,4,2,0,1] rfl fun h11=>hK2 _ _<|sqr fun _ hK5=>mvs 2 h11 rfl fun _ h12=>sw h12 (wT h12 (E:=true) rfl rfl rfl) rfl rfl rfl (v:=.agg #[ν 6,ν (P.I 1),ν (6784+1024*(P.I 1-1)),ν 1024]) (rld h12 rfl rfl (ldA υ104 rfl (n:=4) κ (s3.get 0 rfl:Blk _ _ _ _) rfl rfl)) fun _ h13=>sv h13 (wT h13 (E:=true) rfl rfl rfl) rfl rfl rfl (v:=.pointer (some ⟨g4,5,none⟩)) (rfa h13 rfl rfl (fun w=>IL g4 0 w)) fun _ h14=>sw h14 (wT h14 (E:=true) rfl rfl rfl) rfl rfl rfl (v:=ν (P.I 5)) (rld h14 rfl rfl (ldB υ3 rfl (s3.get 1 rfl:Blk _ _ _ _) rfl)) fun _ h15=>sv h15 (wT h15 (E:=true) rfl rfl rfl) rfl rfl rfl (v:=ν n) (Aj h15 rfl rfl) fun _ h16=>?_
 refine so (wT h16 (E:=true) rfl rfl rfl) fun _ hK6=>Bo h16 rfl rfl rfl (xs:=[.tmp 15,.tmp 17,.tmp 18]) rfl Kz rfl (vs:=[.agg #[ν 6,ν (P.I 1),ν (6784+1024*(P.I 1-1)),ν 1024],ν (P.I 5),ν n]) rfl (args:=#[.agg #[ν 6,ν (P.I 1),ν (6784+1024*(P.I 1-1)),ν 1024],ν (P.I 5),ν n]) rfl (Er s3 (Qh 6 (P.I 1) (6784+1024*(P.I 1-1)) 1024 (P.I 5) n _ (by unfold wfI;omega) (by unfold wfI;omega) (wP 5) hn)) fun _ v2 w4 r2 h17=>hK6 _ _ ?_
 obtain ⟨rfl,s4⟩:=r2
 refine sv1 h17 rfl (v:=.bool (inF (⟨6,P.I 1,6784+1024*(P.I 1-1),1024⟩:PartT) (P.I 5) n)) (CX h17 rfl rfl rfl) fun _ h18=>h18.sk [20,19,18,17,16,15,14,13,6,5,2,0,1] rfl fun h19=>mv h19 rfl fun _ h20=>h20.sn [4,6,5,2,0,1] rfl fun h21=>hK5 _ _<|wp_ret ?_
 try simp only [Exit.then,Exit.inBlock]
 refine CO (v:=.bool (inF (⟨6,P.I 1,6784+1024*(P.I 1-1),1024⟩:PartT) (P.I 5) n)) (CN h21 rfl rfl) h21.defs ?_
 exact ⟨rfl,Sep.tail_un (xs:=[]) (s4.pk [2] rfl)⟩
theorem Sh {w:World} {R:List Ch} {P:PkM} {pa:Option Addr} {pc:Nat} (hS0:Sep w R) (hc:1≤P.I 1∧P.I 1≤8) (wP:wfP P)  :
  CallsR Tryz.prog 78 #[.agg (pkC P pa P.N.length pc).toArray] w (fun v w'=>v=.bool (Ju P)∧Sep w' R):=by
 have hS:Sep w [Ch.many R]:=Sep.tail_many (xs:=[]) hS0;clear hS0
 refine Cd Tryz.func78 rfl (N:=31) Tryz.ntmps78 (by show 1≤31;decide) [(0,.agg (pkC P pa P.N.length pc).toArray)] rfl fun _ h1=>sqr fun _ hK3=>so (wn rfl) fun _ hK1=>Jk h1 rfl rfl rfl rfl rfl (z:=(pkC P pa P.N.length pc)) rfl hS fun _ g4 w7 h5 s8 _ _=>hK1 _ _ ?_
 refine mv h5 rfl fun _ h2=>wpList_nil<|hK3 _ _<|sqr fun _ hK2=>fav h2 rfl (Fc _ _) fun _ h3=>ldv h3 s8 0 υ3 rfl rfl rfl rfl fun _ h4=>?_
 rcases bC ((ofP (P.I 5)).isSome) with hc1 | hc1
 ·skip
  obtain ⟨q,hq⟩:=Option.isSome_iff_exists.1 hc1
  refine cl h4 rfl Hf (Er s8 (WZ (wP 5) (k:=q.k) (n:=q.n) (a:=q.a) (s:=q.s) hq _)) fun _ v1 w1 r1 h6=>?_
  obtain ⟨rfl,s1⟩:=r1
  refine mvs 3 h6 rfl fun _ h7=>so (wn rfl) fun _ hK4=>Cj h7 rfl rfl rfl rfl (z:=[ν 0,ν 0,ν 0,ν 0]) (fun _=>rfl) s1 fun _ g1 w2 h8 s2 _ _=>hK4 _ _ ?_
  refine stA h8 s2 0 rfl rfl rfl κ rfl rfl rfl rfl fun _ w3 h9 s3 _=>mv h9 rfl fun _ h10=>h10.sn [4,3,2,1,0] rfl fun h11=>hK2 _ _<|sqr fun _ hK5=>sw1 h11 rfl (v:=.agg (pkC P pa P.N.length pc).toArray) (rld h11 rfl rfl (ldA υ39 rfl (n:=43) κ (s3.get 1 rfl:Blk _ _ _ _) rfl rfl)) fun _ h12=>fav h12 rfl (DA _ _) fun _ h13=>ldv h13 s3 1 υ3 rfl rfl rfl rfl fun _ h14=>?_
  rcases bC (CJ (P.I 1) (P.I 5) (P.I 6)) with hc2 | hc2
  ·skip
   refine cl h14 rfl Dl (LA (P:=P) (pa:=pa) (pc:=pc) (n:=(P.I 6)) s3 hc wP (wP 6)) fun _ v2 w4 r2 h15=>?_
   obtain ⟨rfl,s4⟩:=r2
   refine mv h15 rfl fun _ h16=>su h16 ((wF h16 rfl rfl rfl).trans (BX hc2)) rfl rfl rfl fun _ h17=>su h17 ((wF h17 rfl rfl rfl).trans (BX hc2)) rfl rfl rfl fun _ h18=>su h18 (wgu h18 rfl rfl rfl) rfl rfl rfl fun _ h19=>su h19 (wgu h19 rfl rfl rfl) rfl rfl rfl fun _ h20=>su h20 (wgu h20 rfl rfl rfl) rfl rfl rfl fun _ h21=>su h21 ((wF h21 rfl rfl rfl).trans (BX hc2)) rfl rfl rfl fun _ h22=>su h22 ((wF h22 rfl rfl rfl).trans (BX hc2)) rfl rfl rfl fun _ h23=>su h23 (wgu h23 rfl rfl rfl) rfl rfl rfl fun _ h24=>su h24 (wgu h24 rfl rfl rfl) rfl rfl rfl fun _ h25=>?_
   refine su h25 (wgu h25 rfl rfl rfl) rfl rfl rfl fun _ h26=>su h26 (wgu h26 rfl rfl rfl) rfl rfl rfl fun _ h27=>su h27 (wgu h27 rfl rfl rfl) rfl rfl rfl fun _ h28=>su h28 (wgu h28 rfl rfl rfl) rfl rfl rfl fun _ h29=>su h29 ((wF h29 rfl rfl rfl).trans (BX hc2)) rfl rfl rfl fun _ h30=>sv1 h30 rfl (v:=.bool true) (CL h30 rfl (E:=(CJ (P.I 1) (P.I 5) (P.I 6))) (b:=true) rfl hc2 rfl) fun _ h31=>h31.sk [30,29,28,27,26,25,24,23,22,21,20,19,18,17,16,15,14,13,12,11,4,3,1,0] rfl fun h32=>mv h32 rfl fun _ h33=>h33.sn [2,4,3,1,0] rfl fun h34=>hK5 _ _ ?_
   refine wp_ret ?_
   try simp only [Exit.then,Exit.inBlock]
   refine CO (v:=.bool true) (CN h34 rfl rfl) h34.defs ?_
   exact ⟨congrArg Value.bool (by unfold Ju;rw [hq];first | (simp_all;done) | (obtain ⟨k,n,a,s⟩:=q;simp_all)),Sep.tail_un (xs:=[]) (s4.pk [2] rfl)⟩
  ·skip
   refine cl h14 rfl Dl (LA (P:=P) (pa:=pa) (pc:=pc) (n:=(P.I 6)) s3 hc wP (wP 6)) fun _ v3 w5 r3 h35=>?_
   obtain ⟨rfl,s5⟩:=r3
   refine mv h35 rfl fun _ h36=>sv h36 ((wF h36 rfl rfl rfl).trans (Bj hc2)) rfl rfl rfl (v:=.bool true) (Aj h36 rfl rfl) fun _ h37=>sv h37 ((wF h37 rfl rfl rfl).trans (Bj hc2)) rfl rfl rfl (v:=.bool true) (Aj h37 rfl rfl) fun _ h38=>sv h38 (wT h38 (E:=true) rfl rfl rfl) rfl rfl rfl (v:=π g1) (rfa h38 rfl rfl (fun w=>Iv g1 0 w)) fun _ h39=>sw h39 (wT h39 (E:=true) rfl rfl rfl) rfl rfl rfl (v:=ν q.k) (rld h39 rfl rfl (ldB υ3 rfl (s5.get 0 rfl:Blk _ _ _ _) rfl)) fun _ h40=>sv h40 (wT h40 (E:=true) rfl rfl rfl) rfl rfl rfl (v:=.bool (decide (q.k=7))) (Cy h40 rfl rfl rfl (cEq _ _ _ _ rfl)) fun _ h41=>sv h41 ((wF h41 rfl rfl rfl).trans (Bj hc2)) rfl rfl rfl (v:=.bool (decide (q.k=7))) (CX h41 rfl rfl rfl) fun _ h42=>sv h42 ((wF h42 rfl rfl rfl).trans (Bj hc2)) rfl rfl rfl (v:=.bool (decide (q.k=7))) (Aj h42 rfl rfl) fun _ h43=>sg h43 (wT h43 rfl rfl rfl) rfl rfl rfl (v:=.agg #[ν q.k,ν q.n,ν q.a,ν q.s]) (fun hC1=>by have hq:=(dT hC1);exact (rld h43 rfl rfl (ldA υ104 rfl (n:=4) κ (s5.get 0 rfl:Blk _ _ _ _) rfl rfl))) fun _ h44=>sg h44 (wT h44 rfl rfl rfl) rfl rfl rfl (v:=.pointer (some ⟨g4,5,none⟩)) (fun hC2=>by have hq:=(dT hC2);exact rfa h44 rfl rfl (fun w=>Fc g4 0 w) _) fun _ h45=>?_
   refine sg h45 (wT h45 rfl rfl rfl) rfl rfl rfl (v:=ν (P.I 5)) (fun hC3=>by have hq:=(dT hC3);exact (rld h45 rfl (opg rfl hC3) (ldB υ3 rfl (s5.get 1 rfl:Blk _ _ _ _) rfl))) fun _ h46=>sg h46 (wT h46 rfl rfl rfl) rfl rfl rfl (v:=.pointer (some ⟨g4,6,none⟩)) (fun hC4=>by have hq:=(dT hC4);exact rfa h46 rfl rfl (fun w=>DA g4 0 w) _) fun _ h47=>sg h47 (wT h47 rfl rfl rfl) rfl rfl rfl (v:=ν (P.I 6)) (fun hC5=>by have hq:=(dT hC5);exact (rld h47 rfl (opg rfl hC5) (ldB υ3 rfl (s5.get 1 rfl:Blk _ _ _ _) rfl))) fun _ h48=>?_
   rcases bC (decide (q.k=7)) with hc3 | hc3
   ·skip
    have hp1:q.k=7:=(dT hc3)
    refine so ((wT h48 rfl rfl rfl).trans hc3) fun _ hK6=>Bo h48 rfl rfl rfl (xs:=[.tmp 23,.tmp 25,.tmp 27]) rfl KA rfl (vs:=[.agg #[ν q.k,ν q.n,ν q.a,ν q.s],ν (P.I 5),ν (P.I 6)]) (EF (opg rfl hc3) (EF (opg rfl hc3) (EF (opg rfl hc3) rfl))) (args:=#[.agg #[ν q.k,ν q.n,ν q.a,ν q.s],ν (P.I 5),ν (P.I 6)]) rfl (Er s5 (Qh q.k q.n q.a q.s (P.I 5) (P.I 6) _ (by have:=Ia q (Ha hq).1;unfold wfI;omega) (by have:=Ia q (Ha hq).1;unfold wfI;omega) (wP 5) (wP 6))) fun _ v4 w6 r4 h49=>hK6 _ _ ?_
    obtain ⟨rfl,s6⟩:=r4
    refine sv h49 ((wF h49 rfl rfl rfl).trans (Bj hc2)) rfl rfl rfl (v:=.bool (inF ⟨q.k,q.n,q.a,q.s⟩ (P.I 5) (P.I 6))) (CL h49 rfl (E:=(decide (q.k=7))) (b:=true) rfl hc3 rfl) fun _ h50=>sv1 h50 rfl (v:=.bool (inF ⟨q.k,q.n,q.a,q.s⟩ (P.I 5) (P.I 6))) (CL h50 rfl (E:=(CJ (P.I 1) (P.I 5) (P.I 6))) (b:=false) rfl hc2 rfl) fun _ h51=>h51.sk [30,29,28,27,26,25,24,23,22,21,20,19,18,17,16,15,14,13,12,11,4,3,1,0] rfl fun h52=>mv h52 rfl fun _ h53=>h53.sn [2,4,3,1,0] rfl fun h54=>hK5 _ _<|wp_ret ?_
    try simp only [Exit.then,Exit.inBlock]
    refine CO (v:=.bool (inF ⟨q.k,q.n,q.a,q.s⟩ (P.I 5) (P.I 6))) (CN h54 rfl rfl) h54.defs ?_
    exact ⟨congrArg Value.bool (by unfold Ju;rw [hq];first | (simp_all;done) | (obtain ⟨k,n,a,s⟩:=q;simp_all)),Sep.tail_un (xs:=[]) (s6.pk [2] rfl)⟩
   ·skip
    have hp2:¬ (q.k=7):=(dF hc3)
    refine su h48 ((wT h48 rfl rfl rfl).trans hc3) rfl rfl rfl fun _ h55=>sv h55 ((wF h55 rfl rfl rfl).trans (Bj hc2)) rfl rfl rfl (v:=.bool false) (CL h55 rfl (E:=(decide (q.k=7))) (b:=false) rfl hc3 rfl) fun _ h56=>sv1 h56 rfl (v:=.bool false) (CL h56 rfl (E:=(CJ (P.I 1) (P.I 5) (P.I 6))) (b:=false) rfl hc2 rfl) fun _ h57=>h57.sk [30,29,28,27,26,25,24,23,22,21,20,19,18,17,16,15,14,13,12,11,4,3,1,0] rfl fun h58=>mv h58 rfl fun _ h59=>h59.sn [2,4,3,1,0] rfl fun h60=>hK5 _ _<|wp_ret ?_
    try simp only [Exit.then,Exit.inBlock]
    refine CO (v:=.bool false) (CN h60 rfl rfl) h60.defs ?_
    exact ⟨congrArg Value.bool (by unfold Ju;rw [hq];first | (simp_all;done) | (obtain ⟨k,n,a,s⟩:=q;simp_all)),Sep.tail_un (xs:=[]) (s5.pk [2] rfl)⟩
 ·skip
  have hq:ofP (P.I 5)=none:=Option.not_isSome_iff_eq_none.1 (by rw [hc1];exact Bool.false_ne_true)
  refine cl h4 rfl Hf (Er s8 (Xa (wP 5) hq _)) fun _ v5 w8 r5 h61=>?_
  obtain ⟨rfl,s7⟩:=r5
  refine mvs 3 h61 rfl fun _ h62=>so (wn rfl) fun _ hK7=>Cj h62 rfl rfl rfl rfl (z:=[ν 0,ν 0,ν 0,ν 0]) (fun _=>rfl) s7 fun _ g2 w9 h63 s9 _ _=>hK7 _ _ ?_
  refine stA h63 s9 0 rfl rfl rfl κ rfl rfl rfl rfl fun _ w10 h64 s10 _=>mv h64 rfl fun _ h65=>h65.sn [4,3,2,1,0] rfl fun h66=>hK2 _ _<|sqr fun _ hK8=>sw1 h66 rfl (v:=.agg (pkC P pa P.N.length pc).toArray) (rld h66 rfl rfl (ldA υ39 rfl (n:=43) κ (s10.get 1 rfl:Blk _ _ _ _) rfl rfl)) fun _ h67=>fav h67 rfl (DA _ _) fun _ h68=>ldv h68 s10 1 υ3 rfl rfl rfl rfl fun _ h69=>?_
  rcases bC (CJ (P.I 1) (P.I 5) (P.I 6)) with hc4 | hc4
  ·skip
   refine cl h69 rfl Dl (LA (P:=P) (pa:=pa) (pc:=pc) (n:=(P.I 6)) s10 hc wP (wP 6)) fun _ v6 w11 r6 h70=>?_
   obtain ⟨rfl,s11⟩:=r6
   refine mv h70 rfl fun _ h71=>su h71 ((wF h71 rfl rfl rfl).trans (BX hc4)) rfl rfl rfl fun _ h72=>su h72 ((wF h72 rfl rfl rfl).trans (BX hc4)) rfl rfl rfl fun _ h73=>su h73 (wgu h73 rfl rfl rfl) rfl rfl rfl fun _ h74=>su h74 (wgu h74 rfl rfl rfl) rfl rfl rfl fun _ h75=>su h75 (wgu h75 rfl rfl rfl) rfl rfl rfl fun _ h76=>su h76 ((wF h76 rfl rfl rfl).trans (BX hc4)) rfl rfl rfl fun _ h77=>su h77 ((wF h77 rfl rfl rfl).trans (BX hc4)) rfl rfl rfl fun _ h78=>su h78 (wgu h78 rfl rfl rfl) rfl rfl rfl fun _ h79=>su h79 (wgu h79 rfl rfl rfl) rfl rfl rfl fun _ h80=>?_
   refine su h80 (wgu h80 rfl rfl rfl) rfl rfl rfl fun _ h81=>su h81 (wgu h81 rfl rfl rfl) rfl rfl rfl fun _ h82=>su h82 (wgu h82 rfl rfl rfl) rfl rfl rfl fun _ h83=>su h83 (wgu h83 rfl rfl rfl) rfl rfl rfl fun _ h84=>su h84 ((wF h84 rfl rfl rfl).trans (BX hc4)) rfl rfl rfl fun _ h85=>sv1 h85 rfl (v:=.bool true) (CL h85 rfl (E:=(CJ (P.I 1) (P.I 5) (P.I 6))) (b:=true) rfl hc4 rfl) fun _ h86=>h86.sk [30,29,28,27,26,25,24,23,22,21,20,19,18,17,16,15,14,13,12,11,4,3,1,0] rfl fun h87=>mv h87 rfl fun _ h88=>h88.sn [2,4,3,1,0] rfl fun h89=>hK8 _ _ ?_
   refine wp_ret ?_
   try simp only [Exit.then,Exit.inBlock]
   refine CO (v:=.bool true) (CN h89 rfl rfl) h89.defs ?_
   exact ⟨congrArg Value.bool (by unfold Ju;rw [hq];first | (simp_all;done) | (obtain ⟨k,n,a,s⟩:=q;simp_all)),Sep.tail_un (xs:=[]) (s11.pk [2] rfl)⟩
  ·skip
   refine cl h69 rfl Dl (LA (P:=P) (pa:=pa) (pc:=pc) (n:=(P.I 6)) s10 hc wP (wP 6)) fun _ v7 w12 r7 h90=>?_
   obtain ⟨rfl,s12⟩:=r7
   refine mv h90 rfl fun _ h91=>sv h91 ((wF h91 rfl rfl rfl).trans (Bj hc4)) rfl rfl rfl (v:=.bool false) (Aj h91 rfl rfl) fun _ h92=>sv h92 ((wF h92 rfl rfl rfl).trans (Bj hc4)) rfl rfl rfl (v:=.bool false) (Aj h92 rfl rfl) fun _ h93=>su h93 (wT h93 (E:=false) rfl rfl rfl) rfl rfl rfl fun _ h94=>su h94 (wT h94 (E:=false) rfl rfl rfl) rfl rfl rfl fun _ h95=>su h95 (wT h95 (E:=false) rfl rfl rfl) rfl rfl rfl fun _ h96=>sv h96 ((wF h96 rfl rfl rfl).trans (Bj hc4)) rfl rfl rfl (v:=.bool false) (CX h96 rfl rfl rfl) fun _ h97=>sv h97 ((wF h97 rfl rfl rfl).trans (Bj hc4)) rfl rfl rfl (v:=.bool false) (Aj h97 rfl rfl) fun _ h98=>su h98 (wT h98 (E:=false) rfl rfl rfl) rfl rfl rfl fun _ h99=>su h99 (wT h99 (E:=false) rfl rfl rfl) rfl rfl rfl fun _ h100=>?_
   refine su h100 (wT h100 (E:=false) rfl rfl rfl) rfl rfl rfl fun _ h101=>su h101 (wT h101 (E:=false) rfl rfl rfl) rfl rfl rfl fun _ h102=>su h102 (wT h102 (E:=false) rfl rfl rfl) rfl rfl rfl fun _ h103=>su h103 (wT h103 (E:=false) rfl rfl rfl) rfl rfl rfl fun _ h104=>sv h104 ((wF h104 rfl rfl rfl).trans (Bj hc4)) rfl rfl rfl (v:=.bool false) (CX h104 rfl rfl rfl) fun _ h105=>sv1 h105 rfl (v:=.bool false) (CL h105 rfl (E:=(CJ (P.I 1) (P.I 5) (P.I 6))) (b:=false) rfl hc4 rfl) fun _ h106=>h106.sk [30,29,28,27,26,25,24,23,22,21,20,19,18,17,16,15,14,13,12,11,4,3,1,0] rfl fun h107=>mv h107 rfl fun _ h108=>h108.sn [2,4,3,1,0] rfl fun h109=>hK8 _ _ ?_
   refine wp_ret ?_
   try simp only [Exit.then,Exit.inBlock]
   refine CO (v:=.bool false) (CN h109 rfl rfl) h109.defs ?_
   exact ⟨congrArg Value.bool (by unfold Ju;rw [hq];first | (simp_all;done) | (obtain ⟨k,n,a,s⟩:=q;simp_all)),Sep.tail_un (xs:=[]) (s12.pk [2] rfl)⟩
theorem MJ {w:World} {R:List Ch} {cg:Nat} {c:Int} (hS0:Sep w R) (hcw:wfI c) :
  CallsR Tryz.prog 27 #[π cg,ν c] w (fun v w'=>v=(if c<1∨8<c then .pointer none else .pointer (some ⟨cg,1+(c-1).toNat*46,none⟩))∧Sep w' R):=by
 have hS:Sep w [Ch.many R]:=Sep.tail_many (xs:=[]) hS0;clear hS0
 unfold wfI at hcw
 refine Cd Tryz.func27 rfl (N:=17) Tryz.ntmps27 (by show 2≤17;decide) [(0,π cg),(1,ν c)] rfl fun _ h1=>sqr fun _ hK3=>mv h1 rfl fun _ h4=>wpList_nil<|hK3 _ _<|sq fun _ hK6=>sqr fun _ hK7=>mv h4 rfl fun _ h8=>bv h8 (z:=.bool (decide (c<1))) rfl (cLt _ _ _ _ rfl) fun _ h2=>mv h2 rfl fun _ h3=>sg h3 (wF h3 rfl rfl rfl) rfl rfl rfl (v:=ν c) (fun hC1=>by have hq:=(dF (CE hC1));exact Aj h3 rfl rfl _) fun _ h5=>sg h5 (wF h5 rfl rfl rfl) rfl rfl rfl (v:=.bool (decide (c>8))) (fun hC2=>by have hq:=(dF (CE hC2));exact Cy h5 rfl (opg rfl hC2) rfl (cGt _ _ _ _ rfl) _) fun _ h6=>?_
 refine sv1 h6 rfl (v:=.bool ((decide (c<1))||(decide (c>8)))) (Jf h6 rfl (E:=(decide (c<1))) (F:=(decide (c>8))) rfl rfl rfl (fun e=>if_pos (by rw [e];try rfl))) fun _ h7=>h7.sn [10,4,0,1] rfl fun h9=>hK7 _ _ ?_
 rcases bC ((decide (c<1))||(decide (c>8))) with hc1 | hc1
 ·skip
  have hp1:(c<1)∨(c>8):=((orT hc1).imp (fun q=>(dT q)) (fun q=>(dT q)))
  refine wcT h9 rfl hc1<|h9.sk [4,0,1] rfl fun h10=>sqr fun _ hK1=>h10.sk [0,1] rfl fun h11=>mv h11 rfl fun _ h12=>wpList_nil<|hK1 _ _<|wp_ret ?_
  try simp only [Exit.then,Exit.inBlock]
  refine CO (v:=.pointer none) (CN h12 rfl rfl) h12.defs ?_
  exact ⟨(if_pos ω).symm,Sep.tail_un (xs:=[]) hS⟩
 ·skip
  have hp2:(¬ (c<1))∧(¬ (c>8)):=(And.intro (dF (orF hc1).1) (dF (orF hc1).2))
  refine wcF h9 rfl hc1<|h9.sk [4,0,1] rfl fun h13=>wp_skip<|hK6 _ _<|sqr fun _ hK2=>mvs 2 h13 rfl fun _ h14=>bv h14 (z:=ν (c-1)) rfl (MX _ _ _ ω ω ω) fun _ h15=>mv h15 rfl fun _ h16=>fav h16 rfl (Iw _ _) fun _ h17=>sv1 h17 rfl (v:=.pointer (some ⟨cg,1+((c-1).toNat)*46,none⟩)) (Dy h17 rfl rfl rfl (fun w=>WQ cg ((c-1).toNat) (c-1) ω ω w)) fun _ h18=>h18.sk [16,15,14,13,12,11,0,1] rfl fun h19=>?_
  refine mv h19 rfl fun _ h20=>h20.sn [4,0,1] rfl fun h21=>hK2 _ _<|wp_ret ?_
  try simp only [Exit.then,Exit.inBlock]
  refine CO (v:=.pointer (some ⟨cg,1+((c-1).toNat)*46,none⟩)) (CN h21 rfl rfl) h21.defs ?_
  exact ⟨(if_neg ω).symm,Sep.tail_un (xs:=[]) hS⟩
theorem Kf {w:World} {R:List Ch} {cg j:Nat} {c:Int} (hS0:Sep w R) (hj:j<8) (hc:c=(j:Int)+1):CallsR Tryz.prog 27 #[π cg,ν c] w (fun v w'=>v=.pointer (some ⟨cg,1+j*46,none⟩)∧Sep w' R):=by
 have z:=MJ (cg:=cg) (c:=c) hS0 (by unfold wfI;omega)
 rw [if_neg ω,show (c-1).toNat=j from ω] at z;exact z
theorem QG {w:World} {R:List Ch} {cg:Nat} {c:Int} (hS0:Sep w R) (hcw:wfI c) (hc:c<1∨8<c):CallsR Tryz.prog 27 #[π cg,ν c] w (fun v w'=>v=.pointer none∧Sep w' R):=by
 have z:=MJ (cg:=cg) (c:=c) hS0 hcw
 rw [if_pos hc] at z;exact z
end
section
def Um (g c:Nat) (X:List UInt8):Ch where
  F b:=b=g
  P w:=BB w (some ⟨g,0,none⟩) c X∧g<w.heap.size
  keep h t:=⟨t.row h.1 (fun _ b hb q=>q (by obtain ⟨off,e⟩:=hb;cases e;rfl)),Nat.lt_of_lt_of_le h.2 t.size⟩
  lt h b hb:=hb ▸ h.2
theorem MY (w:World) (e:TypeId) (s:ByteArray):Below w.heap.size w (Lib.bytesWorld w e s):=by
  refine ⟨?_,?_,?_,?_,fun k hk=>Lib.bytesWorld_at_old w e s k hk⟩
  all_goals simp [Lib.bytesWorld,World.freeze,World.alloc,World.drew,-World.alloc_eq,-World.drew_eq]
theorem PD (w:World) (e:TypeId) (X:List UInt8) (hX:X.length≤maxLen):BB (Lib.bytesWorld w e (Ad X)) (some ⟨w.heap.size,0,none⟩) (grownCap w X.length 0 e) X:=by
  refine (fun (h1:∀ j u,(X.map Ap)[j]? = some u→(Lib.bytesWorld w e (Ad X)).cell? ⟨w.heap.size,0+j,none⟩=some u)=>⟨by simp,grownCap_ge w X.length 0 e,grownCap_le_maxLen w X.length 0 e hX,(fun h=>by cases h),fun _=>⟨w.heap.size,0,rfl,by rw [Lib.bytesWorld_size];omega,h1⟩⟩) (fun j u hu=>?_)
  obtain ⟨hj,e1⟩:=List.getElem?_eq_some_iff.1 hu
  have hj':j<X.length:=by simpa using hj
  rw [Nat.zero_add,Lib.bytesWorld_cell w e (Ad X) j (by rw [Iq];exact hj'),← e1]
  simp [Kg,Ap,List.getD,List.getElem?_eq_getElem hj']
section
variable {P:Program} {o:Oper} {a:Act} {N:Nat} {l:List (Nat×Value)} {K:Act→World→Prop} {Q:Exit→Act→World→Prop} {w:World} {cs:List Ch}
theorem Rv (h:Kn N l a) {d:Nat} (hd:o.dst=some d) (hdN:decide (d<N)=true) (hf:l.all (fun x=>!(x.1 == d))=true) {T T' e:TypeId} {x:Operand} (ho:o.op=.convert T T' x) {X:List UInt8} (hx:opv l x=some (σ X))
    (hs:P.underlying T=some .string) (hd':P.underlying T'=some (.slice e)) (he:P.underlying e=some (.int .u8)) (hX:X.length≤maxLen) (hS:Sep w cs)
    (k:∀ a' g c w',Kn N ((d,.slice (some ⟨g,0,none⟩) X.length c)::l) a'→Sep w' (Um g c X::cs)→K a' w'):Oper.wp P o a w K Q:=by
  have hr:=Lib.run_convert_string_bytes (P:=P) w T T' e (Ad X) hs hd' he
  rw [Iq] at hr
  refine QR (v:=.slice (some ⟨w.heap.size,0,none⟩) X.length (grownCap w X.length 0 e)) (w':=Lib.bytesWorld w e (Ad X)) h hd hdN hf (by unfold execOp;rw [ho];simp only [h.op hx];exact Af hr) fun a' h'=>k a' _ _ _ h' (hS.push (MY w e _) (c:=Um w.heap.size _ X) ⟨PD w e X hX,by rw [Lib.bytesWorld_size];omega⟩ (fun k e=>Nat.le_of_eq e.symm))
theorem Vy (h:Kn N l a) {x:Operand} (ho:o.op=.convert 60 9 x) {ad:Option Addr} {B c:Nat} {X:List UInt8} (hx:opv l x=some (.slice ad X.length c)) (hO:Own w B 5 1 ad X.length c (X.map Ap)):(execOp a.eval o).run Tryz.prog w=.ok (.value (σ X)) w:=by
  unfold execOp;rw [ho];simp only [h.op hx];exact Af (NF hO.row)
end
end
section
theorem Dm {M:MemM} {c at_ n:Int} (hM:M.V.length=23168) (hc:1≤c∧c≤8) (h:CJ c at_ n=true) (hn:0≤n):inM M at_ n=true:=by
 unfold CJ inF at h
 have h:=dT h
 exact decide_eq_true (by simp only at h;omega)
theorem Su:∀ x∈AK,x.a+x.s≤23168:=by decide +kernel
theorem Rd {M:MemM} {P:PkM} (hM:M.V.length=23168) (hc:1≤P.I 1∧P.I 1≤8) (h:Ju P=true):inM M (P.I 5) (P.I 6)=true:=by
 unfold Ju at h
 rcases Bool.or_eq_true _ _ ▸ h with h | h
 ·have h1:=h
  unfold CJ inF at h1
  have h1:=dT h1
  exact Dm hM hc h (by simp only at h1;omega)
 ·cases hq:ofP (P.I 5) with
  | none=>rw [hq] at h;cases h
  | some q=>
   rw [hq] at h
   have h2:=(Bool.and_eq_true _ _ ▸ h).2
   unfold inF at h2
   have h2:=dT h2
   have h3:=Ia q (Ha hq).1
   have h4:=Su q (Ha hq).1
   exact decide_eq_true ω
theorem Us {f:FuncId} {args:Array Value} {x:Value} {w:World} {R:List Ch} (hS:Sep w R) (h:Calls Tryz.prog f args w fun e w'=>e=.returned x∧w=w'):CallsR Tryz.prog f args w (fun v w'=>v=x∧Sep w' R):=
 Calls.mono h fun e w' ⟨e1,b⟩=>⟨x,e1,rfl,b ▸ hS⟩
theorem VY {w:World} {R:List Ch} (hS:Sep w R) {x:Int} (h0:0≤x) (h1:wfI x):CallsR Tryz.prog 82 #[ν x] w (fun v w'=>∃ g,v=.slice (some ⟨g,0,none⟩) (le 8 x.toNat).length 8∧Sep w' (Um g 8 (le 8 x.toNat)::R)):=by
 unfold wfI at h1
 have z:=Ta x.toNat w ω
 rw [Int.toNat_of_nonneg h0] at z
 refine Calls.mono z fun e w' ⟨e1,hb,b⟩=>⟨_,e1,w.heap.size,by rw [AH],hS.push b (c:=Um w.heap.size 8 _) ⟨?_,hb.lt⟩ (fun k e=>Nat.le_of_eq e.symm)⟩
 have hl:(le 8 x.toNat).length=8:=AH _ _
 have hr:Row w' 1 (some ⟨w.heap.size,0,none⟩) 8 8 ((le 8 x.toNat).map Ap):=Ec hb 1 8 (by simp [hl]) ω
 show Row w' 1 _ (le 8 x.toNat).length 8 _
 rw [hl];exact hr
def Ki (P:PkM) (M:MemM):MemM×Int×List UInt8×Int:=if P.S 7≠[]∧CJ (P.I 1) (P.I 5) ((P.S 7).length:Int)=true then (CM M (P.I 5).toNat (P.S 7),0,[],0) else (M,35,[],0)
def LW (P:PkM) (M:MemM):MemM×Int×List UInt8×Int:=if P.I 6≠0∧P.I 6≤64∧Ju P=true then (M,0,Ay M.V (P.I 5) (P.I 6),0) else (M,35,[],0)
def Fr (P:PkM) (M:MemM):MemM×Int×List UInt8×Int:=if P.I 6≠0∧CJ (P.I 1) (P.I 5) (P.I 6)=true then (Fj (En M (P.I 5).toNat (P.I 6).toNat),0,[],0) else (M,35,[],0)
def FR (P:PkM) (M:MemM):MemM×Int×List UInt8×Int:=
 if (P.I 5).tmod 8=0∧CJ (P.I 1) (P.I 5) 8=true then
  (if BQ (Ay M.V (P.I 5) 8)=P.I 8 then (CM M (P.I 5).toNat (le 8 (P.I 9).toNat),0,[],BQ (Ay M.V (P.I 5) 8)) else (M,0,[],BQ (Ay M.V (P.I 5) 8)))
 else (M,35,[],0)
theorem DB (g off:Nat) (w:World):(Instr.fieldAt 39 (.pointer (some ⟨g,off,none⟩)) 7).run Tryz.prog w=.ok (.pointer (some ⟨g,off+7,none⟩)) w:=rfl
theorem JU (args:Array Value) (w:World):(callFunc 76 args).run Tryz.prog w=.ok (.enter 76 args) w:=by
 have h:=Tryz.func76
 go_simp
theorem Iy (g off:Nat) (w:World):(Instr.fieldAt 83 (.pointer (some ⟨g,off,none⟩)) 0).run Tryz.prog w=.ok (.pointer (some ⟨g,off+0,none⟩)) w:=rfl
theorem IM (g off:Nat) (w:World):(Instr.fieldAt 39 (.pointer (some ⟨g,off,none⟩)) 5).run Tryz.prog w=.ok (.pointer (some ⟨g,off+5,none⟩)) w:=rfl
theorem Gk (args:Array Value) (w:World):(callFunc 77 args).run Tryz.prog w=.ok (.enter 77 args) w:=by
 have h:=Tryz.func77
 go_simp
theorem DC (g off:Nat) (w:World):(Instr.fieldAt 39 (.pointer (some ⟨g,off,none⟩)) 6).run Tryz.prog w=.ok (.pointer (some ⟨g,off+6,none⟩)) w:=rfl
theorem Hq (args:Array Value) (w:World):(callFunc 78 args).run Tryz.prog w=.ok (.enter 78 args) w:=by
 have h:=Tryz.func78
 go_simp
theorem Iz (g off:Nat) (w:World):(Instr.fieldAt 83 (.pointer (some ⟨g,off,none⟩)) 0).run Tryz.prog w=.ok (.pointer (some ⟨g,off+0,none⟩)) w:=rfl
theorem IN (g off:Nat) (w:World):(Instr.fieldAt 39 (.pointer (some ⟨g,off,none⟩)) 5).run Tryz.prog w=.ok (.pointer (some ⟨g,off+5,none⟩)) w:=rfl
theorem GK (args:Array Value) (w:World):(callFunc 15 args).run Tryz.prog w=.ok (.enter 15 args) w:=by
 have h:=Tryz.func15
 go_simp
theorem IO (g off:Nat) (w:World):(Instr.fieldAt 39 (.pointer (some ⟨g,off,none⟩)) 7).run Tryz.prog w=.ok (.pointer (some ⟨g,off+7,none⟩)) w:=rfl
theorem DD (g off:Nat) (w:World):(Instr.fieldAt 39 (.pointer (some ⟨g,off,none⟩)) 6).run Tryz.prog w=.ok (.pointer (some ⟨g,off+6,none⟩)) w:=rfl
theorem JV (args:Array Value) (w:World):(callFunc 76 args).run Tryz.prog w=.ok (.enter 76 args) w:=by
 have h:=Tryz.func76
 go_simp
theorem EO (g off:Nat) (w:World):(Instr.fieldAt 83 (.pointer (some ⟨g,off,none⟩)) 0).run Tryz.prog w=.ok (.pointer (some ⟨g,off+0,none⟩)) w:=rfl
theorem IP (g off:Nat) (w:World):(Instr.fieldAt 39 (.pointer (some ⟨g,off,none⟩)) 5).run Tryz.prog w=.ok (.pointer (some ⟨g,off+5,none⟩)) w:=rfl
theorem Gj (args:Array Value) (w:World):(callFunc 79 args).run Tryz.prog w=.ok (.enter 79 args) w:=by
 have h:=Tryz.func79
 go_simp
theorem Gi (args:Array Value) (w:World):(callFunc 80 args).run Tryz.prog w=.ok (.enter 80 args) w:=by
 have h:=Tryz.func80
 go_simp
theorem DE (g off:Nat) (w:World):(Instr.fieldAt 39 (.pointer (some ⟨g,off,none⟩)) 5).run Tryz.prog w=.ok (.pointer (some ⟨g,off+5,none⟩)) w:=rfl
theorem JW (args:Array Value) (w:World):(callFunc 76 args).run Tryz.prog w=.ok (.enter 76 args) w:=by
 have h:=Tryz.func76
 go_simp
theorem EP (g off:Nat) (w:World):(Instr.fieldAt 83 (.pointer (some ⟨g,off,none⟩)) 0).run Tryz.prog w=.ok (.pointer (some ⟨g,off+0,none⟩)) w:=rfl
theorem GL (args:Array Value) (w:World):(callFunc 15 args).run Tryz.prog w=.ok (.enter 15 args) w:=by
 have h:=Tryz.func15
 go_simp
theorem Iu (args:Array Value) (w:World):(callFunc 81 args).run Tryz.prog w=.ok (.enter 81 args) w:=by
 have h:=Tryz.func81
 go_simp
theorem DF (g off:Nat) (w:World):(Instr.fieldAt 39 (.pointer (some ⟨g,off,none⟩)) 8).run Tryz.prog w=.ok (.pointer (some ⟨g,off+8,none⟩)) w:=rfl
theorem IQ (g off:Nat) (w:World):(Instr.fieldAt 39 (.pointer (some ⟨g,off,none⟩)) 9).run Tryz.prog w=.ok (.pointer (some ⟨g,off+9,none⟩)) w:=rfl
theorem Jn (args:Array Value) (w:World):(callFunc 82 args).run Tryz.prog w=.ok (.enter 82 args) w:=by
 have h:=Tryz.func82
 go_simp
theorem Gl (args:Array Value) (w:World):(callFunc 77 args).run Tryz.prog w=.ok (.enter 77 args) w:=by
 have h:=Tryz.func77
 go_simp
theorem Xj {w:World} {R:List Ch} {P:PkM} {pa:Option Addr} {pc:Nat} {cg mg mb md mp ga:Nat} {S:List SideM} {fr:Bool} {M:MemM} (hS0:Sep w ([Ab cg 83 (An mg S fr),AJ mg mb md mp M,Ab ga 39 (pk0 (Ai P 0 [] 0))]++R)) (h8:S.length=8) (hM:M.V.length=23168) (hc:1≤P.I 1∧P.I 1≤8) (wP:wfP P) (h7:(P.S 7).length≤1000) :
  CallsR Tryz.prog 54 #[π cg,.agg (pkC P pa P.N.length pc).toArray,π ga] w (fun v w'=>∃ M' er d ol,v=ν er∧Sep w' ([Ab cg 83 (An mg S fr),AJ mg mb md mp M',Ab ga 39 (pk0 (Ai P 0 d ol))]++R)∧Ki P M=(M',er,d,ol)):=by
 have hS:Sep w [Ab cg 83 (An mg S fr),AJ mg mb md mp M,Ab ga 39 (pk0 (Ai P 0 [] 0)),Ch.many R]:=Sep.tail_many (xs:=[_,_,_]) hS0;clear hS0
 refine Cd Tryz.func54 rfl (N:=28) Tryz.ntmps54 (by show 3≤28;decide) [(0,π cg),(1,.agg (pkC P pa P.N.length pc).toArray),(2,π ga)] rfl fun _ h1=>sqr fun _ hK3=>so (wn rfl) fun _ hK1=>Jk h1 rfl rfl rfl rfl rfl (z:=(pkC P pa P.N.length pc)) rfl hS fun _ g4 w7 h5 s8 _ _=>hK1 _ _ ?_
 refine mv h5 rfl fun _ h2=>h2.sn [6,4,0,1] rfl fun h3=>hK3 _ _<|sq fun _ hK2=>sqr fun _ hK4=>fav h3 rfl (DB _ _) fun _ h4=>ldv h4 s8 0 υ9 rfl rfl rfl rfl fun _ h6=>bv h6 (z:=.bool (decide ((P.S 7)=[]))) rfl (UK _ _ _ (P.S 7) [] rfl) fun _ h9=>mv h9 rfl fun _ h10=>sg h10 (wF h10 rfl rfl rfl) rfl rfl rfl (v:=.agg (pkC P pa P.N.length pc).toArray) (fun hC1=>by have hq:=(dF (CE hC1));exact (rld h10 rfl rfl (ldA υ39 rfl (n:=43) κ (s8.get 0 rfl:Blk _ _ _ _) rfl rfl))) fun _ h11=>sg h11 (wF h11 rfl rfl rfl) rfl rfl rfl (v:=.pointer (some ⟨g4,7,none⟩)) (fun hC2=>by have hq:=(dF (CE hC2));exact rfa h11 rfl rfl (fun w=>DB g4 0 w) _) fun _ h12=>?_
 refine sg h12 (wF h12 rfl rfl rfl) rfl rfl rfl (v:=σ (P.S 7)) (fun hC3=>by have hq:=(dF (CE hC3));exact (rld h12 rfl (opg rfl hC3) (ldB υ9 rfl (s8.get 0 rfl:Blk _ _ _ _) rfl))) fun _ h13=>sg h13 (wF h13 rfl rfl rfl) rfl rfl rfl (v:=ν (((P.S 7).length:Nat):Int)) (fun hC4=>by have hq:=(dF (CE hC4));exact Uk h13 rfl (opg rfl hC4) υ9 _) fun _ h14=>?_
 rcases bC (decide ((P.S 7)=[])) with hc1 | hc1
 ·skip
  have hp1:(P.S 7)=[]:=(dT hc1)
  refine su h14 ((wF h14 rfl rfl rfl).trans (BX hc1)) rfl rfl rfl fun _ h15=>su h15 ((wF h15 rfl rfl rfl).trans (BX hc1)) rfl rfl rfl fun _ h16=>sv1 h16 rfl (v:=.bool true) (CL h16 rfl (E:=(decide ((P.S 7)=[]))) (b:=true) rfl hc1 rfl) fun _ h17=>h17.sn [17,6,4,0,1] rfl fun h18=>hK4 _ _<|wcT h18 rfl rfl<|h18.sk [6,4,0,1] rfl fun h19=>sqr fun _ hK5=>h19.sk [4,0,1] rfl fun h20=>mv h20 rfl fun _ h21=>?_
  refine wpList_nil<|hK5 _ _<|wp_ret ?_
  try simp only [Exit.then,Exit.inBlock]
  refine CO (v:=.int .i64 35) (CN h21 rfl rfl) h21.defs ?_
  exact ⟨M,35,[],0,rfl,Sep.tail_un (xs:=[_,_,_]) (s8.pk [1,2,3,4] rfl),(by unfold Ki;simp_all)⟩
 ·skip
  have hp2:¬ ((P.S 7)=[]):=(dF hc1)
  refine so ((wF h14 rfl rfl rfl).trans (Bj hc1)) fun _ hK6=>Bo h14 rfl rfl rfl (xs:=[.tmp 11,.tmp 14]) rfl JU rfl (vs:=[.agg (pkC P pa P.N.length pc).toArray,ν (((P.S 7).length:Nat):Int)]) (EF (opg rfl (Bj hc1)) (EF (opg rfl (Bj hc1)) rfl)) (args:=#[.agg (pkC P pa P.N.length pc).toArray,ν (((P.S 7).length:Nat):Int)]) rfl (LA (P:=P) (pa:=pa) (pc:=pc) (n:=(((P.S 7).length:Nat):Int)) s8 hc wP (by unfold wfI;omega)) fun _ v1 w2 r1 h22=>hK6 _ _ ?_
  obtain ⟨rfl,s1⟩:=r1
  refine sv h22 ((wF h22 rfl rfl rfl).trans (Bj hc1)) rfl rfl rfl (v:=.bool (!(CJ (P.I 1) (P.I 5) (((P.S 7).length:Nat):Int)))) (Pa h22 rfl (b:=CJ (P.I 1) (P.I 5) (((P.S 7).length:Nat):Int)) rfl) fun _ h23=>sv1 h23 rfl (v:=.bool (!(CJ (P.I 1) (P.I 5) (((P.S 7).length:Nat):Int)))) (CL h23 rfl (E:=(decide ((P.S 7)=[]))) (b:=false) rfl hc1 rfl) fun _ h24=>h24.sn [17,6,4,0,1] rfl fun h25=>hK4 _ _ ?_
  rcases bC (CJ (P.I 1) (P.I 5) (((P.S 7).length:Nat):Int)) with hc2 | hc2
  ·skip
   refine wcF h25 rfl (BX hc2)<|h25.sk [6,4,0,1] rfl fun h26=>wp_skip<|hK2 _ _<|sq fun _ hK7=>?_
   have s2:=s1.drew
   refine wp_region_held_drew (S:=fun w'=>Sep w' [Ab g4 39 (pkC P pa P.N.length pc),Ab cg 83 (An mg S fr),Ab ga 39 (pk0 (Ai P 0 [] 0)),Ch.many R]) κ (s2.pk [0,1,3,4] rfl) (fun hq1=>?_)
   refine tv1 hq1 h26 0 rfl rfl (v:=π cg) (fun w1 _=>(Aj h26 rfl rfl) w1) fun _ h27=>?_
   refine tv1 hq1 h27 1 rfl rfl (v:=π cg) (fun w1 _=>(Bt h27 rfl rfl) w1) fun _ h28=>?_
   refine tv1 hq1 h28 2 rfl rfl (v:=π cg) (fun w1 _=>(rfa h28 rfl rfl (fun w=>Iy cg 0 w)) w1) fun _ h29=>?_
   refine tv1 hq1 h29 3 rfl rfl (v:=π mg) (fun w1 hSw=>(rld h29 rfl rfl (ldB υ50 rfl (hSw.get 1 rfl:Blk _ _ _ _) rfl))) fun _ h30=>?_
   refine tv1 hq1 h30 4 rfl rfl (v:=.pointer (some ⟨g4,5,none⟩)) (fun w1 _=>(rfa h30 rfl rfl (fun w=>IM g4 0 w)) w1) fun _ h31=>?_
   refine tv1 hq1 h31 5 rfl rfl (v:=ν (P.I 5)) (fun w1 hSw=>(rld h31 rfl rfl (ldB υ3 rfl (hSw.get 0 rfl:Blk _ _ _ _) rfl))) fun _ h32=>?_
   refine tv1 hq1 h32 6 rfl rfl (v:=.pointer (some ⟨g4,7,none⟩)) (fun w1 _=>(rfa h32 rfl rfl (fun w=>DB g4 0 w)) w1) fun _ h33=>?_
   refine tv1 hq1 h33 7 rfl rfl (v:=σ (P.S 7)) (fun w1 hSw=>(rld h33 rfl rfl (ldB υ9 rfl (hSw.get 0 rfl:Blk _ _ _ _) rfl))) fun _ h34=>?_
   refine to_ 8 rfl (wn rfl) κ fun _ hK8=>Rv h34 rfl rfl rfl rfl (X:=(P.S 7)) rfl υ9 υ60 υ5 (by unfold maxLen;omega) s2 fun _ g1 c88 w3 h35 s3=>?_
   refine hK8 _ _ (s3.pk [1,2,4,5] rfl) fun hq2=>?_
   refine to_ 9 rfl (wn rfl) κ fun _ hK9=>Bo h35 rfl rfl rfl (xs:=[.tmp 21,.tmp 23,.tmp 26]) rfl Gk rfl (vs:=[π mg,ν (P.I 5),.slice (some ⟨g1,0,none⟩) ((P.S 7).length) c88]) rfl (args:=#[π mg,ν (P.I 5),.slice (some ⟨g1,0,none⟩) ((P.S 7).length) c88]) rfl (Rs (s3.pk [3,0,1,2,4,5] rfl) (s3.get 0 rfl:BB _ _ _ _∧_).1 (Dm hM hc hc2 ω) (wP 5)) fun _ v2 w4 r2 h36=>?_
   obtain ⟨rfl,s4⟩:=r2
   refine hK9 _ _ (s4.pk [2,3,4,5] rfl) fun hq3=>h36.sk [27,26,25,24,23,22,21,20,19,18,4,0,1] rfl fun h37=>?_
   refine tv1 hq3 h37 10 rfl rfl (v:=ν 0) (fun w1 _=>(AA h37 rfl rfl) w1) fun _ h38=>?_
   refine h38.sk [6,4,0,1] rfl fun h39=>?_
   refine wpAnyH_done κ ?_ _
   refine hK7 _ _ ?_
   refine wp_ret ?_
   try simp only [Exit.then,Exit.inBlock]
   refine CO (v:=ν 0) (CN h39 rfl rfl) h39.defs ?_
   exact ⟨(CM M (P.I 5).toNat (P.S 7)),0,[],0,rfl,Sep.tail_un (xs:=[_,_,_]) (s4.pk [3,0,4,5] rfl),(by unfold Ki;simp_all)⟩
  ·skip
   refine wcT h25 rfl (Bj hc2)<|h25.sk [6,4,0,1] rfl fun h40=>sqr fun _ hK10=>h40.sk [4,0,1] rfl fun h41=>mv h41 rfl fun _ h42=>wpList_nil<|hK10 _ _<|wp_ret ?_
   try simp only [Exit.then,Exit.inBlock]
   refine CO (v:=.int .i64 35) (CN h42 rfl rfl) h42.defs ?_
   exact ⟨M,35,[],0,rfl,Sep.tail_un (xs:=[_,_,_]) (s1.pk [1,2,3,4] rfl),(by unfold Ki;simp_all)⟩
theorem WN {w:World} {R:List Ch} {P:PkM} {pa:Option Addr} {pc:Nat} {cg mg mb md mp ga:Nat} {S:List SideM} {fr:Bool} {M:MemM} (hS0:Sep w ([Ab cg 83 (An mg S fr),AJ mg mb md mp M,Ab ga 39 (pk0 (Ai P 0 [] 0))]++R)) (h8:S.length=8) (hM:M.V.length=23168) (hc:1≤P.I 1∧P.I 1≤8) (wP:wfP P)  :
  CallsR Tryz.prog 55 #[π cg,.agg (pkC P pa P.N.length pc).toArray,π ga] w (fun v w'=>∃ M' er d ol,v=ν er∧Sep w' ([Ab cg 83 (An mg S fr),AJ mg mb md mp M',Ab ga 39 (pk0 (Ai P 0 d ol))]++R)∧LW P M=(M',er,d,ol)):=by
 have hS:Sep w [Ab cg 83 (An mg S fr),AJ mg mb md mp M,Ab ga 39 (pk0 (Ai P 0 [] 0)),Ch.many R]:=Sep.tail_many (xs:=[_,_,_]) hS0;clear hS0
 refine Cd Tryz.func55 rfl (N:=40) Tryz.ntmps55 (by show 3≤40;decide) [(0,π cg),(1,.agg (pkC P pa P.N.length pc).toArray),(2,π ga)] rfl fun _ h1=>sqr fun _ hK3=>so (wn rfl) fun _ hK1=>Jk h1 rfl rfl rfl rfl rfl (z:=(pkC P pa P.N.length pc)) rfl hS fun _ g4 w7 h5 s8 _ _=>hK1 _ _ ?_
 refine mv h5 rfl fun _ h2=>wpList_nil<|hK3 _ _<|sq fun _ hK2=>sqr fun _ hK4=>fav h2 rfl (DC _ _) fun _ h3=>ldv h3 s8 0 υ3 rfl rfl rfl rfl fun _ h4=>bv h4 (z:=.bool (decide ((P.I 6)=0))) rfl (cEq _ _ _ _ rfl) fun _ h6=>mv h6 rfl fun _ h7=>sg h7 (wF h7 rfl rfl rfl) rfl rfl rfl (v:=.pointer (some ⟨g4,6,none⟩)) (fun hC1=>by have hq:=(dF (CE hC1));exact rfa h7 rfl rfl (fun w=>DC g4 0 w) _) fun _ h9=>sg h9 (wF h9 rfl rfl rfl) rfl rfl rfl (v:=ν (P.I 6)) (fun hC2=>by have hq:=(dF (CE hC2));exact (rld h9 rfl (opg rfl hC2) (ldB υ3 rfl (s8.get 0 rfl:Blk _ _ _ _) rfl))) fun _ h10=>sg h10 (wF h10 rfl rfl rfl) rfl rfl rfl (v:=.bool (decide ((P.I 6)>64))) (fun hC3=>by have hq:=(dF (CE hC3));exact Cy h10 rfl (opg rfl hC3) rfl (cGt _ _ _ _ rfl) _) fun _ h11=>?_
 refine sv1 h11 rfl (v:=.bool ((decide ((P.I 6)=0))||(decide ((P.I 6)>64)))) (Jf h11 rfl (E:=(decide ((P.I 6)=0))) (F:=(decide ((P.I 6)>64))) rfl rfl rfl (fun e=>if_pos (by rw [e];try rfl))) fun _ h12=>mv h12 rfl fun _ h13=>sg h13 (wF h13 rfl rfl rfl) rfl rfl rfl (v:=.agg (pkC P pa P.N.length pc).toArray) (fun hC4=>by have hq:=(And.intro (dF (orF (CE hC4)).1) (dF (orF (CE hC4)).2));exact (rld h13 rfl rfl (ldA υ39 rfl (n:=43) κ (s8.get 0 rfl:Blk _ _ _ _) rfl rfl))) fun _ h14=>?_
 rcases bC ((decide ((P.I 6)=0))||(decide ((P.I 6)>64))) with hc1 | hc1
 ·skip
  have hp1:((P.I 6)=0)∨((P.I 6)>64):=((orT hc1).imp (fun q=>(dT q)) (fun q=>(dT q)))
  refine su h14 ((wF h14 rfl rfl rfl).trans (BX hc1)) rfl rfl rfl fun _ h15=>su h15 ((wF h15 rfl rfl rfl).trans (BX hc1)) rfl rfl rfl fun _ h16=>sv1 h16 rfl (v:=.bool true) (CL h16 rfl (E:=((decide ((P.I 6)=0))||(decide ((P.I 6)>64)))) (b:=true) rfl hc1 rfl) fun _ h17=>h17.sn [21,6,4,0,1,2] rfl fun h18=>hK4 _ _<|wcT h18 rfl rfl<|h18.sk [6,4,0,1,2] rfl fun h19=>sqr fun _ hK5=>h19.sk [4,0,1,2] rfl fun h20=>mv h20 rfl fun _ h21=>?_
  refine wpList_nil<|hK5 _ _<|wp_ret ?_
  try simp only [Exit.then,Exit.inBlock]
  refine CO (v:=.int .i64 35) (CN h21 rfl rfl) h21.defs ?_
  exact ⟨M,35,[],0,rfl,Sep.tail_un (xs:=[_,_,_]) (s8.pk [1,2,3,4] rfl),(by unfold LW;rw [if_neg (by rintro ⟨q1,q2,q3⟩;first | (simp_all;done) | (simp_all;omega))])⟩
 ·skip
  have hp2:(¬ ((P.I 6)=0))∧(¬ ((P.I 6)>64)):=(And.intro (dF (orF hc1).1) (dF (orF hc1).2))
  refine so ((wF h14 rfl rfl rfl).trans (Bj hc1)) fun _ hK6=>Bo h14 rfl rfl rfl (xs:=[.tmp 18]) rfl Hq rfl (vs:=[.agg (pkC P pa P.N.length pc).toArray]) (EF (opg rfl (Bj hc1)) rfl) (args:=#[.agg (pkC P pa P.N.length pc).toArray]) rfl (Sh (P:=P) (pa:=pa) (pc:=pc) s8 hc wP) fun _ v1 w2 r1 h22=>hK6 _ _ ?_
  obtain ⟨rfl,s1⟩:=r1
  refine sv h22 ((wF h22 rfl rfl rfl).trans (Bj hc1)) rfl rfl rfl (v:=.bool (!(Ju P))) (Pa h22 rfl (b:=Ju P) rfl) fun _ h23=>sv1 h23 rfl (v:=.bool (!(Ju P))) (CL h23 rfl (E:=((decide ((P.I 6)=0))||(decide ((P.I 6)>64)))) (b:=false) rfl hc1 rfl) fun _ h24=>h24.sn [21,6,4,0,1,2] rfl fun h25=>hK4 _ _ ?_
  rcases bC (Ju P) with hc2 | hc2
  ·skip
   refine wcF h25 rfl (BX hc2)<|h25.sk [6,4,0,1,2] rfl fun h26=>wp_skip<|hK2 _ _<|sq fun _ hK7=>?_
   have s2:=s1.drew
   refine wp_region_held_drew (S:=fun w'=>Sep w' [Ab g4 39 (pkC P pa P.N.length pc),Ab cg 83 (An mg S fr),AJ mg mb md mp M,Ab ga 39 (pk0 (Ai P 0 [] 0)),Ch.many R]) κ s2 (fun hq1=>?_)
   refine tv1 hq1 h26 0 rfl rfl (v:=π cg) (fun w1 _=>(Aj h26 rfl rfl) w1) fun _ h27=>?_
   refine tv1 hq1 h27 1 rfl rfl (v:=π cg) (fun w1 _=>(Bt h27 rfl rfl) w1) fun _ h28=>?_
   refine tv1 hq1 h28 2 rfl rfl (v:=π cg) (fun w1 _=>(rfa h28 rfl rfl (fun w=>Iz cg 0 w)) w1) fun _ h29=>?_
   refine tv1 hq1 h29 3 rfl rfl (v:=π mg) (fun w1 hSw=>(rld h29 rfl rfl (ldB υ50 rfl (hSw.get 1 rfl:Blk _ _ _ _) rfl))) fun _ h30=>?_
   refine tv1 hq1 h30 4 rfl rfl (v:=.pointer (some ⟨g4,5,none⟩)) (fun w1 _=>(rfa h30 rfl rfl (fun w=>IN g4 0 w)) w1) fun _ h31=>?_
   refine tv1 hq1 h31 5 rfl rfl (v:=ν (P.I 5)) (fun w1 hSw=>(rld h31 rfl rfl (ldB υ3 rfl (hSw.get 0 rfl:Blk _ _ _ _) rfl))) fun _ h32=>?_
   refine tv1 hq1 h32 6 rfl rfl (v:=.pointer (some ⟨g4,6,none⟩)) (fun w1 _=>(rfa h32 rfl rfl (fun w=>DC g4 0 w)) w1) fun _ h33=>?_
   refine tv1 hq1 h33 7 rfl rfl (v:=ν (P.I 6)) (fun w1 hSw=>(rld h33 rfl rfl (ldB υ3 rfl (hSw.get 0 rfl:Blk _ _ _ _) rfl))) fun _ h34=>?_
   refine to_ 8 rfl (wn rfl) κ fun _ hK8=>Bo h34 rfl rfl rfl (xs:=[.tmp 26,.tmp 28,.tmp 30]) rfl GK rfl (vs:=[π mg,ν (P.I 5),ν (P.I 6)]) rfl (args:=#[π mg,ν (P.I 5),ν (P.I 6)]) rfl (Nk (s2.pk [2,0,1,3,4] rfl) (Rd hM hc hc2) (wP 5) (wP 6)) fun _ v2 w3 r2 h35=>?_
   obtain ⟨rax90,rcx91,rfl,s3⟩:=r2
   refine hK8 _ _ (s3.pk [2,3,1,4,5] rfl) fun hq2=>?_
   refine tv1 hq2 h35 9 rfl rfl (v:=.tuple #[.slice rax90 ((Ay M.V (P.I 5) (P.I 6)).length) rcx91,ν 0]) (fun w1 _=>(Aj h35 rfl rfl) w1) fun _ h36=>?_
   refine tv1 hq2 h36 10 rfl rfl (v:=.slice rax90 ((Ay M.V (P.I 5) (P.I 6)).length) rcx91) (fun w1 _=>(DL h36 rfl rfl rfl) w1) fun _ h37=>?_
   refine tv1 hq2 h37 11 rfl rfl (v:=ν 0) (fun w1 _=>(DL h37 rfl rfl rfl) w1) fun _ h38=>?_
   refine tv1 hq2 h38 12 rfl rfl (v:=.slice rax90 ((Ay M.V (P.I 5) (P.I 6)).length) rcx91) (fun w1 _=>(AA h38 rfl rfl) w1) fun _ h39=>?_
   refine tv1 hq2 h39 13 rfl rfl (v:=ν 0) (fun w1 _=>(AA h39 rfl rfl) w1) fun _ h40=>?_
   refine h40.sk [8,7,6,4,0,1,2] rfl fun h41=>?_
   refine wpAnyH_done κ ?_ _
   refine hK7 _ _ ?_
   refine sqr fun _ hK9=>mvs 2 h41 rfl fun _ h42=>sw1 h42 rfl (v:=σ (Ay M.V (P.I 5) (P.I 6))) (Vy h42 rfl (X:=(Ay M.V (P.I 5) (P.I 6))) rfl (s3.get 0 rfl:Own _ _ _ _ _ _ _ _)) fun _ h43=>mv h43 rfl fun _ h44=>fav h44 rfl (IO _ _) fun _ h45=>st1 h45 s3 4 rfl rfl κ rfl rfl rfl rfl fun _ w4 h46 s4 _=>h46.sn [8,7,6,4,0,1,2] rfl fun h47=>hK9 _ _<|sqr fun _ hK10=>mv h47 rfl fun _ h48=>?_
   refine h48.sk [39,8,7,4,0,1,2] rfl fun h49=>mv h49 rfl fun _ h50=>h50.sn [6,8,7,4,0,1,2] rfl fun h51=>hK10 _ _<|wp_ret ?_
   try simp only [Exit.then,Exit.inBlock]
   refine CO (v:=ν 0) (CN h51 rfl rfl) h51.defs ?_
   exact ⟨M,0,(Ay M.V (P.I 5) (P.I 6)),0,rfl,Sep.tail_un (xs:=[_,_,_]) (s4.pk [3,1,4,5] rfl),(by unfold LW;rw [if_pos ⟨ω,ω,hc2⟩])⟩
  ·skip
   refine wcT h25 rfl (Bj hc2)<|h25.sk [6,4,0,1,2] rfl fun h52=>sqr fun _ hK11=>h52.sk [4,0,1,2] rfl fun h53=>mv h53 rfl fun _ h54=>wpList_nil<|hK11 _ _<|wp_ret ?_
   try simp only [Exit.then,Exit.inBlock]
   refine CO (v:=.int .i64 35) (CN h54 rfl rfl) h54.defs ?_
   exact ⟨M,35,[],0,rfl,Sep.tail_un (xs:=[_,_,_]) (s1.pk [1,2,3,4] rfl),(by unfold LW;rw [if_neg (by rintro ⟨q1,q2,q3⟩;first | (simp_all;done) | (simp_all;omega))])⟩
theorem TB {w:World} {R:List Ch} {P:PkM} {pa:Option Addr} {pc:Nat} {cg mg mb md mp ga:Nat} {S:List SideM} {fr:Bool} {M:MemM} (hS0:Sep w ([Ab cg 83 (An mg S fr),AJ mg mb md mp M,Ab ga 39 (pk0 (Ai P 0 [] 0))]++R)) (h8:S.length=8) (hM:M.V.length=23168) (hc:1≤P.I 1∧P.I 1≤8) (wP:wfP P)  :
  CallsR Tryz.prog 56 #[π cg,.agg (pkC P pa P.N.length pc).toArray,π ga] w (fun v w'=>∃ M' er d ol,v=ν er∧Sep w' ([Ab cg 83 (An mg S fr),AJ mg mb md mp M',Ab ga 39 (pk0 (Ai P 0 d ol))]++R)∧Fr P M=(M',er,d,ol)):=by
 have hS:Sep w [Ab cg 83 (An mg S fr),AJ mg mb md mp M,Ab ga 39 (pk0 (Ai P 0 [] 0)),Ch.many R]:=Sep.tail_many (xs:=[_,_,_]) hS0;clear hS0
 refine Cd Tryz.func56 rfl (N:=33) Tryz.ntmps56 (by show 3≤33;decide) [(0,π cg),(1,.agg (pkC P pa P.N.length pc).toArray),(2,π ga)] rfl fun _ h1=>sqr fun _ hK3=>so (wn rfl) fun _ hK1=>Jk h1 rfl rfl rfl rfl rfl (z:=(pkC P pa P.N.length pc)) rfl hS fun _ g4 w7 h5 s8 _ _=>hK1 _ _ ?_
 refine mv h5 rfl fun _ h2=>h2.sn [6,4,0,1] rfl fun h3=>hK3 _ _<|sq fun _ hK2=>sqr fun _ hK4=>fav h3 rfl (DD _ _) fun _ h4=>ldv h4 s8 0 υ3 rfl rfl rfl rfl fun _ h6=>bv h6 (z:=.bool (decide ((P.I 6)=0))) rfl (cEq _ _ _ _ rfl) fun _ h7=>mv h7 rfl fun _ h9=>sg h9 (wF h9 rfl rfl rfl) rfl rfl rfl (v:=.agg (pkC P pa P.N.length pc).toArray) (fun hC1=>by have hq:=(dF (CE hC1));exact (rld h9 rfl rfl (ldA υ39 rfl (n:=43) κ (s8.get 0 rfl:Blk _ _ _ _) rfl rfl))) fun _ h10=>sg h10 (wF h10 rfl rfl rfl) rfl rfl rfl (v:=.pointer (some ⟨g4,6,none⟩)) (fun hC2=>by have hq:=(dF (CE hC2));exact rfa h10 rfl rfl (fun w=>DD g4 0 w) _) fun _ h11=>?_
 refine sg h11 (wF h11 rfl rfl rfl) rfl rfl rfl (v:=ν (P.I 6)) (fun hC3=>by have hq:=(dF (CE hC3));exact (rld h11 rfl (opg rfl hC3) (ldB υ3 rfl (s8.get 0 rfl:Blk _ _ _ _) rfl))) fun _ h12=>?_
 rcases bC (decide ((P.I 6)=0)) with hc1 | hc1
 ·skip
  have hp1:(P.I 6)=0:=(dT hc1)
  refine su h12 ((wF h12 rfl rfl rfl).trans (BX hc1)) rfl rfl rfl fun _ h13=>su h13 ((wF h13 rfl rfl rfl).trans (BX hc1)) rfl rfl rfl fun _ h14=>sv1 h14 rfl (v:=.bool true) (CL h14 rfl (E:=(decide ((P.I 6)=0))) (b:=true) rfl hc1 rfl) fun _ h15=>h15.sn [17,6,4,0,1] rfl fun h16=>hK4 _ _<|wcT h16 rfl rfl<|h16.sk [6,4,0,1] rfl fun h17=>sqr fun _ hK5=>h17.sk [4,0,1] rfl fun h18=>mv h18 rfl fun _ h19=>?_
  refine wpList_nil<|hK5 _ _<|wp_ret ?_
  try simp only [Exit.then,Exit.inBlock]
  refine CO (v:=.int .i64 35) (CN h19 rfl rfl) h19.defs ?_
  exact ⟨M,35,[],0,rfl,Sep.tail_un (xs:=[_,_,_]) (s8.pk [1,2,3,4] rfl),(by unfold Fr;simp_all)⟩
 ·skip
  have hp2:¬ ((P.I 6)=0):=(dF hc1)
  refine so ((wF h12 rfl rfl rfl).trans (Bj hc1)) fun _ hK6=>Bo h12 rfl rfl rfl (xs:=[.tmp 12,.tmp 14]) rfl JV rfl (vs:=[.agg (pkC P pa P.N.length pc).toArray,ν (P.I 6)]) (EF (opg rfl (Bj hc1)) (EF (opg rfl (Bj hc1)) rfl)) (args:=#[.agg (pkC P pa P.N.length pc).toArray,ν (P.I 6)]) rfl (LA (P:=P) (pa:=pa) (pc:=pc) (n:=(P.I 6)) s8 hc wP (wP 6)) fun _ v1 w2 r1 h20=>hK6 _ _ ?_
  obtain ⟨rfl,s1⟩:=r1
  refine sv h20 ((wF h20 rfl rfl rfl).trans (Bj hc1)) rfl rfl rfl (v:=.bool (!(CJ (P.I 1) (P.I 5) (P.I 6)))) (Pa h20 rfl (b:=CJ (P.I 1) (P.I 5) (P.I 6)) rfl) fun _ h21=>sv1 h21 rfl (v:=.bool (!(CJ (P.I 1) (P.I 5) (P.I 6)))) (CL h21 rfl (E:=(decide ((P.I 6)=0))) (b:=false) rfl hc1 rfl) fun _ h22=>h22.sn [17,6,4,0,1] rfl fun h23=>hK4 _ _ ?_
  rcases bC (CJ (P.I 1) (P.I 5) (P.I 6)) with hc2 | hc2
  ·skip
   refine wcF h23 rfl (BX hc2)<|h23.sk [6,4,0,1] rfl fun h24=>wp_skip<|hK2 _ _<|sq fun _ hK7=>?_
   have s2:=s1.drew
   refine wp_region_held_drew (S:=fun w'=>Sep w' [Ab g4 39 (pkC P pa P.N.length pc),Ab cg 83 (An mg S fr),Ab ga 39 (pk0 (Ai P 0 [] 0)),Ch.many R]) κ (s2.pk [0,1,3,4] rfl) (fun hq1=>?_)
   refine tv1 hq1 h24 0 rfl rfl (v:=π cg) (fun w1 _=>(Aj h24 rfl rfl) w1) fun _ h25=>?_
   refine tv1 hq1 h25 1 rfl rfl (v:=π cg) (fun w1 _=>(Bt h25 rfl rfl) w1) fun _ h26=>?_
   refine tv1 hq1 h26 2 rfl rfl (v:=π cg) (fun w1 _=>(rfa h26 rfl rfl (fun w=>EO cg 0 w)) w1) fun _ h27=>?_
   refine tv1 hq1 h27 3 rfl rfl (v:=π mg) (fun w1 hSw=>(rld h27 rfl rfl (ldB υ50 rfl (hSw.get 1 rfl:Blk _ _ _ _) rfl))) fun _ h28=>?_
   refine tv1 hq1 h28 4 rfl rfl (v:=.pointer (some ⟨g4,5,none⟩)) (fun w1 _=>(rfa h28 rfl rfl (fun w=>IP g4 0 w)) w1) fun _ h29=>?_
   refine tv1 hq1 h29 5 rfl rfl (v:=ν (P.I 5)) (fun w1 hSw=>(rld h29 rfl rfl (ldB υ3 rfl (hSw.get 0 rfl:Blk _ _ _ _) rfl))) fun _ h30=>?_
   refine tv1 hq1 h30 6 rfl rfl (v:=.pointer (some ⟨g4,6,none⟩)) (fun w1 _=>(rfa h30 rfl rfl (fun w=>DD g4 0 w)) w1) fun _ h31=>?_
   refine tv1 hq1 h31 7 rfl rfl (v:=ν (P.I 6)) (fun w1 hSw=>(rld h31 rfl rfl (ldB υ3 rfl (hSw.get 0 rfl:Blk _ _ _ _) rfl))) fun _ h32=>?_
   refine to_ 8 rfl (wn rfl) κ fun _ hK8=>Bo h32 rfl rfl rfl (xs:=[.tmp 21,.tmp 23,.tmp 25]) rfl Gj rfl (vs:=[π mg,ν (P.I 5),ν (P.I 6)]) rfl (args:=#[π mg,ν (P.I 5),ν (P.I 6)]) rfl (UY (s2.pk [2,0,1,3,4] rfl) (Dm hM hc hc2 (by have:=dT hc2;simp only at this;omega)) (wP 5) (wP 6)) fun _ v2 w3 r2 h33=>?_
   obtain ⟨rfl,s3⟩:=r2
   refine hK8 _ _ (s3.pk [1,2,3,4] rfl) fun hq2=>?_
   refine tv1 hq2 h33 9 rfl rfl (v:=ν 0) (fun w1 _=>(AA h33 rfl rfl) w1) fun _ h34=>?_
   refine h34.sk [7,6,4,0,1] rfl fun h35=>?_
   refine wpAnyH_done κ ?_ _
   refine hK7 _ _ ?_
   refine sqr fun _ hK9=>mvs 2 h35 rfl fun _ h36=>fav h36 rfl (EO _ _) fun _ h37=>ldv h37 s3 2 υ50 rfl rfl rfl rfl fun _ h38=>cl h38 rfl Gi (UW s3) fun _ v3 w4 r3 h39=>?_
   obtain ⟨yx103,rfl,s4⟩:=r3
   refine h39.sn [7,6,4,0,1] rfl fun h40=>hK9 _ _<|sqr fun _ hK10=>mv h40 rfl fun _ h41=>h41.sk [32,7,4,0,1] rfl fun h42=>mv h42 rfl fun _ h43=>h43.sn [6,7,4,0,1] rfl fun h44=>hK10 _ _<|wp_ret ?_
   try simp only [Exit.then,Exit.inBlock]
   refine CO (v:=ν 0) (CN h44 rfl rfl) h44.defs ?_
   exact ⟨(Fj (En M (P.I 5).toNat (P.I 6).toNat)),0,[],0,rfl,Sep.tail_un (xs:=[_,_,_]) (s4.pk [2,0,3,4] rfl),(by unfold Fr;simp_all)⟩
  ·skip
   refine wcT h23 rfl (Bj hc2)<|h23.sk [6,4,0,1] rfl fun h45=>sqr fun _ hK11=>h45.sk [4,0,1] rfl fun h46=>mv h46 rfl fun _ h47=>wpList_nil<|hK11 _ _<|wp_ret ?_
   try simp only [Exit.then,Exit.inBlock]
   refine CO (v:=.int .i64 35) (CN h47 rfl rfl) h47.defs ?_
   exact ⟨M,35,[],0,rfl,Sep.tail_un (xs:=[_,_,_]) (s1.pk [1,2,3,4] rfl),(by unfold Fr;simp_all)⟩
theorem WB {w:World} {R:List Ch} {P:PkM} {pa:Option Addr} {pc:Nat} {cg mg mb md mp ga:Nat} {S:List SideM} {fr:Bool} {M:MemM} (hS0:Sep w ([Ab cg 83 (An mg S fr),AJ mg mb md mp M,Ab ga 39 (pk0 (Ai P 0 [] 0))]++R)) (h8:S.length=8) (hM:M.V.length=23168) (hc:1≤P.I 1∧P.I 1≤8) (wP:wfP P) (h9:0≤P.I 9) :
  CallsR Tryz.prog 57 #[π cg,.agg (pkC P pa P.N.length pc).toArray,π ga] w (fun v w'=>∃ M' er d ol,v=ν er∧Sep w' ([Ab cg 83 (An mg S fr),AJ mg mb md mp M',Ab ga 39 (pk0 (Ai P 0 d ol))]++R)∧FR P M=(M',er,d,ol)):=by
 have hS:Sep w [Ab cg 83 (An mg S fr),AJ mg mb md mp M,Ab ga 39 (pk0 (Ai P 0 [] 0)),Ch.many R]:=Sep.tail_many (xs:=[_,_,_]) hS0;clear hS0
 refine Cd Tryz.func57 rfl (N:=53) Tryz.ntmps57 (by show 3≤53;decide) [(0,π cg),(1,.agg (pkC P pa P.N.length pc).toArray),(2,π ga)] rfl fun _ h1=>sqr fun _ hK3=>so (wn rfl) fun _ hK1=>Jk h1 rfl rfl rfl rfl rfl (z:=(pkC P pa P.N.length pc)) rfl hS fun _ g4 w7 h5 s8 _ _=>hK1 _ _ ?_
 refine mv h5 rfl fun _ h2=>wpList_nil<|hK3 _ _<|sq fun _ hK2=>sqr fun _ hK4=>fav h2 rfl (DE _ _) fun _ h3=>ldv h3 s8 0 υ3 rfl rfl rfl rfl fun _ h4=>bv h4 (z:=ν ((P.I 5).tmod 8)) rfl (WG _ _ _ (by decide) rfl) fun _ h6=>bv h6 (z:=.bool (decide ((P.I 5).tmod 8≠0))) rfl (cNe _ _ _ _ rfl) fun _ h7=>mv h7 rfl fun _ h10=>sg h10 (wF h10 rfl rfl rfl) rfl rfl rfl (v:=.agg (pkC P pa P.N.length pc).toArray) (fun hC1=>by have hq:=(dF (CE hC1));exact (rld h10 rfl rfl (ldA υ39 rfl (n:=43) κ (s8.get 0 rfl:Blk _ _ _ _) rfl rfl))) fun _ h11=>?_
 rcases bC (decide ((P.I 5).tmod 8≠0)) with hc1 | hc1
 ·skip
  have hp1:(P.I 5).tmod 8≠0:=(dT hc1)
  refine su h11 ((wF h11 rfl rfl rfl).trans (BX hc1)) rfl rfl rfl fun _ h12=>su h12 ((wF h12 rfl rfl rfl).trans (BX hc1)) rfl rfl rfl fun _ h13=>sv1 h13 rfl (v:=.bool true) (CL h13 rfl (E:=(decide ((P.I 5).tmod 8≠0))) (b:=true) rfl hc1 rfl) fun _ h14=>h14.sn [17,6,4,0,1,2] rfl fun h15=>hK4 _ _<|wcT h15 rfl rfl<|h15.sk [6,4,0,1,2] rfl fun h16=>sqr fun _ hK5=>h16.sk [4,0,1,2] rfl fun h17=>mv h17 rfl fun _ h18=>?_
  refine wpList_nil<|hK5 _ _<|wp_ret ?_
  try simp only [Exit.then,Exit.inBlock]
  refine CO (v:=.int .i64 35) (CN h18 rfl rfl) h18.defs ?_
  exact ⟨M,35,[],0,rfl,Sep.tail_un (xs:=[_,_,_]) (s8.pk [1,2,3,4] rfl),(by unfold FR;simp_all)⟩
 ·skip
  have hp2:¬ ((P.I 5).tmod 8≠0):=(dF hc1)
  refine so ((wF h11 rfl rfl rfl).trans (Bj hc1)) fun _ hK6=>Bo h11 rfl rfl rfl (xs:=[.tmp 14,.const (ν 8)]) rfl JW rfl (vs:=[.agg (pkC P pa P.N.length pc).toArray,ν 8]) (EF (opg rfl (Bj hc1)) (EF rfl rfl)) (args:=#[.agg (pkC P pa P.N.length pc).toArray,ν 8]) rfl (LA (P:=P) (pa:=pa) (pc:=pc) (n:=8) s8 hc wP (by unfold wfI;omega)) fun _ v1 w2 r1 h19=>hK6 _ _ ?_
  obtain ⟨rfl,s1⟩:=r1
  refine sv h19 ((wF h19 rfl rfl rfl).trans (Bj hc1)) rfl rfl rfl (v:=.bool (!(CJ (P.I 1) (P.I 5) 8))) (Pa h19 rfl (b:=CJ (P.I 1) (P.I 5) 8) rfl) fun _ h20=>sv1 h20 rfl (v:=.bool (!(CJ (P.I 1) (P.I 5) 8))) (CL h20 rfl (E:=(decide ((P.I 5).tmod 8≠0))) (b:=false) rfl hc1 rfl) fun _ h21=>h21.sn [17,6,4,0,1,2] rfl fun h22=>hK4 _ _ ?_
  rcases bC (CJ (P.I 1) (P.I 5) 8) with hc2 | hc2
  ·skip
   refine wcF h22 rfl (BX hc2)<|h22.sk [6,4,0,1,2] rfl fun h23=>wp_skip<|hK2 _ _<|sq fun _ hK7=>?_
   have s2:=s1.drew
   refine wp_region_held_drew (S:=fun w'=>Sep w' [Ab g4 39 (pkC P pa P.N.length pc),Ab cg 83 (An mg S fr),AJ mg mb md mp M,Ab ga 39 (pk0 (Ai P 0 [] 0)),Ch.many R]) κ s2 (fun hq1=>?_)
   refine tv1 hq1 h23 0 rfl rfl (v:=π cg) (fun w1 _=>(Aj h23 rfl rfl) w1) fun _ h24=>?_
   refine tv1 hq1 h24 1 rfl rfl (v:=π cg) (fun w1 _=>(Bt h24 rfl rfl) w1) fun _ h25=>?_
   refine tv1 hq1 h25 2 rfl rfl (v:=π cg) (fun w1 _=>(rfa h25 rfl rfl (fun w=>EP cg 0 w)) w1) fun _ h26=>?_
   refine tv1 hq1 h26 3 rfl rfl (v:=π mg) (fun w1 hSw=>(rld h26 rfl rfl (ldB υ50 rfl (hSw.get 1 rfl:Blk _ _ _ _) rfl))) fun _ h27=>?_
   refine tv1 hq1 h27 4 rfl rfl (v:=.pointer (some ⟨g4,5,none⟩)) (fun w1 _=>(rfa h27 rfl rfl (fun w=>DE g4 0 w)) w1) fun _ h28=>?_
   refine tv1 hq1 h28 5 rfl rfl (v:=ν (P.I 5)) (fun w1 hSw=>(rld h28 rfl rfl (ldB υ3 rfl (hSw.get 0 rfl:Blk _ _ _ _) rfl))) fun _ h29=>?_
   refine to_ 6 rfl (wn rfl) κ fun _ hK8=>Bo h29 rfl rfl rfl (xs:=[.tmp 22,.tmp 24,.const (ν 8)]) rfl GL rfl (vs:=[π mg,ν (P.I 5),ν 8]) rfl (args:=#[π mg,ν (P.I 5),ν 8]) rfl (Nk (s2.pk [2,0,1,3,4] rfl) (Dm hM hc hc2 (by decide)) (wP 5) (by unfold JX;decide)) fun _ v2 w3 r2 h30=>?_
   obtain ⟨rax75,rcx76,rfl,s3⟩:=r2
   refine hK8 _ _ (s3.pk [2,3,1,4,5] rfl) fun hq2=>?_
   refine tv1 hq2 h30 7 rfl rfl (v:=.tuple #[.slice rax75 ((Ay M.V (P.I 5) 8).length) rcx76,ν 0]) (fun w1 _=>(Aj h30 rfl rfl) w1) fun _ h31=>?_
   refine tv1 hq2 h31 8 rfl rfl (v:=.slice rax75 ((Ay M.V (P.I 5) 8).length) rcx76) (fun w1 _=>(DL h31 rfl rfl rfl) w1) fun _ h32=>?_
   refine tv1 hq2 h32 9 rfl rfl (v:=ν 0) (fun w1 _=>(DL h32 rfl rfl rfl) w1) fun _ h33=>?_
   refine tv1 hq2 h33 10 rfl rfl (v:=.slice rax75 ((Ay M.V (P.I 5) 8).length) rcx76) (fun w1 _=>(AA h33 rfl rfl) w1) fun _ h34=>?_
   refine tv1 hq2 h34 11 rfl rfl (v:=ν 0) (fun w1 _=>(AA h34 rfl rfl) w1) fun _ h35=>?_
   refine h35.sk [8,7,6,4,0,1,2] rfl fun h36=>?_
   refine wpAnyH_done κ ?_ _
   refine hK7 _ _ ?_
   refine sq fun _ hK9=>sqr fun _ hK10=>mv h36 rfl fun _ h37=>bv h37 (z:=.bool false) rfl (cNe _ _ _ _ rfl) fun _ h38=>h38.sn [29,8,7,6,4,0,1,2] rfl fun h39=>hK10 _ _<|wcF h39 rfl rfl<|h39.sk [8,7,6,4,0,1,2] rfl fun h40=>wp_skip<|hK9 _ _<|sqr fun _ hK11=>mvs 2 h40 rfl fun _ h41=>?_
   refine cl h41 rfl Iu (Us s3 (Qo _ _ (Ay M.V (P.I 5) 8) _ (s3.get 0 rfl:Own _ _ _ _ _ _ _ _).row (Jq (M:=M) rfl (Dm hM hc hc2 (by decide))))) fun _ v3 w4 r3 h42=>?_
   obtain ⟨rfl,s4⟩:=r3
   refine mv h42 rfl fun _ h43=>fav h43 rfl (DF _ _) fun _ h44=>st1 h44 s4 4 rfl rfl κ rfl rfl rfl rfl fun _ w5 h45 s5 _=>h45.sn [8,7,6,4,0,1,2] rfl fun h46=>hK11 _ _<|sq fun _ hK12=>sq fun _ hK13=>?_
   have s6:=s5.drew
   refine wp_region_held_drew (S:=fun w'=>Sep w' [Gb 0 5 1 rax75 ((Ay M.V (P.I 5) 8)).length rcx76 (((Ay M.V (P.I 5) 8)).map Ap),AJ mg mb md mp M,Ab g4 39 (pkC P pa P.N.length pc),Ab cg 83 (An mg S fr),Ab ga 39 (pk0 (Ai P 0 [] (BQ (Ay M.V (P.I 5) 8)))),Ch.many R]) κ s6 (fun hq3=>?_)
   refine tv1 hq3 h46 0 rfl rfl (v:=π ga) (fun w1 _=>(Aj h46 rfl rfl) w1) fun _ h47=>?_
   refine tv1 hq3 h47 1 rfl rfl (v:=π ga) (fun w1 _=>(Bt h47 rfl rfl) w1) fun _ h48=>?_
   refine tv1 hq3 h48 2 rfl rfl (v:=.pointer (some ⟨ga,8,none⟩)) (fun w1 _=>(rfa h48 rfl rfl (fun w=>DF ga 0 w)) w1) fun _ h49=>?_
   refine tv1 hq3 h49 3 rfl rfl (v:=ν (BQ (Ay M.V (P.I 5) 8))) (fun w1 hSw=>(rld h49 rfl rfl (ldB υ3 rfl (hSw.get 4 rfl:Blk _ _ _ _) rfl))) fun _ h50=>?_
   refine tv1 hq3 h50 4 rfl rfl (v:=.pointer (some ⟨g4,8,none⟩)) (fun w1 _=>(rfa h50 rfl rfl (fun w=>DF g4 0 w)) w1) fun _ h51=>?_
   refine tv1 hq3 h51 5 rfl rfl (v:=ν (P.I 8)) (fun w1 hSw=>(rld h51 rfl rfl (ldB υ3 rfl (hSw.get 2 rfl:Blk _ _ _ _) rfl))) fun _ h52=>?_
   refine tv1 hq3 h52 6 rfl rfl (v:=.bool (decide (BQ (Ay M.V (P.I 5) 8)≠(P.I 8)))) (fun w1 _=>(Cy h52 rfl rfl rfl (cNe _ _ _ _ rfl)) w1) fun _ h53=>?_
   refine h53.sk [42,8,7,6,4,0,1,2] rfl fun h54=>?_
   refine wpAnyH_done κ ?_ _
   refine hK13 _ _ ?_
   rcases bC (decide (BQ (Ay M.V (P.I 5) 8)≠(P.I 8))) with hc3 | hc3
   ·skip
    have hp3:BQ (Ay M.V (P.I 5) 8)≠(P.I 8):=(dT hc3)
    refine wcT h54 rfl hc3<|h54.sk [8,7,6,4,0,1,2] rfl fun h55=>sqr fun _ hK14=>h55.sk [8,7,4,0,1,2] rfl fun h56=>mv h56 rfl fun _ h57=>wpList_nil<|hK14 _ _<|wp_ret ?_
    try simp only [Exit.then,Exit.inBlock]
    refine CO (v:=.int .i64 0) (CN h57 rfl rfl) h57.defs ?_
    exact ⟨M,0,[],(BQ (Ay M.V (P.I 5) 8)),rfl,Sep.tail_un (xs:=[_,_,_]) (s6.pk [3,1,4,5] rfl),(by unfold FR;simp_all)⟩
   ·skip
    have hp4:¬ (BQ (Ay M.V (P.I 5) 8)≠(P.I 8)):=(dF hc3)
    refine wcF h54 rfl hc3<|h54.sk [8,7,6,4,0,1,2] rfl fun h58=>wp_skip<|hK12 _ _<|sq fun _ hK15=>?_
    have s7:=s6.drew
    refine wp_region_held_drew (S:=fun w'=>Sep w' [Gb 0 5 1 rax75 ((Ay M.V (P.I 5) 8)).length rcx76 (((Ay M.V (P.I 5) 8)).map Ap),Ab g4 39 (pkC P pa P.N.length pc),Ab cg 83 (An mg S fr),Ab ga 39 (pk0 (Ai P 0 [] (BQ (Ay M.V (P.I 5) 8)))),Ch.many R]) κ (s7.pk [0,2,3,4,5] rfl) (fun hq4=>?_)
    refine tv1 hq4 h58 0 rfl rfl (v:=π cg) (fun w1 _=>(Aj h58 rfl rfl) w1) fun _ h59=>?_
    refine tv1 hq4 h59 1 rfl rfl (v:=π cg) (fun w1 _=>(Bt h59 rfl rfl) w1) fun _ h60=>?_
    refine tv1 hq4 h60 2 rfl rfl (v:=π cg) (fun w1 _=>(rfa h60 rfl rfl (fun w=>EP cg 0 w)) w1) fun _ h61=>?_
    refine tv1 hq4 h61 3 rfl rfl (v:=π mg) (fun w1 hSw=>(rld h61 rfl rfl (ldB υ50 rfl (hSw.get 2 rfl:Blk _ _ _ _) rfl))) fun _ h62=>?_
    refine tv1 hq4 h62 4 rfl rfl (v:=.pointer (some ⟨g4,5,none⟩)) (fun w1 _=>(rfa h62 rfl rfl (fun w=>DE g4 0 w)) w1) fun _ h63=>?_
    refine tv1 hq4 h63 5 rfl rfl (v:=ν (P.I 5)) (fun w1 hSw=>(rld h63 rfl rfl (ldB υ3 rfl (hSw.get 1 rfl:Blk _ _ _ _) rfl))) fun _ h64=>?_
    refine tv1 hq4 h64 6 rfl rfl (v:=.pointer (some ⟨g4,9,none⟩)) (fun w1 _=>(rfa h64 rfl rfl (fun w=>IQ g4 0 w)) w1) fun _ h65=>?_
    refine tv1 hq4 h65 7 rfl rfl (v:=ν (P.I 9)) (fun w1 hSw=>(rld h65 rfl rfl (ldB υ3 rfl (hSw.get 1 rfl:Blk _ _ _ _) rfl))) fun _ h66=>?_
    refine to_ 8 rfl (wn rfl) κ fun _ hK16=>Bo h66 rfl rfl rfl (xs:=[.tmp 50]) rfl Jn rfl (vs:=[ν (P.I 9)]) rfl (args:=#[ν (P.I 9)]) rfl (VY s7 h9 (wP 9)) fun _ v4 w6 r4 h67=>?_
    obtain ⟨gcx174,rfl,s9⟩:=r4
    refine hK16 _ _ (s9.pk [1,3,4,5,6] rfl) fun hq5=>?_
    refine to_ 9 rfl (wn rfl) κ fun _ hK17=>Bo h67 rfl rfl rfl (xs:=[.tmp 46,.tmp 48,.tmp 51]) rfl Gl rfl (vs:=[π mg,ν (P.I 5),.slice (some ⟨gcx174,0,none⟩) ((le 8 (P.I 9).toNat).length) 8]) rfl (args:=#[π mg,ν (P.I 5),.slice (some ⟨gcx174,0,none⟩) ((le 8 (P.I 9).toNat).length) 8]) rfl (Rs (s9.pk [2,0,1,3,4,5,6] rfl) (s9.get 0 rfl:BB _ _ _ _∧_).1 (Dm hM hc hc2 ω) (wP 5)) fun _ v5 w8 r5 h68=>?_
    obtain ⟨rfl,s10⟩:=r5
    refine hK17 _ _ (s10.pk [2,3,4,5,6] rfl) fun hq6=>h68.sk [52,51,50,49,48,47,46,45,44,43,8,7,4,0,1,2] rfl fun h69=>?_
    refine tv1 hq6 h69 10 rfl rfl (v:=ν 0) (fun w1 _=>(AA h69 rfl rfl) w1) fun _ h70=>?_
    refine h70.sk [6,8,7,4,0,1,2] rfl fun h71=>?_
    refine wpAnyH_done κ ?_ _
    refine hK15 _ _ ?_
    refine wp_ret ?_
    try simp only [Exit.then,Exit.inBlock]
    refine CO (v:=ν 0) (CN h71 rfl rfl) h71.defs ?_
    exact ⟨(CM M (P.I 5).toNat (le 8 (P.I 9).toNat)),0,[],(BQ (Ay M.V (P.I 5) 8)),rfl,Sep.tail_un (xs:=[_,_,_]) (s10.pk [4,0,5,6] rfl),(by unfold FR;simp_all)⟩
  ·skip
   refine wcT h22 rfl (Bj hc2)<|h22.sk [6,4,0,1,2] rfl fun h72=>sqr fun _ hK18=>h72.sk [4,0,1,2] rfl fun h73=>mv h73 rfl fun _ h74=>wpList_nil<|hK18 _ _<|wp_ret ?_
   try simp only [Exit.then,Exit.inBlock]
   refine CO (v:=.int .i64 35) (CN h74 rfl rfl) h74.defs ?_
   exact ⟨M,35,[],0,rfl,Sep.tail_un (xs:=[_,_,_]) (s1.pk [1,2,3,4] rfl),(by unfold FR;simp_all)⟩
end
section
theorem So {W0 w:World} {g pk:Nat} {a:Option Addr} {c:Nat} {xs:List UInt8} {s:RM} (h:RdP W0 w g pk a c xs none 0 0 s) (hE:Cx s) (r0:BB W0 a c xs) (hg:W0.heap.size≤g) (hpk:W0.heap.size≤pk) (hl:xs.length≤1000000) (hk:(BT xs s).P.I 0=1) :
    Calls Tryz.prog 49 #[π g,π pk] w fun e w'=>e=.returned (.tuple #[])∧NmP W0 w' g pk a c xs (Bm xs s)∧Turns (fun x=>x=g∨x=pk) w w':=by
  unfold Bm BT Mf
  obtain ⟨s1,hs1⟩:∃ s1,s1=[0,1].foldl (AF xs 1) s:=⟨_,rfl⟩
  obtain ⟨s2,hs2⟩:∃ s2,s2=AF xs 4 s1 2:=⟨_,rfl⟩
  obtain ⟨s3,hs3⟩:∃ s3,s3=AF xs 8 s2 3:=⟨_,rfl⟩
  rw [← hs1,← hs2,← hs3]
  have hk3:s3.P.I 0=(BT xs s).P.I 0:=by rw [hs3,hs2,hs1];rfl
  have hE3:Cx s3:=by
    rw [hs3,hs2,hs1];unfold Cx;rw [Cf,Cf,Ex,CK,CK,Il];exact hE
  obtain ⟨v,hv⟩:∃ v,v=s3.P.I 1:=⟨_,rfl⟩
  rw [← hv]
  obtain ⟨b1,hb1⟩:∃ b1,decide (1≤v)=b1:=⟨_,rfl⟩
  obtain ⟨b2,hb2⟩:∃ b2,decide (v≤8)=b2:=⟨_,rfl⟩
  rw [hb1,hb2]
  have hkk:∀ ok,(FW s3 ok).P.I 0=s3.P.I 0:=fun _=>rfl
  rw [hkk]
  rw [← hk3] at hk
  rw [hk]
  have hrv:FQ g 1=.func (.func 91) #[π g] #[]:=rfl
  have hq:∀ W:World,(binOp BinOp.eql 108 (Value.func (Fn.func 91) #[Value.pointer (some { block:=g,off:=0 })] #[]) Value.nilFunc).run Tryz.prog W=.ok (.bool false) W:=fun W=>rfl
  have HS1:=hid hs1;have HS2:=hid hs2;have HS3:=hid hs3;have HV:=hid hv;have HK:=hid hk;have HRV:=hid hrv
  have H0:=hid h;have HE3:=hid hE3;have R0:=hid r0
  clear h hE r0 hE3 hs1 hs2 hs3 hv hk hrv hk3 hkk
  cases b1<;>cases b2
  all_goals
    go_enter Tryz.func49,Tryz.ntmps49
    go_wp2_with fail
    go_region_with (go_at_call 67;refine ((H0.out.drewN 1).nums R0.out hg hpk hl 1 (by decide) [0,1] (by decide) (by decide) s1 HS1.out.symm).mono ?_;rintro e w1 ⟨rfl,h1,t1⟩;have H1:=hid h1;have T1:=hid ((Turns.of_below (X:=fun x=>x=g∨x=pk) (Av (Below.refl w.heap.size w) 1)).trans t1);clear h1 t1)
    all_goals
      go_wp2_with fail
      refine (H1.out.nums R0.out hg hpk hl 4 (by decide) [2] (by decide) (by decide) s2 HS2.out.symm).mono ?_
      rintro e w2 ⟨rfl,h2,t2⟩
      have H2:=hid h2;have T2:=hid (T1.out.trans t2);clear h2 t2
      go_wp2_with fail
      refine (H2.out.nums R0.out hg hpk hl 8 (by decide) [3] (by decide) (by decide) s3 HS3.out.symm).mono ?_
      rintro e w3 ⟨rfl,h3,t3⟩
      have c1:=Bw h3.2.2.1 (o:=1) rfl
      rw [← HV.out] at c1
      have H3:=hid h3;have T3:=hid (T2.out.trans t3);clear h3 t3
      go_wp2_with fail
      refine (H3.out.chk' hg _).mono ?_
      rintro e w4 ⟨rfl,h4,t4⟩
      have c0:=Bw h4.2.2.1 (o:=0) rfl
      rw [show ∀ ok,(FW s3 ok).P.I 0=s3.P.I 0 from fun _=>rfl,HK.out] at c0
      have H4:=hid h4;have T4:=hid (T3.out.trans t4);clear h4 t4 c1
      go_wp2_with fail
      refine (EH g _ w4).mono ?_
      rintro e w5 ⟨rfl,rfl⟩
      rw [HRV.out]
      go_wp2_with (go_at_call 91;refine (Ge H4.out HE3.out R0.out hg hpk hl 1 _ rfl).mono ?_;rintro e w6 ⟨rfl,h6,t6⟩;have H6:=hid h6;have T6:=hid (T4.out.trans t6);clear h6 t6)
      go_end0
      exact ⟨rfl,H6.out,T6.out⟩
theorem Sq {W0 w:World} {g pk:Nat} {a:Option Addr} {c:Nat} {xs:List UInt8} {s:RM} (h:RdP W0 w g pk a c xs none 0 0 s) (hE:Cx s) (r0:BB W0 a c xs) (hg:W0.heap.size≤g) (hpk:W0.heap.size≤pk) (hl:xs.length≤1000000) (hk:(BT xs s).P.I 0=2) :
    Calls Tryz.prog 49 #[π g,π pk] w fun e w'=>e=.returned (.tuple #[])∧NmP W0 w' g pk a c xs (Bm xs s)∧Turns (fun x=>x=g∨x=pk) w w':=by
  unfold Bm BT Mf
  obtain ⟨s1,hs1⟩:∃ s1,s1=[0,1].foldl (AF xs 1) s:=⟨_,rfl⟩
  obtain ⟨s2,hs2⟩:∃ s2,s2=AF xs 4 s1 2:=⟨_,rfl⟩
  obtain ⟨s3,hs3⟩:∃ s3,s3=AF xs 8 s2 3:=⟨_,rfl⟩
  rw [← hs1,← hs2,← hs3]
  have hk3:s3.P.I 0=(BT xs s).P.I 0:=by rw [hs3,hs2,hs1];rfl
  have hE3:Cx s3:=by
    rw [hs3,hs2,hs1];unfold Cx;rw [Cf,Cf,Ex,CK,CK,Il];exact hE
  obtain ⟨v,hv⟩:∃ v,v=s3.P.I 1:=⟨_,rfl⟩
  rw [← hv]
  obtain ⟨b1,hb1⟩:∃ b1,decide (1≤v)=b1:=⟨_,rfl⟩
  obtain ⟨b2,hb2⟩:∃ b2,decide (v≤8)=b2:=⟨_,rfl⟩
  rw [hb1,hb2]
  have hkk:∀ ok,(FW s3 ok).P.I 0=s3.P.I 0:=fun _=>rfl
  rw [hkk]
  rw [← hk3] at hk
  rw [hk]
  have hrv:FQ g 2=.func (.func 92) #[π g] #[]:=rfl
  have hq:∀ W:World,(binOp BinOp.eql 108 (Value.func (Fn.func 92) #[Value.pointer (some { block:=g,off:=0 })] #[]) Value.nilFunc).run Tryz.prog W=.ok (.bool false) W:=fun W=>rfl
  have HS1:=hid hs1;have HS2:=hid hs2;have HS3:=hid hs3;have HV:=hid hv;have HK:=hid hk;have HRV:=hid hrv
  have H0:=hid h;have HE3:=hid hE3;have R0:=hid r0
  clear h hE r0 hE3 hs1 hs2 hs3 hv hk hrv hk3 hkk
  cases b1<;>cases b2
  all_goals
    go_enter Tryz.func49,Tryz.ntmps49
    go_wp2_with fail
    go_region_with (go_at_call 67;refine ((H0.out.drewN 1).nums R0.out hg hpk hl 1 (by decide) [0,1] (by decide) (by decide) s1 HS1.out.symm).mono ?_;rintro e w1 ⟨rfl,h1,t1⟩;have H1:=hid h1;have T1:=hid ((Turns.of_below (X:=fun x=>x=g∨x=pk) (Av (Below.refl w.heap.size w) 1)).trans t1);clear h1 t1)
    all_goals
      go_wp2_with fail
      refine (H1.out.nums R0.out hg hpk hl 4 (by decide) [2] (by decide) (by decide) s2 HS2.out.symm).mono ?_
      rintro e w2 ⟨rfl,h2,t2⟩
      have H2:=hid h2;have T2:=hid (T1.out.trans t2);clear h2 t2
      go_wp2_with fail
      refine (H2.out.nums R0.out hg hpk hl 8 (by decide) [3] (by decide) (by decide) s3 HS3.out.symm).mono ?_
      rintro e w3 ⟨rfl,h3,t3⟩
      have c1:=Bw h3.2.2.1 (o:=1) rfl
      rw [← HV.out] at c1
      have H3:=hid h3;have T3:=hid (T2.out.trans t3);clear h3 t3
      go_wp2_with fail
      refine (H3.out.chk' hg _).mono ?_
      rintro e w4 ⟨rfl,h4,t4⟩
      have c0:=Bw h4.2.2.1 (o:=0) rfl
      rw [show ∀ ok,(FW s3 ok).P.I 0=s3.P.I 0 from fun _=>rfl,HK.out] at c0
      have H4:=hid h4;have T4:=hid (T3.out.trans t4);clear h4 t4 c1
      go_wp2_with fail
      refine (EH g _ w4).mono ?_
      rintro e w5 ⟨rfl,rfl⟩
      rw [HRV.out]
      go_wp2_with (go_at_call 92;refine (Ge H4.out HE3.out R0.out hg hpk hl 2 _ rfl).mono ?_;rintro e w6 ⟨rfl,h6,t6⟩;have H6:=hid h6;have T6:=hid (T4.out.trans t6);clear h6 t6)
      go_end0
      exact ⟨rfl,H6.out,T6.out⟩
end
section
theorem Sr {W0 w:World} {g pk:Nat} {a:Option Addr} {c:Nat} {xs:List UInt8} {s:RM} (h:RdP W0 w g pk a c xs none 0 0 s) (hE:Cx s) (r0:BB W0 a c xs) (hg:W0.heap.size≤g) (hpk:W0.heap.size≤pk) (hl:xs.length≤1000000) (hk:(BT xs s).P.I 0=3) :
    Calls Tryz.prog 49 #[π g,π pk] w fun e w'=>e=.returned (.tuple #[])∧NmP W0 w' g pk a c xs (Bm xs s)∧Turns (fun x=>x=g∨x=pk) w w':=by
  unfold Bm BT Mf
  obtain ⟨s1,hs1⟩:∃ s1,s1=[0,1].foldl (AF xs 1) s:=⟨_,rfl⟩
  obtain ⟨s2,hs2⟩:∃ s2,s2=AF xs 4 s1 2:=⟨_,rfl⟩
  obtain ⟨s3,hs3⟩:∃ s3,s3=AF xs 8 s2 3:=⟨_,rfl⟩
  rw [← hs1,← hs2,← hs3]
  have hk3:s3.P.I 0=(BT xs s).P.I 0:=by rw [hs3,hs2,hs1];rfl
  have hE3:Cx s3:=by
    rw [hs3,hs2,hs1];unfold Cx;rw [Cf,Cf,Ex,CK,CK,Il];exact hE
  obtain ⟨v,hv⟩:∃ v,v=s3.P.I 1:=⟨_,rfl⟩
  rw [← hv]
  obtain ⟨b1,hb1⟩:∃ b1,decide (1≤v)=b1:=⟨_,rfl⟩
  obtain ⟨b2,hb2⟩:∃ b2,decide (v≤8)=b2:=⟨_,rfl⟩
  rw [hb1,hb2]
  have hkk:∀ ok,(FW s3 ok).P.I 0=s3.P.I 0:=fun _=>rfl
  rw [hkk]
  rw [← hk3] at hk
  rw [hk]
  have hrv:FQ g 3=.func (.func 93) #[π g] #[]:=rfl
  have hq:∀ W:World,(binOp BinOp.eql 108 (Value.func (Fn.func 93) #[Value.pointer (some { block:=g,off:=0 })] #[]) Value.nilFunc).run Tryz.prog W=.ok (.bool false) W:=fun W=>rfl
  have HS1:=hid hs1;have HS2:=hid hs2;have HS3:=hid hs3;have HV:=hid hv;have HK:=hid hk;have HRV:=hid hrv
  have H0:=hid h;have HE3:=hid hE3;have R0:=hid r0
  clear h hE r0 hE3 hs1 hs2 hs3 hv hk hrv hk3 hkk
  cases b1<;>cases b2
  all_goals
    go_enter Tryz.func49,Tryz.ntmps49
    go_wp2_with fail
    go_region_with (go_at_call 67;refine ((H0.out.drewN 1).nums R0.out hg hpk hl 1 (by decide) [0,1] (by decide) (by decide) s1 HS1.out.symm).mono ?_;rintro e w1 ⟨rfl,h1,t1⟩;have H1:=hid h1;have T1:=hid ((Turns.of_below (X:=fun x=>x=g∨x=pk) (Av (Below.refl w.heap.size w) 1)).trans t1);clear h1 t1)
    all_goals
      go_wp2_with fail
      refine (H1.out.nums R0.out hg hpk hl 4 (by decide) [2] (by decide) (by decide) s2 HS2.out.symm).mono ?_
      rintro e w2 ⟨rfl,h2,t2⟩
      have H2:=hid h2;have T2:=hid (T1.out.trans t2);clear h2 t2
      go_wp2_with fail
      refine (H2.out.nums R0.out hg hpk hl 8 (by decide) [3] (by decide) (by decide) s3 HS3.out.symm).mono ?_
      rintro e w3 ⟨rfl,h3,t3⟩
      have c1:=Bw h3.2.2.1 (o:=1) rfl
      rw [← HV.out] at c1
      have H3:=hid h3;have T3:=hid (T2.out.trans t3);clear h3 t3
      go_wp2_with fail
      refine (H3.out.chk' hg _).mono ?_
      rintro e w4 ⟨rfl,h4,t4⟩
      have c0:=Bw h4.2.2.1 (o:=0) rfl
      rw [show ∀ ok,(FW s3 ok).P.I 0=s3.P.I 0 from fun _=>rfl,HK.out] at c0
      have H4:=hid h4;have T4:=hid (T3.out.trans t4);clear h4 t4 c1
      go_wp2_with fail
      refine (EH g _ w4).mono ?_
      rintro e w5 ⟨rfl,rfl⟩
      rw [HRV.out]
      go_wp2_with (go_at_call 93;refine (Ge H4.out HE3.out R0.out hg hpk hl 3 _ rfl).mono ?_;rintro e w6 ⟨rfl,h6,t6⟩;have H6:=hid h6;have T6:=hid (T4.out.trans t6);clear h6 t6)
      go_end0
      exact ⟨rfl,H6.out,T6.out⟩
theorem Ss {W0 w:World} {g pk:Nat} {a:Option Addr} {c:Nat} {xs:List UInt8} {s:RM} (h:RdP W0 w g pk a c xs none 0 0 s) (hE:Cx s) (r0:BB W0 a c xs) (hg:W0.heap.size≤g) (hpk:W0.heap.size≤pk) (hl:xs.length≤1000000) (hk:(BT xs s).P.I 0=4) :
    Calls Tryz.prog 49 #[π g,π pk] w fun e w'=>e=.returned (.tuple #[])∧NmP W0 w' g pk a c xs (Bm xs s)∧Turns (fun x=>x=g∨x=pk) w w':=by
  unfold Bm BT Mf
  obtain ⟨s1,hs1⟩:∃ s1,s1=[0,1].foldl (AF xs 1) s:=⟨_,rfl⟩
  obtain ⟨s2,hs2⟩:∃ s2,s2=AF xs 4 s1 2:=⟨_,rfl⟩
  obtain ⟨s3,hs3⟩:∃ s3,s3=AF xs 8 s2 3:=⟨_,rfl⟩
  rw [← hs1,← hs2,← hs3]
  have hk3:s3.P.I 0=(BT xs s).P.I 0:=by rw [hs3,hs2,hs1];rfl
  have hE3:Cx s3:=by
    rw [hs3,hs2,hs1];unfold Cx;rw [Cf,Cf,Ex,CK,CK,Il];exact hE
  obtain ⟨v,hv⟩:∃ v,v=s3.P.I 1:=⟨_,rfl⟩
  rw [← hv]
  obtain ⟨b1,hb1⟩:∃ b1,decide (1≤v)=b1:=⟨_,rfl⟩
  obtain ⟨b2,hb2⟩:∃ b2,decide (v≤8)=b2:=⟨_,rfl⟩
  rw [hb1,hb2]
  have hkk:∀ ok,(FW s3 ok).P.I 0=s3.P.I 0:=fun _=>rfl
  rw [hkk]
  rw [← hk3] at hk
  rw [hk]
  have hrv:FQ g 4=.func (.func 94) #[π g] #[]:=rfl
  have hq:∀ W:World,(binOp BinOp.eql 108 (Value.func (Fn.func 94) #[Value.pointer (some { block:=g,off:=0 })] #[]) Value.nilFunc).run Tryz.prog W=.ok (.bool false) W:=fun W=>rfl
  have HS1:=hid hs1;have HS2:=hid hs2;have HS3:=hid hs3;have HV:=hid hv;have HK:=hid hk;have HRV:=hid hrv
  have H0:=hid h;have HE3:=hid hE3;have R0:=hid r0
  clear h hE r0 hE3 hs1 hs2 hs3 hv hk hrv hk3 hkk
  cases b1<;>cases b2
  all_goals
    go_enter Tryz.func49,Tryz.ntmps49
    go_wp2_with fail
    go_region_with (go_at_call 67;refine ((H0.out.drewN 1).nums R0.out hg hpk hl 1 (by decide) [0,1] (by decide) (by decide) s1 HS1.out.symm).mono ?_;rintro e w1 ⟨rfl,h1,t1⟩;have H1:=hid h1;have T1:=hid ((Turns.of_below (X:=fun x=>x=g∨x=pk) (Av (Below.refl w.heap.size w) 1)).trans t1);clear h1 t1)
    all_goals
      go_wp2_with fail
      refine (H1.out.nums R0.out hg hpk hl 4 (by decide) [2] (by decide) (by decide) s2 HS2.out.symm).mono ?_
      rintro e w2 ⟨rfl,h2,t2⟩
      have H2:=hid h2;have T2:=hid (T1.out.trans t2);clear h2 t2
      go_wp2_with fail
      refine (H2.out.nums R0.out hg hpk hl 8 (by decide) [3] (by decide) (by decide) s3 HS3.out.symm).mono ?_
      rintro e w3 ⟨rfl,h3,t3⟩
      have c1:=Bw h3.2.2.1 (o:=1) rfl
      rw [← HV.out] at c1
      have H3:=hid h3;have T3:=hid (T2.out.trans t3);clear h3 t3
      go_wp2_with fail
      refine (H3.out.chk' hg _).mono ?_
      rintro e w4 ⟨rfl,h4,t4⟩
      have c0:=Bw h4.2.2.1 (o:=0) rfl
      rw [show ∀ ok,(FW s3 ok).P.I 0=s3.P.I 0 from fun _=>rfl,HK.out] at c0
      have H4:=hid h4;have T4:=hid (T3.out.trans t4);clear h4 t4 c1
      go_wp2_with fail
      refine (EH g _ w4).mono ?_
      rintro e w5 ⟨rfl,rfl⟩
      rw [HRV.out]
      go_wp2_with (go_at_call 94;refine (Ge H4.out HE3.out R0.out hg hpk hl 4 _ rfl).mono ?_;rintro e w6 ⟨rfl,h6,t6⟩;have H6:=hid h6;have T6:=hid (T4.out.trans t6);clear h6 t6)
      go_end0
      exact ⟨rfl,H6.out,T6.out⟩
end
section
theorem St {W0 w:World} {g pk:Nat} {a:Option Addr} {c:Nat} {xs:List UInt8} {s:RM} (h:RdP W0 w g pk a c xs none 0 0 s) (hE:Cx s) (r0:BB W0 a c xs) (hg:W0.heap.size≤g) (hpk:W0.heap.size≤pk) (hl:xs.length≤1000000) (hk:(BT xs s).P.I 0=5) :
    Calls Tryz.prog 49 #[π g,π pk] w fun e w'=>e=.returned (.tuple #[])∧NmP W0 w' g pk a c xs (Bm xs s)∧Turns (fun x=>x=g∨x=pk) w w':=by
  unfold Bm BT Mf
  obtain ⟨s1,hs1⟩:∃ s1,s1=[0,1].foldl (AF xs 1) s:=⟨_,rfl⟩
  obtain ⟨s2,hs2⟩:∃ s2,s2=AF xs 4 s1 2:=⟨_,rfl⟩
  obtain ⟨s3,hs3⟩:∃ s3,s3=AF xs 8 s2 3:=⟨_,rfl⟩
  rw [← hs1,← hs2,← hs3]
  have hk3:s3.P.I 0=(BT xs s).P.I 0:=by rw [hs3,hs2,hs1];rfl
  have hE3:Cx s3:=by
    rw [hs3,hs2,hs1];unfold Cx;rw [Cf,Cf,Ex,CK,CK,Il];exact hE
  obtain ⟨v,hv⟩:∃ v,v=s3.P.I 1:=⟨_,rfl⟩
  rw [← hv]
  obtain ⟨b1,hb1⟩:∃ b1,decide (1≤v)=b1:=⟨_,rfl⟩
  obtain ⟨b2,hb2⟩:∃ b2,decide (v≤8)=b2:=⟨_,rfl⟩
  rw [hb1,hb2]
  have hkk:∀ ok,(FW s3 ok).P.I 0=s3.P.I 0:=fun _=>rfl
  rw [hkk]
  rw [← hk3] at hk
  rw [hk]
  have hrv:FQ g 5=.func (.func 95) #[π g] #[]:=rfl
  have hq:∀ W:World,(binOp BinOp.eql 108 (Value.func (Fn.func 95) #[Value.pointer (some { block:=g,off:=0 })] #[]) Value.nilFunc).run Tryz.prog W=.ok (.bool false) W:=fun W=>rfl
  have HS1:=hid hs1;have HS2:=hid hs2;have HS3:=hid hs3;have HV:=hid hv;have HK:=hid hk;have HRV:=hid hrv
  have H0:=hid h;have HE3:=hid hE3;have R0:=hid r0
  clear h hE r0 hE3 hs1 hs2 hs3 hv hk hrv hk3 hkk
  cases b1<;>cases b2
  all_goals
    go_enter Tryz.func49,Tryz.ntmps49
    go_wp2_with fail
    go_region_with (go_at_call 67;refine ((H0.out.drewN 1).nums R0.out hg hpk hl 1 (by decide) [0,1] (by decide) (by decide) s1 HS1.out.symm).mono ?_;rintro e w1 ⟨rfl,h1,t1⟩;have H1:=hid h1;have T1:=hid ((Turns.of_below (X:=fun x=>x=g∨x=pk) (Av (Below.refl w.heap.size w) 1)).trans t1);clear h1 t1)
    all_goals
      go_wp2_with fail
      refine (H1.out.nums R0.out hg hpk hl 4 (by decide) [2] (by decide) (by decide) s2 HS2.out.symm).mono ?_
      rintro e w2 ⟨rfl,h2,t2⟩
      have H2:=hid h2;have T2:=hid (T1.out.trans t2);clear h2 t2
      go_wp2_with fail
      refine (H2.out.nums R0.out hg hpk hl 8 (by decide) [3] (by decide) (by decide) s3 HS3.out.symm).mono ?_
      rintro e w3 ⟨rfl,h3,t3⟩
      have c1:=Bw h3.2.2.1 (o:=1) rfl
      rw [← HV.out] at c1
      have H3:=hid h3;have T3:=hid (T2.out.trans t3);clear h3 t3
      go_wp2_with fail
      refine (H3.out.chk' hg _).mono ?_
      rintro e w4 ⟨rfl,h4,t4⟩
      have c0:=Bw h4.2.2.1 (o:=0) rfl
      rw [show ∀ ok,(FW s3 ok).P.I 0=s3.P.I 0 from fun _=>rfl,HK.out] at c0
      have H4:=hid h4;have T4:=hid (T3.out.trans t4);clear h4 t4 c1
      go_wp2_with fail
      refine (EH g _ w4).mono ?_
      rintro e w5 ⟨rfl,rfl⟩
      rw [HRV.out]
      go_wp2_with (go_at_call 95;refine (Ge H4.out HE3.out R0.out hg hpk hl 5 _ rfl).mono ?_;rintro e w6 ⟨rfl,h6,t6⟩;have H6:=hid h6;have T6:=hid (T4.out.trans t6);clear h6 t6)
      go_end0
      exact ⟨rfl,H6.out,T6.out⟩
theorem No {W0 w:World} {g pk:Nat} {a:Option Addr} {c:Nat} {xs:List UInt8} {s:RM} (h:RdP W0 w g pk a c xs none 0 0 s) (hE:Cx s) (r0:BB W0 a c xs) (hg:W0.heap.size≤g) (hpk:W0.heap.size≤pk) (hl:xs.length≤1000000) (hk:Fo ((BT xs s).P.I 0)=none) :
    Calls Tryz.prog 49 #[π g,π pk] w fun e w'=>e=.returned (.tuple #[])∧NmP W0 w' g pk a c xs (Bm xs s)∧Turns (fun x=>x=g∨x=pk) w w':=by
  unfold Bm BT Mf
  obtain ⟨s1,hs1⟩:∃ s1,s1=[0,1].foldl (AF xs 1) s:=⟨_,rfl⟩
  obtain ⟨s2,hs2⟩:∃ s2,s2=AF xs 4 s1 2:=⟨_,rfl⟩
  obtain ⟨s3,hs3⟩:∃ s3,s3=AF xs 8 s2 3:=⟨_,rfl⟩
  rw [← hs1,← hs2,← hs3]
  have hk3:s3.P.I 0=(BT xs s).P.I 0:=by rw [hs3,hs2,hs1];rfl
  have hE3:Cx s3:=by
    rw [hs3,hs2,hs1];unfold Cx;rw [Cf,Cf,Ex,CK,CK,Il];exact hE
  obtain ⟨v,hv⟩:∃ v,v=s3.P.I 1:=⟨_,rfl⟩
  rw [← hv]
  obtain ⟨b1,hb1⟩:∃ b1,decide (1≤v)=b1:=⟨_,rfl⟩
  obtain ⟨b2,hb2⟩:∃ b2,decide (v≤8)=b2:=⟨_,rfl⟩
  rw [hb1,hb2]
  have hkk:∀ ok,(FW s3 ok).P.I 0=s3.P.I 0:=fun _=>rfl
  rw [hkk]
  rw [← hk3] at hk
  obtain ⟨k,hkv⟩:∃ k,k=s3.P.I 0:=⟨_,rfl⟩
  rw [← hkv] at hk ⊢
  have hrv:FQ g k=.nilFunc:=by unfold FQ;rw [hk]
  have hrb:∀ t,LE xs k t=⟨t.at_,true,t.P⟩:=by
    intro t
    unfold LE
    unfold Fo at hk
    repeat' split at hk
    all_goals first | cases hk | skip
    rw [if_neg (by assumption),if_neg (by assumption),if_neg (by assumption),if_neg (by assumption),if_neg (by assumption)]
  have hq:∀ W:World,(binOp BinOp.eql 108 Value.nilFunc Value.nilFunc).run Tryz.prog W=.ok (.bool true) W:=fun W=>rfl
  have HS1:=hid hs1;have HS2:=hid hs2;have HS3:=hid hs3;have HV:=hid hv;have HK:=hid hkv.symm;have HRV:=hid hrv
  have H0:=hid h;have HE3:=hid hE3;have R0:=hid r0;have HRB:=hid hrb
  clear h hE r0 hE3 hs1 hs2 hs3 hv hk hrv hk3 hkk hrb hkv
  cases b1<;>cases b2
  all_goals
    go_enter Tryz.func49,Tryz.ntmps49
    go_wp2_with fail
    go_region_with (go_at_call 67;refine ((H0.out.drewN 1).nums R0.out hg hpk hl 1 (by decide) [0,1] (by decide) (by decide) s1 HS1.out.symm).mono ?_;rintro e w1 ⟨rfl,h1,t1⟩;have H1:=hid h1;have T1:=hid ((Turns.of_below (X:=fun x=>x=g∨x=pk) (Av (Below.refl w.heap.size w) 1)).trans t1);clear h1 t1)
    all_goals
      go_wp2_with fail
      refine (H1.out.nums R0.out hg hpk hl 4 (by decide) [2] (by decide) (by decide) s2 HS2.out.symm).mono ?_
      rintro e w2 ⟨rfl,h2,t2⟩
      have H2:=hid h2;have T2:=hid (T1.out.trans t2);clear h2 t2
      go_wp2_with fail
      refine (H2.out.nums R0.out hg hpk hl 8 (by decide) [3] (by decide) (by decide) s3 HS3.out.symm).mono ?_
      rintro e w3 ⟨rfl,h3,t3⟩
      have c1:=Bw h3.2.2.1 (o:=1) rfl
      rw [← HV.out] at c1
      have H3:=hid h3;have T3:=hid (T2.out.trans t3);clear h3 t3
      go_wp2_with fail
      refine (H3.out.chk' hg _).mono ?_
      rintro e w4 ⟨rfl,h4,t4⟩
      have c0:=Bw h4.2.2.1 (o:=0) rfl
      rw [show ∀ ok,(FW s3 ok).P.I 0=s3.P.I 0 from fun _=>rfl,HK.out] at c0
      have H4:=hid h4;have T4:=hid (T3.out.trans t4);clear h4 t4 c1
      go_wp2_with fail
      refine (EH g _ w4).mono ?_
      rintro e w5 ⟨rfl,rfl⟩
      rw [HRV.out]
      obtain ⟨a1,c1,h41,h42⟩:∃ (at1:Nat) (no1:Bool),Hid (CoG w4 g a c xs at1 no1)∧at1=at1:=⟨_,_,hid H4.out.1,rfl⟩
      have x3:=(show Blk w4 g 107 _ from h41.out).cell (i:=3) (by simp)
      have f3:=(show Blk w4 g 107 _ from h41.out).frozen 3
      simp only [List.getElem_cons_zero,List.getElem_cons_succ] at x3
      go_wp2_with fail
      first
        | (refine bodyPost_ret (results_none rfl _ _ _) rfl ?_
           obtain ⟨q1,q2⟩:=H4.out.wrong hg
           refine ⟨rfl,?_,T4.out.trans q2⟩
           rw [HRB.out]
           exact q1.nm HE3.out.1)
        | skip
end
end Go.Proofs.YtjgajoljgepioaaGreat
