/- Parts of the proof. -/
import Derived.Lib.Bytealg
import Derived.Laws.Externs
import Derived.Lib.IndexLaws
import Derived.Test.YthiplgahhejmcaaGreatDoorQai
namespace Go.Proofs.YthiplgahhejmcaaGreatDoor
open Go.RowKit
open _root_.Go.Proofs.Tryz
set_option linter.unusedSimpArgs false
set_option linter.unusedVariables false
set_option linter.unusedSectionVars false
set_option maxRecDepth 100000
set_option maxHeartbeats 8000000
section
open Go.RowKit Go.Shelf
def Lw (bs:Λ) (i:Nat):Λ:=(bs.drop (16*i)).take 16
theorem Uz {bs:Λ} (h:64≤bs.length) {i:Nat} (hi:i<4):(Lw bs i).length=16:=by
  unfold Lw;rw [List.length_take,List.length_drop];omega
def rdF (bs:Λ):Nat→Option (List EntT)
  | 0=>some []
  | j+1=>match rdF bs j,KX (Lw bs j) with
    | some l,some e=>some (l++[e])
    | _,_=>none
theorem Gl {bs:Λ} {j:Nat} (h:rdF bs j=none):rdF bs (j+1)=none:=by simp [rdF,h]
theorem Aa3 {bs:Λ} {j:Nat} (hj:j<4) (h:KX (Lw bs j)=none):rdF bs 4=none:=by
  have h1:rdF bs (j+1)=none:=by simp only [rdF,h];cases rdF bs j<;>rfl
  rcases (ω:j=0∨j=1∨j=2∨j=3) with rfl | rfl | rfl | rfl
  · exact Gl (Gl (Gl h1))
  · exact Gl (Gl h1)
  · exact Gl h1
  · exact h1
theorem Adc {bs:Λ} {j:Nat} {l:List EntT} {e:EntT} (h:rdF bs j=some l) (hd:KX (Lw bs j)=some e):rdF bs (j+1)=some (l++[e]):=by simp [rdF,h,hd]
theorem OR {bs:Λ}:∀ (j:Nat) (l:List EntT),rdF bs j=some l→l.length=j
  | 0,l,h=>by cases h;rfl
  | j+1,l,h=>by
    unfold rdF at h
    cases h1:rdF bs j with
    | none=>rw [h1] at h;cases h
    | some l1=>
      cases h2:KX (Lw bs j) with
      | none=>rw [h1,h2] at h;cases h
      | some e=>
        rw [h1,h2] at h
        cases h
        rw [List.length_append,OR j l1 h1];rfl
def Ld (t:List EntT) (q:Nat) (es:List EntT):List EntT:=splice t (4*q) es
theorem YN (t:List EntT) (q:Nat):Ld t q []=t:=by simp [Ld,splice]
theorem QC {t:List EntT} (ht:t.length=16) {q:Nat} {es:List EntT} (h:4*q+es.length≤16):(Ld t q es).length=16:=by
  unfold Ld;rw [length_splice t (4*q) es ω,ht]
theorem VN {t:List EntT} (ht:t.length=16) {q:Nat} {es:List EntT} (h:4*q+es.length<16) (e:EntT):(Ld t q es).set (4*q+es.length) e=Ld t q (es++[e]):=
  MT t (4*q) es e ω
def YW (t:List EntT) (q:Nat):Option (List EntT)→List EntT×Int
  | some es=>(Ld t q es,0)
  | none=>(t,2)
def Fl (t:List EntT) (k:Int) (bs:Λ):List EntT×Int:=
  if 0≤k∧k<4 then (if bs.length<64 then (t,3) else YW t k.toNat (rdF bs 4)) else (t,1)
def Ads (w:World) (p:List EntT×Int) (e:Ending) (w':World):Prop:=e=.returned (.tuple #[.agg (Aq p.1).toArray,ν p.2])∧Below w.heap.size w w'
theorem FJ {fn:Func} {c u:Tmp} (h:fn.results=#[.cell c 111,.tmp u]) {tmps:Array Value} {w:World} {g:Nat} {e:TypeId} {t:List EntT} (ht:t.length=16) (hc:tmps.getD c undef=π g) (hb:Blk w g e (Aq t)) :
    (results fn tmps).run prog w=.ok (.tuple #[.agg (Aq t).toArray,tmps.getD u undef]) w:=
  Cd h hc hb υ111 rfl (by rw [Ik,BL,ht])
theorem Abe (b off n c j:Nat) (hj:j<4) (hc:64≤c) (w:World):(Instr.sliceAt 52 (.slice (some ⟨b,off,none⟩) n c) (some (ν ((j:Int)*16))) (some (ν (((j:Int)+1)*16))) none).run prog w=.ok (.slice (some ⟨b,off+16*j,none⟩) 16 (c-16*j)) w:=by
  have u:=υ52
  have s8:(sizeOf 5).run prog w=.ok 1 w:=κ
  have he:prog.elem 52=5:=κ
  have hu:prog.underlying 52=some (.slice (prog.elem 52)):=by rw [he];exact u
  rw [run_sliceAt_slice w _ _ _ _ _ hu,run_slice_lh w _ _ _ _ hu _ _ _ _ ω ω ω,he,s8]
  show Result.ok (sliced _ _ _ _ _) w=_
  unfold sliced
  rw [show ((j:Int)*16).toNat=16*j by omega,show (((j:Int)+1)*16).toNat=16*j+16 by omega,if_neg ω]
  simp only [Option.map_some,Addr.add_mid,Nat.mul_one]
  rw [show 16*j+16-16*j=16 by omega]
theorem VZ (t:List EntT) (ht:t.length=16) (k:Int) (a:Ω) (c:Nat) (bs:Λ) (w:World) (hr:By w a c bs) :
    Calls prog 88 #[.agg (Aq t).toArray,ν k,.slice a bs.length c] w (Ads w (Fl t k bs)):=by
  obtain ⟨z,hz⟩:∃ z,z=Bf:=⟨_,rfl⟩
  have HZE:=hid hz
  have HZ:=hid (show z.length=16 by rw [hz];exact Ay)
  have HL:=hid (Abh HZ.out)
  have HT:=hid ht
  have hb9:=EC hr
  have HROW:=hid hr
  have K0:=hid (AR (W:=w) rfl 111 (Aq t))
  have B0:=hid (Cu w (.cells (Aq t).toArray 111))
  have S0:=hid (show (w.alloc (.cells (Aq t).toArray 111)).heap.size=w.heap.size+1 by simp)
  clear ht hz hr
  by_cases hk:0≤k∧k<4
  · obtain ⟨q,rfl⟩:∃ q:Nat,k=q:=⟨k.toNat,ω⟩
    have hq:q<4:=ω
    have hir:Fl t (q:Int) bs=(if bs.length<64 then (t,3) else YW t q (rdF bs 4)):=by unfold Fl;rw [if_pos hk];rfl
    have HIB:=fun w1=>DF (q:Int) w1
    rw [decide_eq_true hk] at HIB
    have HIB:=hid HIB
    clear hk
    by_cases hlen:bs.length<64
    · rw [if_pos hlen] at hir
      have HIR:=hid hir
      have d1:decide ((bs.length:Int)<64)=true:=decide_eq_true ω
      clear hir
      rw [HIR.out]
      go_enter func88,ntmps88
      go_wp2_with (first
        | ((with_reducible refine GO (z:=z) HZE.out rfl rfl ?_);intro w1 k1 b1 s1;rw [S0.out] at k1 s1;have K1:=hid k1;have B1:=hid (B0.out.trans (b1.mono B0.out.size));have T1:=hid (K0.out.mono b1);have S1:=hid s1;clear k1 b1 s1)
        | (go_at_call 118;refine (HIB.out _).mono ?_;rintro e w2 ⟨rfl,rfl⟩)
        | (with_reducible refine DJ rfl _ rfl w.heap.size rfl t HT.out T1.out ?_)
        | ((try rw [S0.out]);(with_reducible refine Dc rfl _ _ rfl (w.heap.size+1) rfl t HT.out rfl K1.out HL.out ?_);intro w3 k3 g3;have K3:=hid k3;have G3:=hid g3;clear k3 g3))
      refine bodyPost_ret (FJ rfl HT.out rfl K3.out) rfl ⟨rfl,Cn B1.out G3.out ω B1.out.size⟩
    · rw [if_neg hlen] at hir
      have d1:decide ((bs.length:Int)<64)=false:=decide_eq_false ω
      have hbp:0<bs.length:=ω
      obtain ⟨b,off,rfl,hblt,_⟩:=HROW.out.at hbp
      have hc64:64≤c:=by have:=HROW.out.2.1;omega
      have h64:64≤bs.length:=ω
      have HSL:=hid (fun n j hj w1=>Abe b off n c j hj hc64 w1)
      have q4:(q:Int)<4:=ω
      have HIR:=hid hir
      clear hir hlen hbp
      go_enter func88,ntmps88
      go_wp2_with (first
        | (have _t:=T3;(with_reducible refine GO (z:=z) HZE.out rfl rfl ?_);intro w4 k4 b4 s4;have K4:=hid k4;have B4:=hid (Ae B1.out b4);have T4:=hid (T1.out.mono b4);have R4:=hid (K1.out.mono b4);have S4:=hid s4;clear k4 b4 s4)
        | ((with_reducible refine GO (z:=z) HZE.out rfl rfl ?_);intro w1 k1 b1 s1;rw [S0.out] at k1 s1;have K1:=hid k1;have B1:=hid (B0.out.trans (b1.mono B0.out.size));have T1:=hid (K0.out.mono b1);have S1:=hid s1;clear k1 b1 s1)
        | (go_at_call 118;refine (HIB.out _).mono ?_;rintro e w2 ⟨rfl,rfl⟩;have T3:True:=trivial)
        | (with_reducible refine DJ rfl _ rfl w.heap.size rfl t HT.out T1.out ?_)
        | ((with_reducible refine Dc rfl _ _ rfl w1.heap.size rfl t HT.out rfl K4.out HL.out ?_);intro w5 k5 g5;have K5:=hid k5;have G5:=hid g5;clear k5 g5))
      have hs1:w1.heap.size=w.heap.size+2:=by rw [S1.out]
      have T5:=hid (T4.out.grownS G5.out ω);have R5:=hid (R4.out.grownS G5.out ω);have B5:=hid (Cn B4.out G5.out ω B4.out.size)
      have K5':=K5.out
      rw [hs1] at K5' ⊢
      rw [← YN t q] at K5'
      have hs5:w.heap.size+3≤w5.heap.size:=by have h1:=G5.out.size;have h2:=S4.out;omega
      clear T4 R4 B4 K4 S4 G5 K5 T1 K1 B1 S1 hs1
      go_loopw [21] (fun i wr=>∃ (j:Nat) (l:List EntT),j≤4∧i=ν j∧rdF bs j=some l∧Blk wr w.heap.size 111 (Aq t)∧Blk wr (w.heap.size+1) 111 (Aq z)∧Blk wr (w.heap.size+2) 111 (Aq (Ld t q l))∧Below w.heap.size w wr∧w.heap.size+3≤wr.heap.size) (fun i _=>4-(intOf i).toNat)
      case atStart=>exact ⟨0,[],ω,rfl,rfl,T5.out,R5.out,K5',B5.out,hs5⟩
      case round=>
        obtain ⟨j,l,hj,rfl,hrd,ht0,hr0,hk0,hb0,hsz⟩:=hrel
        clear T5 R5 K5' B5 hs5
        have HRD:=hid hrd;have T6:=hid ht0;have R6:=hid hr0;have K6:=hid hk0;have B6:=hid hb0
        have hll:=OR j l hrd
        clear hrd ht0 hr0 hk0 hb0
        by_cases hj4:j<4
        · have ij:(j:Int)<4:=ω
          have dj:decide ((j:Int)<4)=true:=decide_eq_true ij
          have hsl:=fun n w1=>HSL.out n j hj4 w1
          have hrow:=MF (HROW.out.mono B6.out) (16*j) 16 ω
          have hch:=Uz h64 hj4
          have HRC:=fun w1 (hb:Below wr.heap.size wr w1)=>UD b (off+16*j) (c-16*j) (Lw bs j) hch w1 (hrow.mono hb)
          have HRC:=hid HRC
          have hls:=QC HT.out (q:=q) (es:=l) ω
          have HLS:=hid hls;have HLL:=hid hll
          have hkt:4*q+j<(Ld t q l).length:=by rw [hls];omega
          have HKT:=hid hkt
          clear hrow hch hls hll hkt
          go_wp2_with (go_at_call 119;fail)
          refine (HRC.out _ (Below.refl _ _)).mono ?_
          rintro e w7 ⟨nm,ino,ok,rfl,hyes,hno,b7⟩
          have HY:=hid hyes;have HN:=hid hno
          have T7:=hid (T6.out.mono b7);have R7:=hid (R6.out.mono b7);have K7:=hid (K6.out.mono b7);have B7:=hid (Ae B6.out b7)
          have z7:w.heap.size+3≤w7.heap.size:=Nat.le_trans hsz b7.size
          have KE:=hid (AR (W:=w7) rfl 109 [.string nm,ν ino])
          clear b7 hyes hno HRC hsl
          cases ok with
          | false=>
            have hbad:=Aa3 hj4 (HN.out rfl)
            have HBAD:=hid hbad
            clear hbad
            have T8:=hid (T7.out.mono (Cu _ (.cells #[.string nm,ν ino] 109)));have R8:=hid (R7.out.mono (Cu _ (.cells #[.string nm,ν ino] 109)))
            go_wp2_with (first
              | (with_reducible refine DJ rfl _ rfl w.heap.size rfl t HT.out T8.out ?_)
              | ((with_reducible refine Dc rfl _ _ rfl (w.heap.size+1) rfl t HT.out rfl R8.out HL.out ?_);intro w9 k9 g9;have K9:=hid k9;have G9:=hid g9;clear k9 g9))
            refine bodyPost_ret (FJ rfl HT.out rfl K9.out) rfl ⟨by rw [HIR.out,HBAD.out];rfl,Cn (B7.out.alloc B7.out.size _) G9.out ω (by simp;omega)⟩
          | true=>
            have hok:=Adc HRD.out (HY.out rfl)
            have hsn:=VN HT.out (q:=q) (es:=l) (by have:=HLL.out;omega) ⟨nm,ino⟩
            rw [HLL.out] at hsn
            have HOK:=hid hok;have HSN:=hid hsn
            clear hok hsn
            have K8:Hid (Blk (w7.alloc (.cells #[.string nm,ν ino] 109)) (w.heap.size+2) 111 (Aq (Ld t q l))):=hid (K7.out.mono (Cu _ _))
            have e1:IntKind.i64.wrap ((q:Int)*4+j)=q*4+j:=IntWalk.i64_in _ ω
            have e3:((q:Int)*4+j)<16:=ω
            have e4:((q:Int)*4+j).toNat=4*q+j:=ω
            go_wp2_with (first
              | ((with_reducible refine QW rfl _ _ rfl (w.heap.size+2) (4*q+j) rfl nm ino rfl K8.out HKT.out ?_);intro w9 k9 g9;rw [HSN.out] at k9;have K9:=hid k9;have G9:=hid g9;clear k9 g9))
            go_roundw
            case rel=>exact ⟨j+1,l++[⟨nm,ino⟩],ω,by go_num,HOK.out,(T7.out.mono (Cu _ (.cells #[.string nm,ν ino] 109))).grownS G9.out ω,(R7.out.mono (Cu _ (.cells #[.string nm,ν ino] 109))).grownS G9.out ω,K9.out,Cn (B7.out.alloc B7.out.size (.cells #[.string nm,ν ino] 109)) G9.out ω (by simp;omega),by have:=G9.out.size;simp at this;omega⟩
            case measure=>simp [intOf];omega
        · obtain rfl:j=4:=ω
          have dj:decide (((4:Nat):Int)<4)=false:=by decide
          have hls:=QC HT.out (q:=q) (es:=l) ω
          have HLS:=hid hls
          clear hls hll
          go_wp2_with (first
            | (with_reducible refine DJ rfl _ rfl (w.heap.size+2) rfl (Ld t q l) HLS.out K6.out ?_)
            | ((with_reducible refine Dc rfl _ _ rfl (w.heap.size+1) rfl (Ld t q l) HLS.out rfl R6.out HL.out ?_);intro w9 k9 g9;have K9:=hid k9;have G9:=hid g9;clear k9 g9))
          refine bodyPost_ret (FJ rfl HLS.out rfl K9.out) rfl ⟨by rw [HIR.out,HRD.out];rfl,Cn B6.out G9.out ω B6.out.size⟩
  · have hir:Fl t k bs=(t,1):=if_neg hk
    have HIB:=fun w1=>DF k w1
    rw [decide_eq_false hk] at HIB
    have HIB:=hid HIB
    have HIR:=hid hir
    clear hk hir
    rw [HIR.out]
    go_enter func88,ntmps88
    go_wp2_with (first
      | ((with_reducible refine GO (z:=z) HZE.out rfl rfl ?_);intro w1 k1 b1 s1;rw [S0.out] at k1 s1;have K1:=hid k1;have B1:=hid (B0.out.trans (b1.mono B0.out.size));have T1:=hid (K0.out.mono b1);have S1:=hid s1;clear k1 b1 s1)
      | (go_at_call 118;refine (HIB.out _).mono ?_;rintro e w2 ⟨rfl,rfl⟩)
      | (with_reducible refine DJ rfl _ rfl w.heap.size rfl t HT.out T1.out ?_)
      | ((try rw [S0.out]);(with_reducible refine Dc rfl _ _ rfl (w.heap.size+1) rfl t HT.out rfl K1.out HL.out ?_);intro w3 k3 g3;have K3:=hid k3;have G3:=hid g3;clear k3 g3))
    refine bodyPost_ret (FJ rfl HT.out rfl K3.out) rfl ⟨rfl,Cn B1.out G3.out ω B1.out.size⟩
end
section
open Go.RowKit Go.Shelf
def nzE (e:EntT):Bool:=!decide (e.nm=⟨#[]⟩∧e.ino=0)
def Gs (t:List EntT) (k:Int):Bool:=decide (0≤k∧k<4)&&((t.drop (4*k.toNat)).take 4).any nzE
theorem Uq {es:List EntT} {j:Nat} (hj:j<es.length):(es.take (j+1)).any nzE=((es.take j).any nzE||nzE es[j]):=by
  rw [List.take_succ_eq_append_getElem hj,List.any_append];simp
theorem Og (t:List EntT) (ht:t.length=16) (k:Int) (w:World):Calls prog 156 #[.agg (Aq t).toArray,ν k] w fun e w'=>e=.returned (.bool (Gs t k))∧Below w.heap.size w w':=by
  have HT:=hid ht
  have K0:=hid (AR (W:=w) rfl 111 (Aq t))
  have B0:=hid (Cu w (.cells (Aq t).toArray 111))
  have SZ:=hid (show (w.alloc (.cells (Aq t).toArray 111)).heap.size=w.heap.size+1 by simp)
  clear ht
  by_cases hk:0≤k∧k<4
  · obtain ⟨q,rfl⟩:∃ q:Nat,k=q:=⟨k.toNat,ω⟩
    have hq:q<4:=ω
    have hr:Gs t (q:Int)=((t.drop (4*q)).take 4).any nzE:=by unfold Gs;rw [decide_eq_true hk];rfl
    have HIB:=fun w1=>DF (q:Int) w1
    rw [decide_eq_true hk] at HIB
    have HIB:=hid HIB
    have q4:(q:Int)<4:=ω
    clear hk
    obtain ⟨es,hes⟩:∃ es,es=(t.drop (4*q)).take 4:=⟨_,rfl⟩
    rw [← hes] at hr
    rw [hr]
    have hel:es.length=4:=by rw [hes,List.length_take,List.length_drop,HT.out];omega
    have hget:∀ j (h:j<es.length),∃ h':4*q+j<t.length,es[j]=t[4*q+j]:=fun j h=>⟨by rw [HT.out];omega,by subst hes;simp⟩
    have HG:=hid hget;have HEL:=hid hel
    clear hes hget hel hr
    have hsl:=fun w1=>Oc w.heap.size q hq w1
    obtain ⟨r,hr⟩:∃ r,r=es.any nzE:=⟨_,rfl⟩
    rw [← hr]
    have HR:=hid hr
    clear hr
    go_enter func156,ntmps156
    go_wp2_with (go_at_call 118;refine (HIB.out _).mono ?_;rintro e w1 ⟨rfl,rfl⟩)
    go_loopw [17] (fun i wr=>∃ (j:Nat),j≤4∧i=ν j∧(es.take j).any nzE=false∧Blk wr w.heap.size 111 (Aq t)∧Below w.heap.size w wr) (fun i _=>4-(intOf i).toNat)
    case atStart=>exact ⟨0,ω,rfl,rfl,K0.out,B0.out⟩
    case round=>
      obtain ⟨j,hj,rfl,hno,hb0,hbl⟩:=hrel
      clear K0 B0 SZ hsl
      have HB0:=hid hb0;have HBL:=hid hbl;have HNO:=hid hno
      clear hb0 hbl hno
      by_cases hj4:j<4
      · have ij:(j:Int)<4:=ω
        have dj:decide ((j:Int)<4)=true:=decide_eq_true ij
        have hje:j<es.length:=by rw [HEL.out];exact hj4
        obtain ⟨ht4,hte⟩:=HG.out j hje
        have ck:=EH t (4*q+j) ht4
        obtain ⟨hq0,hv0⟩:=List.getElem?_eq_some_iff.1 ck.1
        obtain ⟨hq1,hv1⟩:=List.getElem?_eq_some_iff.1 ck.2
        have c0:wr.cell? ⟨w.heap.size,8*q+j*2,none⟩=some (.string es[j].nm):=by rw [hte,show 8*q+j*2=2*(4*q+j) by omega,HB0.out.cell (i:=2*(4*q+j)) hq0,hv0]
        have c1':wr.cell? ⟨w.heap.size,8*q+j*2+1,none⟩=some (ν es[j].ino):=by rw [hte,show 8*q+j*2+1=2*(4*q+j)+1 by omega,HB0.out.cell (i:=2*(4*q+j)+1) hq1,hv1]
        have hsn:=Uq hje
        rw [HNO.out,Bool.false_or] at hsn
        have hyes:nzE es[j]=true→es.any nzE=true:=fun h=>List.any_eq_true.2 ⟨es[j],List.getElem_mem _,h⟩
        have E:=Rs es[j].nm ⟨#[]⟩ es[j].ino 0
        have hnz:nzE es[j]=!decide (es[j].nm=⟨#[]⟩∧es[j].ino=0):=rfl
        rw [hnz] at hsn hyes
        have HSN:=hid hsn;have HY:=hid hyes
        clear hsn hyes hte ck hq0 hq1 hv0 hv1 hnz
        generalize es[j].nm=nm at *
        generalize es[j].ino=ino at *
        have HB1:=hid (HB0.out.mono (Cu wr (.cells #[.string nm,ν ino] 109)))
        have HL1:=hid (HBL.out.alloc HBL.out.size (.cells #[.string nm,ν ino] 109))
        by_cases hz:nm=⟨#[]⟩∧ino=0
        · rw [decide_eq_true hz] at E HSN
          clear hz
          go_wp2_with fail
          go_roundw
          case rel=>exact ⟨j+1,ω,by go_num,HSN.out,HB1.out,HL1.out⟩
          case measure=>simp [intOf];omega
        · rw [decide_eq_false hz] at E HY
          have HF:=hid (HR.out.trans (HY.out rfl))
          clear hz
          go_wp2_with fail
          go_ret
          exact ⟨Bl HF.out.symm,HL1.out⟩
      · obtain rfl:j=4:=ω
        have dj:decide (((4:Nat):Int)<4)=false:=by decide
        rw [List.take_of_length_le (by rw [HEL.out];omega)] at HNO
        have HF:=hid (HR.out.trans HNO.out)
        go_wp2_with fail
        go_ret
        exact ⟨Bl HF.out.symm,HBL.out⟩
  · have hr:Gs t k=false:=by unfold Gs;rw [decide_eq_false hk];rfl
    rw [hr]
    have HIB:=fun w1=>DF k w1
    rw [decide_eq_false hk] at HIB
    have HIB:=hid HIB
    clear hk hr
    go_enter func156,ntmps156
    go_wp2_with (go_at_call 118;refine (HIB.out _).mono ?_;rintro e w1 ⟨rfl,rfl⟩)
    go_ret
    exact ⟨rfl,B0.out⟩
end
section
open Go.RowKit Go.Shelf
def Ago (l:Λ):Option Nat:=l.findIdx? (fun b=>b == 47)
def Bv:Λ→List (Λ)
  | []=>[[]]
  | b::l=>if b == 47 then []::Bv l else match Bv l with
    | p::r=>(b::p)::r
    | []=>[[b]]
theorem KN (b:UInt8) (l:Λ):Bv (b::l)=if b == 47 then []::Bv l else match Bv l with
    | p::r=>(b::p)::r
    | []=>[[b]]:=by rw [Bv]
theorem NS (l:Λ):Bv l≠[]:=by
  cases l with
  | nil=>simp [Bv]
  | cons b l=>
    unfold Bv
    split
    · simp
    · split<;>simp
theorem Ey:∀ {l:Λ},(∀ b∈l,b≠47)→Bv l=[l]
  | [],_=>rfl
  | b::l,h=>by
    have hb:(b == 47)=false:=by simpa using h b (by simp)
    have ih:=Ey (l:=l) (fun x hx=>h x (by simp [hx]))
    unfold Bv
    rw [hb,ih];rfl
theorem Gj:∀ (p r:Λ),(∀ b∈p,b≠47)→Bv (p++47::r)=p::Bv r
  | [],r,_=>by
    show Bv (47::r)=_
    rw [KN];rfl
  | b::p,r,h=>by
    have hb:(b == 47)=false:=by simpa using h b (by simp)
    have ih:=Gj p r (fun x hx=>h x (by simp [hx]))
    show Bv (b::(p++47::r))=_
    rw [KN,hb,ih];rfl
theorem In:∀ l:Λ,(Bv l).length≤l.length+1
  | []=>by simp [Bv]
  | b::l=>by
    have ih:=In l
    unfold Bv
    split
    · simp;omega
    · split
      · rename_i h;rw [h] at ih;simp at ih ⊢;omega
      · simp
theorem FM (l:Λ):(Lib.indexByte l 47=-1∧∀ b∈l,b≠47)∨(∃ k:Nat,Lib.indexByte l 47=k∧k<l.length∧(∀ b∈l.take k,b≠47)∧l=l.take k++47::l.drop (k+1)):=by
  have hge:=Lib.indexByte_ge l 47
  by_cases h:Lib.indexByte l 47=-1
  · refine .inl ⟨h,fun b hb e=>?_⟩
    obtain ⟨i,hi,rfl⟩:=List.getElem_of_mem hb
    exact Lib.indexByte_none h i (by rw [List.getElem?_eq_getElem hi,e])
  · obtain ⟨k,hk⟩:∃ k:Nat,Lib.indexByte l 47=k:=⟨(Lib.indexByte l 47).toNat,ω⟩
    obtain ⟨h1,h2⟩:=Lib.indexByte_some hk
    obtain ⟨h3,h4⟩:=List.getElem?_eq_some_iff.1 h1
    refine .inr ⟨k,hk,h3,fun b hb e=>?_,?_⟩
    · obtain ⟨i,hi,rfl⟩:=List.getElem_of_mem hb
      rw [List.length_take] at hi
      rw [List.getElem_take] at e
      exact h2 i ω (by rw [List.getElem?_eq_getElem ω,e])
    · rw [← h4,List.getElem_cons_drop,List.take_append_drop]
theorem RO (s:ByteArray) (w:World):Calls prog 191 #[.string s,.int .u8 47] w fun e w'=>e=.returned (ν (Lib.indexByte s.data.toList 47))∧w=w':=by
  go_enter func191,ntmps191
  go_wp2
  rw [run_callFunc_extern func197 κ κ κ (e:=Extern.BytealgIndexByte.indexByte) κ,Lib.run_indexByteString]
  simp only [Result.andThen]
  rw [Oper.upon_value]
  go_wp2
  go_ret
  exact ⟨rfl,rfl⟩
theorem RP (s:ByteArray) (w:World):Calls prog 186 #[.string s,.string ⟨#[47]⟩] w fun e w'=>e=.returned (ν (Lib.indexByte s.data.toList 47))∧w=w':=by
  by_cases hs:s=⟨#[47]⟩
  · subst hs
    go_enter func186,ntmps186
    go_wp2_with fail
    go_ret
    exact ⟨GJ (by decide +kernel),rfl⟩
  have e1:=Lg s ⟨#[47]⟩
  rw [decide_eq_false hs,PR] at e1
  have e2:=Lg ⟨#[47]⟩ s
  rw [decide_eq_false (fun h=>hs h.symm),PR] at e2
  have HI:=hid (fun w1=>RO s w1)
  clear hs
  go_enter func186,ntmps186
  go_wp2_with (go_at_call 191;refine (HI.out _).mono ?_;rintro e w1 ⟨rfl,rfl⟩)
  go_ret
  exact ⟨rfl,rfl⟩
theorem NG (s:ByteArray) (w:World):Calls prog 170 #[.string s,.string ⟨#[47]⟩] w fun e w'=>e=.returned (ν (Lib.indexByte s.data.toList 47))∧w=w':=by
  have HI:=hid (fun w1=>RP s w1)
  go_enter func170,ntmps170
  go_wp2_with (go_at_call 186;refine (HI.out _).mono ?_;rintro e w1 ⟨rfl,rfl⟩)
  go_ret
  exact ⟨rfl,rfl⟩
theorem Oo (a:Ω) (c:Nat) (L:List ByteArray) (w:World) (h:JR w a c L) :
    Calls prog 116 #[.slice a L.length c] w fun e w'=>e=.returned (.bool (L.all DQ))∧Below w.heap.size w w':=by
  have hl:=YD h
  have HR:=hid h
  clear h
  go_enter func116,ntmps116
  go_wp2
  go_loopw [7] (fun i wr=>∃ j:Nat,j≤L.length∧i=ν j∧(L.take j).all DQ=true∧Below w.heap.size w wr) (fun i _=>L.length-(intOf i).toNat)
  case atStart=>exact ⟨0,Nat.zero_le _,rfl,by simp,Below.refl _ _⟩
  case round=>
    obtain ⟨j,hj,rfl,hall,hb⟩:=hrel
    by_cases hlt:j<L.length
    · obtain ⟨b,off,rfl,hbl,hc⟩:=IY (HR.out.mono hb) ω
      have cj:=hc j hlt
      have ij:(j:Int)<L.length:=ω
      have dj:decide ((j:Int)<(L.length:Int))=true:=decide_eq_true ij
      have hsn:(L.take (j+1)).all DQ=DQ L[j]:=by rw [List.take_succ_eq_append_getElem hlt,List.all_append,hall];simp
      have hbad:DQ L[j]=false→L.all DQ=false:=fun h=>by
        rw [List.all_eq_false];exact ⟨L[j],List.getElem_mem _,by rw [h];simp⟩
      have HM:=fun w1=>PV L[j] w1
      have HSN:=hid hsn;have HBAD:=hid hbad;have HB:=hid hb
      clear hc hsn hbad hall hb
      generalize L[j]=x at *
      cases hm:DQ x with
      | true=>
        rw [hm] at HM HSN
        have HM:=hid HM
        clear hm
        go_wp2_with (go_at_call 139;refine (HM.out _).mono ?_;rintro e w1 ⟨rfl,b1⟩;have B1:=hid (Ae HB.out b1);clear b1)
        go_roundw
        case rel=>exact ⟨j+1,ω,by go_num,HSN.out,B1.out⟩
        case measure=>simp [intOf];omega
      | false=>
        rw [hm] at HM
        have HF:=hid (HBAD.out hm)
        have HM:=hid HM
        clear hm
        go_wp2_with (go_at_call 139;refine (HM.out _).mono ?_;rintro e w1 ⟨rfl,b1⟩;have B1:=hid (Ae HB.out b1);clear b1)
        go_ret
        exact ⟨Bl HF.out.symm,B1.out⟩
    · obtain rfl:j=L.length:=ω
      have dj:decide ((L.length:Int)<(L.length:Int))=false:=decide_eq_false ω
      rw [List.take_length] at hall
      have HALL:=hid hall
      clear hall
      go_wp2
      go_ret
      exact ⟨Bl HALL.out.symm,hb⟩
end
section
open Go.RowKit Go.Shelf
def QZ (w:World) (X:Λ) (e:Ending) (w':World):Prop:=
  ∃ (a:Ω) (c:Nat) (R:List ByteArray),e=.returned (.slice a R.length c)∧Abv w' w.heap.size a c R∧Below w.heap.size w w' ∧
    ((R=(Bv X).map AG∧R.length≤6)∨(6<(Bv X).length∧∃ x∈R,(47:UInt8)∈x.data.toList))
def Adp (n:Nat):List Value:=List.replicate n (.string ⟨#[]⟩)
theorem Zm (n:Nat):(Adp n).length=n:=List.length_replicate
def OW (L:List (Λ)) (n:Nat):List Value:=(L.map AG).map VT++Adp (n-L.length)
theorem Gn (L:List (Λ)) {n:Nat} (h:L.length≤n):(OW L n).length=n:=by simp [OW,Zm];omega
theorem Qw (L:List (Λ)) {n:Nat} (h:L.length<n) (x:Λ):(OW L n).set L.length (σ x)=OW (L++[x]) n:=by
  unfold OW
  have hl:((L.map AG).map VT).length=L.length:=by simp
  rw [List.set_append_right _ _ ω,hl,Nat.sub_self]
  unfold Adp
  rw [show n-L.length=(n-(L++[x]).length)+1 by simp;omega,List.replicate_succ,List.set_cons_zero,List.map_append,List.map_append,List.append_assoc]
  rfl
theorem Iq (L:List (Λ)) (n:Nat):(OW L n).take L.length=(L.map AG).map VT:=by
  unfold OW
  exact List.take_left' (by simp)
theorem Jl (l:Λ) (k:Nat):(AG l).extract 0 k=AG (l.take k):=by rw [Ty,DH];simp
theorem LJ (l:Λ) (k:Nat):(AG l).extract k l.length=AG (l.drop k):=by
  rw [Ty,DH,List.take_of_length_le (by rw [List.length_drop];omega)]
theorem OA (X:Λ) (hX:X.length≤1000) (w:World):Calls prog 138 #[σ X,.string ⟨#[47]⟩,ν 0,ν 6] w (QZ w X):=by
  have hsz:=Fd X
  have hp1:=In X
  by_cases h6:5≤X.length
  · have i6:(6:Int)≤(X.length:Int)+1:=ω
    go_enter func138,ntmps138
    go_wp2_with (refine JP rfl (.tmp 30) (.tmp 30) rfl υ60 (z:=.string ⟨#[]⟩) (bytes:=16) κ rfl (n:=6) rfl rfl (by first | rfl | omega) (by first | rfl | omega) ω ω ?_;intro w1 k1 b1;have K1:=hid k1;have B1:=hid b1;clear k1 b1)
    clear hsz
    go_loopw [0,10] (fun sv i wr=>∃ (j:Nat) (cur:Λ) (out:List (Λ)),j<6∧sv=σ cur∧i=ν j∧out.length=j∧Bv X=out++Bv cur∧cur.length≤X.length∧Blk wr w.heap.size 9 (OW out (6))∧Below w.heap.size w wr) (fun _ i _=>6-(intOf i).toNat)
    case atStart=>exact ⟨0,X,[],ω,rfl,rfl,rfl,rfl,Nat.le_refl _,K1.out,B1.out⟩
    case round=>
      obtain ⟨j,cur,out,hj,rfl,rfl,hol,hpc,hcl,hk,hb⟩:=hrel
      have HOL:=hid hol;have HPC:=hid hpc;have HB:=hid hb;have HK:=hid hk
      have hrl:=Gn out (n:=6) ω
      have hrs:=fun x=>Qw out (n:=6) ω x
      have cj:∃ v,wr.cell? ⟨w.heap.size,j,none⟩=some v:=by rw [← hol];exact ⟨_,hk.cell (i:=out.length) (by rw [hrl,hol];omega)⟩
      obtain ⟨vj,cj⟩:=cj
      have fj:wr.frozen? ⟨w.heap.size,j,none⟩=false:=hk.frozen _
      have hlt:=hk.lt
      have HRS:=hid hrs
      have hcs:=Fd cur
      have HI:=hid (fun w1=>NG (AG cur) w1)
      clear hol hpc hb hk hrl hrs
      have ijn:(j:Int)<((6:Nat):Int):=ω
      have e0:IntKind.i64.wrap ((j:Int)+1)=j+1:=IntWalk.i64_in _ ω
      by_cases hlast:j+1=6
      · have dl:decide ((j:Int)<5)=false:=decide_eq_false ω
        have il:¬ (j:Int)<5:=ω
        have HLAST:=hid hlast
        clear hlast
        go_wp2_with fail
        have hlast:=HLAST.out
        have q:=HK.out.set j (σ cur)
        have hr:=HRS.out cur
        rw [HOL.out] at hr
        rw [hr] at q
        have hpc2:=HPC.out
        go_ret
        refine ⟨some ⟨w.heap.size,0,none⟩,6,(out++[cur]).map AG,?_,?_,HB.out.setCell (p:=⟨w.heap.size,j,none⟩) (Nat.le_refl _) _,?_⟩
        · have hlen:((out++[cur]).map AG).length=j+1:=by rw [List.length_map,List.length_append,HOL.out];rfl
          rw [hlen];rfl
        · have hlen:(out++[cur]).length=j+1:=by rw [List.length_append,HOL.out];rfl
          have qq:=Own.of_blk (B:=w.heap.size) (sz:=1) (n:=j+1) (c:=6) q (Nat.le_refl _) ω (by unfold maxLen;omega) (by rw [Gn _ (by have:=HOL.out;simp;omega)];try omega)
          rw [Nat.mul_one,← hlen,Iq] at qq
          show Own _ _ _ 1 _ ((out++[cur]).map AG).length _ _
          rw [List.length_map]
          exact qq
        · rcases FM cur with ⟨_,hno⟩ | ⟨k,hk1,hk2,hk3,hk4⟩
          · have hp:=Ey hno
            rw [hp] at hpc2
            exact .inl ⟨by rw [hpc2],by rw [List.length_map,List.length_append,HOL.out];simp;omega⟩
          · refine .inr ⟨?_,AG cur,by simp,by rw [DH,hk4];simp⟩
            have hp:=Gj (cur.take k) (cur.drop (k+1)) hk3
            rw [← hk4] at hp
            rw [hp] at hpc2
            have h1:(Bv X).length=out.length+(1+(Bv (cur.drop (k+1))).length):=by rw [hpc2];simp;omega
            have h2:=List.length_pos_iff.2 (NS (cur.drop (k+1)))
            have h3:=HOL.out
            have h4:=In X
            omega
      · have dl:decide ((j:Int)<5)=true:=decide_eq_true ω
        have il:(j:Int)<5:=ω
        rcases FM cur with ⟨hm,hno⟩ | ⟨k,hm,hk2,hk3,hk4⟩
        · rw [DH,hm] at HI
          have HNO:=hid hno
          clear hno hm
          go_wp2_with (go_at_call 170;refine (HI.out _).mono ?_;rintro e w2 ⟨rfl,rfl⟩)
          have q:=HK.out.set j (σ cur)
          have hr:=HRS.out cur
          rw [HOL.out] at hr
          rw [hr] at q
          have hpc2:=HPC.out
          go_ret
          refine ⟨some ⟨w.heap.size,0,none⟩,6,(out++[cur]).map AG,?_,?_,HB.out.setCell (p:=⟨w.heap.size,j,none⟩) (Nat.le_refl _) _,?_⟩
          · have hlen:((out++[cur]).map AG).length=j+1:=by rw [List.length_map,List.length_append,HOL.out];rfl
            rw [hlen];rfl
          · have hlen:(out++[cur]).length=j+1:=by rw [List.length_append,HOL.out];rfl
            have qq:=Own.of_blk (B:=w.heap.size) (sz:=1) (n:=j+1) (c:=6) q (Nat.le_refl _) ω (by unfold maxLen;omega) (by rw [Gn _ (by have:=HOL.out;simp;omega)];try omega)
            rw [Nat.mul_one,← hlen,Iq] at qq
            show Own _ _ _ 1 _ ((out++[cur]).map AG).length _ _
            rw [List.length_map]
            exact qq
          · have hp:=Ey HNO.out
            rw [hp] at hpc2
            exact .inl ⟨by rw [hpc2],by rw [List.length_map,List.length_append,HOL.out];simp;omega⟩
        · rw [DH,hm] at HI
          have hp:=Gj (cur.take k) (cur.drop (k+1)) hk3
          rw [← hk4] at hp
          have HP:=hid hp
          have x1:=Jl cur k
          have x2:=LJ cur (k+1)
          have ik:(k:Int)<cur.length:=ω
          have ik2:(k:Int)+1≤cur.length:=ω
          clear hk4 hk3 hm hp
          go_wp2_with (go_at_call 170;refine (HI.out _).mono ?_;rintro e w2 ⟨rfl,rfl⟩)
          go_roundw
          case rel=>
            refine ⟨j+1,cur.drop (k+1),out++[cur.take k],ω,rfl,by go_num,by rw [List.length_append,HOL.out];rfl,by rw [HPC.out,HP.out,List.append_assoc];rfl,by rw [List.length_drop];omega,?_,HB.out.setCell (p:=⟨w.heap.size,j,none⟩) (Nat.le_refl _) _⟩
            have q:=HK.out.set j (σ (cur.take k))
            have hr:=HRS.out (cur.take k)
            rw [HOL.out] at hr
            rw [hr] at q
            exact q
          case measure=>simp [intOf];omega
  · have i6:¬ (6:Int)≤(X.length:Int)+1:=ω
    go_enter func138,ntmps138
    go_wp2_with (refine JP rfl (.tmp 30) (.tmp 30) rfl υ60 (z:=.string ⟨#[]⟩) (bytes:=16) κ rfl (n:=(X.length+1)) rfl rfl (by first | rfl | omega) (by first | rfl | omega) ω ω ?_;intro w1 k1 b1;have K1:=hid k1;have B1:=hid b1;clear k1 b1)
    clear hsz
    go_loopw [0,10] (fun sv i wr=>∃ (j:Nat) (cur:Λ) (out:List (Λ)),j<(X.length+1)∧sv=σ cur∧i=ν j∧out.length=j∧Bv X=out++Bv cur∧cur.length≤X.length∧Blk wr w.heap.size 9 (OW out ((X.length+1)))∧Below w.heap.size w wr) (fun _ i _=>(X.length+1)-(intOf i).toNat)
    case atStart=>exact ⟨0,X,[],ω,rfl,rfl,rfl,rfl,Nat.le_refl _,K1.out,B1.out⟩
    case round=>
      obtain ⟨j,cur,out,hj,rfl,rfl,hol,hpc,hcl,hk,hb⟩:=hrel
      have HOL:=hid hol;have HPC:=hid hpc;have HB:=hid hb;have HK:=hid hk
      have hrl:=Gn out (n:=(X.length+1)) ω
      have hrs:=fun x=>Qw out (n:=(X.length+1)) ω x
      have cj:∃ v,wr.cell? ⟨w.heap.size,j,none⟩=some v:=by rw [← hol];exact ⟨_,hk.cell (i:=out.length) (by rw [hrl,hol];omega)⟩
      obtain ⟨vj,cj⟩:=cj
      have fj:wr.frozen? ⟨w.heap.size,j,none⟩=false:=hk.frozen _
      have hlt:=hk.lt
      have HRS:=hid hrs
      have hcs:=Fd cur
      have HI:=hid (fun w1=>NG (AG cur) w1)
      clear hol hpc hb hk hrl hrs
      have ijn:(j:Int)<(((X.length+1):Nat):Int):=ω
      have e0:IntKind.i64.wrap ((j:Int)+1)=j+1:=IntWalk.i64_in _ ω
      by_cases hlast:j+1=(X.length+1)
      · have dl:decide ((j:Int)<(X.length:Int))=false:=decide_eq_false ω
        have il:¬ (j:Int)<(X.length:Int):=ω
        have HLAST:=hid hlast
        clear hlast
        go_wp2_with fail
        have hlast:=HLAST.out
        have q:=HK.out.set j (σ cur)
        have hr:=HRS.out cur
        rw [HOL.out] at hr
        rw [hr] at q
        have hpc2:=HPC.out
        go_ret
        refine ⟨some ⟨w.heap.size,0,none⟩,(X.length+1),(out++[cur]).map AG,?_,?_,HB.out.setCell (p:=⟨w.heap.size,j,none⟩) (Nat.le_refl _) _,?_⟩
        · have hlen:((out++[cur]).map AG).length=j+1:=by rw [List.length_map,List.length_append,HOL.out];rfl
          rw [hlen];rfl
        · have hlen:(out++[cur]).length=j+1:=by rw [List.length_append,HOL.out];rfl
          have qq:=Own.of_blk (B:=w.heap.size) (sz:=1) (n:=j+1) (c:=(X.length+1)) q (Nat.le_refl _) ω (by unfold maxLen;omega) (by rw [Gn _ (by have:=HOL.out;simp;omega)];try omega)
          rw [Nat.mul_one,← hlen,Iq] at qq
          show Own _ _ _ 1 _ ((out++[cur]).map AG).length _ _
          rw [List.length_map]
          exact qq
        · rcases FM cur with ⟨_,hno⟩ | ⟨k,hk1,hk2,hk3,hk4⟩
          · have hp:=Ey hno
            rw [hp] at hpc2
            exact .inl ⟨by rw [hpc2],by rw [List.length_map,List.length_append,HOL.out];simp;omega⟩
          · refine .inr ⟨?_,AG cur,by simp,by rw [DH,hk4];simp⟩
            have hp:=Gj (cur.take k) (cur.drop (k+1)) hk3
            rw [← hk4] at hp
            rw [hp] at hpc2
            have h1:(Bv X).length=out.length+(1+(Bv (cur.drop (k+1))).length):=by rw [hpc2];simp;omega
            have h2:=List.length_pos_iff.2 (NS (cur.drop (k+1)))
            have h3:=HOL.out
            have h4:=In X
            omega
      · have dl:decide ((j:Int)<(X.length:Int))=true:=decide_eq_true ω
        have il:(j:Int)<(X.length:Int):=ω
        rcases FM cur with ⟨hm,hno⟩ | ⟨k,hm,hk2,hk3,hk4⟩
        · rw [DH,hm] at HI
          have HNO:=hid hno
          clear hno hm
          go_wp2_with (go_at_call 170;refine (HI.out _).mono ?_;rintro e w2 ⟨rfl,rfl⟩)
          have q:=HK.out.set j (σ cur)
          have hr:=HRS.out cur
          rw [HOL.out] at hr
          rw [hr] at q
          have hpc2:=HPC.out
          go_ret
          refine ⟨some ⟨w.heap.size,0,none⟩,(X.length+1),(out++[cur]).map AG,?_,?_,HB.out.setCell (p:=⟨w.heap.size,j,none⟩) (Nat.le_refl _) _,?_⟩
          · have hlen:((out++[cur]).map AG).length=j+1:=by rw [List.length_map,List.length_append,HOL.out];rfl
            rw [hlen];rfl
          · have hlen:(out++[cur]).length=j+1:=by rw [List.length_append,HOL.out];rfl
            have qq:=Own.of_blk (B:=w.heap.size) (sz:=1) (n:=j+1) (c:=(X.length+1)) q (Nat.le_refl _) ω (by unfold maxLen;omega) (by rw [Gn _ (by have:=HOL.out;simp;omega)];try omega)
            rw [Nat.mul_one,← hlen,Iq] at qq
            show Own _ _ _ 1 _ ((out++[cur]).map AG).length _ _
            rw [List.length_map]
            exact qq
          · have hp:=Ey HNO.out
            rw [hp] at hpc2
            exact .inl ⟨by rw [hpc2],by rw [List.length_map,List.length_append,HOL.out];simp;omega⟩
        · rw [DH,hm] at HI
          have hp:=Gj (cur.take k) (cur.drop (k+1)) hk3
          rw [← hk4] at hp
          have HP:=hid hp
          have x1:=Jl cur k
          have x2:=LJ cur (k+1)
          have ik:(k:Int)<cur.length:=ω
          have ik2:(k:Int)+1≤cur.length:=ω
          clear hk4 hk3 hm hp
          go_wp2_with (go_at_call 170;refine (HI.out _).mono ?_;rintro e w2 ⟨rfl,rfl⟩)
          go_roundw
          case rel=>
            refine ⟨j+1,cur.drop (k+1),out++[cur.take k],ω,rfl,by go_num,by rw [List.length_append,HOL.out];rfl,by rw [HPC.out,HP.out,List.append_assoc];rfl,by rw [List.length_drop];omega,?_,HB.out.setCell (p:=⟨w.heap.size,j,none⟩) (Nat.le_refl _) _⟩
            have q:=HK.out.set j (σ (cur.take k))
            have hr:=HRS.out (cur.take k)
            rw [HOL.out] at hr
            rw [hr] at q
            exact q
          case measure=>simp [intOf];omega
end
section
open Go.RowKit Go.Shelf
def Km (rest:Λ):Option (List ByteArray):=if (Bv rest).length≤6∧((Bv rest).map AG).all DQ=true then some ((Bv rest).map AG) else none
def NV:Λ→Option (List ByteArray)
  | b::r=>if b=47 then Km r else none
  | []=>none
def BX (X:Λ):Option (List ByteArray):=if X=[47] then some [] else NV X
def erO (o:Option (List ByteArray)):Int:=match o with | some _=>0 | none=>15
def Tj (w:World) (o:Option (List ByteArray)) (e:Ending) (w':World):Prop:=
  ∃ a c,e=.returned (.tuple #[.slice a (o.getD []).length c,ν (erO o)])∧Abv w' w.heap.size a c (o.getD [])∧Below w.heap.size w w'
theorem IE {w w':World} {o:Option (List ByteArray)} {e:Ending} (ho:o=none) (he:e=.returned (.tuple #[.slice none 0 0,ν 15])) (hb:Below w.heap.size w w'):Tj w o e w':=by
  subst ho;exact ⟨none,0,he,Own.nil _ _ _ _,hb⟩
theorem QX {w w':World} {o:Option (List ByteArray)} {e:Ending} (ho:o=some []) (he:e=.returned (.tuple #[.slice none 0 0,ν 0])) (hb:Below w.heap.size w w'):Tj w o e w':=by
  subst ho;exact ⟨none,0,he,Own.nil _ _ _ _,hb⟩
theorem QY {w w':World} {o:Option (List ByteArray)} {e:Ending} {L:List ByteArray} {a:Ω} {c:Nat} (ho:o=some L) (he:e=.returned (.tuple #[.slice a L.length c,ν 0])) (h:Abv w' w.heap.size a c L) (hb:Below w.heap.size w w'):Tj w o e w':=by
  subst ho;exact ⟨a,c,he,h,hb⟩
theorem OI {x:ByteArray} (h:(47:UInt8)∈x.data.toList):DQ x=false:=by
  have:Ra x=false:=by
    unfold Ra
    rw [List.all_eq_false]
    exact ⟨47,h,by decide⟩
  unfold DQ;rw [this];simp
theorem SQ (X:Λ) (hX:X.length≤1000) (w:World):Calls prog 115 #[σ X,.string ⟨#[47]⟩,ν 6] w (QZ w X):=by
  have HG:=OA X hX w
  unfold QZ at HG ⊢
  have HG:=hid HG
  go_enter func115,ntmps115
  go_wp2_with (go_at_call 138;fail)
  refine (HG.out).mono ?_
  rintro e w1 ⟨a,c,R,rfl,o,b,h⟩
  have O:=hid o;have B:=hid b;have H:=hid h
  clear o b h
  go_wp2_with fail
  go_ret
  exact ⟨a,c,R,rfl,O.out,B.out,H.out⟩
theorem Rl (r:List UInt8) (w:World):Calls Tryz.prog 114 #[.string (AG (47::r)),.string ⟨#[47]⟩] w fun e w'=>e=.returned (.tuple #[.string (AG r),.bool true])∧w=w':=by
  have x1:(AG (47::r)).extract 0 1=⟨#[47]⟩:=by rw [Jl];rfl
  have x2:(AG (47::r)).extract 1 (r.length+1)=AG r:=LJ (47::r) 1
  have hs:(AG (47::r)).size=r.length+1:=Fd _
  generalize AG (47::r)=s at *
  have d1:decide ((1:Int)≤(r.length:Int)+1)=true:=decide_eq_true (by omega)
  have i1:(1:Int)≤((r.length+1:Nat):Int):=by omega
  have HX2:=hid x2;have HS:=hid hs
  have x3:s.extract 1 s.size=AG r:=by rw [hs];exact x2
  have i2:(1:Int)≤s.size:=by omega
  have d2:decide ((1:Int)≤(s.size:Int))=true:=decide_eq_true i2
  clear x2 hs d1 i1
  go_enter Tryz.func114,Tryz.ntmps114
  go_wp2
  go_ret2
  exact ⟨rfl,rfl⟩
theorem Ny (X:List UInt8) (hX:∀ b r,X=b::r→b≠47) (w:World):Calls Tryz.prog 114 #[.string (AG X),.string ⟨#[47]⟩] w fun e w'=>e=.returned (.tuple #[.string (AG X),.bool false])∧w=w':=by
  cases X with
  | nil=>
    have hs:(AG []).size=0:=rfl
    generalize AG []=s at *
    go_enter Tryz.func114,Tryz.ntmps114
    go_wp2
    go_ret2
    exact ⟨rfl,rfl⟩
  | cons b r=>
    have hb:¬ b=47:=hX b r rfl
    have x1:(AG (b::r)).extract 0 1=⟨#[b]⟩:=by rw [Jl];rfl
    have hs:(AG (b::r)).size=r.length+1:=Fd _
    generalize AG (b::r)=s at *
    have i2:(1:Int)≤s.size:=ω
    have d2:decide ((1:Int)≤(s.size:Int))=true:=decide_eq_true i2
    have e1:((⟨#[b]⟩:ByteArray).toList == [47])=false:=by rw [PR];simpa using hb
    have e2:([b] == [(47:UInt8)])=false:=by simpa using hb
    have e3:=PR b
    clear hs hX
    go_enter Tryz.func114,Tryz.ntmps114
    go_wp2
    go_ret2
    exact ⟨rfl,rfl⟩
end
section
open Go.RowKit Go.Shelf
theorem VQ {X:Λ} {R:List ByteArray} (h:(R=(Bv X).map AG∧R.length≤6)∨(6<(Bv X).length∧∃ x∈R,(47:UInt8)∈x.data.toList)) :
    (R.all DQ=true∧Km X=some R)∨(R.all DQ=false∧Km X=none):=by
  rcases h with ⟨rfl,h6⟩ | ⟨h6,x,hx,hs⟩
  · rw [List.length_map] at h6
    cases ha:((Bv X).map AG).all DQ with
    | true=>exact .inl ⟨rfl,if_pos ⟨h6,ha⟩⟩
    | false=>exact .inr ⟨rfl,if_neg (fun q=>by rw [ha] at q;cases q.2)⟩
  · refine .inr ⟨?_,if_neg (fun q=>ω)⟩
    rw [List.all_eq_false]
    exact ⟨x,hx,by rw [OI hs];simp⟩
theorem JB (X:Λ) (hX:X.length≤1000) (w:World):Calls prog 86 #[σ X] w (Tj w (BX X)):=by
  by_cases h0:X=[47]
  · subst h0
    have HO:Hid (BX [47]=some []):=if_pos rfl
    have hl:=NK [47]
    go_enter func86,ntmps86
    go_wp2_with fail
    go_ret2
    exact QX HO.out rfl (Below.refl _ _)
  · have e1:((AG X).toList == [(47:UInt8)])=false:=by rw [NK];simpa using h0
    have hp:BX X=NV X:=if_neg h0
    cases X with
    | nil=>
      have HO:=hid (show BX []=none from hp)
      have HC:=hid (fun w1=>Ny [] (fun b r h=>by cases h) w1)
      clear hp h0
      go_enter func86,ntmps86
      go_wp2_with (go_at_call 114;refine (HC.out _).mono ?_;rintro e w1 ⟨rfl,rfl⟩)
      go_ret2
      exact IE HO.out rfl (Below.refl _ _)
    | cons b r=>
      by_cases hb:b=47
      · subst hb
        have HO:=hid (show BX (47::r)=Km r from hp.trans (by simp [NV]))
        have HC:=hid (fun w1=>Rl r w1)
        have hr:r.length≤1000:=by simp at hX;omega
        have HS:=hid (fun w1=>SQ r hr w1)
        clear hp h0 hX hr
        go_enter func86,ntmps86
        go_wp2_with (first
          | (go_at_call 114;refine (HC.out _).mono ?_;rintro e w1 ⟨rfl,rfl⟩)
          | (go_at_call 115;fail))
        refine (HS.out w).mono ?_
        rintro e w1 ⟨a,c,R,rfl,o,bb,h⟩
        have h2:=VQ h
        have O:=hid o;have B:=hid bb
        have HA:=fun w2 (q:JR w2 a c R)=>Oo a c R w2 q
        clear o bb h
        rcases h2 with ⟨ha,hn⟩ | ⟨ha,hn⟩
        · rw [ha] at HA
          have HA:=hid HA;have HN:=hid hn
          clear ha hn
          go_wp2_with (go_at_call 116;refine (HA.out _ O.out.row).mono ?_;rintro e w2 ⟨rfl,b2⟩;have O2:=hid (O.out.mono b2);have B2:=hid (Ae B.out b2);clear b2)
          go_ret2
          exact QY (by rw [HO.out,HN.out]) rfl O2.out B2.out
        · rw [ha] at HA
          have HA:=hid HA;have HN:=hid hn
          clear ha hn
          go_wp2_with (go_at_call 116;refine (HA.out _ O.out.row).mono ?_;rintro e w2 ⟨rfl,b2⟩;have B2:=hid (Ae B.out b2);clear b2)
          go_ret2
          exact IE (by rw [HO.out,HN.out]) rfl B2.out
      · have HO:=hid (show BX (b::r)=none from hp.trans (by simp [NV,hb]))
        have HC:=hid (fun w1=>Ny (b::r) (fun b' r' h=>by cases h;exact hb) w1)
        clear hp h0 hb
        go_enter func86,ntmps86
        go_wp2_with (go_at_call 114;refine (HC.out _).mono ?_;rintro e w1 ⟨rfl,rfl⟩)
        go_ret2
        exact IE HO.out rfl (Below.refl _ _)
def Afm (w:World) (o:Option (List ByteArray)) (e:Ending) (w':World):Prop:=
  (∃ (L:List ByteArray) (x:ByteArray) (a:Ω) (c:Nat),o=some (L++[x])∧c=L.length∧e=.returned (.tuple #[.slice a L.length c,.string x,ν 0])∧JR w' a c L∧Below w.heap.size w w') ∨
  ((o=none∨o=some [])∧e=.returned (.tuple #[.slice none 0 0,.string ⟨#[]⟩,ν 15])∧Below w.heap.size w w')
theorem IZ {α:Type} (L:List α):L=[]∨∃ A x,L=A++[x]:=by
  rcases List.eq_nil_or_concat L with h | ⟨A,x,h⟩
  · exact .inl h
  · exact .inr ⟨A,x,by rw [h];simp⟩
theorem St (X:Λ) (hX:X.length≤1000) (w:World):Calls prog 100 #[σ X] w (Afm w (BX X)):=by
  have HP:=hid (JB X hX w)
  cases ho:BX X with
  | none=>
    rw [ho] at HP
    go_enter func100,ntmps100
    go_wp2_with (go_at_call 86;fail)
    refine (HP.out).mono ?_
    rintro e w1 ⟨a,c,rfl,o,b⟩
    have B:=hid b
    clear o b
    simp only [erO,Option.getD_none,List.length_nil]
    go_wp2_with fail
    go_ret3
    exact .inr ⟨.inl rfl,rfl,B.out⟩
  | some L=>
    rw [ho] at HP
    rcases IZ L with rfl | ⟨A,x,rfl⟩
    · go_enter func100,ntmps100
      go_wp2_with (go_at_call 86;fail)
      refine (HP.out).mono ?_
      rintro e w1 ⟨a,c,rfl,o,b⟩
      have B:=hid b
      clear o b
      simp only [erO,Option.getD_some,List.length_nil]
      go_wp2_with fail
      go_ret3
      exact .inr ⟨.inr rfl,rfl,B.out⟩
    · go_enter func100,ntmps100
      go_wp2_with (go_at_call 86;fail)
      refine (HP.out).mono ?_
      rintro e w1 ⟨a,c,rfl,o,b⟩
      have O:=hid o;have B:=hid b
      clear o b
      simp only [erO,Option.getD_some]
      simp only [Option.getD_some] at O
      have hl:(A++[x]).length=A.length+1:=by simp
      rw [hl]
      have hrow:JR w1 a c (A++[x]):=O.out.row
      obtain ⟨g,off,rfl,hg,hc⟩:=IY hrow ω
      have hlc:A.length+1≤c:=by have:=hrow.2.1;rw [hl] at this;exact this
      have hc9:c≤9223372036854775807:=by have:=hrow.2.2.1;unfold maxLen at this;exact this
      have cx:=hc A.length ω
      have hx:(A++[x])[A.length]' ω=x:=by simp
      rw [hx] at cx
      have HROW:=hid hrow
      clear hc hx hrow hl
      have i1:(A.length:Int)<(A.length:Int)+1:=ω
      have i2:(A.length:Int)≤c:=ω
      have i3:(0:Int)≤A.length:=ω
      go_wp2_with fail
      go_quiet (fail)
      go_wp2_with fail
      go_ret3
      refine .inl ⟨A,x,some ⟨g,off,none⟩,A.length,rfl,rfl,rfl,?_,FW B.out _⟩
      obtain ⟨h1,h2,h3,h4,h5⟩:=HROW.out
      refine ⟨by simp,Nat.le_refl _,by unfold maxLen;omega,(fun h=>by cases h),fun hn=>?_⟩
      obtain ⟨b',o',e',hb',hc'⟩:=h5 (by simp)
      refine ⟨b',o',e',hb',fun j u hu=>hc' j u ?_⟩
      rw [List.map_append,List.getElem?_append_left (by have:=(List.getElem?_eq_some_iff.1 hu).1;exact this)]
      exact hu
end
section
def Mb:Λ:=[67,77,78,49,0,0,0,0]
def Agx:Int:=1152921504606846976
def LU (n:Int):Λ:=if btw n 1152921504606846976 then MK (BV Mb [(n,8)]) else []
theorem La {n:Int} (h:btw n 1152921504606846976=true):(BV Mb [(n,8)]).length=16:=by
  have h':0≤n:=by unfold btw at h;simp at h;exact h.1
  simp [BV,Av,Bq,h',AE,Mb]
theorem MG (w:World) (fs:List (Int×Int)) (e:TypeId) (h:fs.length≤1000):Row (w.alloc (.cells (Cz fs).toArray e)) 2 (some ⟨w.heap.size,0,none⟩) fs.length fs.length (Cz fs):=by
  refine ⟨Jm fs,Nat.le_refl _,by unfold maxLen;omega,fun h=>by (cases h),fun _=>⟨w.heap.size,0,rfl,by simp,fun j u hu=>?_⟩⟩
  have hh:=heap_alloc_new w (.cells (Cz fs).toArray e)
  unfold World.cell?
  rw [show (⟨w.heap.size,0+j,none⟩:Addr).block=w.heap.size from rfl,hh]
  simpa using hu
theorem Qp (n:Int) (w:World) (hn:n≤9223372036854775807) :
    Calls prog 49 #[ν n] w fun e w'=>∃ a c,e=.returned (.tuple #[.slice a (LU n).length c,ν (if btw n 1152921504606846976 then 0 else 1)])∧CE w' w.heap.size a c (LU n)∧Below w.heap.size w w':=by
  by_cases hb:btw n 1152921504606846976=true
  · have hL:LU n=MK (BV Mb [(n,8)]):=by unfold LU;rw [if_pos hb]
    have hE:(if btw n 1152921504606846976 then (0:Int) else 1)=0:=if_pos hb
    have hl:=La hb
    have hl60:(BV Mb [(n,8)]).length≤60:=ω
    rw [hL,hE]
    have HB:=hid hb;have HL:=hid hl60
    clear hb hL hE hl hl60
    go_enter func49,ntmps49
    go_wp2_with fail
    refine (GZ _ _ _).mono ?_
    rintro e w1 ⟨rfl,rfl⟩
    rw [HB.out]
    go_wp2_with fail
    refine (QG ⟨#[67,77,78,49,0,0,0,0]⟩ _ _ [(n,8)] _ (by decide) (MG w [(n,8)] 153 (by simp)) (by simp) (by simp) (by simpa using hn) HL.out).mono ?_
    rintro e w2 ⟨a2,c2,rfl,o2,b2⟩
    go_wp2_with fail
    go_ret2
    exact ⟨a2,c2,rfl,o2.low (by simp),AN ((Below.refl _ w).alloc (Nat.le_refl _) _) b2 (by simp)⟩
  · have hb':btw n 1152921504606846976=false:=by simpa using hb
    have hL:LU n=[]:=by unfold LU;rw [if_neg hb]
    have hE:(if btw n 1152921504606846976 then (0:Int) else 1)=1:=if_neg hb
    rw [hL,hE]
    have HB:=hid hb'
    clear hb hL hE hb'
    go_enter func49,ntmps49
    go_wp2_with fail
    refine (GZ _ _ _).mono ?_
    rintro e w1 ⟨rfl,rfl⟩
    rw [HB.out]
    go_wp2_with fail
    go_ret2
    exact ⟨none,0,rfl,Own.nil _ _ _ _,Below.refl _ _⟩
def GX (e h r er i wr:Int):List (Int×Int):=[(e,4),(h,4),(r,8),(er,1),(i,1),(wr,8)]
def MS (e h r er i wr:Int):Λ:=if OJ e h r er i wr then MK (BV [] (GX e h r er i wr)) else []
theorem XT {e h r er i wr:Int} (hm:OJ e h r er i wr=true):0≤e∧e≤1073741824∧0≤h∧h≤1024∧0≤r∧r≤1099511627776∧0≤wr∧wr≤1099511627776∧0≤er∧er≤255∧0≤i∧i≤32:=by
  unfold OJ at hm;exact of_decide_eq_true hm
theorem Yr (e h r er i wr:Int) (w:World) :
    Calls prog 48 #[Uc e h r er i wr] w fun en w'=>∃ a c,en=.returned (.tuple #[.slice a (MS e h r er i wr).length c,ν (if OJ e h r er i wr then 0 else 1)])∧CE w' w.heap.size a c (MS e h r er i wr)∧Below w.heap.size w w':=by
  have hmay:=fun w1=>Aae e h r er i wr w1
  unfold Uc at *
  by_cases hb:OJ e h r er i wr=true
  · have hL:MS e h r er i wr=MK (BV [] (GX e h r er i wr)):=by unfold MS;rw [if_pos hb]
    have hE:(if OJ e h r er i wr then (0:Int) else 1)=0:=if_pos hb
    have hl60:(BV [] (GX e h r er i wr)).length≤60:=by
      have:=GR [] (GX e h r er i wr)
      simp [GX] at this ⊢;omega
    have h9:∀ f∈GX e h r er i wr,f.1≤9223372036854775807:=by
      have:=XT hb
      intro f hf;simp [GX] at hf
      rcases hf with rfl | rfl | rfl | rfl | rfl | rfl<;>simp<;>omega
    rw [hL,hE]
    have HB:=hid hb;have HL:=hid hl60;have H9:=hid h9;have HM:=hid hmay
    clear hb hL hE hl60 h9 hmay
    go_enter func48,ntmps48
    go_wp2_with fail
    refine (HM.out _).mono ?_
    rintro en w1 ⟨rfl,b1⟩
    rw [HB.out]
    have H0:Blk (w.alloc (.cells #[ν e,ν h,ν r,ν er,ν i,ν wr] 104)) w.heap.size 104 [ν e,ν h,ν r,ν er,ν i,ν wr]:=heap_alloc_new w _
    have H1:=Blk.mono H0 b1
    have k0:=Blk.cell H1 (i:=0) (by simp)
    have k1:=Blk.cell H1 (i:=1) (by simp)
    have k2:=Blk.cell H1 (i:=2) (by simp)
    have k3:=Blk.cell H1 (i:=3) (by simp)
    have k4:=Blk.cell H1 (i:=4) (by simp)
    have k5:=Blk.cell H1 (i:=5) (by simp)
    simp only [List.getElem_cons_zero,List.getElem_cons_succ] at k0 k1 k2 k3 k4 k5
    have B1:=hid (AN ((Below.refl _ w).alloc (Nat.le_refl _) _) b1 (by simp))
    clear H0 H1 b1 HM
    go_wp2_with fail
    refine (QG ⟨#[]⟩ _ _ (GX e h r er i wr) _ (by decide) (MG w1 (GX e h r er i wr) 153 (by simp [GX])) (by simp [GX]) (by simp [GX]) H9.out HL.out).mono ?_
    rintro en w2 ⟨a2,c2,rfl,o2,b2⟩
    go_wp2_with fail
    go_ret2
    exact ⟨a2,c2,rfl,o2.low (Nat.le_trans B1.out.size (by simp)),AN (B1.out.alloc B1.out.size _) b2 (Nat.le_trans B1.out.size (by simp))⟩
  · have hb':OJ e h r er i wr=false:=by simpa using hb
    have hL:MS e h r er i wr=[]:=by unfold MS;rw [if_neg hb]
    have hE:(if OJ e h r er i wr then (0:Int) else 1)=1:=if_neg hb
    rw [hL,hE]
    have HB:=hid hb';have HM:=hid hmay
    clear hb hL hE hb' hmay
    go_enter func48,ntmps48
    go_wp2_with fail
    refine (HM.out _).mono ?_
    rintro en w1 ⟨rfl,b1⟩
    rw [HB.out]
    go_wp2_with fail
    go_ret2
    exact ⟨none,0,rfl,Own.nil _ _ _ _,AN ((Below.refl _ w).alloc (Nat.le_refl _) _) b1 (by simp)⟩
def Agp (xs:Λ):Bool:=decide (64≤xs.length∧AK xs 60 4=some (Cf (xs.take 60)))
def chk (xs:Λ):Int:=if 64≤xs.length then (if AK xs 60 4=some (Cf (xs.take 60)) then 0 else 4) else 3
end
section
def InoT.setB (x:InoT) (k:Nat) (n:Int):InoT:=match k with
  | 0=>{ x with b0:=n }
  | 1=>{ x with b1:=n }
  | 2=>{ x with b2:=n }
  | _=>{ x with b3:=n }
theorem AF {t:List EntT} (h:t.length=16) (k:Int) (bs:Λ):(Fl t k bs).1.length=16:=by
  unfold Fl
  split
  · rename_i hk
    split
    · exact h
    · unfold YW
      split
      · rename_i es he
        have:=OR _ _ he;show (splice t (4*k.toNat) es).length=16;rw [length_splice _ _ _ ω];exact h
      · exact h
  · exact h
def BH (M:MemM) (P:List PtM) (x:InoT):Nat→List EntT×Int
  | 0=>(Bf,0)
  | k+1=>if (BH M P x k).2=0 then (if x.blk k=0 then BH M P x k else Fl (BH M P x k).1 k (BE M P 7 (x.blk k))) else BH M P x k
theorem Aj (M:MemM) (P:List PtM) (x:InoT):∀ k,(BH M P x k).1.length=16
  | 0=>Ay
  | k+1=>by
    have ih:=Aj M P x k
    unfold BH;split
    · split
      · exact ih
      · exact AF ih _ _
    · exact ih
theorem MW {M:MemM} {P:List PtM} {x:InoT} {k:Nat} (h:(BH M P x k).2≠0):∀ m,k≤m→(BH M P x m).2≠0
  | 0,hm=>by
    have:k=0:=ω
    subst this;exact h
  | m+1,hm=>by
    by_cases e:k=m+1
    · subst e;exact h
    · have ih:=MW h m (by omega)
      unfold BH;rw [if_neg ih];exact ih
def Ar (M:MemM) (P:List PtM) (i:Int):List EntT:=
  if AX M P i≠0 then Bf else if (Al M P i).k≠2 then Bf else if (BH M P (Al M P i) 4).2=0 then (BH M P (Al M P i) 4).1 else Bf
def BM (M:MemM) (P:List PtM) (i:Int):Int:=
  if AX M P i≠0 then AX M P i else if (Al M P i).k≠2 then 12 else if (BH M P (Al M P i) 4).2=0 then 0 else 36
theorem Ak (M:MemM) (P:List PtM) (i:Int):(Ar M P i).length=16:=by
  unfold Ar;split
  · exact Ay
  · split
    · exact Ay
    · split
      · exact Aj _ _ _ _
      · exact Ay
def Agn (M:MemM) (P:List PtM):Option Nat:=(List.range 32).find? fun k=>decide (AX M P ((k:Int)+1)=0)&&decide ((Al M P ((k:Int)+1)).k=0)
end
section
def Tn (x:UInt8):List Value:=[Ac x]
theorem Jn (xs:Λ) (f:Int):∀ k i:Nat,0≤De xs f k i∧De xs f k i≤(i+k:Nat)
 | 0,i=>⟨Int.le_refl 0,by show (0:Int)≤_;omega⟩
 | k+1,i=>by
  have ih:=Jn xs f k (i+1)
  unfold De;split<;>omega
theorem UO (xs:Λ):0≤Au xs 1∧Au xs 1≤128:=by have:=Jn xs 1 128 0;unfold Au;omega
theorem FZ (x:UInt8):(Tn x).length=1:=rfl
theorem AZ (xs:Λ) (h:xs.length=16):xs.length=16:=h
theorem Rz (xs:Λ):xs.flatMap Tn=xs.map Ac:=by
 induction xs with
 | nil=>rfl
 | cons x xs ih=>rw [List.flatMap_cons,ih];rfl
theorem FX {w:World} {g n:Nat} {R:List Ch} (h:Sep w (Ab g 5 ((List.replicate n (0:UInt8)).flatMap Tn)::R)) (hn:n≤maxLen:=by unfold maxLen;omega):Sep w (BC 0 5 1 (some ⟨g,0,none⟩) (List.replicate n (0:UInt8)).length n ((List.replicate n (0:UInt8)).map Ac)::R):=by
 have z:Blk w g 5 ((List.replicate n (0:UInt8)).map Ac):=by
  have z:Blk w g 5 ((List.replicate n (0:UInt8)).flatMap Tn):=h.get 0 rfl
  rw [Rz] at z;exact z
 have o:=Ph z (Nat.zero_le g) (by simpa using hn)
 rw [List.length_map,List.length_replicate] at o
 refine h.head (Turns.refl (fun _=>False) w) (fun _ _ q=>q.elim) (c':=BC 0 5 1 (some ⟨g,0,none⟩) _ n _) (by rw [List.length_replicate];exact o) fun k q=>.inl ?_
 have q:(some g:Option Nat)=some k:=q
 cases q;rfl
def bN (M:MemM) (P:List PtM) (s:Int):Int:=if Dn M P s then 0 else if Ut M P=0 then Pg M P else 0
def bE (M:MemM) (P:List PtM) (s:Int):Int:=if Dn M P s then 18 else Ut M P
def bP (M:MemM) (P:List PtM) (s:Int):List PtM:=if Dn M P s then P else Adz M P
theorem Zp (xs:Λ):(Ee xs 128).length≤128:=by
 unfold Ee;exact Nat.le_trans (List.length_filter_le _ _) (by rw [List.length_range];exact Nat.le_refl _)
theorem Ki:(prog.info? 111).map (·.size)=some 32:=κ
theorem Gf {k:TypeDesc} (hu:prog.underlying 111=some k) {w:World} {g:Nat} {e:TypeId} {t:List EntT} (h:Blk w g e (Aq t)) (hl:t.length=16) (hk:k.isRow=true:=by rfl):(Instr.loadAt 111 (π g)).run prog w=.ok (.agg (Aq t).toArray) w:=
 ldA hu hk Ki h (by rw [List.drop_zero,List.take_of_length_le (by rw [BL,hl];exact Nat.le_refl _)]) (by rw [BL,hl])
theorem Gq {Q:Exit→Act→World→Prop} {Kk:Act→World→Prop} {o:Oper} {a:Act} {w:World} {N:Nat} {l:List (Nat×Value)} {cs cs':List Ch} (h:Kn N l a) (hd:o.dst=none) {x y:Operand} (ho:o.op=.store 111 x y) (hS:Sep w cs) (i:Nat) {g:Nat} {e:TypeId} {xs ys:List EntT} (hi:cs[i]? = some (Ab g e (Aq xs))) (h0:xs.length=16) (h1:ys.length=16) (hx:opv l x=some (π g)) (hy:opv l y=some (.agg (Aq ys).toArray))
  (hcs:cs.set i (Ab g e (Aq ys))=cs') (k:∀ a' w',Kn N l a'→Sep w' cs'→Turns (fun k=>k=g) w w'→Kk a' w'):Oper.wp prog o a w Kk Q:=
 Id h hd ho hS i hi hx hy (Aq ys) rfl (by rw [BL,h1];exact Ki) (by rw [List.all_eq_true];exact QL ys) (by rw [BL,BL,h0,h1];exact Nat.le_refl _) (L':=Aq ys) (by
  unfold splice;rw [List.take_zero,List.nil_append,List.drop_of_length_le (by rw [BL,BL,h0,h1];exact Nat.le_refl _),List.append_nil]) hcs k
theorem JE {fn:Func} {N:Nat} {l:List (Nat×Value)} {a:Act} {w:World} (hK:Kn N l a) {c u:Nat} (h:fn.results=#[.cell c 111,.tmp u]) {g:Nat} {e:TypeId} {t:List EntT} {k:TypeDesc} {v:Value} (hc:opv l (.tmp c)=some (π g)) (hv:opv l (.tmp u)=some v) (hb:Blk w g e (Aq t)) (hu:prog.underlying 111=some k) (hl:t.length=16) (hk:k.isRow=true:=by rfl):(results fn a.tmps).run prog w=.ok (.tuple #[.agg (Aq t).toArray,v]) w:=
 Abt hK h hc hv hb hu hk (by rw [BL,hl];exact Ki)
theorem Zv {w:World} {R:List Ch} {mx:Nat} {K:VolK} {ta:Ω} {tc:Nat} {M:MemM} {P:List PtM} {spare:Int} (hS0:Sep w ([Ab mx 99 [π K.tg],txP K ta tc M P]++R)) (hM:M.V.length=23168) (hs:-9223372036854775808≤spare∧spare≤9223372036854775807) :
  CallsR prog 13 #[π mx,ν spare] w (fun v w'=>∃ ta' tc',v=.tuple #[ν (bN M P spare),ν (bE M P spare)]∧Sep w' ([Ab mx 99 [π K.tg],txP K ta' tc' M (bP M P spare)]++R)):=by
 have hS:Sep w [Ab mx 99 [π K.tg],txP K ta tc M P,Ch.many R]:=Sep.tail_many (xs:=[_,_]) hS0;clear hS0
 have hal:=Zp (As M P)
 have hfx:=UO (As M P)
 refine AQ func13 rfl (N:=34) ntmps13 (by show 2≤34;decide) [(0,π mx),(1,ν spare)] rfl fun _ h1=>sqr fun _ hK3=>mvs 2 h1 rfl fun _ h6=>wpList_nil<|hK3 _ _<|sqr fun _ hK8=>mv h6 rfl fun _ h9=>cl h9 rfl (cF func11) (TK hS hM) fun _ v1 w2 r1 h2=>?_
 obtain ⟨rfl,s1⟩:=r1
 refine so (wn rfl) fun _ hK1=>AB h2 rfl rfl rfl rfl (z:=(AD).map Ac) (fun _=>rfl) s1 fun _ g1 w3 h3 s2 _ _=>hK1 _ _ ?_
 refine so (wn rfl) fun _ hK2=>QH h3 rfl rfl s2 0 rfl (AZ _ (by first | rfl | simp only [Am,AA,As,An])) (AZ _ (by first | rfl | simp only [Am,AA,As,An])) rfl rfl (cs':=[Ab g1 27 (((As M P)).map Ac),Ab mx 99 [π K.tg],txP K ta tc M P,Ch.many R]) rfl fun _ w4 h4 s3 _=>hK2 _ _ ?_
 refine h4.sn [6,5,4,0,1] rfl fun h5=>hK8 _ _<|sq fun _ hK4=>sqr fun _ hK5=>sw1 h5 rfl (rld h5 rfl rfl (Dp υ27 (s3.get 0 rfl:Blk _ _ _ _) (AZ _ (by first | rfl | simp only [Am,AA,As,An])))) fun _ h7=>cl h7 rfl (cF func14) (Bh s3 (UB (As M P) _ (AZ _ (by first | rfl | simp only [Am,AA,As,An])))) fun _ v2 w5 r2 h8=>?_
 obtain ⟨rfl,s4⟩:=r2
 refine bv h8 (z:=ν (128-((Ee (As M P) 128).length:Int))) rfl (Pf _ _ _ ω ω ω) fun _ h10=>mv h10 rfl fun _ h11=>sv1 h11 rfl (Ae2 h11 rfl rfl rfl ω) fun _ h12=>bv h12 (z:=.bool (decide (128-((Ee (As M P) 128).length:Int)≤max spare 0))) rfl (cLe _ _ _ _ rfl) fun _ h13=>h13.sn [16,6,5,4,0,1] rfl fun h14=>hK5 _ _ ?_
 rcases bC (decide (128-((Ee (As M P) 128).length:Int)≤max spare 0)) with hc1 | hc1
 ·skip
  have hp1:128-((Ee (As M P) 128).length:Int)≤max spare 0:=(dT hc1)
  refine wcT h14 rfl hc1<|h14.sk [6,5,4,0,1] rfl fun h15=>sqr fun _ hK6=>h15.sk [6,5,0,1] rfl fun h16=>mv h16 rfl fun _ h17=>h17.sk [4,6,0,1] rfl fun h18=>mv h18 rfl fun _ h19=>wpList_nil<|hK6 _ _<|wp_ret ?_
  try simp only [Exit.then,Exit.inBlock]
  refine Bg (v:=.tuple #[ν 0,ν 18]) (GI h19 rfl rfl rfl) h19.defs ?_
  exact ⟨ta,tc,by unfold bN bE;rw [if_pos (show Dn M P spare from hp1),if_pos (show Dn M P spare from hp1)],by unfold bP;rw [if_pos (show Dn M P spare from hp1)];exact Sep.tail_un (xs:=[_,_]) (s4.pk [1,2,3] rfl)⟩
 ·skip
  have hp2:¬ (128-((Ee (As M P) 128).length:Int)≤max spare 0):=(dF hc1)
  refine wcF h14 rfl hc1<|h14.sk [6,5,4,0,1] rfl fun h20=>wp_skip<|hK4 _ _<|sqr fun _ hK7=>sw1 h20 rfl (rld h20 rfl rfl (Dp υ27 (s4.get 0 rfl:Blk _ _ _ _) (AZ _ (by first | rfl | simp only [Am,AA,As,An])))) fun _ h21=>cl h21 rfl (cF func15) (Bh s4 (UP (As M P) 1 _ (AZ _ (by first | rfl | simp only [Am,AA,As,An])) ω)) fun _ v3 w6 r3 h22=>?_
  obtain ⟨rfl,s5⟩:=r3
  refine mv h22 rfl fun _ h23=>h23.sn [7,6,5,4,0,1] rfl fun h24=>hK7 _ _<|sq fun K1 hK9=>?_
  have hJ79:∀ (ta9:Ω) (tc9:Nat) a' w',Kn 34 [(7,ν (Au (As M P) 1)),(6,π g1),(5,ν 0),(4,ν 0),(0,π mx),(1,ν spare),(8,ν (AH [stE M P 3 0 16,stE M (stP M P 3 0 (Bm (As M P) (Au (As M P) 1))) 7 (Au (As M P) 1) (List.replicate 64 (0:UInt8)).length]))] a'→Sep w' [Ab g1 27 (((As M P)).map Ac),Ab mx 99 [π K.tg],txP K ta9 tc9 M (stP M (stP M P 3 0 (Bm (As M P) (Au (As M P) 1))) 7 (Au (As M P) 1) (List.replicate 64 (0:UInt8))),Ch.many R]→K1 a' w':=by
   intro ta9 tc9 a1 w7 h25 s6
   refine hK9 _ _ ?_
   refine sq fun _ hK10=>sqr fun _ hK11=>mv h25 rfl fun _ h26=>bv h26 (z:=.bool (decide (AH [stE M P 3 0 16,stE M (stP M P 3 0 (Bm (As M P) (Au (As M P) 1))) 7 (Au (As M P) 1) (List.replicate 64 (0:UInt8)).length]≠0))) rfl (cNe _ _ _ _ rfl) fun _ h27=>h27.sn [31,7,6,5,4,0,1,8] rfl fun h28=>hK11 _ _ ?_
   rcases bC (decide (AH [stE M P 3 0 16,stE M (stP M P 3 0 (Bm (As M P) (Au (As M P) 1))) 7 (Au (As M P) 1) (List.replicate 64 (0:UInt8)).length]≠0)) with hc2 | hc2
   ·skip
    have hp3:AH [stE M P 3 0 16,stE M (stP M P 3 0 (Bm (As M P) (Au (As M P) 1))) 7 (Au (As M P) 1) (List.replicate 64 (0:UInt8)).length]≠0:=(dT hc2)
    refine wcT h28 rfl hc2<|h28.sk [7,6,5,4,0,1,8] rfl fun h29=>sqr fun _ hK12=>mv h29 rfl fun _ h30=>h30.sk [32,7,6,5,0,1,8] rfl fun h31=>mv h31 rfl fun _ h32=>h32.sk [4,32,7,6,0,1,8] rfl fun h33=>mv h33 rfl fun _ h34=>h34.sn [5,4,7,6,0,1,8] rfl fun h35=>hK12 _ _ ?_
    refine wp_ret ?_
    try simp only [Exit.then,Exit.inBlock]
    refine Bg (v:=.tuple #[ν 0,ν (AH [stE M P 3 0 16,stE M (stP M P 3 0 (Bm (As M P) (Au (As M P) 1))) 7 (Au (As M P) 1) (List.replicate 64 (0:UInt8)).length])]) (GI h35 rfl rfl rfl) h35.defs ?_
    try simp only [List.length_replicate] at hp3
    exact ⟨ta9,tc9,by unfold bN bE;rw [if_neg (show ¬ Dn M P spare from hp2),if_neg (show ¬ Dn M P spare from hp2)];unfold Ut Nu Pg;(try simp only [List.length_replicate]);rw [if_neg hp3];(try rfl),by unfold bP;rw [if_neg (show ¬ Dn M P spare from hp2)];exact Sep.tail_un (xs:=[_,_]) (s6.pk [1,2,3] rfl)⟩
   ·skip
    have hp4:¬ (AH [stE M P 3 0 16,stE M (stP M P 3 0 (Bm (As M P) (Au (As M P) 1))) 7 (Au (As M P) 1) (List.replicate 64 (0:UInt8)).length]≠0):=(dF hc2)
    refine wcF h28 rfl hc2<|h28.sk [7,6,5,4,0,1,8] rfl fun h36=>wp_skip<|hK10 _ _<|sqr fun _ hK13=>mv h36 rfl fun _ h37=>h37.sk [33,7,6,5,0,1,8] rfl fun h38=>mv h38 rfl fun _ h39=>h39.sk [4,33,7,6,0,1,8] rfl fun h40=>mv h40 rfl fun _ h41=>h41.sk [5,4,7,6,0,1,8] rfl fun h42=>?_
    refine wpList_nil<|hK13 _ _<|wp_ret ?_
    try simp only [Exit.then,Exit.inBlock]
    refine Bg (v:=.tuple #[ν (Au (As M P) 1),ν 0]) (GI h42 rfl rfl rfl) h42.defs ?_
    try simp only [List.length_replicate] at hp4
    exact ⟨ta9,tc9,by unfold bN bE;rw [if_neg (show ¬ Dn M P spare from hp2),if_neg (show ¬ Dn M P spare from hp2)];unfold Ut Nu Pg;(try simp only [List.length_replicate]);rw [if_pos (Classical.not_not.1 hp4),Classical.not_not.1 hp4],by unfold bP;rw [if_neg (show ¬ Dn M P spare from hp2)];exact Sep.tail_un (xs:=[_,_]) (s6.pk [1,2,3] rfl)⟩
  have s7:=s5.drew
  refine wp_region_held_drew (S:=fun w'=>Sep w' [Ab g1 27 (((As M P)).map Ac),Ab mx 99 [π K.tg],Ch.many R]) κ (s7.pk [0,1,3] rfl) (fun hq1=>?_)
  refine tv1 hq1 h24 0 rfl rfl (fun w1 _=>(Ad h24 rfl rfl) w1) fun _ h43=>?_
  refine tv1 hq1 h43 1 rfl rfl (fun w1 hSw=>(rld h43 rfl rfl (Dp υ27 (hSw.get 0 rfl:Blk _ _ _ _) (AZ _ (by first | rfl | simp only [Am,AA,As,An]))))) fun _ h44=>?_
  refine tv1 hq1 h44 2 rfl rfl (fun w1 _=>(Ad h44 rfl rfl) w1) fun _ h45=>?_
  refine tv1 hq1 h45 5 rfl rfl (fun w1 _=>(Ad h45 rfl rfl) w1) fun _ h46=>?_
  refine tv1 hq1 h46 6 rfl rfl (fun w1 _=>(Ad h46 rfl rfl) w1) fun _ h47=>?_
  refine wpAnyH_ready (rs:=[3,7]) κ (by simp) (toc rfl (wn rfl) (fun K2 hK14=>?_) (toc rfl (wn rfl) (fun K2 hK14=>?_) AllReadyH.nil))
  ·skip
   refine AJ h47 rfl rfl rfl (xs:=[.tmp 20,.tmp 21]) rfl (cF func16) rfl (vs:=[.agg (Af (As M P)),ν (Au (As M P) 1)]) rfl (args:=#[.agg (Af (As M P)),ν (Au (As M P) 1)]) rfl (Bh s7 (QQ (As M P) (Au (As M P) 1) _ (AZ _ (by first | rfl | simp only [Am,AA,As,An])) ω)) fun _ v4 w8 r4 h48=>?_
   obtain ⟨rfl,s8⟩:=r4
   refine hK14 _ _ (s8.pk [0,1,3] rfl) fun hq2=>?_
   refine wpAnyH_ready (rs:=[4,7]) κ (by simp) (toc rfl (wn rfl) (fun K3 hK15=>?_) (toc rfl (wn rfl) (fun K3 hK15=>?_) AllReadyH.nil))
   ·skip
    refine AJ h48 rfl rfl rfl (xs:=[.tmp 19,.tmp 22]) rfl (cF func10) rfl (vs:=[π mx,.agg (Af (Bm (As M P) (Au (As M P) 1)))]) rfl (args:=#[π mx,.agg (Af (Bm (As M P) (Au (As M P) 1)))]) rfl (Fr (xs:=(Bm (As M P) (Au (As M P) 1))) (s8.pk [1,2,0,3] rfl) hM (AZ _ (by first | rfl | simp only [Am,AA,As,An]))) fun _ v5 w9 r5 h49=>?_
    obtain ⟨tax138,tcx139,rfl,s9⟩:=r5
    refine hK15 _ _ (s9.pk [2,0,3] rfl) fun hq3=>?_
    refine to_ 7 rfl (wn rfl) κ fun _ hK16=>Ng FZ (by decide) h49 rfl rfl rfl rfl υ52 (z:=.int .u8 0) (n:=64) κ (m:=(0:UInt8)) rfl rfl rfl (by decide) s9 fun _ g2 w10 h50 s10 _ _=>?_
    refine hK16 _ _ (s10.pk [3,1,4] rfl) fun hq4=>?_
    have s11:Sep _ [BC 0 5 1 (some ⟨g2,0,none⟩) ((List.replicate 64 (0:UInt8))).length 64 (((List.replicate 64 (0:UInt8))).map Ac),Ab mx 99 [π K.tg],txP K tax138 tcx139 M (stP M P 3 0 (Bm (As M P) (Au (As M P) 1))),Ab g1 27 (((As M P)).map Ac),Ch.many R]:=FX s10
    refine to_ 8 rfl (wn rfl) κ fun _ hK17=>AJ h50 rfl rfl rfl (xs:=[.tmp 24,.const (ν 7),.tmp 25,.tmp 26]) rfl (cF func30) rfl (vs:=[π mx,ν 7,ν (Au (As M P) 1),.slice (some ⟨g2,0,none⟩) 64 64]) rfl (args:=#[π mx,ν 7,ν (Au (As M P) 1),.slice (some ⟨g2,0,none⟩) 64 64]) rfl (CX (kd:=7) (nm:=Au (As M P) 1) (xs:=(List.replicate 64 (0:UInt8))) s11 hM (by simp)) fun _ v6 w11 r6 h51=>?_
    obtain ⟨tax157,tcx158,rfl,s12⟩:=r6
    refine hK17 _ _ (s12.pk [3,1,4] rfl) fun hq5=>?_
    refine to_ 9 rfl (wn rfl) κ fun _ hK18=>CH h51 rfl rfl rfl (E:=31) (xs:=[(0,.tmp 23),(1,.tmp 27)]) rfl (vs:=[(0,ν (stE M P 3 0 16)),(1,ν (stE M (stP M P 3 0 (Bm (As M P) (Au (As M P) 1))) 7 (Au (As M P) 1) (List.replicate 64 (0:UInt8)).length))]) rfl (z:=[ν (stE M P 3 0 16),ν (stE M (stP M P 3 0 (Bm (As M P) (Au (As M P) 1))) 7 (Au (As M P) 1) (List.replicate 64 (0:UInt8)).length)]) (fun _=>κ) s12 fun _ g3 w12 h52 s13 _ _=>?_
    refine hK18 _ _ (s13.pk [4,2,5] rfl) fun hq6=>?_
    refine to_ 10 rfl (wn rfl) κ fun _ hK19=>AJ h52 rfl rfl rfl (xs:=[.tmp 28]) rfl (cF func38) rfl (vs:=[.slice (some ⟨g3,0,none⟩) 2 2]) rfl (args:=#[.slice (some ⟨g3,0,none⟩) 2 2]) rfl (CP (L:=[stE M P 3 0 16,stE M (stP M P 3 0 (Bm (As M P) (Au (As M P) 1))) 7 (Au (As M P) 1) (List.replicate 64 (0:UInt8)).length]) s13 (Nat.le_of_ble_eq_true rfl)) fun _ v7 w13 r7 h53=>?_
    obtain ⟨rfl,s14⟩:=r7
    refine hK19 _ _ (s14.pk [4,2,5] rfl) fun hq7=>?_
    refine tv1 hq7 h53 11 rfl rfl (fun w1 _=>(AP h53 rfl rfl) w1) fun _ h54=>?_
    refine h54.sk [8,7,6,5,4,0,1] rfl fun h55=>?_
    refine wpAnyH_done κ ?_ _
    exact hJ79 tax157 tcx158 _ _ (h55.subs rfl) (s14.pk [4,2,3,5] rfl) 
   ·skip
    refine Ng FZ (by decide) h48 rfl rfl rfl rfl υ52 (z:=.int .u8 0) (n:=64) κ (m:=(0:UInt8)) rfl rfl rfl (by decide) s8 fun _ g4 w14 h56 s15 _ _=>hK15 _ _ (s15.pk [1,2,4] rfl) fun hq8=>?_
    refine to_ 4 rfl (wn rfl) κ fun _ hK20=>AJ h56 rfl rfl rfl (xs:=[.tmp 19,.tmp 22]) rfl (cF func10) rfl (vs:=[π mx,.agg (Af (Bm (As M P) (Au (As M P) 1)))]) rfl (args:=#[π mx,.agg (Af (Bm (As M P) (Au (As M P) 1)))]) rfl (Fr (xs:=(Bm (As M P) (Au (As M P) 1))) (s15.pk [2,3,0,1,4] rfl) hM (AZ _ (by first | rfl | simp only [Am,AA,As,An]))) fun _ v8 w15 r8 h57=>?_
    obtain ⟨tax195,tcx196,rfl,s16⟩:=r8
    refine hK20 _ _ (s16.pk [3,0,4] rfl) fun hq9=>?_
    have s17:Sep _ [BC 0 5 1 (some ⟨g4,0,none⟩) ((List.replicate 64 (0:UInt8))).length 64 (((List.replicate 64 (0:UInt8))).map Ac),Ab mx 99 [π K.tg],txP K tax195 tcx196 M (stP M P 3 0 (Bm (As M P) (Au (As M P) 1))),Ab g1 27 (((As M P)).map Ac),Ch.many R]:=FX (s16.pk [2,0,1,3,4] rfl)
    refine to_ 8 rfl (wn rfl) κ fun _ hK21=>AJ h57 rfl rfl rfl (xs:=[.tmp 24,.const (ν 7),.tmp 25,.tmp 26]) rfl (cF func30) rfl (vs:=[π mx,ν 7,ν (Au (As M P) 1),.slice (some ⟨g4,0,none⟩) 64 64]) rfl (args:=#[π mx,ν 7,ν (Au (As M P) 1),.slice (some ⟨g4,0,none⟩) 64 64]) rfl (CX (kd:=7) (nm:=Au (As M P) 1) (xs:=(List.replicate 64 (0:UInt8))) s17 hM (by simp)) fun _ v9 w16 r9 h58=>?_
    obtain ⟨tax206,tcx207,rfl,s18⟩:=r9
    refine hK21 _ _ (s18.pk [3,1,4] rfl) fun hq10=>?_
    refine to_ 9 rfl (wn rfl) κ fun _ hK22=>CH h58 rfl rfl rfl (E:=31) (xs:=[(0,.tmp 23),(1,.tmp 27)]) rfl (vs:=[(0,ν (stE M P 3 0 16)),(1,ν (stE M (stP M P 3 0 (Bm (As M P) (Au (As M P) 1))) 7 (Au (As M P) 1) (List.replicate 64 (0:UInt8)).length))]) rfl (z:=[ν (stE M P 3 0 16),ν (stE M (stP M P 3 0 (Bm (As M P) (Au (As M P) 1))) 7 (Au (As M P) 1) (List.replicate 64 (0:UInt8)).length)]) (fun _=>κ) s18 fun _ g5 w17 h59 s19 _ _=>?_
    refine hK22 _ _ (s19.pk [4,2,5] rfl) fun hq11=>?_
    refine to_ 10 rfl (wn rfl) κ fun _ hK23=>AJ h59 rfl rfl rfl (xs:=[.tmp 28]) rfl (cF func38) rfl (vs:=[.slice (some ⟨g5,0,none⟩) 2 2]) rfl (args:=#[.slice (some ⟨g5,0,none⟩) 2 2]) rfl (CP (L:=[stE M P 3 0 16,stE M (stP M P 3 0 (Bm (As M P) (Au (As M P) 1))) 7 (Au (As M P) 1) (List.replicate 64 (0:UInt8)).length]) s19 (Nat.le_of_ble_eq_true rfl)) fun _ v10 w18 r10 h60=>?_
    obtain ⟨rfl,s20⟩:=r10
    refine hK23 _ _ (s20.pk [4,2,5] rfl) fun hq12=>?_
    refine tv1 hq12 h60 11 rfl rfl (fun w1 _=>(AP h60 rfl rfl) w1) fun _ h61=>?_
    refine h61.sk [8,7,6,5,4,0,1] rfl fun h62=>?_
    refine wpAnyH_done κ ?_ _
    exact hJ79 tax206 tcx207 _ _ (h62.subs rfl) (s20.pk [4,2,3,5] rfl) 
  ·skip
   refine Ng FZ (by decide) h47 rfl rfl rfl rfl υ52 (z:=.int .u8 0) (n:=64) κ (m:=(0:UInt8)) rfl rfl rfl (by decide) s7 fun _ g6 w19 h63 s21 _ _=>hK14 _ _ (s21.pk [1,2,4] rfl) fun hq13=>?_
   refine to_ 3 rfl (wn rfl) κ fun _ hK24=>AJ h63 rfl rfl rfl (xs:=[.tmp 20,.tmp 21]) rfl (cF func16) rfl (vs:=[.agg (Af (As M P)),ν (Au (As M P) 1)]) rfl (args:=#[.agg (Af (As M P)),ν (Au (As M P) 1)]) rfl (Bh s21 (QQ (As M P) (Au (As M P) 1) _ (AZ _ (by first | rfl | simp only [Am,AA,As,An])) ω)) fun _ v11 w20 r11 h64=>?_
   obtain ⟨rfl,s22⟩:=r11
   refine hK24 _ _ (s22.pk [1,2,4] rfl) fun hq14=>?_
   refine to_ 4 rfl (wn rfl) κ fun _ hK25=>AJ h64 rfl rfl rfl (xs:=[.tmp 19,.tmp 22]) rfl (cF func10) rfl (vs:=[π mx,.agg (Af (Bm (As M P) (Au (As M P) 1)))]) rfl (args:=#[π mx,.agg (Af (Bm (As M P) (Au (As M P) 1)))]) rfl (Fr (xs:=(Bm (As M P) (Au (As M P) 1))) (s22.pk [2,3,0,1,4] rfl) hM (AZ _ (by first | rfl | simp only [Am,AA,As,An]))) fun _ v12 w21 r12 h65=>?_
   obtain ⟨tax252,tcx253,rfl,s23⟩:=r12
   refine hK25 _ _ (s23.pk [3,0,4] rfl) fun hq15=>?_
   have s24:Sep _ [BC 0 5 1 (some ⟨g6,0,none⟩) ((List.replicate 64 (0:UInt8))).length 64 (((List.replicate 64 (0:UInt8))).map Ac),Ab mx 99 [π K.tg],txP K tax252 tcx253 M (stP M P 3 0 (Bm (As M P) (Au (As M P) 1))),Ab g1 27 (((As M P)).map Ac),Ch.many R]:=FX (s23.pk [2,0,1,3,4] rfl)
   refine to_ 8 rfl (wn rfl) κ fun _ hK26=>AJ h65 rfl rfl rfl (xs:=[.tmp 24,.const (ν 7),.tmp 25,.tmp 26]) rfl (cF func30) rfl (vs:=[π mx,ν 7,ν (Au (As M P) 1),.slice (some ⟨g6,0,none⟩) 64 64]) rfl (args:=#[π mx,ν 7,ν (Au (As M P) 1),.slice (some ⟨g6,0,none⟩) 64 64]) rfl (CX (kd:=7) (nm:=Au (As M P) 1) (xs:=(List.replicate 64 (0:UInt8))) s24 hM (by simp)) fun _ v13 w22 r13 h66=>?_
   obtain ⟨tax263,tcx264,rfl,s25⟩:=r13
   refine hK26 _ _ (s25.pk [3,1,4] rfl) fun hq16=>?_
   refine to_ 9 rfl (wn rfl) κ fun _ hK27=>CH h66 rfl rfl rfl (E:=31) (xs:=[(0,.tmp 23),(1,.tmp 27)]) rfl (vs:=[(0,ν (stE M P 3 0 16)),(1,ν (stE M (stP M P 3 0 (Bm (As M P) (Au (As M P) 1))) 7 (Au (As M P) 1) (List.replicate 64 (0:UInt8)).length))]) rfl (z:=[ν (stE M P 3 0 16),ν (stE M (stP M P 3 0 (Bm (As M P) (Au (As M P) 1))) 7 (Au (As M P) 1) (List.replicate 64 (0:UInt8)).length)]) (fun _=>κ) s25 fun _ g7 w23 h67 s26 _ _=>?_
   refine hK27 _ _ (s26.pk [4,2,5] rfl) fun hq17=>?_
   refine to_ 10 rfl (wn rfl) κ fun _ hK28=>AJ h67 rfl rfl rfl (xs:=[.tmp 28]) rfl (cF func38) rfl (vs:=[.slice (some ⟨g7,0,none⟩) 2 2]) rfl (args:=#[.slice (some ⟨g7,0,none⟩) 2 2]) rfl (CP (L:=[stE M P 3 0 16,stE M (stP M P 3 0 (Bm (As M P) (Au (As M P) 1))) 7 (Au (As M P) 1) (List.replicate 64 (0:UInt8)).length]) s26 (Nat.le_of_ble_eq_true rfl)) fun _ v14 w24 r14 h68=>?_
   obtain ⟨rfl,s27⟩:=r14
   refine hK28 _ _ (s27.pk [4,2,5] rfl) fun hq18=>?_
   refine tv1 hq18 h68 11 rfl rfl (fun w1 _=>(AP h68 rfl rfl) w1) fun _ h69=>?_
   refine h69.sk [8,7,6,5,4,0,1] rfl fun h70=>?_
   refine wpAnyH_done κ ?_ _
   exact hJ79 tax263 tcx264 _ _ (h70.subs rfl) (s27.pk [4,2,3,5] rfl) 
theorem Uf {w:World} {R:List Ch} {mx:Nat} {K:VolK} {ta:Ω} {tc:Nat} {M:MemM} {P:List PtM} {i:Int} (hS0:Sep w ([Ab mx 99 [π K.tg],txP K ta tc M P]++R)) (hM:M.V.length=23168)  :
  CallsR prog 54 #[π mx,ν i] w (fun v w'=>v=.tuple #[.agg (Aq (Ar M P i)).toArray,ν (BM M P i)]∧Sep w' ([Ab mx 99 [π K.tg],txP K ta tc M P]++R)):=by
 have hS:Sep w [Ab mx 99 [π K.tg],txP K ta tc M P,Ch.many R]:=Sep.tail_many (xs:=[_,_]) hS0;clear hS0
 refine AQ func54 rfl (N:=53) ntmps54 (by show 2≤53;decide) [(0,π mx),(1,ν i)] rfl fun _ h1=>sqr fun _ hK3=>so (wn rfl) fun _ hK1=>AB h1 rfl rfl rfl rfl (z:=Aq Bf) (fun _=>rfl) hS fun _ g4 w7 h5 s8 _ _=>hK1 _ _ ?_
 refine mv h5 rfl fun _ h2=>wpList_nil<|hK3 _ _<|sqr fun _ hK2=>mvs 2 h2 rfl fun _ h3=>cl h3 rfl (cF func8) (FC (i:=i) (s8.pk [1,2,0,3] rfl) hM) fun _ v1 w1 r1 h4=>?_
 obtain ⟨rfl,s1⟩:=r1
 refine mvs 3 h4 rfl fun _ h6=>so (wn rfl) fun _ hK4=>AB h6 rfl rfl rfl rfl (z:=[ν 0,ν 0,ν 0,ν 0,ν 0,ν 0,ν 0,ν 0,ν 0,ν 0,ν 0,ν 0,ν 0,ν 0,ν 0]) (fun _=>rfl) s1 fun _ g1 w2 h7 s2 _ _=>hK4 _ _ ?_
 refine stA h7 s2 0 rfl rfl rfl κ rfl rfl rfl rfl fun _ w3 h8 s3 _=>mv h8 rfl fun _ h9=>h9.sn [7,6,5,4,0,1] rfl fun h10=>hK2 _ _<|sq fun _ hK5=>sqr fun _ hK6=>mv h10 rfl fun _ h11=>bv h11 (z:=.bool (decide (AX M P i≠0))) rfl (cNe _ _ _ _ rfl) fun _ h12=>h12.sn [20,7,6,5,4,0,1] rfl fun h13=>hK6 _ _ ?_
 rcases bC (decide (AX M P i≠0)) with hc1 | hc1
 ·skip
  have hp1:AX M P i≠0:=(dT hc1)
  refine wcT h13 rfl hc1<|h13.sk [7,6,5,4,0,1] rfl fun h14=>sqr fun _ hK7=>bu h14 (v:=.agg ((Aq Bf).toArray)) rfl (fun w=>κ) fun _ h15=>mv h15 rfl fun _ h16=>so (wn rfl) fun _ hK8=>Gq h16 rfl rfl s3 3 rfl (by first | exact Ay | exact Aj _ _ _ _ | exact AF (Aj _ _ _ _) _ _ | exact Ak _ _ _ | (rw [AC];exact Ak _ _ _) | assumption) (by first | exact Ay | exact Aj _ _ _ _ | exact AF (Aj _ _ _ _) _ _ | exact Ak _ _ _ | (rw [AC];exact Ak _ _ _) | assumption) rfl rfl (cs':=[Ab g1 25 (Ah (Al M P i)),Ab mx 99 [π K.tg],txP K ta tc M P,Ab g4 111 (Aq Bf),Ch.many R]) rfl fun _ w4 h17 s4 _=>hK8 _ _ ?_
  refine h17.sk [22,21,7,6,4,0,1] rfl fun h18=>mv h18 rfl fun _ h19=>h19.sn [5,7,6,4,0,1] rfl fun h20=>hK7 _ _<|wp_ret ?_
  try simp only [Exit.then,Exit.inBlock]
  refine GV (v:=.tuple #[.agg ((Aq Bf).toArray),ν (AX M P i)]) (JE h20 rfl rfl rfl (s4.get 3 rfl:Blk _ _ _ _) υ111 (by first | exact Ay | exact Aj _ _ _ _ | exact AF (Aj _ _ _ _) _ _ | exact Ak _ _ _ | (rw [AC];exact Ak _ _ _) | assumption)) h20.defs ?_
  exact ⟨by unfold Ar BM;rw [if_pos hp1,if_pos hp1],Sep.tail_un (xs:=[_,_]) (s4.pk [1,2,4] rfl)⟩
 ·skip
  have hp2:¬ (AX M P i≠0):=(dF hc1)
  refine wcF h13 rfl hc1<|h13.sk [7,6,5,4,0,1] rfl fun h21=>wp_skip<|hK5 _ _<|sq fun _ hK9=>sqr fun _ hK10=>fav h21 rfl (fQ 0) fun _ h22=>ldv h22 s3 0 υ3 rfl rfl rfl rfl fun _ h23=>bv h23 (z:=.bool (decide ((Al M P i).k≠2))) rfl (cNe _ _ _ _ rfl) fun _ h24=>h24.sn [25,7,6,5,4,0,1] rfl fun h25=>hK10 _ _ ?_
  rcases bC (decide ((Al M P i).k≠2)) with hc2 | hc2
  ·skip
   have hp3:(Al M P i).k≠2:=(dT hc2)
   refine wcT h25 rfl hc2<|h25.sk [7,6,5,4,0,1] rfl fun h26=>sqr fun _ hK11=>bu h26 (v:=.agg ((Aq Bf).toArray)) rfl (fun w=>κ) fun _ h27=>so (wn rfl) fun _ hK12=>Gq h27 rfl rfl s3 3 rfl (by first | exact Ay | exact Aj _ _ _ _ | exact AF (Aj _ _ _ _) _ _ | exact Ak _ _ _ | (rw [AC];exact Ak _ _ _) | assumption) (by first | exact Ay | exact Aj _ _ _ _ | exact AF (Aj _ _ _ _) _ _ | exact Ak _ _ _ | (rw [AC];exact Ak _ _ _) | assumption) rfl rfl (cs':=[Ab g1 25 (Ah (Al M P i)),Ab mx 99 [π K.tg],txP K ta tc M P,Ab g4 111 (Aq Bf),Ch.many R]) rfl fun _ w5 h28 s5 _=>hK12 _ _ ?_
   refine h28.sk [26,7,6,4,0,1] rfl fun h29=>mv h29 rfl fun _ h30=>h30.sn [5,7,6,4,0,1] rfl fun h31=>hK11 _ _<|wp_ret ?_
   try simp only [Exit.then,Exit.inBlock]
   refine GV (v:=.tuple #[.agg ((Aq Bf).toArray),ν 12]) (JE h31 rfl rfl rfl (s5.get 3 rfl:Blk _ _ _ _) υ111 (by first | exact Ay | exact Aj _ _ _ _ | exact AF (Aj _ _ _ _) _ _ | exact Ak _ _ _ | (rw [AC];exact Ak _ _ _) | assumption)) h31.defs ?_
   exact ⟨by unfold Ar BM;rw [if_neg hp2,if_neg hp2,if_pos hp3,if_pos hp3],Sep.tail_un (xs:=[_,_]) (s5.pk [1,2,4] rfl)⟩
  ·skip
   have hp4:¬ ((Al M P i).k≠2):=(dF hc2)
   refine wcF h25 rfl hc2<|h25.sk [7,6,5,4,0,1] rfl fun h32=>wp_skip<|hK9 _ _<|sqr fun _ hK13=>so (wn rfl) fun _ hK14=>AB h32 rfl rfl rfl rfl (z:=Aq Bf) (fun _=>rfl) s3 fun _ g2 w6 h33 s6 _ _=>hK14 _ _ ?_
   refine wpList_nil<|hK13 _ _<|sq fun _ hK15=>sqr fun _ hK16=>fav h33 rfl (fQ 3) fun _ h34=>sw1 h34 rfl (rld h34 rfl rfl (ldA υ22 rfl (n:=4) κ (s6.get 1 rfl:Blk _ _ _ _) rfl rfl)) fun _ h35=>mv h35 rfl fun _ h36=>h36.sn [29,28,8,7,6,5,4,0,1] rfl fun h37=>hK16 _ _<|wp_block ?_
   refine Du (fun (k:Nat) a' w'=>Kn 53 [(29,ν (k:Int)),(28,.agg #[ν ((Al M P i).b0),ν ((Al M P i).b1),ν ((Al M P i).b2),ν ((Al M P i).b3)]),(8,π g2),(6,π g1),(5,ν 0),(4,π g4),(0,π mx),(1,ν i)] a'∧Sep w' [Ab g2 111 (Aq (BH M P (Al M P i) k).1),Ab g1 25 (Ah (Al M P i)),Ab mx 99 [π K.tg],txP K ta tc M P,Ab g4 111 (Aq Bf),Ch.many R]∧(k≤4)∧((BH M P (Al M P i) k).2=0)) (fun (k:Nat)=>4-k) 0 ⟨h37.subs rfl,s6,Nat.zero_le _,rfl⟩ ?_
   rintro k1 a1 w8 ⟨h38,s7,hk126,hk0127⟩ K1 hK17
   refine sqr fun _ hK18=>bv h38 (z:=.bool (decide ((k1:Int)<4))) rfl (cLt _ _ _ _ rfl) fun _ h39=>wpList_nil<|hK18 _ _<|sq fun _ hK19=>?_
   rcases bC (decide ((k1:Int)<4)) with hc3 | hc3
   ·skip
    have hp5:(k1:Int)<4:=(dT hc3)
    refine wcT h39 rfl hc3<|h39.sk [29,28,8,6,5,4,0,1] rfl fun h40=>wp_skip<|hK19 _ _<|sq fun _ hK20=>wp_block ?_
    refine sqr fun _ hK21=>mv h40 rfl fun _ h41=>sv1 h41 rfl (JG h41 rfl rfl rfl (xs:=[(Al M P i).b0,(Al M P i).b1,(Al M P i).b2,(Al M P i).b3]) rfl υ22 rfl rfl rfl (by show _<4;omega)) fun _ h42=>mvs 2 h42 rfl fun _ h43=>h43.sn [10,9,29,28,8,6,5,4,0,1] rfl fun h44=>hK21 _ _<|sq fun _ hK22=>sqr fun _ hK23=>mv h44 rfl fun _ h45=>bv h45 (z:=.bool (decide ((Al M P i).blk k1=0))) rfl (cEq _ _ _ _ rfl) fun _ h46=>h46.sk [34,10,9,29,28,8,6,5,4,0,1] rfl fun h47=>?_
    refine wpList_nil<|hK23 _ _ ?_
    rcases bC (decide ((Al M P i).blk k1=0)) with hc4 | hc4
    ·skip
     have hp6:(Al M P i).blk k1=0:=(dT hc4)
     refine wcT h47 rfl hc4<|h47.sk [10,9,29,28,8,6,5,4,0,1] rfl fun h48=>wp_exit ?_
     refine hK20 _ _ ?_
     refine wp_region_lit<|bv h48 (z:=ν ((k1+1:Nat):Int)) rfl (ES _ _ _ ω ω ω) fun _ h49=>h49.sk [51,10,9,28,8,6,5,4,0,1] rfl fun h50=>mv h50 rfl fun _ h51=>h51.sk [29,10,9,28,8,6,5,4,0,1] rfl fun h52=>wpList_nil ?_
     have hn9:BH M P (Al M P i) (k1+1)=BH M P (Al M P i) k1:=by show (if _ then _ else _)=_;rw [if_pos hk0127,if_pos hp6]
     exact hK17 (k1+1) _ _ ⟨h52.subs rfl,(by rw [hn9];exact s7),ω,(by rw [hn9];exact hk0127)⟩ ω
    ·skip
     have hp7:¬ ((Al M P i).blk k1=0):=(dF hc4)
     refine wcF h47 rfl hc4<|h47.sk [10,9,29,28,8,6,5,4,0,1] rfl fun h53=>wp_skip<|hK22 _ _<|sqr fun _ hK24=>mvs 2 h53 rfl fun _ h54=>cl h54 rfl (cF func27) (OL (kd:=7) (nm:=(Al M P i).blk k1) (s7.pk [2,3,0,1,4,5] rfl) hM) fun _ v2 w9 r2 h55=>?_
     obtain ⟨ra_x170,rc_x171,rfl,s9⟩:=r2
     refine mvs 5 h55 rfl fun _ h56=>h56.sn [11,10,9,29,28,8,6,5,4,0,1] rfl fun h57=>hK24 _ _<|sqr fun _ hK25=>sw1 h57 rfl (rld h57 rfl rfl (Gf υ111 (s9.get 3 rfl:Blk _ _ _ _) (by first | exact Ay | exact Aj _ _ _ _ | exact AF (Aj _ _ _ _) _ _ | exact Ak _ _ _ | (rw [AC];exact Ak _ _ _) | assumption))) fun _ h58=>mvs 2 h58 rfl fun _ h59=>cl h59 rfl (cF func88) (Bh s9 (VZ ((BH M P (Al M P i) k1).1) (by first | exact Ay | exact Aj _ _ _ _ | exact AF (Aj _ _ _ _) _ _ | exact Ak _ _ _ | (rw [AC];exact Ak _ _ _) | assumption) (k1:Int) _ _ (BE M P 7 ((Al M P i).blk k1)) _ (s9.get 0 rfl:Own _ _ _ _ _ _ _ _).row)) fun _ v3 w10 r3 h60=>?_
     obtain ⟨rfl,s10⟩:=r3
     refine mvs 3 h60 rfl fun _ h61=>so (wn rfl) fun _ hK26=>Gq h61 rfl rfl s10 3 rfl (by first | exact Ay | exact Aj _ _ _ _ | exact AF (Aj _ _ _ _) _ _ | exact Ak _ _ _ | (rw [AC];exact Ak _ _ _) | assumption) (by first | exact Ay | exact Aj _ _ _ _ | exact AF (Aj _ _ _ _) _ _ | exact Ak _ _ _ | (rw [AC];exact Ak _ _ _) | assumption) rfl rfl (cs':=[BC 0 5 1 ra_x170 ((BE M P 7 ((Al M P i).blk k1))).length rc_x171 (((BE M P 7 ((Al M P i).blk k1))).map Ac),Ab mx 99 [π K.tg],txP K ta tc M P,Ab g2 111 (Aq ((Fl ((BH M P (Al M P i) k1).1) (k1:Int) (BE M P 7 ((Al M P i).blk k1))).1)),Ab g1 25 (Ah (Al M P i)),Ab g4 111 (Aq Bf),Ch.many R]) rfl fun _ w11 h62 s11 _=>hK26 _ _ ?_
     refine mv h62 rfl fun _ h63=>h63.sn [7,11,10,9,29,28,8,6,5,4,0,1] rfl fun h64=>hK25 _ _<|sqr fun _ hK27=>mv h64 rfl fun _ h65=>bv h65 (z:=.bool (decide ((Fl ((BH M P (Al M P i) k1).1) (k1:Int) (BE M P 7 ((Al M P i).blk k1))).2≠0))) rfl (cNe _ _ _ _ rfl) fun _ h66=>h66.sn [49,7,11,10,9,29,28,8,6,5,4,0,1] rfl fun h67=>hK27 _ _ ?_
     rcases bC (decide ((Fl ((BH M P (Al M P i) k1).1) (k1:Int) (BE M P 7 ((Al M P i).blk k1))).2≠0)) with hc5 | hc5
     ·skip
      have hp8:(Fl ((BH M P (Al M P i) k1).1) (k1:Int) (BE M P 7 ((Al M P i).blk k1))).2≠0:=(dT hc5)
      refine wcT h67 rfl hc5<|h67.sk [7,11,10,9,29,28,8,6,5,4,0,1] rfl fun h68=>sqr fun _ hK28=>bu h68 (v:=.agg ((Aq Bf).toArray)) rfl (fun w=>κ) fun _ h69=>so (wn rfl) fun _ hK29=>Gq h69 rfl rfl s11 5 rfl (by first | exact Ay | exact Aj _ _ _ _ | exact AF (Aj _ _ _ _) _ _ | exact Ak _ _ _ | (rw [AC];exact Ak _ _ _) | assumption) (by first | exact Ay | exact Aj _ _ _ _ | exact AF (Aj _ _ _ _) _ _ | exact Ak _ _ _ | (rw [AC];exact Ak _ _ _) | assumption) rfl rfl (cs':=[BC 0 5 1 ra_x170 ((BE M P 7 ((Al M P i).blk k1))).length rc_x171 (((BE M P 7 ((Al M P i).blk k1))).map Ac),Ab mx 99 [π K.tg],txP K ta tc M P,Ab g2 111 (Aq ((Fl ((BH M P (Al M P i) k1).1) (k1:Int) (BE M P 7 ((Al M P i).blk k1))).1)),Ab g1 25 (Ah (Al M P i)),Ab g4 111 (Aq Bf),Ch.many R]) rfl fun _ w12 h70 s12 _=>hK29 _ _ ?_
      refine h70.sk [50,7,11,10,9,29,28,8,6,4,0,1] rfl fun h71=>mv h71 rfl fun _ h72=>h72.sn [5,7,11,10,9,29,28,8,6,4,0,1] rfl fun h73=>hK28 _ _<|wp_ret ?_
      try simp only [Exit.then,Exit.inBlock]
      refine GV (v:=.tuple #[.agg ((Aq Bf).toArray),ν 36]) (JE h73 rfl rfl rfl (s12.get 5 rfl:Blk _ _ _ _) υ111 (by first | exact Ay | exact Aj _ _ _ _ | exact AF (Aj _ _ _ _) _ _ | exact Ak _ _ _ | (rw [AC];exact Ak _ _ _) | assumption)) h73.defs ?_
      have hn9:(BH M P (Al M P i) (k1+1)).2≠0:=by show ((if _ then _ else _):List EntT×Int).2≠0;rw [if_pos hk0127,if_neg hp7];exact hp8
      have hn8:=MW hn9 4 ω
      exact ⟨by unfold Ar BM;rw [if_neg hp2,if_neg hp2,if_neg hp4,if_neg hp4,if_neg hn8,if_neg hn8],Sep.tail_un (xs:=[_,_]) (s12.pk [1,2,6] rfl)⟩
     ·skip
      have hp9:¬ ((Fl ((BH M P (Al M P i) k1).1) (k1:Int) (BE M P 7 ((Al M P i).blk k1))).2≠0):=(dF hc5)
      refine wcF h67 rfl hc5<|h67.sk [7,11,10,9,29,28,8,6,5,4,0,1] rfl fun h74=>wp_skip<|hK20 _ _<|wp_region_lit<|bv h74 (z:=ν ((k1+1:Nat):Int)) rfl (ES _ _ _ ω ω ω) fun _ h75=>h75.sk [51,7,11,10,9,28,8,6,5,4,0,1] rfl fun h76=>mv h76 rfl fun _ h77=>h77.sk [29,7,11,10,9,28,8,6,5,4,0,1] rfl fun h78=>wpList_nil ?_
      have hn9:BH M P (Al M P i) (k1+1)=Fl (BH M P (Al M P i) k1).1 k1 (BE M P 7 ((Al M P i).blk k1)):=by show (if _ then _ else _)=_;rw [if_pos hk0127,if_neg hp7]
      exact hK17 (k1+1) _ _ ⟨h78.subs rfl,(by rw [hn9];exact (s11.pk [3,4,1,2,5,6] rfl)),ω,(by rw [hn9];exact Classical.not_not.1 hp9)⟩ ω
   ·skip
    have hp10:¬ ((k1:Int)<4):=(dF hc3)
    refine wcF h39 rfl hc3<|h39.sk [29,28,8,6,5,4,0,1] rfl fun h79=>wp_exit ?_
    refine hK15 _ _ ?_
    refine sqr fun _ hK30=>sw1 h79 rfl (rld h79 rfl rfl (Gf υ111 (s7.get 0 rfl:Blk _ _ _ _) (by first | exact Ay | exact Aj _ _ _ _ | exact AF (Aj _ _ _ _) _ _ | exact Ak _ _ _ | (rw [AC];exact Ak _ _ _) | assumption))) fun _ h80=>so (wn rfl) fun _ hK31=>Gq h80 rfl rfl s7 4 rfl (by first | exact Ay | exact Aj _ _ _ _ | exact AF (Aj _ _ _ _) _ _ | exact Ak _ _ _ | (rw [AC];exact Ak _ _ _) | assumption) (by first | exact Ay | exact Aj _ _ _ _ | exact AF (Aj _ _ _ _) _ _ | exact Ak _ _ _ | (rw [AC];exact Ak _ _ _) | assumption) rfl rfl (cs':=[Ab g2 111 (Aq (BH M P (Al M P i) k1).1),Ab g1 25 (Ah (Al M P i)),Ab mx 99 [π K.tg],txP K ta tc M P,Ab g4 111 (Aq ((BH M P (Al M P i) k1).1)),Ch.many R]) rfl fun _ w13 h81 s13 _=>hK31 _ _ ?_
    refine h81.sk [52,29,28,8,6,4,0,1] rfl fun h82=>mv h82 rfl fun _ h83=>h83.sn [5,29,28,8,6,4,0,1] rfl fun h84=>hK30 _ _<|wp_ret ?_
    try simp only [Exit.then,Exit.inBlock]
    refine GV (v:=.tuple #[.agg ((Aq ((BH M P (Al M P i) k1).1)).toArray),ν 0]) (JE h84 rfl rfl rfl (s13.get 4 rfl:Blk _ _ _ _) υ111 (by first | exact Ay | exact Aj _ _ _ _ | exact AF (Aj _ _ _ _) _ _ | exact Ak _ _ _ | (rw [AC];exact Ak _ _ _) | assumption)) h84.defs ?_
    obtain rfl:k1=4:=ω
    exact ⟨by unfold Ar BM;rw [if_neg hp2,if_neg hp2,if_neg hp4,if_neg hp4,if_pos hk0127,if_pos hk0127],Sep.tail_un (xs:=[_,_]) (s13.pk [2,3,5] rfl)⟩
theorem LX {w:World} {R:List Ch} {c:Int} (hS0:Sep w ([]++R)) :
  CallsR prog 69 #[ν c] w (fun v w'=>v=.bool (decide (c≥1)&&decide (c≤8))∧Sep w' ([]++R)):=by
 have hS:Sep w [Ch.many R]:=Sep.tail_many (xs:=[]) hS0;clear hS0
 refine AQ func69 rfl (N:=9) ntmps69 (by show 1≤9;decide) [(0,ν c)] rfl fun _ h1=>sqr fun _ hK3=>mv h1 rfl fun _ h4=>wpList_nil<|hK3 _ _<|sqr fun _ hK6=>mv h4 rfl fun _ h7=>bv h7 (z:=.bool (decide (c≥1))) rfl (cGe _ _ _ _ rfl) fun _ h9=>mv h9 rfl fun _ h2=>sg h2 (wT h2 rfl rfl rfl) rfl rfl rfl (fun hC1=>Ad h2 rfl rfl _) fun _ h3=>sg h3 (wT h3 rfl rfl rfl) rfl rfl rfl (fun hC2=>Aw h3 rfl (opg rfl hC2) rfl (cLe _ _ _ _ rfl) _) fun _ h5=>?_
 refine sv1 h5 rfl (BQ h5 rfl (E:=(decide (c≥1))) (F:=(decide (c≤8))) rfl rfl rfl (fun e=>if_pos (by rw [e];try rfl))) fun _ h6=>h6.sk [8,7,6,5,4,3,0] rfl fun h8=>mv h8 rfl fun _ h10=>h10.sn [2,0] rfl fun h11=>hK6 _ _<|wp_ret ?_
 try simp only [Exit.then,Exit.inBlock]
 refine Bg (v:=.bool ((decide (c≥1))&&(decide (c≤8)))) (Cl h11 rfl rfl) h11.defs ?_
 exact ⟨by first | rfl | (rw [isCl_eq]),Sep.tail_un (xs:=[]) hS⟩
end
section
theorem Vt (X:Λ) (hX:X.length≤1000) (w:World) {A:List ByteArray} {x:ByteArray} (ho:BX X=some (A++[x])):Calls prog 100 #[σ X] w fun e w'=>∃ a,e=.returned (.tuple #[.slice a A.length A.length,.string x,ν 0])∧JR w' a A.length A∧Below w.heap.size w w'∧∀ b off,a=some ⟨b,off,none⟩→w.heap.size≤b:=by
  have HP:=hid (JB X hX w)
  rw [ho] at HP
  go_enter func100,ntmps100
  go_wp2_with (go_at_call 86;fail)
  refine (HP.out).mono ?_
  rintro e w1 ⟨a,c,rfl,o,b⟩
  have O:=hid o;have B:=hid b
  clear o b
  simp only [erO,Option.getD_some]
  simp only [Option.getD_some] at O
  have hl:(A++[x]).length=A.length+1:=by simp
  rw [hl]
  have hrow:JR w1 a c (A++[x]):=O.out.row
  obtain ⟨g,off,rfl,hg,hc⟩:=IY hrow ω
  have hlc:A.length+1≤c:=by have:=hrow.2.1;rw [hl] at this;exact this
  have hc9:c≤9223372036854775807:=by have:=hrow.2.2.1;unfold maxLen at this;exact this
  have cx:=hc A.length ω
  have hx:(A++[x])[A.length]' ω=x:=by simp
  rw [hx] at cx
  have HROW:=hid hrow
  clear hc hx hrow hl
  have i1:(A.length:Int)<(A.length:Int)+1:=ω
  have i2:(A.length:Int)≤c:=ω
  have i3:(0:Int)≤A.length:=ω
  go_wp2_with fail
  go_quiet (fail)
  go_wp2_with fail
  go_ret3
  refine ⟨some ⟨g,off,none⟩,rfl,?_,FW B.out _,fun b off' q=>?_⟩
  · obtain ⟨h1,h2,h3,h4,h5⟩:=HROW.out
    refine ⟨by simp,Nat.le_refl _,by unfold maxLen;omega,(fun h=>by cases h),fun hn=>?_⟩
    obtain ⟨b',o',e',hb',hc'⟩:=h5 (by simp)
    refine ⟨b',o',e',hb',fun j u hu=>hc' j u ?_⟩
    rw [List.map_append,List.getElem?_append_left (by have:=(List.getElem?_eq_some_iff.1 hu).1;exact this)]
    exact hu
  · cases q
    exact (World.ownsRow.lt O.out g rfl).1
def rwS (a:Ω) (c:Nat) (L:List ByteArray):Ch where
  F b:=∃ off,a=some ⟨b,off,none⟩∧0<L.length
  P w:=JR w a c L
  keep {w w'} h t:=t.row h fun hn b ⟨off,e⟩ q=>q ⟨off,e,hn⟩
  lt {w} h b hb:=by
    obtain ⟨off,e,hn⟩:=hb
    obtain ⟨b',off',e',hlt,_⟩:=h.2.2.2.2 hn
    rw [e] at e';cases e';exact hlt
theorem Adh {w:World} {a:Ω} {c:Nat} {L:List ByteArray} (h:JR w a c L):∃ b off,(0<L.length→a=some ⟨b,off,none⟩)∧∀ j,j<L.length→w.cell? ⟨b,off+j,none⟩=some (.string (L.getD j ⟨#[]⟩)):=by
  by_cases hn:0<L.length
  · obtain ⟨b,off,e,_,hc⟩:=h.2.2.2.2 hn
    refine ⟨b,off,fun _=>e,fun j hj=>hc j _ ?_⟩
    rw [List.getElem?_map,List.getElem?_eq_getElem hj,List.getD_eq_getElem?_getD,List.getElem?_eq_getElem hj];rfl
  · exact ⟨0,0,fun q=>absurd q hn,fun j hj=>absurd hj ω⟩
def BP:EntT:=⟨⟨#[]⟩,0⟩
def Ed (M:MemM) (P:List PtM):List ByteArray→Int→Int×Int
  | [],i=>(i,0)
  | s::L,i=>
    if BM M P i≠0 then (0,BM M P i)
    else if AW (Ar M P i) s<0 then (0,10)
    else
      if AX M P ((Ar M P i).getD (AW (Ar M P i) s).toNat BP).ino≠0∨(Al M P ((Ar M P i).getD (AW (Ar M P i) s).toNat BP).ino).k=0 then (0,36)
      else Ed M P L ((Ar M P i).getD (AW (Ar M P i) s).toNat BP).ino
def Be (M:MemM) (P:List PtM) (L:List ByteArray):Int×Int:=if AX M P 1≠0 then (0,AX M P 1) else Ed M P L 1
def AO (M:MemM) (P:List PtM) (X:Λ):Int×Int:=match BX X with
  | some L=>Be M P L
  | none=>(0,15)
def ER (M:MemM) (P:List PtM) (X:Λ):Int×InoT×Int:=
  if (AO M P X).2≠0 then (0,AT,(AO M P X).2)
  else if AX M P (AO M P X).1≠0 then (0,AT,AX M P (AO M P X).1)
  else ((AO M P X).1,Al M P (AO M P X).1,0)
def En (M:MemM) (P:List PtM) (X:Λ):Int×ByteArray×Int:=match BX X with
  | none=>(0,⟨#[]⟩,15)
  | some L=>match L.getLast? with
    | none=>(0,⟨#[]⟩,15)
    | some x=>
      if (Be M P L.dropLast).2≠0 then (0,⟨#[]⟩,(Be M P L.dropLast).2)
      else if AX M P (Be M P L.dropLast).1≠0 then (0,⟨#[]⟩,AX M P (Be M P L.dropLast).1)
      else if (Al M P (Be M P L.dropLast).1).k≠2 then (0,⟨#[]⟩,12)
      else ((Be M P L.dropLast).1,x,0)
theorem Xc (t:List EntT) (s:ByteArray):-1≤AW t s∧AW t s<16:=by
  unfold AW
  split
  · exact ⟨Int.le_refl _,by decide⟩
  · cases h:(BK (DX s.data.toList)).find? (RL t s) with
    | none=>exact ⟨Int.le_refl _,by show (-1:Int)<16;decide⟩
    | some x=>
      have hm:=List.mem_of_find?_eq_some h
      unfold BK at hm
      obtain ⟨i,_,rfl⟩:=List.mem_map.1 hm
      have:=Nat.mod_lt (DX s.data.toList+i) (show 0<16 by decide)
      exact ⟨by show (-1:Int)≤((_:Nat):Int);omega,by show (((DX s.data.toList+i) % 16:Nat):Int)<16;omega⟩
end
end Go.Proofs.YthiplgahhejmcaaGreatDoor
