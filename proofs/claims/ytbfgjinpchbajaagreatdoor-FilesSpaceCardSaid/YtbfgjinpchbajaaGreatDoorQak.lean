/- Parts of the proof. -/
import Derived.Lib.Bytealg
import Derived.Laws.Externs
import Derived.Lib.IndexLaws
import Derived.Test.YtbfgjinpchbajaaGreatDoorQaj
namespace Go.Proofs.YtbfgjinpchbajaaGreatDoor
open Go.RowKit
set_option linter.unusedSimpArgs false
set_option linter.unusedVariables false
set_option linter.unusedSectionVars false
set_option maxRecDepth 100000
set_option maxHeartbeats 8000000
section
open Go.RowKit Go.Shelf
def LT (bs:List UInt8) (i:Nat):List UInt8:=(bs.drop (16*i)).take 16
theorem Vt {bs:List UInt8} (h:64≤bs.length) {i:Nat} (hi:i<4):(LT bs i).length=16:=by
  unfold LT;rw [List.length_take,List.length_drop];omega
def rdF (bs:List UInt8):Nat→Option (List EntT)
  | 0=>some []
  | j+1=>match rdF bs j,Ls (LT bs j) with
    | some l,some e=>some (l++[e])
    | _,_=>none
theorem Gv {bs:List UInt8} {j:Nat} (h:rdF bs j=none):rdF bs (j+1)=none:=by simp [rdF,h]
theorem Abx {bs:List UInt8} {j:Nat} (hj:j<4) (h:Ls (LT bs j)=none):rdF bs 4=none:=by
  have h1:rdF bs (j+1)=none:=by simp only [rdF,h];cases rdF bs j<;>rfl
  rcases (ω:j=0∨j=1∨j=2∨j=3) with rfl | rfl | rfl | rfl
  · exact Gv (Gv (Gv h1))
  · exact Gv (Gv h1)
  · exact Gv h1
  · exact h1
theorem Aej {bs:List UInt8} {j:Nat} {l:List EntT} {e:EntT} (h:rdF bs j=some l) (hd:Ls (LT bs j)=some e):rdF bs (j+1)=some (l++[e]):=by simp [rdF,h,hd]
theorem PB {bs:List UInt8}:∀ (j:Nat) (l:List EntT),rdF bs j=some l→l.length=j
  | 0,l,h=>by cases h;rfl
  | j+1,l,h=>by
    unfold rdF at h
    cases h1:rdF bs j with
    | none=>rw [h1] at h;cases h
    | some l1=>
      cases h2:Ls (LT bs j) with
      | none=>rw [h1,h2] at h;cases h
      | some e=>
        rw [h1,h2] at h
        cases h
        rw [List.length_append,PB j l1 h1];rfl
def Lx (t:List EntT) (q:Nat) (es:List EntT):List EntT:=splice t (4*q) es
theorem Zw (t:List EntT) (q:Nat):Lx t q []=t:=by simp [Lx,splice]
theorem Rr {t:List EntT} (ht:t.length=16) {q:Nat} {es:List EntT} (h:4*q+es.length≤16):(Lx t q es).length=16:=by
  unfold Lx;rw [length_splice t (4*q) es ω,ht]
theorem WK {t:List EntT} (ht:t.length=16) {q:Nat} {es:List EntT} (h:4*q+es.length<16) (e:EntT):(Lx t q es).set (4*q+es.length) e=Lx t q (es++[e]):=
  Nl t (4*q) es e ω
def ZI (t:List EntT) (q:Nat):Option (List EntT)→List EntT×Int
  | some es=>(Lx t q es,0)
  | none=>(t,2)
def Ft (t:List EntT) (k:Int) (bs:List UInt8):List EntT×Int:=
  if 0≤k∧k<4 then (if bs.length<64 then (t,3) else ZI t k.toNat (rdF bs 4)) else (t,1)
def Ae5 (w:World) (p:List EntT×Int) (e:Ending) (w':World):Prop:=e=.returned (.tuple #[.agg (Au p.1).toArray,ν p.2])∧Below w.heap.size w w'
theorem FT {fn:Func} {c u:Tmp} (h:fn.results=#[.cell c 179,.tmp u]) {tmps:Array Value} {w:World} {g:Nat} {e:TypeId} {t:List EntT} (ht:t.length=16) (hc:tmps.getD c undef=π g) (hb:Blk w g e (Au t)) :
    (results fn tmps).run Tryz.prog w=.ok (.tuple #[.agg (Au t).toArray,tmps.getD u undef]) w:=
  Cb h hc hb υ179 rfl (by rw [Iw,BK,ht])
theorem Acb (b off n c j:Nat) (hj:j<4) (hc:64≤c) (w:World):(Instr.sliceAt 74 (.slice (some ⟨b,off,none⟩) n c) (some (ν ((j:Int)*16))) (some (ν (((j:Int)+1)*16))) none).run Tryz.prog w=.ok (.slice (some ⟨b,off+16*j,none⟩) 16 (c-16*j)) w:=by
  have u:=υ74
  have s8:(sizeOf 5).run Tryz.prog w=.ok 1 w:=κ
  have he:Tryz.prog.elem 74=5:=κ
  have hu:Tryz.prog.underlying 74=some (.slice (Tryz.prog.elem 74)):=by rw [he];exact u
  rw [run_sliceAt_slice w _ _ _ _ _ hu,run_slice_lh w _ _ _ _ hu _ _ _ _ ω ω ω,he,s8]
  show Result.ok (sliced _ _ _ _ _) w=_
  unfold sliced
  rw [show ((j:Int)*16).toNat=16*j by omega,show (((j:Int)+1)*16).toNat=16*j+16 by omega,if_neg ω]
  simp only [Option.map_some,Addr.add_mid,Nat.mul_one]
  rw [show 16*j+16-16*j=16 by omega]
theorem WU (t:List EntT) (ht:t.length=16) (k:Int) (a:Option Addr) (c:Nat) (bs:List UInt8) (w:World) (hr:Bp w a c bs) :
    Calls Tryz.prog 141 #[.agg (Au t).toArray,ν k,.slice a bs.length c] w (Ae5 w (Ft t k bs)):=by
  obtain ⟨z,hz⟩:∃ z,z=Bo:=⟨_,rfl⟩
  have HZE:=hid hz
  have HZ:=hid (show z.length=16 by rw [hz];exact Av)
  have HL:=hid (Ace HZ.out)
  have HT:=hid ht
  have hb9:=EL hr
  have HROW:=hid hr
  have K0:=hid (AL (W:=w) rfl 179 (Au t))
  have B0:=hid (Cq w (.cells (Au t).toArray 179))
  have S0:=hid (show (w.alloc (.cells (Au t).toArray 179)).heap.size=w.heap.size+1 by simp)
  clear ht hz hr
  by_cases hk:0≤k∧k<4
  · obtain ⟨q,rfl⟩:∃ q:Nat,k=q:=⟨k.toNat,ω⟩
    have hq:q<4:=ω
    have hir:Ft t (q:Int) bs=(if bs.length<64 then (t,3) else ZI t q (rdF bs 4)):=by unfold Ft;rw [if_pos hk];rfl
    have HIB:=fun w1=>DL (q:Int) w1
    rw [decide_eq_true hk] at HIB
    have HIB:=hid HIB
    clear hk
    by_cases hlen:bs.length<64
    · rw [if_pos hlen] at hir
      have HIR:=hid hir
      have d1:decide ((bs.length:Int)<64)=true:=decide_eq_true ω
      clear hir
      rw [HIR.out]
      go_enter Tryz.func141,Tryz.ntmps141
      go_wp2_with (first
        | ((with_reducible refine GX (z:=z) HZE.out rfl rfl ?_);intro w1 k1 b1 s1;rw [S0.out] at k1 s1;have K1:=hid k1;have B1:=hid (B0.out.trans (b1.mono B0.out.size));have T1:=hid (K0.out.mono b1);have S1:=hid s1;clear k1 b1 s1)
        | (go_at_call 163;refine (HIB.out _).mono ?_;rintro e w2 ⟨rfl,rfl⟩)
        | (with_reducible refine DQ rfl _ rfl w.heap.size rfl t HT.out T1.out ?_)
        | ((try rw [S0.out]);(with_reducible refine Dh rfl _ _ rfl (w.heap.size+1) rfl t HT.out rfl K1.out HL.out ?_);intro w3 k3 g3;have K3:=hid k3;have G3:=hid g3;clear k3 g3))
      refine bodyPost_ret (FT rfl HT.out rfl K3.out) rfl ⟨rfl,Cl B1.out G3.out ω B1.out.size⟩
    · rw [if_neg hlen] at hir
      have d1:decide ((bs.length:Int)<64)=false:=decide_eq_false ω
      have hbp:0<bs.length:=ω
      obtain ⟨b,off,rfl,hblt,_⟩:=HROW.out.at hbp
      have hc64:64≤c:=by have:=HROW.out.2.1;omega
      have h64:64≤bs.length:=ω
      have HSL:=hid (fun n j hj w1=>Acb b off n c j hj hc64 w1)
      have q4:(q:Int)<4:=ω
      have HIR:=hid hir
      clear hir hlen hbp
      go_enter Tryz.func141,Tryz.ntmps141
      go_wp2_with (first
        | (have _t:=T3;(with_reducible refine GX (z:=z) HZE.out rfl rfl ?_);intro w4 k4 b4 s4;have K4:=hid k4;have B4:=hid (Ae B1.out b4);have T4:=hid (T1.out.mono b4);have R4:=hid (K1.out.mono b4);have S4:=hid s4;clear k4 b4 s4)
        | ((with_reducible refine GX (z:=z) HZE.out rfl rfl ?_);intro w1 k1 b1 s1;rw [S0.out] at k1 s1;have K1:=hid k1;have B1:=hid (B0.out.trans (b1.mono B0.out.size));have T1:=hid (K0.out.mono b1);have S1:=hid s1;clear k1 b1 s1)
        | (go_at_call 163;refine (HIB.out _).mono ?_;rintro e w2 ⟨rfl,rfl⟩;have T3:True:=trivial)
        | (with_reducible refine DQ rfl _ rfl w.heap.size rfl t HT.out T1.out ?_)
        | ((with_reducible refine Dh rfl _ _ rfl w1.heap.size rfl t HT.out rfl K4.out HL.out ?_);intro w5 k5 g5;have K5:=hid k5;have G5:=hid g5;clear k5 g5))
      have hs1:w1.heap.size=w.heap.size+2:=by rw [S1.out]
      have T5:=hid (T4.out.grownS G5.out ω);have R5:=hid (R4.out.grownS G5.out ω);have B5:=hid (Cl B4.out G5.out ω B4.out.size)
      have K5':=K5.out
      rw [hs1] at K5' ⊢
      rw [← Zw t q] at K5'
      have hs5:w.heap.size+3≤w5.heap.size:=by have h1:=G5.out.size;have h2:=S4.out;omega
      clear T4 R4 B4 K4 S4 G5 K5 T1 K1 B1 S1 hs1
      go_loopw [21] (fun i wr=>∃ (j:Nat) (l:List EntT),j≤4∧i=ν j∧rdF bs j=some l∧Blk wr w.heap.size 179 (Au t)∧Blk wr (w.heap.size+1) 179 (Au z)∧Blk wr (w.heap.size+2) 179 (Au (Lx t q l))∧Below w.heap.size w wr∧w.heap.size+3≤wr.heap.size) (fun i _=>4-(intOf i).toNat)
      case atStart=>exact ⟨0,[],ω,rfl,rfl,T5.out,R5.out,K5',B5.out,hs5⟩
      case round=>
        obtain ⟨j,l,hj,rfl,hrd,ht0,hr0,hk0,hb0,hsz⟩:=hrel
        clear T5 R5 K5' B5 hs5
        have HRD:=hid hrd;have T6:=hid ht0;have R6:=hid hr0;have K6:=hid hk0;have B6:=hid hb0
        have hll:=PB j l hrd
        clear hrd ht0 hr0 hk0 hb0
        by_cases hj4:j<4
        · have ij:(j:Int)<4:=ω
          have dj:decide ((j:Int)<4)=true:=decide_eq_true ij
          have hsl:=fun n w1=>HSL.out n j hj4 w1
          have hrow:=MW (HROW.out.mono B6.out) (16*j) 16 ω
          have hch:=Vt h64 hj4
          have HRC:=fun w1 (hb:Below wr.heap.size wr w1)=>Vy b (off+16*j) (c-16*j) (LT bs j) hch w1 (hrow.mono hb)
          have HRC:=hid HRC
          have hls:=Rr HT.out (q:=q) (es:=l) ω
          have HLS:=hid hls;have HLL:=hid hll
          have hkt:4*q+j<(Lx t q l).length:=by rw [hls];omega
          have HKT:=hid hkt
          clear hrow hch hls hll hkt
          go_wp2_with (go_at_call 164;fail)
          refine (HRC.out _ (Below.refl _ _)).mono ?_
          rintro e w7 ⟨nm,ino,ok,rfl,hyes,hno,b7⟩
          have HY:=hid hyes;have HN:=hid hno
          have T7:=hid (T6.out.mono b7);have R7:=hid (R6.out.mono b7);have K7:=hid (K6.out.mono b7);have B7:=hid (Ae B6.out b7)
          have z7:w.heap.size+3≤w7.heap.size:=Nat.le_trans hsz b7.size
          have KE:=hid (AL (W:=w7) rfl 177 [.string nm,ν ino])
          clear b7 hyes hno HRC hsl
          cases ok with
          | false=>
            have hbad:=Abx hj4 (HN.out rfl)
            have HBAD:=hid hbad
            clear hbad
            have T8:=hid (T7.out.mono (Cq _ (.cells #[.string nm,ν ino] 177)));have R8:=hid (R7.out.mono (Cq _ (.cells #[.string nm,ν ino] 177)))
            go_wp2_with (first
              | (with_reducible refine DQ rfl _ rfl w.heap.size rfl t HT.out T8.out ?_)
              | ((with_reducible refine Dh rfl _ _ rfl (w.heap.size+1) rfl t HT.out rfl R8.out HL.out ?_);intro w9 k9 g9;have K9:=hid k9;have G9:=hid g9;clear k9 g9))
            refine bodyPost_ret (FT rfl HT.out rfl K9.out) rfl ⟨by rw [HIR.out,HBAD.out];rfl,Cl (B7.out.alloc B7.out.size _) G9.out ω (by simp;omega)⟩
          | true=>
            have hok:=Aej HRD.out (HY.out rfl)
            have hsn:=WK HT.out (q:=q) (es:=l) (by have:=HLL.out;omega) ⟨nm,ino⟩
            rw [HLL.out] at hsn
            have HOK:=hid hok;have HSN:=hid hsn
            clear hok hsn
            have K8:Hid (Blk (w7.alloc (.cells #[.string nm,ν ino] 177)) (w.heap.size+2) 179 (Au (Lx t q l))):=hid (K7.out.mono (Cq _ _))
            have e1:IntKind.i64.wrap ((q:Int)*4+j)=q*4+j:=IntWalk.i64_in _ ω
            have e3:((q:Int)*4+j)<16:=ω
            have e4:((q:Int)*4+j).toNat=4*q+j:=ω
            go_wp2_with (first
              | ((with_reducible refine RU rfl _ _ rfl (w.heap.size+2) (4*q+j) rfl nm ino rfl K8.out HKT.out ?_);intro w9 k9 g9;rw [HSN.out] at k9;have K9:=hid k9;have G9:=hid g9;clear k9 g9))
            go_roundw
            case rel=>exact ⟨j+1,l++[⟨nm,ino⟩],ω,by go_num,HOK.out,(T7.out.mono (Cq _ (.cells #[.string nm,ν ino] 177))).grownS G9.out ω,(R7.out.mono (Cq _ (.cells #[.string nm,ν ino] 177))).grownS G9.out ω,K9.out,Cl (B7.out.alloc B7.out.size (.cells #[.string nm,ν ino] 177)) G9.out ω (by simp;omega),by have:=G9.out.size;simp at this;omega⟩
            case measure=>simp [intOf];omega
        · obtain rfl:j=4:=ω
          have dj:decide (((4:Nat):Int)<4)=false:=by decide
          have hls:=Rr HT.out (q:=q) (es:=l) ω
          have HLS:=hid hls
          clear hls hll
          go_wp2_with (first
            | (with_reducible refine DQ rfl _ rfl (w.heap.size+2) rfl (Lx t q l) HLS.out K6.out ?_)
            | ((with_reducible refine Dh rfl _ _ rfl (w.heap.size+1) rfl (Lx t q l) HLS.out rfl R6.out HL.out ?_);intro w9 k9 g9;have K9:=hid k9;have G9:=hid g9;clear k9 g9))
          refine bodyPost_ret (FT rfl HLS.out rfl K9.out) rfl ⟨by rw [HIR.out,HRD.out];rfl,Cl B6.out G9.out ω B6.out.size⟩
  · have hir:Ft t k bs=(t,1):=if_neg hk
    have HIB:=fun w1=>DL k w1
    rw [decide_eq_false hk] at HIB
    have HIB:=hid HIB
    have HIR:=hid hir
    clear hk hir
    rw [HIR.out]
    go_enter Tryz.func141,Tryz.ntmps141
    go_wp2_with (first
      | ((with_reducible refine GX (z:=z) HZE.out rfl rfl ?_);intro w1 k1 b1 s1;rw [S0.out] at k1 s1;have K1:=hid k1;have B1:=hid (B0.out.trans (b1.mono B0.out.size));have T1:=hid (K0.out.mono b1);have S1:=hid s1;clear k1 b1 s1)
      | (go_at_call 163;refine (HIB.out _).mono ?_;rintro e w2 ⟨rfl,rfl⟩)
      | (with_reducible refine DQ rfl _ rfl w.heap.size rfl t HT.out T1.out ?_)
      | ((try rw [S0.out]);(with_reducible refine Dh rfl _ _ rfl (w.heap.size+1) rfl t HT.out rfl K1.out HL.out ?_);intro w3 k3 g3;have K3:=hid k3;have G3:=hid g3;clear k3 g3))
    refine bodyPost_ret (FT rfl HT.out rfl K3.out) rfl ⟨rfl,Cl B1.out G3.out ω B1.out.size⟩
end
section
open Go.RowKit Go.Shelf
def nzE (e:EntT):Bool:=!decide (e.nm=⟨#[]⟩∧e.ino=0)
def Hg (t:List EntT) (k:Int):Bool:=decide (0≤k∧k<4)&&((t.drop (4*k.toNat)).take 4).any nzE
theorem Vk {es:List EntT} {j:Nat} (hj:j<es.length):(es.take (j+1)).any nzE=((es.take j).any nzE||nzE es[j]):=by
  rw [List.take_succ_eq_append_getElem hj,List.any_append];simp
theorem WY (t:List EntT) (ht:t.length=16) (k:Int) (w:World):Calls Tryz.prog 144 #[.agg (Au t).toArray,ν k] w fun e w'=>e=.returned (.bool (Hg t k))∧Below w.heap.size w w':=by
  have HT:=hid ht
  have K0:=hid (AL (W:=w) rfl 179 (Au t))
  have B0:=hid (Cq w (.cells (Au t).toArray 179))
  have SZ:=hid (show (w.alloc (.cells (Au t).toArray 179)).heap.size=w.heap.size+1 by simp)
  clear ht
  by_cases hk:0≤k∧k<4
  · obtain ⟨q,rfl⟩:∃ q:Nat,k=q:=⟨k.toNat,ω⟩
    have hq:q<4:=ω
    have hr:Hg t (q:Int)=((t.drop (4*q)).take 4).any nzE:=by unfold Hg;rw [decide_eq_true hk];rfl
    have HIB:=fun w1=>DL (q:Int) w1
    rw [decide_eq_true hk] at HIB
    have HIB:=hid HIB
    have q4:(q:Int)<4:=ω
    clear hk
    obtain ⟨es,hes⟩:∃ es,es=(t.drop (4*q)).take 4:=⟨_,rfl⟩
    rw [← hes] at hr
    rw [hr]
    have hel:es.length=4:=by rw [hes,List.length_take,List.length_drop,HT.out];omega
    have hget:∀ j (h:j<es.length),∃ h':4*q+j<t.length,es[j]=t[4*q+j]:=fun j h=>⟨by rw [HT.out];omega,by subst hes;simp⟩
    have HG:=hid hget;have HEL:=hid hel
    clear hes hget hel hr
    have hsl:=fun w1=>OB w.heap.size q hq w1
    obtain ⟨r,hr⟩:∃ r,r=es.any nzE:=⟨_,rfl⟩
    rw [← hr]
    have HR:=hid hr
    clear hr
    go_enter Tryz.func144,Tryz.ntmps144
    go_wp2_with (go_at_call 163;refine (HIB.out _).mono ?_;rintro e w1 ⟨rfl,rfl⟩)
    go_loopw [17] (fun i wr=>∃ (j:Nat),j≤4∧i=ν j∧(es.take j).any nzE=false∧Blk wr w.heap.size 179 (Au t)∧Below w.heap.size w wr) (fun i _=>4-(intOf i).toNat)
    case atStart=>exact ⟨0,ω,rfl,rfl,K0.out,B0.out⟩
    case round=>
      obtain ⟨j,hj,rfl,hno,hb0,hbl⟩:=hrel
      clear K0 B0 SZ hsl
      have HB0:=hid hb0;have HBL:=hid hbl;have HNO:=hid hno
      clear hb0 hbl hno
      by_cases hj4:j<4
      · have ij:(j:Int)<4:=ω
        have dj:decide ((j:Int)<4)=true:=decide_eq_true ij
        have hje:j<es.length:=by rw [HEL.out];exact hj4
        obtain ⟨ht4,hte⟩:=HG.out j hje
        have ck:=EO t (4*q+j) ht4
        obtain ⟨hq0,hv0⟩:=List.getElem?_eq_some_iff.1 ck.1
        obtain ⟨hq1,hv1⟩:=List.getElem?_eq_some_iff.1 ck.2
        have c0:wr.cell? ⟨w.heap.size,8*q+j*2,none⟩=some (.string es[j].nm):=by rw [hte,show 8*q+j*2=2*(4*q+j) by omega,HB0.out.cell (i:=2*(4*q+j)) hq0,hv0]
        have c1':wr.cell? ⟨w.heap.size,8*q+j*2+1,none⟩=some (ν es[j].ino):=by rw [hte,show 8*q+j*2+1=2*(4*q+j)+1 by omega,HB0.out.cell (i:=2*(4*q+j)+1) hq1,hv1]
        have hsn:=Vk hje
        rw [HNO.out,Bool.false_or] at hsn
        have hyes:nzE es[j]=true→es.any nzE=true:=fun h=>List.any_eq_true.2 ⟨es[j],List.getElem_mem _,h⟩
        have E:=Sv es[j].nm ⟨#[]⟩ es[j].ino 0
        have hnz:nzE es[j]=!decide (es[j].nm=⟨#[]⟩∧es[j].ino=0):=rfl
        rw [hnz] at hsn hyes
        have HSN:=hid hsn;have HY:=hid hyes
        clear hsn hyes hte ck hq0 hq1 hv0 hv1 hnz
        generalize es[j].nm=nm at *
        generalize es[j].ino=ino at *
        have HB1:=hid (HB0.out.mono (Cq wr (.cells #[.string nm,ν ino] 177)))
        have HL1:=hid (HBL.out.alloc HBL.out.size (.cells #[.string nm,ν ino] 177))
        by_cases hz:nm=⟨#[]⟩∧ino=0
        · rw [decide_eq_true hz] at E HSN
          clear hz
          go_wp2_with fail
          go_roundw
          case rel=>exact ⟨j+1,ω,by go_num,HSN.out,HB1.out,HL1.out⟩
          case measure=>simp [intOf];omega
        · rw [decide_eq_false hz] at E HY
          have HF:=hid (HR.out.trans (HY.out rfl))
          clear hz
          go_wp2_with fail
          go_ret
          exact ⟨Bq HF.out.symm,HL1.out⟩
      · obtain rfl:j=4:=ω
        have dj:decide (((4:Nat):Int)<4)=false:=by decide
        rw [List.take_of_length_le (by rw [HEL.out];omega)] at HNO
        have HF:=hid (HR.out.trans HNO.out)
        go_wp2_with fail
        go_ret
        exact ⟨Bq HF.out.symm,HBL.out⟩
  · have hr:Hg t k=false:=by unfold Hg;rw [decide_eq_false hk];rfl
    rw [hr]
    have HIB:=fun w1=>DL k w1
    rw [decide_eq_false hk] at HIB
    have HIB:=hid HIB
    clear hk hr
    go_enter Tryz.func144,Tryz.ntmps144
    go_wp2_with (go_at_call 163;refine (HIB.out _).mono ?_;rintro e w1 ⟨rfl,rfl⟩)
    go_ret
    exact ⟨rfl,B0.out⟩
end
section
open Go.RowKit Go.Shelf
def Aib (l:List UInt8):Option Nat:=l.findIdx? (fun b=>b == 47)
def Bv:List UInt8→List (List UInt8)
  | []=>[[]]
  | b::l=>if b == 47 then []::Bv l else match Bv l with
    | p::r=>(b::p)::r
    | []=>[[b]]
theorem Li (b:UInt8) (l:List UInt8):Bv (b::l)=if b == 47 then []::Bv l else match Bv l with
    | p::r=>(b::p)::r
    | []=>[[b]]:=by rw [Bv]
theorem Oo (l:List UInt8):Bv l≠[]:=by
  cases l with
  | nil=>simp [Bv]
  | cons b l=>
    unfold Bv
    split
    · simp
    · split<;>simp
theorem EH:∀ {l:List UInt8},(∀ b∈l,b≠47)→Bv l=[l]
  | [],_=>rfl
  | b::l,h=>by
    have hb:(b == 47)=false:=by simpa using h b (by simp)
    have ih:=EH (l:=l) (fun x hx=>h x (by simp [hx]))
    unfold Bv
    rw [hb,ih];rfl
theorem Gs:∀ (p r:List UInt8),(∀ b∈p,b≠47)→Bv (p++47::r)=p::Bv r
  | [],r,_=>by
    show Bv (47::r)=_
    rw [Li];rfl
  | b::p,r,h=>by
    have hb:(b == 47)=false:=by simpa using h b (by simp)
    have ih:=Gs p r (fun x hx=>h x (by simp [hx]))
    show Bv (b::(p++47::r))=_
    rw [Li,hb,ih];rfl
theorem IB:∀ l:List UInt8,(Bv l).length≤l.length+1
  | []=>by simp [Bv]
  | b::l=>by
    have ih:=IB l
    unfold Bv
    split
    · simp;omega
    · split
      · rename_i h;rw [h] at ih;simp at ih ⊢;omega
      · simp
theorem FV (l:List UInt8):(Lib.indexByte l 47=-1∧∀ b∈l,b≠47)∨(∃ k:Nat,Lib.indexByte l 47=k∧k<l.length∧(∀ b∈l.take k,b≠47)∧l=l.take k++47::l.drop (k+1)):=by
  have hge:=Lib.indexByte_ge l 47
  by_cases h:Lib.indexByte l 47=-1
  · refine .inl ⟨h,fun b hb e=>?_⟩
    obtain ⟨i,hi,rfl⟩:=List.getElem_of_mem hb
    exact Lib.indexByte_none h i (by rw [List.getElem?_eq_getElem hi,e])
  · obtain ⟨k,hk⟩:∃ k:Nat,Lib.indexByte l 47=k:=⟨(Lib.indexByte l 47).toNat,ω⟩
    obtain ⟨h1,h2⟩:=Lib.indexByte_some hk
    obtain ⟨h3,h4⟩:=List.getElem?_eq_some_iff.1 h1
    refine .inr ⟨k,hk,h3,fun b hb e=>?_,?_⟩
    · obtain ⟨i,hi,rfl⟩:=List.getElem_of_mem hb
      rw [List.length_take] at hi
      rw [List.getElem_take] at e
      exact h2 i ω (by rw [List.getElem?_eq_getElem ω,e])
    · rw [← h4,List.getElem_cons_drop,List.take_append_drop]
theorem SM (s:ByteArray) (w:World):Calls Tryz.prog 189 #[.string s,.int .u8 47] w fun e w'=>e=.returned (ν (Lib.indexByte s.data.toList 47))∧w=w':=by
  go_enter Tryz.func189,Tryz.ntmps189
  go_wp2
  rw [run_callFunc_extern Tryz.func191 κ κ κ (e:=Extern.BytealgIndexByte.indexByte) κ,Lib.run_indexByteString]
  simp only [Result.andThen]
  rw [Oper.upon_value]
  go_wp2
  go_ret
  exact ⟨rfl,rfl⟩
theorem SN (s:ByteArray) (w:World):Calls Tryz.prog 184 #[.string s,.string ⟨#[47]⟩] w fun e w'=>e=.returned (ν (Lib.indexByte s.data.toList 47))∧w=w':=by
  by_cases hs:s=⟨#[47]⟩
  · subst hs
    go_enter Tryz.func184,Tryz.ntmps184
    go_wp2_with fail
    go_ret
    exact ⟨GS (by decide +kernel),rfl⟩
  have e1:=LC s ⟨#[47]⟩
  rw [decide_eq_false hs,Qv] at e1
  have e2:=LC ⟨#[47]⟩ s
  rw [decide_eq_false (fun h=>hs h.symm),Qv] at e2
  have HI:=hid (fun w1=>SM s w1)
  clear hs
  go_enter Tryz.func184,Tryz.ntmps184
  go_wp2_with (go_at_call 189;refine (HI.out _).mono ?_;rintro e w1 ⟨rfl,rfl⟩)
  go_ret
  exact ⟨rfl,rfl⟩
theorem Oc (s:ByteArray) (w:World):Calls Tryz.prog 176 #[.string s,.string ⟨#[47]⟩] w fun e w'=>e=.returned (ν (Lib.indexByte s.data.toList 47))∧w=w':=by
  have HI:=hid (fun w1=>SN s w1)
  go_enter Tryz.func176,Tryz.ntmps176
  go_wp2_with (go_at_call 184;refine (HI.out _).mono ?_;rintro e w1 ⟨rfl,rfl⟩)
  go_ret
  exact ⟨rfl,rfl⟩
theorem OO (a:Option Addr) (c:Nat) (L:List ByteArray) (w:World) (h:Ko w a c L) :
    Calls Tryz.prog 140 #[.slice a L.length c] w fun e w'=>e=.returned (.bool (L.all DV))∧Below w.heap.size w w':=by
  have hl:=Zm h
  have HR:=hid h
  clear h
  go_enter Tryz.func140,Tryz.ntmps140
  go_wp2
  go_loopw [7] (fun i wr=>∃ j:Nat,j≤L.length∧i=ν j∧(L.take j).all DV=true∧Below w.heap.size w wr) (fun i _=>L.length-(intOf i).toNat)
  case atStart=>exact ⟨0,Nat.zero_le _,rfl,by simp,Below.refl _ _⟩
  case round=>
    obtain ⟨j,hj,rfl,hall,hb⟩:=hrel
    by_cases hlt:j<L.length
    · obtain ⟨b,off,rfl,hbl,hc⟩:=Jn (HR.out.mono hb) ω
      have cj:=hc j hlt
      have ij:(j:Int)<L.length:=ω
      have dj:decide ((j:Int)<(L.length:Int))=true:=decide_eq_true ij
      have hsn:(L.take (j+1)).all DV=DV L[j]:=by rw [List.take_succ_eq_append_getElem hlt,List.all_append,hall];simp
      have hbad:DV L[j]=false→L.all DV=false:=fun h=>by
        rw [List.all_eq_false];exact ⟨L[j],List.getElem_mem _,by rw [h];simp⟩
      have HM:=fun w1=>QB L[j] w1
      have HSN:=hid hsn;have HBAD:=hid hbad;have HB:=hid hb
      clear hc hsn hbad hall hb
      generalize L[j]=x at *
      cases hm:DV x with
      | true=>
        rw [hm] at HM HSN
        have HM:=hid HM
        clear hm
        go_wp2_with (go_at_call 162;refine (HM.out _).mono ?_;rintro e w1 ⟨rfl,b1⟩;have B1:=hid (Ae HB.out b1);clear b1)
        go_roundw
        case rel=>exact ⟨j+1,ω,by go_num,HSN.out,B1.out⟩
        case measure=>simp [intOf];omega
      | false=>
        rw [hm] at HM
        have HF:=hid (HBAD.out hm)
        have HM:=hid HM
        clear hm
        go_wp2_with (go_at_call 162;refine (HM.out _).mono ?_;rintro e w1 ⟨rfl,b1⟩;have B1:=hid (Ae HB.out b1);clear b1)
        go_ret
        exact ⟨Bq HF.out.symm,B1.out⟩
    · obtain rfl:j=L.length:=ω
      have dj:decide ((L.length:Int)<(L.length:Int))=false:=decide_eq_false ω
      rw [List.take_length] at hall
      have HALL:=hid hall
      clear hall
      go_wp2
      go_ret
      exact ⟨Bq HALL.out.symm,hb⟩
end
section
open Go.RowKit Go.Shelf
def RX (w:World) (X:List UInt8) (e:Ending) (w':World):Prop:=
  ∃ (a:Option Addr) (c:Nat) (R:List ByteArray),e=.returned (.slice a R.length c)∧Acx w' w.heap.size a c R∧Below w.heap.size w w' ∧
    ((R=(Bv X).map Ai∧R.length≤6)∨(6<(Bv X).length∧∃ x∈R,(47:UInt8)∈x.data.toList))
def Ae2 (n:Nat):List Value:=List.replicate n (.string ⟨#[]⟩)
theorem ZV (n:Nat):(Ae2 n).length=n:=List.length_replicate
def PF (L:List (List UInt8)) (n:Nat):List Value:=(L.map Ai).map WO++Ae2 (n-L.length)
theorem Gx (L:List (List UInt8)) {n:Nat} (h:L.length≤n):(PF L n).length=n:=by simp [PF,ZV];omega
theorem Rl (L:List (List UInt8)) {n:Nat} (h:L.length<n) (x:List UInt8):(PF L n).set L.length (σ x)=PF (L++[x]) n:=by
  unfold PF
  have hl:((L.map Ai).map WO).length=L.length:=by simp
  rw [List.set_append_right _ _ ω,hl,Nat.sub_self]
  unfold Ae2
  rw [show n-L.length=(n-(L++[x]).length)+1 by simp;omega,List.replicate_succ,List.set_cons_zero,List.map_append,List.map_append,List.append_assoc]
  rfl
theorem ID (L:List (List UInt8)) (n:Nat):(PF L n).take L.length=(L.map Ai).map WO:=by
  unfold PF
  exact List.take_left' (by simp)
theorem JC (l:List UInt8) (k:Nat):(Ai l).extract 0 k=Ai (l.take k):=by rw [LD,CK];simp
theorem Me (l:List UInt8) (k:Nat):(Ai l).extract k l.length=Ai (l.drop k):=by
  rw [LD,CK,List.take_of_length_le (by rw [List.length_drop];omega)]
theorem Pi (X:List UInt8) (hX:X.length≤1000) (w:World):Calls Tryz.prog 161 #[σ X,.string ⟨#[47]⟩,ν 0,ν 6] w (RX w X):=by
  have hsz:=CL X
  have hp1:=IB X
  by_cases h6:5≤X.length
  · have i6:(6:Int)≤(X.length:Int)+1:=ω
    go_enter Tryz.func161,Tryz.ntmps161
    go_wp2_with (refine Kl rfl (.tmp 30) (.tmp 30) rfl υ25 (z:=.string ⟨#[]⟩) (bytes:=16) κ rfl (n:=6) rfl rfl (by first | rfl | omega) (by first | rfl | omega) ω ω ?_;intro w1 k1 b1;have K1:=hid k1;have B1:=hid b1;clear k1 b1)
    clear hsz
    go_loopw [0,10] (fun sv i wr=>∃ (j:Nat) (cur:List UInt8) (out:List (List UInt8)),j<6∧sv=σ cur∧i=ν j∧out.length=j∧Bv X=out++Bv cur∧cur.length≤X.length∧Blk wr w.heap.size 9 (PF out (6))∧Below w.heap.size w wr) (fun _ i _=>6-(intOf i).toNat)
    case atStart=>exact ⟨0,X,[],ω,rfl,rfl,rfl,rfl,Nat.le_refl _,K1.out,B1.out⟩
    case round=>
      obtain ⟨j,cur,out,hj,rfl,rfl,hol,hpc,hcl,hk,hb⟩:=hrel
      have HOL:=hid hol;have HPC:=hid hpc;have HB:=hid hb;have HK:=hid hk
      have hrl:=Gx out (n:=6) ω
      have hrs:=fun x=>Rl out (n:=6) ω x
      have cj:∃ v,wr.cell? ⟨w.heap.size,j,none⟩=some v:=by rw [← hol];exact ⟨_,hk.cell (i:=out.length) (by rw [hrl,hol];omega)⟩
      obtain ⟨vj,cj⟩:=cj
      have fj:wr.frozen? ⟨w.heap.size,j,none⟩=false:=hk.frozen _
      have hlt:=hk.lt
      have HRS:=hid hrs
      have hcs:=CL cur
      have HI:=hid (fun w1=>Oc (Ai cur) w1)
      clear hol hpc hb hk hrl hrs
      have ijn:(j:Int)<((6:Nat):Int):=ω
      have e0:IntKind.i64.wrap ((j:Int)+1)=j+1:=IntWalk.i64_in _ ω
      by_cases hlast:j+1=6
      · have dl:decide ((j:Int)<5)=false:=decide_eq_false ω
        have il:¬ (j:Int)<5:=ω
        have HLAST:=hid hlast
        clear hlast
        go_wp2_with fail
        have hlast:=HLAST.out
        have q:=HK.out.set j (σ cur)
        have hr:=HRS.out cur
        rw [HOL.out] at hr
        rw [hr] at q
        have hpc2:=HPC.out
        go_ret
        refine ⟨some ⟨w.heap.size,0,none⟩,6,(out++[cur]).map Ai,?_,?_,HB.out.setCell (p:=⟨w.heap.size,j,none⟩) (Nat.le_refl _) _,?_⟩
        · have hlen:((out++[cur]).map Ai).length=j+1:=by rw [List.length_map,List.length_append,HOL.out];rfl
          rw [hlen];rfl
        · have hlen:(out++[cur]).length=j+1:=by rw [List.length_append,HOL.out];rfl
          have qq:=Own.of_blk (B:=w.heap.size) (sz:=1) (n:=j+1) (c:=6) q (Nat.le_refl _) ω (by unfold maxLen;omega) (by rw [Gx _ (by have:=HOL.out;simp;omega)];try omega)
          rw [Nat.mul_one,← hlen,ID] at qq
          show Own _ _ _ 1 _ ((out++[cur]).map Ai).length _ _
          rw [List.length_map]
          exact qq
        · rcases FV cur with ⟨_,hno⟩ | ⟨k,hk1,hk2,hk3,hk4⟩
          · have hp:=EH hno
            rw [hp] at hpc2
            exact .inl ⟨by rw [hpc2],by rw [List.length_map,List.length_append,HOL.out];simp;omega⟩
          · refine .inr ⟨?_,Ai cur,by simp,by rw [CK,hk4];simp⟩
            have hp:=Gs (cur.take k) (cur.drop (k+1)) hk3
            rw [← hk4] at hp
            rw [hp] at hpc2
            have h1:(Bv X).length=out.length+(1+(Bv (cur.drop (k+1))).length):=by rw [hpc2];simp;omega
            have h2:=List.length_pos_iff.2 (Oo (cur.drop (k+1)))
            have h3:=HOL.out
            have h4:=IB X
            omega
      · have dl:decide ((j:Int)<5)=true:=decide_eq_true ω
        have il:(j:Int)<5:=ω
        rcases FV cur with ⟨hm,hno⟩ | ⟨k,hm,hk2,hk3,hk4⟩
        · rw [CK,hm] at HI
          have HNO:=hid hno
          clear hno hm
          go_wp2_with (go_at_call 176;refine (HI.out _).mono ?_;rintro e w2 ⟨rfl,rfl⟩)
          have q:=HK.out.set j (σ cur)
          have hr:=HRS.out cur
          rw [HOL.out] at hr
          rw [hr] at q
          have hpc2:=HPC.out
          go_ret
          refine ⟨some ⟨w.heap.size,0,none⟩,6,(out++[cur]).map Ai,?_,?_,HB.out.setCell (p:=⟨w.heap.size,j,none⟩) (Nat.le_refl _) _,?_⟩
          · have hlen:((out++[cur]).map Ai).length=j+1:=by rw [List.length_map,List.length_append,HOL.out];rfl
            rw [hlen];rfl
          · have hlen:(out++[cur]).length=j+1:=by rw [List.length_append,HOL.out];rfl
            have qq:=Own.of_blk (B:=w.heap.size) (sz:=1) (n:=j+1) (c:=6) q (Nat.le_refl _) ω (by unfold maxLen;omega) (by rw [Gx _ (by have:=HOL.out;simp;omega)];try omega)
            rw [Nat.mul_one,← hlen,ID] at qq
            show Own _ _ _ 1 _ ((out++[cur]).map Ai).length _ _
            rw [List.length_map]
            exact qq
          · have hp:=EH HNO.out
            rw [hp] at hpc2
            exact .inl ⟨by rw [hpc2],by rw [List.length_map,List.length_append,HOL.out];simp;omega⟩
        · rw [CK,hm] at HI
          have hp:=Gs (cur.take k) (cur.drop (k+1)) hk3
          rw [← hk4] at hp
          have HP:=hid hp
          have x1:=JC cur k
          have x2:=Me cur (k+1)
          have ik:(k:Int)<cur.length:=ω
          have ik2:(k:Int)+1≤cur.length:=ω
          clear hk4 hk3 hm hp
          go_wp2_with (go_at_call 176;refine (HI.out _).mono ?_;rintro e w2 ⟨rfl,rfl⟩)
          go_roundw
          case rel=>
            refine ⟨j+1,cur.drop (k+1),out++[cur.take k],ω,rfl,by go_num,by rw [List.length_append,HOL.out];rfl,by rw [HPC.out,HP.out,List.append_assoc];rfl,by rw [List.length_drop];omega,?_,HB.out.setCell (p:=⟨w.heap.size,j,none⟩) (Nat.le_refl _) _⟩
            have q:=HK.out.set j (σ (cur.take k))
            have hr:=HRS.out (cur.take k)
            rw [HOL.out] at hr
            rw [hr] at q
            exact q
          case measure=>simp [intOf];omega
  · have i6:¬ (6:Int)≤(X.length:Int)+1:=ω
    go_enter Tryz.func161,Tryz.ntmps161
    go_wp2_with (refine Kl rfl (.tmp 30) (.tmp 30) rfl υ25 (z:=.string ⟨#[]⟩) (bytes:=16) κ rfl (n:=(X.length+1)) rfl rfl (by first | rfl | omega) (by first | rfl | omega) ω ω ?_;intro w1 k1 b1;have K1:=hid k1;have B1:=hid b1;clear k1 b1)
    clear hsz
    go_loopw [0,10] (fun sv i wr=>∃ (j:Nat) (cur:List UInt8) (out:List (List UInt8)),j<(X.length+1)∧sv=σ cur∧i=ν j∧out.length=j∧Bv X=out++Bv cur∧cur.length≤X.length∧Blk wr w.heap.size 9 (PF out ((X.length+1)))∧Below w.heap.size w wr) (fun _ i _=>(X.length+1)-(intOf i).toNat)
    case atStart=>exact ⟨0,X,[],ω,rfl,rfl,rfl,rfl,Nat.le_refl _,K1.out,B1.out⟩
    case round=>
      obtain ⟨j,cur,out,hj,rfl,rfl,hol,hpc,hcl,hk,hb⟩:=hrel
      have HOL:=hid hol;have HPC:=hid hpc;have HB:=hid hb;have HK:=hid hk
      have hrl:=Gx out (n:=(X.length+1)) ω
      have hrs:=fun x=>Rl out (n:=(X.length+1)) ω x
      have cj:∃ v,wr.cell? ⟨w.heap.size,j,none⟩=some v:=by rw [← hol];exact ⟨_,hk.cell (i:=out.length) (by rw [hrl,hol];omega)⟩
      obtain ⟨vj,cj⟩:=cj
      have fj:wr.frozen? ⟨w.heap.size,j,none⟩=false:=hk.frozen _
      have hlt:=hk.lt
      have HRS:=hid hrs
      have hcs:=CL cur
      have HI:=hid (fun w1=>Oc (Ai cur) w1)
      clear hol hpc hb hk hrl hrs
      have ijn:(j:Int)<(((X.length+1):Nat):Int):=ω
      have e0:IntKind.i64.wrap ((j:Int)+1)=j+1:=IntWalk.i64_in _ ω
      by_cases hlast:j+1=(X.length+1)
      · have dl:decide ((j:Int)<(X.length:Int))=false:=decide_eq_false ω
        have il:¬ (j:Int)<(X.length:Int):=ω
        have HLAST:=hid hlast
        clear hlast
        go_wp2_with fail
        have hlast:=HLAST.out
        have q:=HK.out.set j (σ cur)
        have hr:=HRS.out cur
        rw [HOL.out] at hr
        rw [hr] at q
        have hpc2:=HPC.out
        go_ret
        refine ⟨some ⟨w.heap.size,0,none⟩,(X.length+1),(out++[cur]).map Ai,?_,?_,HB.out.setCell (p:=⟨w.heap.size,j,none⟩) (Nat.le_refl _) _,?_⟩
        · have hlen:((out++[cur]).map Ai).length=j+1:=by rw [List.length_map,List.length_append,HOL.out];rfl
          rw [hlen];rfl
        · have hlen:(out++[cur]).length=j+1:=by rw [List.length_append,HOL.out];rfl
          have qq:=Own.of_blk (B:=w.heap.size) (sz:=1) (n:=j+1) (c:=(X.length+1)) q (Nat.le_refl _) ω (by unfold maxLen;omega) (by rw [Gx _ (by have:=HOL.out;simp;omega)];try omega)
          rw [Nat.mul_one,← hlen,ID] at qq
          show Own _ _ _ 1 _ ((out++[cur]).map Ai).length _ _
          rw [List.length_map]
          exact qq
        · rcases FV cur with ⟨_,hno⟩ | ⟨k,hk1,hk2,hk3,hk4⟩
          · have hp:=EH hno
            rw [hp] at hpc2
            exact .inl ⟨by rw [hpc2],by rw [List.length_map,List.length_append,HOL.out];simp;omega⟩
          · refine .inr ⟨?_,Ai cur,by simp,by rw [CK,hk4];simp⟩
            have hp:=Gs (cur.take k) (cur.drop (k+1)) hk3
            rw [← hk4] at hp
            rw [hp] at hpc2
            have h1:(Bv X).length=out.length+(1+(Bv (cur.drop (k+1))).length):=by rw [hpc2];simp;omega
            have h2:=List.length_pos_iff.2 (Oo (cur.drop (k+1)))
            have h3:=HOL.out
            have h4:=IB X
            omega
      · have dl:decide ((j:Int)<(X.length:Int))=true:=decide_eq_true ω
        have il:(j:Int)<(X.length:Int):=ω
        rcases FV cur with ⟨hm,hno⟩ | ⟨k,hm,hk2,hk3,hk4⟩
        · rw [CK,hm] at HI
          have HNO:=hid hno
          clear hno hm
          go_wp2_with (go_at_call 176;refine (HI.out _).mono ?_;rintro e w2 ⟨rfl,rfl⟩)
          have q:=HK.out.set j (σ cur)
          have hr:=HRS.out cur
          rw [HOL.out] at hr
          rw [hr] at q
          have hpc2:=HPC.out
          go_ret
          refine ⟨some ⟨w.heap.size,0,none⟩,(X.length+1),(out++[cur]).map Ai,?_,?_,HB.out.setCell (p:=⟨w.heap.size,j,none⟩) (Nat.le_refl _) _,?_⟩
          · have hlen:((out++[cur]).map Ai).length=j+1:=by rw [List.length_map,List.length_append,HOL.out];rfl
            rw [hlen];rfl
          · have hlen:(out++[cur]).length=j+1:=by rw [List.length_append,HOL.out];rfl
            have qq:=Own.of_blk (B:=w.heap.size) (sz:=1) (n:=j+1) (c:=(X.length+1)) q (Nat.le_refl _) ω (by unfold maxLen;omega) (by rw [Gx _ (by have:=HOL.out;simp;omega)];try omega)
            rw [Nat.mul_one,← hlen,ID] at qq
            show Own _ _ _ 1 _ ((out++[cur]).map Ai).length _ _
            rw [List.length_map]
            exact qq
          · have hp:=EH HNO.out
            rw [hp] at hpc2
            exact .inl ⟨by rw [hpc2],by rw [List.length_map,List.length_append,HOL.out];simp;omega⟩
        · rw [CK,hm] at HI
          have hp:=Gs (cur.take k) (cur.drop (k+1)) hk3
          rw [← hk4] at hp
          have HP:=hid hp
          have x1:=JC cur k
          have x2:=Me cur (k+1)
          have ik:(k:Int)<cur.length:=ω
          have ik2:(k:Int)+1≤cur.length:=ω
          clear hk4 hk3 hm hp
          go_wp2_with (go_at_call 176;refine (HI.out _).mono ?_;rintro e w2 ⟨rfl,rfl⟩)
          go_roundw
          case rel=>
            refine ⟨j+1,cur.drop (k+1),out++[cur.take k],ω,rfl,by go_num,by rw [List.length_append,HOL.out];rfl,by rw [HPC.out,HP.out,List.append_assoc];rfl,by rw [List.length_drop];omega,?_,HB.out.setCell (p:=⟨w.heap.size,j,none⟩) (Nat.le_refl _) _⟩
            have q:=HK.out.set j (σ (cur.take k))
            have hr:=HRS.out (cur.take k)
            rw [HOL.out] at hr
            rw [hr] at q
            exact q
          case measure=>simp [intOf];omega
end
section
open Go.RowKit Go.Shelf
def KD (rest:List UInt8):Option (List ByteArray):=if (Bv rest).length≤6∧((Bv rest).map Ai).all DV=true then some ((Bv rest).map Ai) else none
def Ov:List UInt8→Option (List ByteArray)
  | b::r=>if b=47 then KD r else none
  | []=>none
def Cp (X:List UInt8):Option (List ByteArray):=if X=[47] then some [] else Ov X
def erO (o:Option (List ByteArray)):Int:=match o with | some _=>0 | none=>15
def Ud (w:World) (o:Option (List ByteArray)) (e:Ending) (w':World):Prop:=
  ∃ a c,e=.returned (.tuple #[.slice a (o.getD []).length c,ν (erO o)])∧Acx w' w.heap.size a c (o.getD [])∧Below w.heap.size w w'
theorem IV {w w':World} {o:Option (List ByteArray)} {e:Ending} (ho:o=none) (he:e=.returned (.tuple #[.slice none 0 0,ν 15])) (hb:Below w.heap.size w w'):Ud w o e w':=by
  subst ho;exact ⟨none,0,he,Own.nil _ _ _ _,hb⟩
theorem RV {w w':World} {o:Option (List ByteArray)} {e:Ending} (ho:o=some []) (he:e=.returned (.tuple #[.slice none 0 0,ν 0])) (hb:Below w.heap.size w w'):Ud w o e w':=by
  subst ho;exact ⟨none,0,he,Own.nil _ _ _ _,hb⟩
theorem RW {w w':World} {o:Option (List ByteArray)} {e:Ending} {L:List ByteArray} {a:Option Addr} {c:Nat} (ho:o=some L) (he:e=.returned (.tuple #[.slice a L.length c,ν 0])) (h:Acx w' w.heap.size a c L) (hb:Below w.heap.size w w'):Ud w o e w':=by
  subst ho;exact ⟨a,c,he,h,hb⟩
theorem Pq {x:ByteArray} (h:(47:UInt8)∈x.data.toList):DV x=false:=by
  have:RY x=false:=by
    unfold RY
    rw [List.all_eq_false]
    exact ⟨47,h,by decide⟩
  unfold DV;rw [this];simp
theorem TM (X:List UInt8) (hX:X.length≤1000) (w:World):Calls Tryz.prog 139 #[σ X,.string ⟨#[47]⟩,ν 6] w (RX w X):=by
  have HG:=Pi X hX w
  unfold RX at HG ⊢
  have HG:=hid HG
  go_enter Tryz.func139,Tryz.ntmps139
  go_wp2_with (go_at_call 161;fail)
  refine (HG.out).mono ?_
  rintro e w1 ⟨a,c,R,rfl,o,b,h⟩
  have O:=hid o;have B:=hid b;have H:=hid h
  clear o b h
  go_wp2_with fail
  go_ret
  exact ⟨a,c,R,rfl,O.out,B.out,H.out⟩
theorem Sm (r:List UInt8) (w:World):Calls Tryz.prog 138 #[.string (Ai (47::r)),.string ⟨#[47]⟩] w fun e w'=>e=.returned (.tuple #[.string (Ai r),.bool true])∧w=w':=by
  have x1:(Ai (47::r)).extract 0 1=⟨#[47]⟩:=by rw [JC];rfl
  have x2:(Ai (47::r)).extract 1 (r.length+1)=Ai r:=Me (47::r) 1
  have hs:(Ai (47::r)).size=r.length+1:=CL _
  generalize Ai (47::r)=s at *
  have d1:decide ((1:Int)≤(r.length:Int)+1)=true:=decide_eq_true (by omega)
  have i1:(1:Int)≤((r.length+1:Nat):Int):=by omega
  have HX2:=hid x2;have HS:=hid hs
  have x3:s.extract 1 s.size=Ai r:=by rw [hs];exact x2
  have i2:(1:Int)≤s.size:=by omega
  have d2:decide ((1:Int)≤(s.size:Int))=true:=decide_eq_true i2
  clear x2 hs d1 i1
  go_enter Tryz.func138,Tryz.ntmps138
  go_wp2
  go_ret2
  exact ⟨rfl,rfl⟩
theorem NV (X:List UInt8) (hX:∀ b r,X=b::r→b≠47) (w:World):Calls Tryz.prog 138 #[.string (Ai X),.string ⟨#[47]⟩] w fun e w'=>e=.returned (.tuple #[.string (Ai X),.bool false])∧w=w':=by
  cases X with
  | nil=>
    have hs:(Ai []).size=0:=rfl
    generalize Ai []=s at *
    go_enter Tryz.func138,Tryz.ntmps138
    go_wp2
    go_ret2
    exact ⟨rfl,rfl⟩
  | cons b r=>
    have hb:¬ b=47:=hX b r rfl
    have x1:(Ai (b::r)).extract 0 1=⟨#[b]⟩:=by rw [JC];rfl
    have hs:(Ai (b::r)).size=r.length+1:=CL _
    generalize Ai (b::r)=s at *
    have i2:(1:Int)≤s.size:=ω
    have d2:decide ((1:Int)≤(s.size:Int))=true:=decide_eq_true i2
    have e1:((⟨#[b]⟩:ByteArray).toList == [47])=false:=by rw [Qv];simpa using hb
    have e2:([b] == [(47:UInt8)])=false:=by simpa using hb
    have e3:=Qv b
    clear hs hX
    go_enter Tryz.func138,Tryz.ntmps138
    go_wp2
    go_ret2
    exact ⟨rfl,rfl⟩
end
section
open Go.RowKit Go.Shelf
theorem WL {X:List UInt8} {R:List ByteArray} (h:(R=(Bv X).map Ai∧R.length≤6)∨(6<(Bv X).length∧∃ x∈R,(47:UInt8)∈x.data.toList)) :
    (R.all DV=true∧KD X=some R)∨(R.all DV=false∧KD X=none):=by
  rcases h with ⟨rfl,h6⟩ | ⟨h6,x,hx,hs⟩
  · rw [List.length_map] at h6
    cases ha:((Bv X).map Ai).all DV with
    | true=>exact .inl ⟨rfl,if_pos ⟨h6,ha⟩⟩
    | false=>exact .inr ⟨rfl,if_neg (fun q=>by rw [ha] at q;cases q.2)⟩
  · refine .inr ⟨?_,if_neg (fun q=>ω)⟩
    rw [List.all_eq_false]
    exact ⟨x,hx,by rw [Pq hs];simp⟩
theorem JU (X:List UInt8) (hX:X.length≤1000) (w:World):Calls Tryz.prog 111 #[σ X] w (Ud w (Cp X)):=by
  by_cases h0:X=[47]
  · subst h0
    have HO:Hid (Cp [47]=some []):=if_pos rfl
    have hl:=Oe [47]
    go_enter Tryz.func111,Tryz.ntmps111
    go_wp2_with fail
    go_ret2
    exact RV HO.out rfl (Below.refl _ _)
  · have e1:((Ai X).toList == [(47:UInt8)])=false:=by rw [Oe];simpa using h0
    have hp:Cp X=Ov X:=if_neg h0
    cases X with
    | nil=>
      have HO:=hid (show Cp []=none from hp)
      have HC:=hid (fun w1=>NV [] (fun b r h=>by cases h) w1)
      clear hp h0
      go_enter Tryz.func111,Tryz.ntmps111
      go_wp2_with (go_at_call 138;refine (HC.out _).mono ?_;rintro e w1 ⟨rfl,rfl⟩)
      go_ret2
      exact IV HO.out rfl (Below.refl _ _)
    | cons b r=>
      by_cases hb:b=47
      · subst hb
        have HO:=hid (show Cp (47::r)=KD r from hp.trans (by simp [Ov]))
        have HC:=hid (fun w1=>Sm r w1)
        have hr:r.length≤1000:=by simp at hX;omega
        have HS:=hid (fun w1=>TM r hr w1)
        clear hp h0 hX hr
        go_enter Tryz.func111,Tryz.ntmps111
        go_wp2_with (first
          | (go_at_call 138;refine (HC.out _).mono ?_;rintro e w1 ⟨rfl,rfl⟩)
          | (go_at_call 139;fail))
        refine (HS.out w).mono ?_
        rintro e w1 ⟨a,c,R,rfl,o,bb,h⟩
        have h2:=WL h
        have O:=hid o;have B:=hid bb
        have HA:=fun w2 (q:Ko w2 a c R)=>OO a c R w2 q
        clear o bb h
        rcases h2 with ⟨ha,hn⟩ | ⟨ha,hn⟩
        · rw [ha] at HA
          have HA:=hid HA;have HN:=hid hn
          clear ha hn
          go_wp2_with (go_at_call 140;refine (HA.out _ O.out.row).mono ?_;rintro e w2 ⟨rfl,b2⟩;have O2:=hid (O.out.mono b2);have B2:=hid (Ae B.out b2);clear b2)
          go_ret2
          exact RW (by rw [HO.out,HN.out]) rfl O2.out B2.out
        · rw [ha] at HA
          have HA:=hid HA;have HN:=hid hn
          clear ha hn
          go_wp2_with (go_at_call 140;refine (HA.out _ O.out.row).mono ?_;rintro e w2 ⟨rfl,b2⟩;have B2:=hid (Ae B.out b2);clear b2)
          go_ret2
          exact IV (by rw [HO.out,HN.out]) rfl B2.out
      · have HO:=hid (show Cp (b::r)=none from hp.trans (by simp [Ov,hb]))
        have HC:=hid (fun w1=>NV (b::r) (fun b' r' h=>by cases h;exact hb) w1)
        clear hp h0 hb
        go_enter Tryz.func111,Tryz.ntmps111
        go_wp2_with (go_at_call 138;refine (HC.out _).mono ?_;rintro e w1 ⟨rfl,rfl⟩)
        go_ret2
        exact IV HO.out rfl (Below.refl _ _)
def Ag1 (w:World) (o:Option (List ByteArray)) (e:Ending) (w':World):Prop:=
  (∃ (L:List ByteArray) (x:ByteArray) (a:Option Addr) (c:Nat),o=some (L++[x])∧c=L.length∧e=.returned (.tuple #[.slice a L.length c,.string x,ν 0])∧Ko w' a c L∧Below w.heap.size w w') ∨
  ((o=none∨o=some [])∧e=.returned (.tuple #[.slice none 0 0,.string ⟨#[]⟩,ν 15])∧Below w.heap.size w w')
theorem Jp {α:Type} (L:List α):L=[]∨∃ A x,L=A++[x]:=by
  rcases List.eq_nil_or_concat L with h | ⟨A,x,h⟩
  · exact .inl h
  · exact .inr ⟨A,x,by rw [h];simp⟩
theorem Tq (X:List UInt8) (hX:X.length≤1000) (w:World):Calls Tryz.prog 82 #[σ X] w (Ag1 w (Cp X)):=by
  have HP:=hid (JU X hX w)
  cases ho:Cp X with
  | none=>
    rw [ho] at HP
    go_enter Tryz.func82,Tryz.ntmps82
    go_wp2_with (go_at_call 111;fail)
    refine (HP.out).mono ?_
    rintro e w1 ⟨a,c,rfl,o,b⟩
    have B:=hid b
    clear o b
    simp only [erO,Option.getD_none,List.length_nil]
    go_wp2_with fail
    go_ret3
    exact .inr ⟨.inl rfl,rfl,B.out⟩
  | some L=>
    rw [ho] at HP
    rcases Jp L with rfl | ⟨A,x,rfl⟩
    · go_enter Tryz.func82,Tryz.ntmps82
      go_wp2_with (go_at_call 111;fail)
      refine (HP.out).mono ?_
      rintro e w1 ⟨a,c,rfl,o,b⟩
      have B:=hid b
      clear o b
      simp only [erO,Option.getD_some,List.length_nil]
      go_wp2_with fail
      go_ret3
      exact .inr ⟨.inr rfl,rfl,B.out⟩
    · go_enter Tryz.func82,Tryz.ntmps82
      go_wp2_with (go_at_call 111;fail)
      refine (HP.out).mono ?_
      rintro e w1 ⟨a,c,rfl,o,b⟩
      have O:=hid o;have B:=hid b
      clear o b
      simp only [erO,Option.getD_some]
      simp only [Option.getD_some] at O
      have hl:(A++[x]).length=A.length+1:=by simp
      rw [hl]
      have hrow:Ko w1 a c (A++[x]):=O.out.row
      obtain ⟨g,off,rfl,hg,hc⟩:=Jn hrow ω
      have hlc:A.length+1≤c:=by have:=hrow.2.1;rw [hl] at this;exact this
      have hc9:c≤9223372036854775807:=by have:=hrow.2.2.1;unfold maxLen at this;exact this
      have cx:=hc A.length ω
      have hx:(A++[x])[A.length]' ω=x:=by simp
      rw [hx] at cx
      have HROW:=hid hrow
      clear hc hx hrow hl
      have i1:(A.length:Int)<(A.length:Int)+1:=ω
      have i2:(A.length:Int)≤c:=ω
      have i3:(0:Int)≤A.length:=ω
      go_wp2_with fail
      go_quiet (fail)
      go_wp2_with fail
      go_ret3
      refine .inl ⟨A,x,some ⟨g,off,none⟩,A.length,rfl,rfl,rfl,?_,Gg B.out _⟩
      obtain ⟨h1,h2,h3,h4,h5⟩:=HROW.out
      refine ⟨by simp,Nat.le_refl _,by unfold maxLen;omega,(fun h=>by cases h),fun hn=>?_⟩
      obtain ⟨b',o',e',hb',hc'⟩:=h5 (by simp)
      refine ⟨b',o',e',hb',fun j u hu=>hc' j u ?_⟩
      rw [List.map_append,List.getElem?_append_left (by have:=(List.getElem?_eq_some_iff.1 hu).1;exact this)]
      exact hu
end
section
def Mx:List UInt8:=[67,77,78,49,0,0,0,0]
def Aik:Int:=1152921504606846976
def Ms (n:Int):List UInt8:=if btw n 1152921504606846976 then Nb (BS Mx [(n,8)]) else []
theorem Lu {n:Int} (h:btw n 1152921504606846976=true):(BS Mx [(n,8)]).length=16:=by
  have h':0≤n:=by unfold btw at h;simp at h;exact h.1
  simp [BS,AC,By,h',AA,Mx]
theorem MY (w:World) (fs:List (Int×Int)) (e:TypeId) (h:fs.length≤1000):Row (w.alloc (.cells (CB fs).toArray e)) 2 (some ⟨w.heap.size,0,none⟩) fs.length fs.length (CB fs):=by
  refine ⟨JD fs,Nat.le_refl _,by unfold maxLen;omega,fun h=>by (cases h),fun _=>⟨w.heap.size,0,rfl,by simp,fun j u hu=>?_⟩⟩
  have hh:=heap_alloc_new w (.cells (CB fs).toArray e)
  unfold World.cell?
  rw [show (⟨w.heap.size,0+j,none⟩:Addr).block=w.heap.size from rfl,hh]
  simpa using hu
theorem Rc (n:Int) (w:World) (hn:n≤9223372036854775807) :
    Calls Tryz.prog 51 #[ν n] w fun e w'=>∃ a c,e=.returned (.tuple #[.slice a (Ms n).length c,ν (if btw n 1152921504606846976 then 0 else 1)])∧Ca w' w.heap.size a c (Ms n)∧Below w.heap.size w w':=by
  by_cases hb:btw n 1152921504606846976=true
  · have hL:Ms n=Nb (BS Mx [(n,8)]):=by unfold Ms;rw [if_pos hb]
    have hE:(if btw n 1152921504606846976 then (0:Int) else 1)=0:=if_pos hb
    have hl:=Lu hb
    have hl60:(BS Mx [(n,8)]).length≤60:=ω
    rw [hL,hE]
    have HB:=hid hb;have HL:=hid hl60
    clear hb hL hE hl hl60
    go_enter Tryz.func51,Tryz.ntmps51
    go_wp2_with fail
    refine (Hl _ _ _).mono ?_
    rintro e w1 ⟨rfl,rfl⟩
    rw [HB.out]
    go_wp2_with fail
    refine (Rw ⟨#[67,77,78,49,0,0,0,0]⟩ _ _ [(n,8)] _ (by decide) (MY w [(n,8)] 147 (by simp)) (by simp) (by simp) (by simpa using hn) HL.out).mono ?_
    rintro e w2 ⟨a2,c2,rfl,o2,b2⟩
    go_wp2_with fail
    go_ret2
    exact ⟨a2,c2,rfl,o2.low (by simp),AO ((Below.refl _ w).alloc (Nat.le_refl _) _) b2 (by simp)⟩
  · have hb':btw n 1152921504606846976=false:=by simpa using hb
    have hL:Ms n=[]:=by unfold Ms;rw [if_neg hb]
    have hE:(if btw n 1152921504606846976 then (0:Int) else 1)=1:=if_neg hb
    rw [hL,hE]
    have HB:=hid hb'
    clear hb hL hE hb'
    go_enter Tryz.func51,Tryz.ntmps51
    go_wp2_with fail
    refine (Hl _ _ _).mono ?_
    rintro e w1 ⟨rfl,rfl⟩
    rw [HB.out]
    go_wp2_with fail
    go_ret2
    exact ⟨none,0,rfl,Own.nil _ _ _ _,Below.refl _ _⟩
def He (e h r er i wr:Int):List (Int×Int):=[(e,4),(h,4),(r,8),(er,1),(i,1),(wr,8)]
def Nk (e h r er i wr:Int):List UInt8:=if Pr e h r er i wr then Nb (BS [] (He e h r er i wr)) else []
theorem YH {e h r er i wr:Int} (hm:Pr e h r er i wr=true):0≤e∧e≤1073741824∧0≤h∧h≤1024∧0≤r∧r≤1099511627776∧0≤wr∧wr≤1099511627776∧0≤er∧er≤255∧0≤i∧i≤32:=by
  unfold Pr at hm;exact of_decide_eq_true hm
theorem Zc (e h r er i wr:Int) (w:World) :
    Calls Tryz.prog 50 #[UV e h r er i wr] w fun en w'=>∃ a c,en=.returned (.tuple #[.slice a (Nk e h r er i wr).length c,ν (if Pr e h r er i wr then 0 else 1)])∧Ca w' w.heap.size a c (Nk e h r er i wr)∧Below w.heap.size w w':=by
  have hmay:=fun w1=>Aa9 e h r er i wr w1
  unfold UV at *
  by_cases hb:Pr e h r er i wr=true
  · have hL:Nk e h r er i wr=Nb (BS [] (He e h r er i wr)):=by unfold Nk;rw [if_pos hb]
    have hE:(if Pr e h r er i wr then (0:Int) else 1)=0:=if_pos hb
    have hl60:(BS [] (He e h r er i wr)).length≤60:=by
      have:=Ha [] (He e h r er i wr)
      simp [He] at this ⊢;omega
    have h9:∀ f∈He e h r er i wr,f.1≤9223372036854775807:=by
      have:=YH hb
      intro f hf;simp [He] at hf
      rcases hf with rfl | rfl | rfl | rfl | rfl | rfl<;>simp<;>omega
    rw [hL,hE]
    have HB:=hid hb;have HL:=hid hl60;have H9:=hid h9;have HM:=hid hmay
    clear hb hL hE hl60 h9 hmay
    go_enter Tryz.func50,Tryz.ntmps50
    go_wp2_with fail
    refine (HM.out _).mono ?_
    rintro en w1 ⟨rfl,b1⟩
    rw [HB.out]
    have H0:Blk (w.alloc (.cells #[ν e,ν h,ν r,ν er,ν i,ν wr] 111)) w.heap.size 111 [ν e,ν h,ν r,ν er,ν i,ν wr]:=heap_alloc_new w _
    have H1:=Blk.mono H0 b1
    have k0:=Blk.cell H1 (i:=0) (by simp)
    have k1:=Blk.cell H1 (i:=1) (by simp)
    have k2:=Blk.cell H1 (i:=2) (by simp)
    have k3:=Blk.cell H1 (i:=3) (by simp)
    have k4:=Blk.cell H1 (i:=4) (by simp)
    have k5:=Blk.cell H1 (i:=5) (by simp)
    simp only [List.getElem_cons_zero,List.getElem_cons_succ] at k0 k1 k2 k3 k4 k5
    have B1:=hid (AO ((Below.refl _ w).alloc (Nat.le_refl _) _) b1 (by simp))
    clear H0 H1 b1 HM
    go_wp2_with fail
    refine (Rw ⟨#[]⟩ _ _ (He e h r er i wr) _ (by decide) (MY w1 (He e h r er i wr) 147 (by simp [He])) (by simp [He]) (by simp [He]) H9.out HL.out).mono ?_
    rintro en w2 ⟨a2,c2,rfl,o2,b2⟩
    go_wp2_with fail
    go_ret2
    exact ⟨a2,c2,rfl,o2.low (Nat.le_trans B1.out.size (by simp)),AO (B1.out.alloc B1.out.size _) b2 (Nat.le_trans B1.out.size (by simp))⟩
  · have hb':Pr e h r er i wr=false:=by simpa using hb
    have hL:Nk e h r er i wr=[]:=by unfold Nk;rw [if_neg hb]
    have hE:(if Pr e h r er i wr then (0:Int) else 1)=1:=if_neg hb
    rw [hL,hE]
    have HB:=hid hb';have HM:=hid hmay
    clear hb hL hE hb' hmay
    go_enter Tryz.func50,Tryz.ntmps50
    go_wp2_with fail
    refine (HM.out _).mono ?_
    rintro en w1 ⟨rfl,b1⟩
    rw [HB.out]
    go_wp2_with fail
    go_ret2
    exact ⟨none,0,rfl,Own.nil _ _ _ _,AO ((Below.refl _ w).alloc (Nat.le_refl _) _) b1 (by simp)⟩
def Aic (xs:List UInt8):Bool:=decide (64≤xs.length∧AX xs 60 4=some (CO (xs.take 60)))
def chk (xs:List UInt8):Int:=if 64≤xs.length then (if AX xs 60 4=some (CO (xs.take 60)) then 0 else 4) else 3
end
section
def InoT.setB (x:InoT) (k:Nat) (n:Int):InoT:=match k with
  | 0=>{ x with b0:=n }
  | 1=>{ x with b1:=n }
  | 2=>{ x with b2:=n }
  | _=>{ x with b3:=n }
theorem AB {t:List EntT} (h:t.length=16) (k:Int) (bs:List UInt8):(Ft t k bs).1.length=16:=by
  unfold Ft
  split
  · rename_i hk
    split
    · exact h
    · unfold ZI
      split
      · rename_i es he
        have:=PB _ _ he;show (splice t (4*k.toNat) es).length=16;rw [length_splice _ _ _ ω];exact h
      · exact h
  · exact h
def BD (M:MemM) (P:List PtM) (x:InoT):Nat→List EntT×Int
  | 0=>(Bo,0)
  | k+1=>if (BD M P x k).2=0 then (if x.blk k=0 then BD M P x k else Ft (BD M P x k).1 k (Bc M P 7 (x.blk k))) else BD M P x k
theorem Ag (M:MemM) (P:List PtM) (x:InoT):∀ k,(BD M P x k).1.length=16
  | 0=>Av
  | k+1=>by
    have ih:=Ag M P x k
    unfold BD;split
    · split
      · exact ih
      · exact AB ih _ _
    · exact ih
theorem Nq {M:MemM} {P:List PtM} {x:InoT} {k:Nat} (h:(BD M P x k).2≠0):∀ m,k≤m→(BD M P x m).2≠0
  | 0,hm=>by
    have:k=0:=ω
    subst this;exact h
  | m+1,hm=>by
    by_cases e:k=m+1
    · subst e;exact h
    · have ih:=Nq h m (by omega)
      unfold BD;rw [if_neg ih];exact ih
def Ar (M:MemM) (P:List PtM) (i:Int):List EntT:=
  if AT M P i≠0 then Bo else if (Am M P i).k≠2 then Bo else if (BD M P (Am M P i) 4).2=0 then (BD M P (Am M P i) 4).1 else Bo
def BL (M:MemM) (P:List PtM) (i:Int):Int:=
  if AT M P i≠0 then AT M P i else if (Am M P i).k≠2 then 12 else if (BD M P (Am M P i) 4).2=0 then 0 else 36
theorem Ah (M:MemM) (P:List PtM) (i:Int):(Ar M P i).length=16:=by
  unfold Ar;split
  · exact Av
  · split
    · exact Av
    · split
      · exact Ag _ _ _ _
      · exact Av
def Ah9 (M:MemM) (P:List PtM):Option Nat:=(List.range 32).find? fun k=>decide (AT M P ((k:Int)+1)=0)&&decide ((Am M P ((k:Int)+1)).k=0)
end
section
def Um (x:UInt8):List Value:=[Af x]
theorem JF (xs:List UInt8) (f:Int):∀ k i:Nat,0≤CJ xs f k i∧CJ xs f k i≤(i+k:Nat)
 | 0,i=>⟨Int.le_refl 0,by show (0:Int)≤_;omega⟩
 | k+1,i=>by
  have ih:=JF xs f k (i+1)
  unfold CJ;split<;>omega
theorem VJ (xs:List UInt8):0≤As xs 1∧As xs 1≤128:=by have:=JF xs 1 128 0;unfold As;omega
theorem Gk (x:UInt8):(Um x).length=1:=rfl
theorem Gp (xs:List UInt8) (h:xs.length=16):xs.length=16:=h
theorem SD (xs:List UInt8):xs.flatMap Um=xs.map Af:=by
 induction xs with
 | nil=>rfl
 | cons x xs ih=>rw [List.flatMap_cons,ih];rfl
theorem Gh {w:World} {g n:Nat} {R:List Ch} (h:Sep w (Ad g 5 ((List.replicate n (0:UInt8)).flatMap Um)::R)) (hn:n≤maxLen:=by unfold maxLen;omega):Sep w (BQ 0 5 1 (some ⟨g,0,none⟩) (List.replicate n (0:UInt8)).length n ((List.replicate n (0:UInt8)).map Af)::R):=by
 have z:Blk w g 5 ((List.replicate n (0:UInt8)).map Af):=by
  have z:Blk w g 5 ((List.replicate n (0:UInt8)).flatMap Um):=h.get 0 rfl
  rw [SD] at z;exact z
 have o:=PP z (Nat.zero_le g) (by simpa using hn)
 rw [List.length_map,List.length_replicate] at o
 refine h.head (Turns.refl (fun _=>False) w) (fun _ _ q=>q.elim) (c':=BQ 0 5 1 (some ⟨g,0,none⟩) _ n _) (by rw [List.length_replicate];exact o) fun k q=>.inl ?_
 have q:(some g:Option Nat)=some k:=q
 cases q;rfl
def bN (M:MemM) (P:List PtM) (s:Int):Int:=if CW M P s then 0 else if Vn M P=0 then PO M P else 0
def bE (M:MemM) (P:List PtM) (s:Int):Int:=if CW M P s then 18 else Vn M P
def bP (M:MemM) (P:List PtM) (s:Int):List PtM:=if CW M P s then P else Aff M P
theorem Ug (xs:List UInt8):(Cg xs 128).length≤128:=by
 unfold Cg;exact Nat.le_trans (List.length_filter_le _ _) (by rw [List.length_range];exact Nat.le_refl _)
theorem KB:(Tryz.prog.info? 179).map (·.size)=some 32:=κ
theorem Hy {k:TypeDesc} (hu:Tryz.prog.underlying 179=some k) {w:World} {g:Nat} {e:TypeId} {t:List EntT} (h:Blk w g e (Au t)) (hl:t.length=16) (hk:k.isRow=true:=by rfl):(Instr.loadAt 179 (π g)).run Tryz.prog w=.ok (.agg (Au t).toArray) w:=
 ldA hu hk KB h (by rw [List.drop_zero,List.take_of_length_le (by rw [BK,hl];exact Nat.le_refl _)]) (by rw [BK,hl])
theorem Hf {Q:Exit→Act→World→Prop} {Kk:Act→World→Prop} {o:Oper} {a:Act} {w:World} {N:Nat} {l:List (Nat×Value)} {cs cs':List Ch} (h:Kn N l a) (hd:o.dst=none) {x y:Operand} (ho:o.op=.store 179 x y) (hS:Sep w cs) (i:Nat) {g:Nat} {e:TypeId} {xs ys:List EntT} (hi:cs[i]? = some (Ad g e (Au xs))) (h0:xs.length=16) (h1:ys.length=16) (hx:opv l x=some (π g)) (hy:opv l y=some (.agg (Au ys).toArray))
  (hcs:cs.set i (Ad g e (Au ys))=cs') (k:∀ a' w',Kn N l a'→Sep w' cs'→Turns (fun k=>k=g) w w'→Kk a' w'):Oper.wp Tryz.prog o a w Kk Q:=
 EW h hd ho hS i hi hx hy (Au ys) rfl (by rw [BK,h1];exact KB) (by rw [List.all_eq_true];exact RE ys) (by rw [BK,BK,h0,h1];exact Nat.le_refl _) (L':=Au ys) (by
  unfold splice;rw [List.take_zero,List.nil_append,List.drop_of_length_le (by rw [BK,BK,h0,h1];exact Nat.le_refl _),List.append_nil]) hcs k
theorem JZ {fn:Func} {N:Nat} {l:List (Nat×Value)} {a:Act} {w:World} (hK:Kn N l a) {c u:Nat} (h:fn.results=#[.cell c 179,.tmp u]) {g:Nat} {e:TypeId} {t:List EntT} {k:TypeDesc} {v:Value} (hc:opv l (.tmp c)=some (π g)) (hv:opv l (.tmp u)=some v) (hb:Blk w g e (Au t)) (hu:Tryz.prog.underlying 179=some k) (hl:t.length=16) (hk:k.isRow=true:=by rfl):(results fn a.tmps).run Tryz.prog w=.ok (.tuple #[.agg (Au t).toArray,v]) w:=
 Acs hK h hc hv hb hu hk (by rw [BK,hl];exact KB)
theorem OS {w:World} {R:List Ch} {mx:Nat} {K:VolK} {ta:Option Addr} {tc:Nat} {M:MemM} {P:List PtM} {spare:Int} (hS0:Sep w ([Ad mx 103 [π K.tg],txP K ta tc M P]++R)) (hM:M.V.length=23168) (hs:-9223372036854775808≤spare∧spare≤9223372036854775807) :
  CallsR Tryz.prog 74 #[π mx,ν spare] w (fun v w'=>∃ ta' tc',v=.tuple #[ν (bN M P spare),ν (bE M P spare)]∧Sep w' ([Ad mx 103 [π K.tg],txP K ta' tc' M (bP M P spare)]++R)):=by
 have hS:Sep w [Ad mx 103 [π K.tg],txP K ta tc M P,Ch.many R]:=Sep.tail_many (xs:=[_,_]) hS0;clear hS0
 have hal:=Ug (Ap M P)
 have hfx:=VJ (Ap M P)
 refine AS Tryz.func74 rfl (N:=34) Tryz.ntmps74 (by show 2≤34;decide) [(0,π mx),(1,ν spare)] rfl fun _ h1=>sqr fun _ hK3=>mvs 2 h1 rfl fun _ h6=>wpList_nil<|hK3 _ _<|sqr fun _ hK8=>mv h6 rfl fun _ h9=>cl h9 rfl (cF Tryz.func18) (UE hS hM) fun _ v1 w2 r1 h2=>?_
 obtain ⟨rfl,s1⟩:=r1
 refine so (wn rfl) fun _ hK1=>AZ h2 rfl rfl rfl rfl (z:=(AF).map Af) (fun _=>rfl) s1 fun _ g1 w3 h3 s2 _ _=>hK1 _ _ ?_
 refine so (wn rfl) fun _ hK2=>Rx h3 rfl rfl s2 0 rfl (Gp _ (by first | rfl | simp only [AY,Aw,Ap,An])) (Gp _ (by first | rfl | simp only [AY,Aw,Ap,An])) rfl rfl (cs':=[Ad g1 52 (((Ap M P)).map Af),Ad mx 103 [π K.tg],txP K ta tc M P,Ch.many R]) rfl fun _ w4 h4 s3 _=>hK2 _ _ ?_
 refine h4.sn [6,5,4,0,1] rfl fun h5=>hK8 _ _<|sq fun _ hK4=>sqr fun _ hK5=>sw1 h5 rfl (rld h5 rfl rfl (Ld υ52 (s3.get 0 rfl:Blk _ _ _ _) (Gp _ (by first | rfl | simp only [AY,Aw,Ap,An])))) fun _ h7=>cl h7 rfl (cF Tryz.func19) (Bl s3 (NS (Ap M P) _ (Gp _ (by first | rfl | simp only [AY,Aw,Ap,An])))) fun _ v2 w5 r2 h8=>?_
 obtain ⟨rfl,s4⟩:=r2
 refine bv h8 (z:=ν (128-((Cg (Ap M P) 128).length:Int))) rfl (Sb _ _ _ ω ω ω) fun _ h10=>mv h10 rfl fun _ h11=>sv1 h11 rfl (Acu h11 rfl rfl rfl ω) fun _ h12=>bv h12 (z:=.bool (decide (128-((Cg (Ap M P) 128).length:Int)≤max spare 0))) rfl (cLe _ _ _ _ rfl) fun _ h13=>h13.sn [16,6,5,4,0,1] rfl fun h14=>hK5 _ _ ?_
 rcases bC (decide (128-((Cg (Ap M P) 128).length:Int)≤max spare 0)) with hc1 | hc1
 ·skip
  have hp1:128-((Cg (Ap M P) 128).length:Int)≤max spare 0:=(dT hc1)
  refine wcT h14 rfl hc1<|h14.sk [6,5,4,0,1] rfl fun h15=>sqr fun _ hK6=>h15.sk [6,5,0,1] rfl fun h16=>mv h16 rfl fun _ h17=>h17.sk [4,6,0,1] rfl fun h18=>mv h18 rfl fun _ h19=>wpList_nil<|hK6 _ _<|wp_ret ?_
  try simp only [Exit.then,Exit.inBlock]
  refine BF (v:=.tuple #[ν 0,ν 18]) (Fc h19 rfl rfl rfl) h19.defs ?_
  exact ⟨ta,tc,by unfold bN bE;rw [if_pos (show CW M P spare from hp1),if_pos (show CW M P spare from hp1)],by unfold bP;rw [if_pos (show CW M P spare from hp1)];exact Sep.tail_un (xs:=[_,_]) (s4.pk [1,2,3] rfl)⟩
 ·skip
  have hp2:¬ (128-((Cg (Ap M P) 128).length:Int)≤max spare 0):=(dF hc1)
  refine wcF h14 rfl hc1<|h14.sk [6,5,4,0,1] rfl fun h20=>wp_skip<|hK4 _ _<|sqr fun _ hK7=>sw1 h20 rfl (rld h20 rfl rfl (Ld υ52 (s4.get 0 rfl:Blk _ _ _ _) (Gp _ (by first | rfl | simp only [AY,Aw,Ap,An])))) fun _ h21=>cl h21 rfl (cF Tryz.func107) (Bl s4 (VK (Ap M P) 1 _ (Gp _ (by first | rfl | simp only [AY,Aw,Ap,An])) ω)) fun _ v3 w6 r3 h22=>?_
  obtain ⟨rfl,s5⟩:=r3
  refine mv h22 rfl fun _ h23=>h23.sn [7,6,5,4,0,1] rfl fun h24=>hK7 _ _<|sq fun K1 hK9=>?_
  have hJ79:∀ (ta9:Option Addr) (tc9:Nat) a' w',Kn 34 [(7,ν (As (Ap M P) 1)),(6,π g1),(5,ν 0),(4,ν 0),(0,π mx),(1,ν spare),(8,ν (AJ [stE M P 3 0 16,stE M (stP M P 3 0 (AV (Ap M P) (As (Ap M P) 1))) 7 (As (Ap M P) 1) (List.replicate 64 (0:UInt8)).length]))] a'→Sep w' [Ad g1 52 (((Ap M P)).map Af),Ad mx 103 [π K.tg],txP K ta9 tc9 M (stP M (stP M P 3 0 (AV (Ap M P) (As (Ap M P) 1))) 7 (As (Ap M P) 1) (List.replicate 64 (0:UInt8))),Ch.many R]→K1 a' w':=by
   intro ta9 tc9 a1 w7 h25 s6
   refine hK9 _ _ ?_
   refine sq fun _ hK10=>sqr fun _ hK11=>mv h25 rfl fun _ h26=>bv h26 (z:=.bool (decide (AJ [stE M P 3 0 16,stE M (stP M P 3 0 (AV (Ap M P) (As (Ap M P) 1))) 7 (As (Ap M P) 1) (List.replicate 64 (0:UInt8)).length]≠0))) rfl (cNe _ _ _ _ rfl) fun _ h27=>h27.sn [31,7,6,5,4,0,1,8] rfl fun h28=>hK11 _ _ ?_
   rcases bC (decide (AJ [stE M P 3 0 16,stE M (stP M P 3 0 (AV (Ap M P) (As (Ap M P) 1))) 7 (As (Ap M P) 1) (List.replicate 64 (0:UInt8)).length]≠0)) with hc2 | hc2
   ·skip
    have hp3:AJ [stE M P 3 0 16,stE M (stP M P 3 0 (AV (Ap M P) (As (Ap M P) 1))) 7 (As (Ap M P) 1) (List.replicate 64 (0:UInt8)).length]≠0:=(dT hc2)
    refine wcT h28 rfl hc2<|h28.sk [7,6,5,4,0,1,8] rfl fun h29=>sqr fun _ hK12=>mv h29 rfl fun _ h30=>h30.sk [32,7,6,5,0,1,8] rfl fun h31=>mv h31 rfl fun _ h32=>h32.sk [4,32,7,6,0,1,8] rfl fun h33=>mv h33 rfl fun _ h34=>h34.sn [5,4,7,6,0,1,8] rfl fun h35=>hK12 _ _ ?_
    refine wp_ret ?_
    try simp only [Exit.then,Exit.inBlock]
    refine BF (v:=.tuple #[ν 0,ν (AJ [stE M P 3 0 16,stE M (stP M P 3 0 (AV (Ap M P) (As (Ap M P) 1))) 7 (As (Ap M P) 1) (List.replicate 64 (0:UInt8)).length])]) (Fc h35 rfl rfl rfl) h35.defs ?_
    try simp only [List.length_replicate] at hp3
    exact ⟨ta9,tc9,by unfold bN bE;rw [if_neg (show ¬ CW M P spare from hp2),if_neg (show ¬ CW M P spare from hp2)];unfold Vn NO PO;(try simp only [List.length_replicate]);rw [if_neg hp3];(try rfl),by unfold bP;rw [if_neg (show ¬ CW M P spare from hp2)];exact Sep.tail_un (xs:=[_,_]) (s6.pk [1,2,3] rfl)⟩
   ·skip
    have hp4:¬ (AJ [stE M P 3 0 16,stE M (stP M P 3 0 (AV (Ap M P) (As (Ap M P) 1))) 7 (As (Ap M P) 1) (List.replicate 64 (0:UInt8)).length]≠0):=(dF hc2)
    refine wcF h28 rfl hc2<|h28.sk [7,6,5,4,0,1,8] rfl fun h36=>wp_skip<|hK10 _ _<|sqr fun _ hK13=>mv h36 rfl fun _ h37=>h37.sk [33,7,6,5,0,1,8] rfl fun h38=>mv h38 rfl fun _ h39=>h39.sk [4,33,7,6,0,1,8] rfl fun h40=>mv h40 rfl fun _ h41=>h41.sk [5,4,7,6,0,1,8] rfl fun h42=>?_
    refine wpList_nil<|hK13 _ _<|wp_ret ?_
    try simp only [Exit.then,Exit.inBlock]
    refine BF (v:=.tuple #[ν (As (Ap M P) 1),ν 0]) (Fc h42 rfl rfl rfl) h42.defs ?_
    try simp only [List.length_replicate] at hp4
    exact ⟨ta9,tc9,by unfold bN bE;rw [if_neg (show ¬ CW M P spare from hp2),if_neg (show ¬ CW M P spare from hp2)];unfold Vn NO PO;(try simp only [List.length_replicate]);rw [if_pos (Classical.not_not.1 hp4),Classical.not_not.1 hp4],by unfold bP;rw [if_neg (show ¬ CW M P spare from hp2)];exact Sep.tail_un (xs:=[_,_]) (s6.pk [1,2,3] rfl)⟩
  have s7:=s5.drew
  refine wp_region_held_drew (S:=fun w'=>Sep w' [Ad g1 52 (((Ap M P)).map Af),Ad mx 103 [π K.tg],Ch.many R]) κ (s7.pk [0,1,3] rfl) (fun hq1=>?_)
  refine tv1 hq1 h24 0 rfl rfl (fun w1 _=>(Az h24 rfl rfl) w1) fun _ h43=>?_
  refine tv1 hq1 h43 1 rfl rfl (fun w1 hSw=>(rld h43 rfl rfl (Ld υ52 (hSw.get 0 rfl:Blk _ _ _ _) (Gp _ (by first | rfl | simp only [AY,Aw,Ap,An]))))) fun _ h44=>?_
  refine tv1 hq1 h44 2 rfl rfl (fun w1 _=>(Az h44 rfl rfl) w1) fun _ h45=>?_
  refine tv1 hq1 h45 5 rfl rfl (fun w1 _=>(Az h45 rfl rfl) w1) fun _ h46=>?_
  refine tv1 hq1 h46 6 rfl rfl (fun w1 _=>(Az h46 rfl rfl) w1) fun _ h47=>?_
  refine wpAnyH_ready (rs:=[3,7]) κ (by simp) (toc rfl (wn rfl) (fun K2 hK14=>?_) (toc rfl (wn rfl) (fun K2 hK14=>?_) AllReadyH.nil))
  ·skip
   refine BM h47 rfl rfl rfl (xs:=[.tmp 20,.tmp 21]) rfl (cF Tryz.func108) rfl (vs:=[.agg (Al (Ap M P)),ν (As (Ap M P) 1)]) rfl (args:=#[.agg (Al (Ap M P)),ν (As (Ap M P) 1)]) rfl (Bl s7 (RK (Ap M P) (As (Ap M P) 1) _ (Gp _ (by first | rfl | simp only [AY,Aw,Ap,An])) ω)) fun _ v4 w8 r4 h48=>?_
   obtain ⟨rfl,s8⟩:=r4
   refine hK14 _ _ (s8.pk [0,1,3] rfl) fun hq2=>?_
   refine wpAnyH_ready (rs:=[4,7]) κ (by simp) (toc rfl (wn rfl) (fun K3 hK15=>?_) (toc rfl (wn rfl) (fun K3 hK15=>?_) AllReadyH.nil))
   ·skip
    refine BM h48 rfl rfl rfl (xs:=[.tmp 19,.tmp 22]) rfl (cF Tryz.func49) rfl (vs:=[π mx,.agg (Al (AV (Ap M P) (As (Ap M P) 1)))]) rfl (args:=#[π mx,.agg (Al (AV (Ap M P) (As (Ap M P) 1)))]) rfl (Ii (xs:=(AV (Ap M P) (As (Ap M P) 1))) (s8.pk [1,2,0,3] rfl) hM (Gp _ (by first | rfl | simp only [AY,Aw,Ap,An]))) fun _ v5 w9 r5 h49=>?_
    obtain ⟨tax138,tcx139,rfl,s9⟩:=r5
    refine hK15 _ _ (s9.pk [2,0,3] rfl) fun hq3=>?_
    refine to_ 7 rfl (wn rfl) κ fun _ hK16=>Ny Gk (by decide) h49 rfl rfl rfl rfl υ74 (z:=.int .u8 0) (n:=64) κ (m:=(0:UInt8)) rfl rfl rfl (by decide) s9 fun _ g2 w10 h50 s10 _ _=>?_
    refine hK16 _ _ (s10.pk [3,1,4] rfl) fun hq4=>?_
    have s11:Sep _ [BQ 0 5 1 (some ⟨g2,0,none⟩) ((List.replicate 64 (0:UInt8))).length 64 (((List.replicate 64 (0:UInt8))).map Af),Ad mx 103 [π K.tg],txP K tax138 tcx139 M (stP M P 3 0 (AV (Ap M P) (As (Ap M P) 1))),Ad g1 52 (((Ap M P)).map Af),Ch.many R]:=Gh s10
    refine to_ 8 rfl (wn rfl) κ fun _ hK17=>BM h50 rfl rfl rfl (xs:=[.tmp 24,.const (ν 7),.tmp 25,.tmp 26]) rfl (cF Tryz.func52) rfl (vs:=[π mx,ν 7,ν (As (Ap M P) 1),.slice (some ⟨g2,0,none⟩) 64 64]) rfl (args:=#[π mx,ν 7,ν (As (Ap M P) 1),.slice (some ⟨g2,0,none⟩) 64 64]) rfl (Dd (kd:=7) (nm:=As (Ap M P) 1) (xs:=(List.replicate 64 (0:UInt8))) s11 hM (by simp)) fun _ v6 w11 r6 h51=>?_
    obtain ⟨tax157,tcx158,rfl,s12⟩:=r6
    refine hK17 _ _ (s12.pk [3,1,4] rfl) fun hq5=>?_
    refine to_ 9 rfl (wn rfl) κ fun _ hK18=>DC h51 rfl rfl rfl (E:=29) (xs:=[(0,.tmp 23),(1,.tmp 27)]) rfl (vs:=[(0,ν (stE M P 3 0 16)),(1,ν (stE M (stP M P 3 0 (AV (Ap M P) (As (Ap M P) 1))) 7 (As (Ap M P) 1) (List.replicate 64 (0:UInt8)).length))]) rfl (z:=[ν (stE M P 3 0 16),ν (stE M (stP M P 3 0 (AV (Ap M P) (As (Ap M P) 1))) 7 (As (Ap M P) 1) (List.replicate 64 (0:UInt8)).length)]) (fun _=>κ) s12 fun _ g3 w12 h52 s13 _ _=>?_
    refine hK18 _ _ (s13.pk [4,2,5] rfl) fun hq6=>?_
    refine to_ 10 rfl (wn rfl) κ fun _ hK19=>BM h52 rfl rfl rfl (xs:=[.tmp 28]) rfl (cF Tryz.func48) rfl (vs:=[.slice (some ⟨g3,0,none⟩) 2 2]) rfl (args:=#[.slice (some ⟨g3,0,none⟩) 2 2]) rfl (DZ (L:=[stE M P 3 0 16,stE M (stP M P 3 0 (AV (Ap M P) (As (Ap M P) 1))) 7 (As (Ap M P) 1) (List.replicate 64 (0:UInt8)).length]) s13 (Nat.le_of_ble_eq_true rfl)) fun _ v7 w13 r7 h53=>?_
    obtain ⟨rfl,s14⟩:=r7
    refine hK19 _ _ (s14.pk [4,2,5] rfl) fun hq7=>?_
    refine tv1 hq7 h53 11 rfl rfl (fun w1 _=>(BJ h53 rfl rfl) w1) fun _ h54=>?_
    refine h54.sk [8,7,6,5,4,0,1] rfl fun h55=>?_
    refine wpAnyH_done κ ?_ _
    exact hJ79 tax157 tcx158 _ _ (h55.subs rfl) (s14.pk [4,2,3,5] rfl) 
   ·skip
    refine Ny Gk (by decide) h48 rfl rfl rfl rfl υ74 (z:=.int .u8 0) (n:=64) κ (m:=(0:UInt8)) rfl rfl rfl (by decide) s8 fun _ g4 w14 h56 s15 _ _=>hK15 _ _ (s15.pk [1,2,4] rfl) fun hq8=>?_
    refine to_ 4 rfl (wn rfl) κ fun _ hK20=>BM h56 rfl rfl rfl (xs:=[.tmp 19,.tmp 22]) rfl (cF Tryz.func49) rfl (vs:=[π mx,.agg (Al (AV (Ap M P) (As (Ap M P) 1)))]) rfl (args:=#[π mx,.agg (Al (AV (Ap M P) (As (Ap M P) 1)))]) rfl (Ii (xs:=(AV (Ap M P) (As (Ap M P) 1))) (s15.pk [2,3,0,1,4] rfl) hM (Gp _ (by first | rfl | simp only [AY,Aw,Ap,An]))) fun _ v8 w15 r8 h57=>?_
    obtain ⟨tax195,tcx196,rfl,s16⟩:=r8
    refine hK20 _ _ (s16.pk [3,0,4] rfl) fun hq9=>?_
    have s17:Sep _ [BQ 0 5 1 (some ⟨g4,0,none⟩) ((List.replicate 64 (0:UInt8))).length 64 (((List.replicate 64 (0:UInt8))).map Af),Ad mx 103 [π K.tg],txP K tax195 tcx196 M (stP M P 3 0 (AV (Ap M P) (As (Ap M P) 1))),Ad g1 52 (((Ap M P)).map Af),Ch.many R]:=Gh (s16.pk [2,0,1,3,4] rfl)
    refine to_ 8 rfl (wn rfl) κ fun _ hK21=>BM h57 rfl rfl rfl (xs:=[.tmp 24,.const (ν 7),.tmp 25,.tmp 26]) rfl (cF Tryz.func52) rfl (vs:=[π mx,ν 7,ν (As (Ap M P) 1),.slice (some ⟨g4,0,none⟩) 64 64]) rfl (args:=#[π mx,ν 7,ν (As (Ap M P) 1),.slice (some ⟨g4,0,none⟩) 64 64]) rfl (Dd (kd:=7) (nm:=As (Ap M P) 1) (xs:=(List.replicate 64 (0:UInt8))) s17 hM (by simp)) fun _ v9 w16 r9 h58=>?_
    obtain ⟨tax206,tcx207,rfl,s18⟩:=r9
    refine hK21 _ _ (s18.pk [3,1,4] rfl) fun hq10=>?_
    refine to_ 9 rfl (wn rfl) κ fun _ hK22=>DC h58 rfl rfl rfl (E:=29) (xs:=[(0,.tmp 23),(1,.tmp 27)]) rfl (vs:=[(0,ν (stE M P 3 0 16)),(1,ν (stE M (stP M P 3 0 (AV (Ap M P) (As (Ap M P) 1))) 7 (As (Ap M P) 1) (List.replicate 64 (0:UInt8)).length))]) rfl (z:=[ν (stE M P 3 0 16),ν (stE M (stP M P 3 0 (AV (Ap M P) (As (Ap M P) 1))) 7 (As (Ap M P) 1) (List.replicate 64 (0:UInt8)).length)]) (fun _=>κ) s18 fun _ g5 w17 h59 s19 _ _=>?_
    refine hK22 _ _ (s19.pk [4,2,5] rfl) fun hq11=>?_
    refine to_ 10 rfl (wn rfl) κ fun _ hK23=>BM h59 rfl rfl rfl (xs:=[.tmp 28]) rfl (cF Tryz.func48) rfl (vs:=[.slice (some ⟨g5,0,none⟩) 2 2]) rfl (args:=#[.slice (some ⟨g5,0,none⟩) 2 2]) rfl (DZ (L:=[stE M P 3 0 16,stE M (stP M P 3 0 (AV (Ap M P) (As (Ap M P) 1))) 7 (As (Ap M P) 1) (List.replicate 64 (0:UInt8)).length]) s19 (Nat.le_of_ble_eq_true rfl)) fun _ v10 w18 r10 h60=>?_
    obtain ⟨rfl,s20⟩:=r10
    refine hK23 _ _ (s20.pk [4,2,5] rfl) fun hq12=>?_
    refine tv1 hq12 h60 11 rfl rfl (fun w1 _=>(BJ h60 rfl rfl) w1) fun _ h61=>?_
    refine h61.sk [8,7,6,5,4,0,1] rfl fun h62=>?_
    refine wpAnyH_done κ ?_ _
    exact hJ79 tax206 tcx207 _ _ (h62.subs rfl) (s20.pk [4,2,3,5] rfl) 
  ·skip
   refine Ny Gk (by decide) h47 rfl rfl rfl rfl υ74 (z:=.int .u8 0) (n:=64) κ (m:=(0:UInt8)) rfl rfl rfl (by decide) s7 fun _ g6 w19 h63 s21 _ _=>hK14 _ _ (s21.pk [1,2,4] rfl) fun hq13=>?_
   refine to_ 3 rfl (wn rfl) κ fun _ hK24=>BM h63 rfl rfl rfl (xs:=[.tmp 20,.tmp 21]) rfl (cF Tryz.func108) rfl (vs:=[.agg (Al (Ap M P)),ν (As (Ap M P) 1)]) rfl (args:=#[.agg (Al (Ap M P)),ν (As (Ap M P) 1)]) rfl (Bl s21 (RK (Ap M P) (As (Ap M P) 1) _ (Gp _ (by first | rfl | simp only [AY,Aw,Ap,An])) ω)) fun _ v11 w20 r11 h64=>?_
   obtain ⟨rfl,s22⟩:=r11
   refine hK24 _ _ (s22.pk [1,2,4] rfl) fun hq14=>?_
   refine to_ 4 rfl (wn rfl) κ fun _ hK25=>BM h64 rfl rfl rfl (xs:=[.tmp 19,.tmp 22]) rfl (cF Tryz.func49) rfl (vs:=[π mx,.agg (Al (AV (Ap M P) (As (Ap M P) 1)))]) rfl (args:=#[π mx,.agg (Al (AV (Ap M P) (As (Ap M P) 1)))]) rfl (Ii (xs:=(AV (Ap M P) (As (Ap M P) 1))) (s22.pk [2,3,0,1,4] rfl) hM (Gp _ (by first | rfl | simp only [AY,Aw,Ap,An]))) fun _ v12 w21 r12 h65=>?_
   obtain ⟨tax252,tcx253,rfl,s23⟩:=r12
   refine hK25 _ _ (s23.pk [3,0,4] rfl) fun hq15=>?_
   have s24:Sep _ [BQ 0 5 1 (some ⟨g6,0,none⟩) ((List.replicate 64 (0:UInt8))).length 64 (((List.replicate 64 (0:UInt8))).map Af),Ad mx 103 [π K.tg],txP K tax252 tcx253 M (stP M P 3 0 (AV (Ap M P) (As (Ap M P) 1))),Ad g1 52 (((Ap M P)).map Af),Ch.many R]:=Gh (s23.pk [2,0,1,3,4] rfl)
   refine to_ 8 rfl (wn rfl) κ fun _ hK26=>BM h65 rfl rfl rfl (xs:=[.tmp 24,.const (ν 7),.tmp 25,.tmp 26]) rfl (cF Tryz.func52) rfl (vs:=[π mx,ν 7,ν (As (Ap M P) 1),.slice (some ⟨g6,0,none⟩) 64 64]) rfl (args:=#[π mx,ν 7,ν (As (Ap M P) 1),.slice (some ⟨g6,0,none⟩) 64 64]) rfl (Dd (kd:=7) (nm:=As (Ap M P) 1) (xs:=(List.replicate 64 (0:UInt8))) s24 hM (by simp)) fun _ v13 w22 r13 h66=>?_
   obtain ⟨tax263,tcx264,rfl,s25⟩:=r13
   refine hK26 _ _ (s25.pk [3,1,4] rfl) fun hq16=>?_
   refine to_ 9 rfl (wn rfl) κ fun _ hK27=>DC h66 rfl rfl rfl (E:=29) (xs:=[(0,.tmp 23),(1,.tmp 27)]) rfl (vs:=[(0,ν (stE M P 3 0 16)),(1,ν (stE M (stP M P 3 0 (AV (Ap M P) (As (Ap M P) 1))) 7 (As (Ap M P) 1) (List.replicate 64 (0:UInt8)).length))]) rfl (z:=[ν (stE M P 3 0 16),ν (stE M (stP M P 3 0 (AV (Ap M P) (As (Ap M P) 1))) 7 (As (Ap M P) 1) (List.replicate 64 (0:UInt8)).length)]) (fun _=>κ) s25 fun _ g7 w23 h67 s26 _ _=>?_
   refine hK27 _ _ (s26.pk [4,2,5] rfl) fun hq17=>?_
   refine to_ 10 rfl (wn rfl) κ fun _ hK28=>BM h67 rfl rfl rfl (xs:=[.tmp 28]) rfl (cF Tryz.func48) rfl (vs:=[.slice (some ⟨g7,0,none⟩) 2 2]) rfl (args:=#[.slice (some ⟨g7,0,none⟩) 2 2]) rfl (DZ (L:=[stE M P 3 0 16,stE M (stP M P 3 0 (AV (Ap M P) (As (Ap M P) 1))) 7 (As (Ap M P) 1) (List.replicate 64 (0:UInt8)).length]) s26 (Nat.le_of_ble_eq_true rfl)) fun _ v14 w24 r14 h68=>?_
   obtain ⟨rfl,s27⟩:=r14
   refine hK28 _ _ (s27.pk [4,2,5] rfl) fun hq18=>?_
   refine tv1 hq18 h68 11 rfl rfl (fun w1 _=>(BJ h68 rfl rfl) w1) fun _ h69=>?_
   refine h69.sk [8,7,6,5,4,0,1] rfl fun h70=>?_
   refine wpAnyH_done κ ?_ _
   exact hJ79 tax263 tcx264 _ _ (h70.subs rfl) (s27.pk [4,2,3,5] rfl) 
theorem UZ {w:World} {R:List Ch} {mx:Nat} {K:VolK} {ta:Option Addr} {tc:Nat} {M:MemM} {P:List PtM} {i:Int} (hS0:Sep w ([Ad mx 103 [π K.tg],txP K ta tc M P]++R)) (hM:M.V.length=23168)  :
  CallsR Tryz.prog 112 #[π mx,ν i] w (fun v w'=>v=.tuple #[.agg (Au (Ar M P i)).toArray,ν (BL M P i)]∧Sep w' ([Ad mx 103 [π K.tg],txP K ta tc M P]++R)):=by
 have hS:Sep w [Ad mx 103 [π K.tg],txP K ta tc M P,Ch.many R]:=Sep.tail_many (xs:=[_,_]) hS0;clear hS0
 refine AS Tryz.func112 rfl (N:=53) Tryz.ntmps112 (by show 2≤53;decide) [(0,π mx),(1,ν i)] rfl fun _ h1=>sqr fun _ hK3=>so (wn rfl) fun _ hK1=>AZ h1 rfl rfl rfl rfl (z:=Au Bo) (fun _=>rfl) hS fun _ g4 w7 h5 s8 _ _=>hK1 _ _ ?_
 refine mv h5 rfl fun _ h2=>wpList_nil<|hK3 _ _<|sqr fun _ hK2=>mvs 2 h2 rfl fun _ h3=>cl h3 rfl (cF Tryz.func15) (FM (i:=i) (s8.pk [1,2,0,3] rfl) hM) fun _ v1 w1 r1 h4=>?_
 obtain ⟨rfl,s1⟩:=r1
 refine mvs 3 h4 rfl fun _ h6=>so (wn rfl) fun _ hK4=>AZ h6 rfl rfl rfl rfl (z:=[ν 0,ν 0,ν 0,ν 0,ν 0,ν 0,ν 0,ν 0,ν 0,ν 0,ν 0,ν 0,ν 0,ν 0,ν 0]) (fun _=>rfl) s1 fun _ g1 w2 h7 s2 _ _=>hK4 _ _ ?_
 refine stA h7 s2 0 rfl rfl rfl κ rfl rfl rfl rfl fun _ w3 h8 s3 _=>mv h8 rfl fun _ h9=>h9.sn [7,6,5,4,0,1] rfl fun h10=>hK2 _ _<|sq fun _ hK5=>sqr fun _ hK6=>mv h10 rfl fun _ h11=>bv h11 (z:=.bool (decide (AT M P i≠0))) rfl (cNe _ _ _ _ rfl) fun _ h12=>h12.sn [20,7,6,5,4,0,1] rfl fun h13=>hK6 _ _ ?_
 rcases bC (decide (AT M P i≠0)) with hc1 | hc1
 ·skip
  have hp1:AT M P i≠0:=(dT hc1)
  refine wcT h13 rfl hc1<|h13.sk [7,6,5,4,0,1] rfl fun h14=>sqr fun _ hK7=>bu h14 (v:=.agg ((Au Bo).toArray)) rfl (fun w=>κ) fun _ h15=>mv h15 rfl fun _ h16=>so (wn rfl) fun _ hK8=>Hf h16 rfl rfl s3 3 rfl (by first | exact Av | exact Ag _ _ _ _ | exact AB (Ag _ _ _ _) _ _ | exact Ah _ _ _ | (rw [AD];exact Ah _ _ _) | assumption) (by first | exact Av | exact Ag _ _ _ _ | exact AB (Ag _ _ _ _) _ _ | exact Ah _ _ _ | (rw [AD];exact Ah _ _ _) | assumption) rfl rfl (cs':=[Ad g1 45 (Ao (Am M P i)),Ad mx 103 [π K.tg],txP K ta tc M P,Ad g4 179 (Au Bo),Ch.many R]) rfl fun _ w4 h17 s4 _=>hK8 _ _ ?_
  refine h17.sk [22,21,7,6,4,0,1] rfl fun h18=>mv h18 rfl fun _ h19=>h19.sn [5,7,6,4,0,1] rfl fun h20=>hK7 _ _<|wp_ret ?_
  try simp only [Exit.then,Exit.inBlock]
  refine If (v:=.tuple #[.agg ((Au Bo).toArray),ν (AT M P i)]) (JZ h20 rfl rfl rfl (s4.get 3 rfl:Blk _ _ _ _) υ179 (by first | exact Av | exact Ag _ _ _ _ | exact AB (Ag _ _ _ _) _ _ | exact Ah _ _ _ | (rw [AD];exact Ah _ _ _) | assumption)) h20.defs ?_
  exact ⟨by unfold Ar BL;rw [if_pos hp1,if_pos hp1],Sep.tail_un (xs:=[_,_]) (s4.pk [1,2,4] rfl)⟩
 ·skip
  have hp2:¬ (AT M P i≠0):=(dF hc1)
  refine wcF h13 rfl hc1<|h13.sk [7,6,5,4,0,1] rfl fun h21=>wp_skip<|hK5 _ _<|sq fun _ hK9=>sqr fun _ hK10=>fav h21 rfl (fQ 0) fun _ h22=>ldv h22 s3 0 υ3 rfl rfl rfl rfl fun _ h23=>bv h23 (z:=.bool (decide ((Am M P i).k≠2))) rfl (cNe _ _ _ _ rfl) fun _ h24=>h24.sn [25,7,6,5,4,0,1] rfl fun h25=>hK10 _ _ ?_
  rcases bC (decide ((Am M P i).k≠2)) with hc2 | hc2
  ·skip
   have hp3:(Am M P i).k≠2:=(dT hc2)
   refine wcT h25 rfl hc2<|h25.sk [7,6,5,4,0,1] rfl fun h26=>sqr fun _ hK11=>bu h26 (v:=.agg ((Au Bo).toArray)) rfl (fun w=>κ) fun _ h27=>so (wn rfl) fun _ hK12=>Hf h27 rfl rfl s3 3 rfl (by first | exact Av | exact Ag _ _ _ _ | exact AB (Ag _ _ _ _) _ _ | exact Ah _ _ _ | (rw [AD];exact Ah _ _ _) | assumption) (by first | exact Av | exact Ag _ _ _ _ | exact AB (Ag _ _ _ _) _ _ | exact Ah _ _ _ | (rw [AD];exact Ah _ _ _) | assumption) rfl rfl (cs':=[Ad g1 45 (Ao (Am M P i)),Ad mx 103 [π K.tg],txP K ta tc M P,Ad g4 179 (Au Bo),Ch.many R]) rfl fun _ w5 h28 s5 _=>hK12 _ _ ?_
   refine h28.sk [26,7,6,4,0,1] rfl fun h29=>mv h29 rfl fun _ h30=>h30.sn [5,7,6,4,0,1] rfl fun h31=>hK11 _ _<|wp_ret ?_
   try simp only [Exit.then,Exit.inBlock]
   refine If (v:=.tuple #[.agg ((Au Bo).toArray),ν 12]) (JZ h31 rfl rfl rfl (s5.get 3 rfl:Blk _ _ _ _) υ179 (by first | exact Av | exact Ag _ _ _ _ | exact AB (Ag _ _ _ _) _ _ | exact Ah _ _ _ | (rw [AD];exact Ah _ _ _) | assumption)) h31.defs ?_
   exact ⟨by unfold Ar BL;rw [if_neg hp2,if_neg hp2,if_pos hp3,if_pos hp3],Sep.tail_un (xs:=[_,_]) (s5.pk [1,2,4] rfl)⟩
  ·skip
   have hp4:¬ ((Am M P i).k≠2):=(dF hc2)
   refine wcF h25 rfl hc2<|h25.sk [7,6,5,4,0,1] rfl fun h32=>wp_skip<|hK9 _ _<|sqr fun _ hK13=>so (wn rfl) fun _ hK14=>AZ h32 rfl rfl rfl rfl (z:=Au Bo) (fun _=>rfl) s3 fun _ g2 w6 h33 s6 _ _=>hK14 _ _ ?_
   refine wpList_nil<|hK13 _ _<|sq fun _ hK15=>sqr fun _ hK16=>fav h33 rfl (fQ 3) fun _ h34=>sw1 h34 rfl (rld h34 rfl rfl (ldA υ42 rfl (n:=4) κ (s6.get 1 rfl:Blk _ _ _ _) rfl rfl)) fun _ h35=>mv h35 rfl fun _ h36=>h36.sn [29,28,8,7,6,5,4,0,1] rfl fun h37=>hK16 _ _<|wp_block ?_
   refine FC (fun (k:Nat) a' w'=>Kn 53 [(29,ν (k:Int)),(28,.agg #[ν ((Am M P i).b0),ν ((Am M P i).b1),ν ((Am M P i).b2),ν ((Am M P i).b3)]),(8,π g2),(6,π g1),(5,ν 0),(4,π g4),(0,π mx),(1,ν i)] a'∧Sep w' [Ad g2 179 (Au (BD M P (Am M P i) k).1),Ad g1 45 (Ao (Am M P i)),Ad mx 103 [π K.tg],txP K ta tc M P,Ad g4 179 (Au Bo),Ch.many R]∧(k≤4)∧((BD M P (Am M P i) k).2=0)) (fun (k:Nat)=>4-k) 0 ⟨h37.subs rfl,s6,Nat.zero_le _,rfl⟩ ?_
   rintro k1 a1 w8 ⟨h38,s7,hk126,hk0127⟩ K1 hK17
   refine sqr fun _ hK18=>bv h38 (z:=.bool (decide ((k1:Int)<4))) rfl (cLt _ _ _ _ rfl) fun _ h39=>wpList_nil<|hK18 _ _<|sq fun _ hK19=>?_
   rcases bC (decide ((k1:Int)<4)) with hc3 | hc3
   ·skip
    have hp5:(k1:Int)<4:=(dT hc3)
    refine wcT h39 rfl hc3<|h39.sk [29,28,8,6,5,4,0,1] rfl fun h40=>wp_skip<|hK19 _ _<|sq fun _ hK20=>wp_block ?_
    refine sqr fun _ hK21=>mv h40 rfl fun _ h41=>sv1 h41 rfl (MS h41 rfl rfl rfl (xs:=[(Am M P i).b0,(Am M P i).b1,(Am M P i).b2,(Am M P i).b3]) rfl υ42 rfl rfl rfl (by show _<4;omega)) fun _ h42=>mvs 2 h42 rfl fun _ h43=>h43.sn [10,9,29,28,8,6,5,4,0,1] rfl fun h44=>hK21 _ _<|sq fun _ hK22=>sqr fun _ hK23=>mv h44 rfl fun _ h45=>bv h45 (z:=.bool (decide ((Am M P i).blk k1=0))) rfl (cEq _ _ _ _ rfl) fun _ h46=>h46.sk [34,10,9,29,28,8,6,5,4,0,1] rfl fun h47=>?_
    refine wpList_nil<|hK23 _ _ ?_
    rcases bC (decide ((Am M P i).blk k1=0)) with hc4 | hc4
    ·skip
     have hp6:(Am M P i).blk k1=0:=(dT hc4)
     refine wcT h47 rfl hc4<|h47.sk [10,9,29,28,8,6,5,4,0,1] rfl fun h48=>wp_exit ?_
     refine hK20 _ _ ?_
     refine wp_region_lit<|bv h48 (z:=ν ((k1+1:Nat):Int)) rfl (Dp _ _ _ ω ω ω) fun _ h49=>h49.sk [51,10,9,28,8,6,5,4,0,1] rfl fun h50=>mv h50 rfl fun _ h51=>h51.sk [29,10,9,28,8,6,5,4,0,1] rfl fun h52=>wpList_nil ?_
     have hn9:BD M P (Am M P i) (k1+1)=BD M P (Am M P i) k1:=by show (if _ then _ else _)=_;rw [if_pos hk0127,if_pos hp6]
     exact hK17 (k1+1) _ _ ⟨h52.subs rfl,(by rw [hn9];exact s7),ω,(by rw [hn9];exact hk0127)⟩ ω
    ·skip
     have hp7:¬ ((Am M P i).blk k1=0):=(dF hc4)
     refine wcF h47 rfl hc4<|h47.sk [10,9,29,28,8,6,5,4,0,1] rfl fun h53=>wp_skip<|hK22 _ _<|sqr fun _ hK24=>mvs 2 h53 rfl fun _ h54=>cl h54 rfl (cF Tryz.func38) (Ps (kd:=7) (nm:=(Am M P i).blk k1) (s7.pk [2,3,0,1,4,5] rfl) hM) fun _ v2 w9 r2 h55=>?_
     obtain ⟨ra_x170,rc_x171,rfl,s9⟩:=r2
     refine mvs 5 h55 rfl fun _ h56=>h56.sn [11,10,9,29,28,8,6,5,4,0,1] rfl fun h57=>hK24 _ _<|sqr fun _ hK25=>sw1 h57 rfl (rld h57 rfl rfl (Hy υ179 (s9.get 3 rfl:Blk _ _ _ _) (by first | exact Av | exact Ag _ _ _ _ | exact AB (Ag _ _ _ _) _ _ | exact Ah _ _ _ | (rw [AD];exact Ah _ _ _) | assumption))) fun _ h58=>mvs 2 h58 rfl fun _ h59=>cl h59 rfl (cF Tryz.func141) (Bl s9 (WU ((BD M P (Am M P i) k1).1) (by first | exact Av | exact Ag _ _ _ _ | exact AB (Ag _ _ _ _) _ _ | exact Ah _ _ _ | (rw [AD];exact Ah _ _ _) | assumption) (k1:Int) _ _ (Bc M P 7 ((Am M P i).blk k1)) _ (s9.get 0 rfl:Own _ _ _ _ _ _ _ _).row)) fun _ v3 w10 r3 h60=>?_
     obtain ⟨rfl,s10⟩:=r3
     refine mvs 3 h60 rfl fun _ h61=>so (wn rfl) fun _ hK26=>Hf h61 rfl rfl s10 3 rfl (by first | exact Av | exact Ag _ _ _ _ | exact AB (Ag _ _ _ _) _ _ | exact Ah _ _ _ | (rw [AD];exact Ah _ _ _) | assumption) (by first | exact Av | exact Ag _ _ _ _ | exact AB (Ag _ _ _ _) _ _ | exact Ah _ _ _ | (rw [AD];exact Ah _ _ _) | assumption) rfl rfl (cs':=[BQ 0 5 1 ra_x170 ((Bc M P 7 ((Am M P i).blk k1))).length rc_x171 (((Bc M P 7 ((Am M P i).blk k1))).map Af),Ad mx 103 [π K.tg],txP K ta tc M P,Ad g2 179 (Au ((Ft ((BD M P (Am M P i) k1).1) (k1:Int) (Bc M P 7 ((Am M P i).blk k1))).1)),Ad g1 45 (Ao (Am M P i)),Ad g4 179 (Au Bo),Ch.many R]) rfl fun _ w11 h62 s11 _=>hK26 _ _ ?_
     refine mv h62 rfl fun _ h63=>h63.sn [7,11,10,9,29,28,8,6,5,4,0,1] rfl fun h64=>hK25 _ _<|sqr fun _ hK27=>mv h64 rfl fun _ h65=>bv h65 (z:=.bool (decide ((Ft ((BD M P (Am M P i) k1).1) (k1:Int) (Bc M P 7 ((Am M P i).blk k1))).2≠0))) rfl (cNe _ _ _ _ rfl) fun _ h66=>h66.sn [49,7,11,10,9,29,28,8,6,5,4,0,1] rfl fun h67=>hK27 _ _ ?_
     rcases bC (decide ((Ft ((BD M P (Am M P i) k1).1) (k1:Int) (Bc M P 7 ((Am M P i).blk k1))).2≠0)) with hc5 | hc5
     ·skip
      have hp8:(Ft ((BD M P (Am M P i) k1).1) (k1:Int) (Bc M P 7 ((Am M P i).blk k1))).2≠0:=(dT hc5)
      refine wcT h67 rfl hc5<|h67.sk [7,11,10,9,29,28,8,6,5,4,0,1] rfl fun h68=>sqr fun _ hK28=>bu h68 (v:=.agg ((Au Bo).toArray)) rfl (fun w=>κ) fun _ h69=>so (wn rfl) fun _ hK29=>Hf h69 rfl rfl s11 5 rfl (by first | exact Av | exact Ag _ _ _ _ | exact AB (Ag _ _ _ _) _ _ | exact Ah _ _ _ | (rw [AD];exact Ah _ _ _) | assumption) (by first | exact Av | exact Ag _ _ _ _ | exact AB (Ag _ _ _ _) _ _ | exact Ah _ _ _ | (rw [AD];exact Ah _ _ _) | assumption) rfl rfl (cs':=[BQ 0 5 1 ra_x170 ((Bc M P 7 ((Am M P i).blk k1))).length rc_x171 (((Bc M P 7 ((Am M P i).blk k1))).map Af),Ad mx 103 [π K.tg],txP K ta tc M P,Ad g2 179 (Au ((Ft ((BD M P (Am M P i) k1).1) (k1:Int) (Bc M P 7 ((Am M P i).blk k1))).1)),Ad g1 45 (Ao (Am M P i)),Ad g4 179 (Au Bo),Ch.many R]) rfl fun _ w12 h70 s12 _=>hK29 _ _ ?_
      refine h70.sk [50,7,11,10,9,29,28,8,6,4,0,1] rfl fun h71=>mv h71 rfl fun _ h72=>h72.sn [5,7,11,10,9,29,28,8,6,4,0,1] rfl fun h73=>hK28 _ _<|wp_ret ?_
      try simp only [Exit.then,Exit.inBlock]
      refine If (v:=.tuple #[.agg ((Au Bo).toArray),.int .i64 36]) (JZ h73 rfl rfl rfl (s12.get 5 rfl:Blk _ _ _ _) Tryz.underlying179 (by first | exact Av | exact Ag _ _ _ _ | exact AB (Ag _ _ _ _) _ _ | exact Ah _ _ _ | (rw [AD];exact Ah _ _ _) | assumption)) h73.defs ?_
      have hn9:(BD M P (Am M P i) (k1+1)).2≠0:=by show ((if _ then _ else _):List EntT×Int).2≠0;rw [if_pos hk0127,if_neg hp7];exact hp8
      have hn8:=Nq hn9 4 ω
      exact ⟨by unfold Ar BL;rw [if_neg hp2,if_neg hp2,if_neg hp4,if_neg hp4,if_neg hn8,if_neg hn8],Sep.tail_un (xs:=[_,_]) (s12.pk [1,2,6] rfl)⟩
     ·skip
      have hp9:¬ ((Ft ((BD M P (Am M P i) k1).1) (k1:Int) (Bc M P 7 ((Am M P i).blk k1))).2≠0):=(dF hc5)
      refine wcF h67 rfl hc5<|h67.sk [7,11,10,9,29,28,8,6,5,4,0,1] rfl fun h74=>wp_skip<|hK20 _ _<|wp_region_lit<|bv h74 (z:=ν ((k1+1:Nat):Int)) rfl (Dp _ _ _ ω ω ω) fun _ h75=>h75.sk [51,7,11,10,9,28,8,6,5,4,0,1] rfl fun h76=>mv h76 rfl fun _ h77=>h77.sk [29,7,11,10,9,28,8,6,5,4,0,1] rfl fun h78=>wpList_nil ?_
      have hn9:BD M P (Am M P i) (k1+1)=Ft (BD M P (Am M P i) k1).1 k1 (Bc M P 7 ((Am M P i).blk k1)):=by show (if _ then _ else _)=_;rw [if_pos hk0127,if_neg hp7]
      exact hK17 (k1+1) _ _ ⟨h78.subs rfl,(by rw [hn9];exact (s11.pk [3,4,1,2,5,6] rfl)),ω,(by rw [hn9];exact Classical.not_not.1 hp9)⟩ ω
   ·skip
    have hp10:¬ ((k1:Int)<4):=(dF hc3)
    refine wcF h39 rfl hc3<|h39.sk [29,28,8,6,5,4,0,1] rfl fun h79=>wp_exit ?_
    refine hK15 _ _ ?_
    refine sqr fun _ hK30=>sw1 h79 rfl (rld h79 rfl rfl (Hy υ179 (s7.get 0 rfl:Blk _ _ _ _) (by first | exact Av | exact Ag _ _ _ _ | exact AB (Ag _ _ _ _) _ _ | exact Ah _ _ _ | (rw [AD];exact Ah _ _ _) | assumption))) fun _ h80=>so (wn rfl) fun _ hK31=>Hf h80 rfl rfl s7 4 rfl (by first | exact Av | exact Ag _ _ _ _ | exact AB (Ag _ _ _ _) _ _ | exact Ah _ _ _ | (rw [AD];exact Ah _ _ _) | assumption) (by first | exact Av | exact Ag _ _ _ _ | exact AB (Ag _ _ _ _) _ _ | exact Ah _ _ _ | (rw [AD];exact Ah _ _ _) | assumption) rfl rfl (cs':=[Ad g2 179 (Au (BD M P (Am M P i) k1).1),Ad g1 45 (Ao (Am M P i)),Ad mx 103 [π K.tg],txP K ta tc M P,Ad g4 179 (Au ((BD M P (Am M P i) k1).1)),Ch.many R]) rfl fun _ w13 h81 s13 _=>hK31 _ _ ?_
    refine h81.sk [52,29,28,8,6,4,0,1] rfl fun h82=>mv h82 rfl fun _ h83=>h83.sn [5,29,28,8,6,4,0,1] rfl fun h84=>hK30 _ _<|wp_ret ?_
    try simp only [Exit.then,Exit.inBlock]
    refine If (v:=.tuple #[.agg ((Au ((BD M P (Am M P i) k1).1)).toArray),ν 0]) (JZ h84 rfl rfl rfl (s13.get 4 rfl:Blk _ _ _ _) υ179 (by first | exact Av | exact Ag _ _ _ _ | exact AB (Ag _ _ _ _) _ _ | exact Ah _ _ _ | (rw [AD];exact Ah _ _ _) | assumption)) h84.defs ?_
    obtain rfl:k1=4:=ω
    exact ⟨by unfold Ar BL;rw [if_neg hp2,if_neg hp2,if_neg hp4,if_neg hp4,if_pos hk0127,if_pos hk0127],Sep.tail_un (xs:=[_,_]) (s13.pk [2,3,5] rfl)⟩
theorem SQ {w:World} {R:List Ch} {c:Int} (hS0:Sep w ([]++R)) :
  CallsR Tryz.prog 53 #[ν c] w (fun v w'=>v=.bool (decide (c≥1)&&decide (c≤8))∧Sep w' ([]++R)):=by
 have hS:Sep w [Ch.many R]:=Sep.tail_many (xs:=[]) hS0;clear hS0
 refine AS Tryz.func53 rfl (N:=9) Tryz.ntmps53 (by show 1≤9;decide) [(0,ν c)] rfl fun _ h1=>sqr fun _ hK3=>mv h1 rfl fun _ h4=>wpList_nil<|hK3 _ _<|sqr fun _ hK6=>mv h4 rfl fun _ h7=>bv h7 (z:=.bool (decide (c≥1))) rfl (cGe _ _ _ _ rfl) fun _ h9=>mv h9 rfl fun _ h2=>sg h2 (wT h2 rfl rfl rfl) rfl rfl rfl (fun hC1=>Az h2 rfl rfl _) fun _ h3=>sg h3 (wT h3 rfl rfl rfl) rfl rfl rfl (fun hC2=>BV h3 rfl (opg rfl hC2) rfl (cLe _ _ _ _ rfl) _) fun _ h5=>?_
 refine sv1 h5 rfl (EV h5 rfl (E:=(decide (c≥1))) (F:=(decide (c≤8))) rfl rfl rfl (fun e=>if_pos (by rw [e];try rfl))) fun _ h6=>h6.sk [8,7,6,5,4,3,0] rfl fun h8=>mv h8 rfl fun _ h10=>h10.sn [2,0] rfl fun h11=>hK6 _ _<|wp_ret ?_
 try simp only [Exit.then,Exit.inBlock]
 refine BF (v:=.bool ((decide (c≥1))&&(decide (c≤8)))) (Dt h11 rfl rfl) h11.defs ?_
 exact ⟨by first | rfl | (rw [isCl_eq]),Sep.tail_un (xs:=[]) hS⟩
end
section
theorem Wq (X:List UInt8) (hX:X.length≤1000) (w:World) {A:List ByteArray} {x:ByteArray} (ho:Cp X=some (A++[x])):Calls Tryz.prog 82 #[σ X] w fun e w'=>∃ a,e=.returned (.tuple #[.slice a A.length A.length,.string x,ν 0])∧Ko w' a A.length A∧Below w.heap.size w w'∧∀ b off,a=some ⟨b,off,none⟩→w.heap.size≤b:=by
  have HP:=hid (JU X hX w)
  rw [ho] at HP
  go_enter Tryz.func82,Tryz.ntmps82
  go_wp2_with (go_at_call 111;fail)
  refine (HP.out).mono ?_
  rintro e w1 ⟨a,c,rfl,o,b⟩
  have O:=hid o;have B:=hid b
  clear o b
  simp only [erO,Option.getD_some]
  simp only [Option.getD_some] at O
  have hl:(A++[x]).length=A.length+1:=by simp
  rw [hl]
  have hrow:Ko w1 a c (A++[x]):=O.out.row
  obtain ⟨g,off,rfl,hg,hc⟩:=Jn hrow ω
  have hlc:A.length+1≤c:=by have:=hrow.2.1;rw [hl] at this;exact this
  have hc9:c≤9223372036854775807:=by have:=hrow.2.2.1;unfold maxLen at this;exact this
  have cx:=hc A.length ω
  have hx:(A++[x])[A.length]' ω=x:=by simp
  rw [hx] at cx
  have HROW:=hid hrow
  clear hc hx hrow hl
  have i1:(A.length:Int)<(A.length:Int)+1:=ω
  have i2:(A.length:Int)≤c:=ω
  have i3:(0:Int)≤A.length:=ω
  go_wp2_with fail
  go_quiet (fail)
  go_wp2_with fail
  go_ret3
  refine ⟨some ⟨g,off,none⟩,rfl,?_,Gg B.out _,fun b off' q=>?_⟩
  · obtain ⟨h1,h2,h3,h4,h5⟩:=HROW.out
    refine ⟨by simp,Nat.le_refl _,by unfold maxLen;omega,(fun h=>by cases h),fun hn=>?_⟩
    obtain ⟨b',o',e',hb',hc'⟩:=h5 (by simp)
    refine ⟨b',o',e',hb',fun j u hu=>hc' j u ?_⟩
    rw [List.map_append,List.getElem?_append_left (by have:=(List.getElem?_eq_some_iff.1 hu).1;exact this)]
    exact hu
  · cases q
    exact (World.ownsRow.lt O.out g rfl).1
def rwS (a:Option Addr) (c:Nat) (L:List ByteArray):Ch where
  F b:=∃ off,a=some ⟨b,off,none⟩∧0<L.length
  P w:=Ko w a c L
  keep {w w'} h t:=t.row h fun hn b ⟨off,e⟩ q=>q ⟨off,e,hn⟩
  lt {w} h b hb:=by
    obtain ⟨off,e,hn⟩:=hb
    obtain ⟨b',off',e',hlt,_⟩:=h.2.2.2.2 hn
    rw [e] at e';cases e';exact hlt
theorem Aes {w:World} {a:Option Addr} {c:Nat} {L:List ByteArray} (h:Ko w a c L):∃ b off,(0<L.length→a=some ⟨b,off,none⟩)∧∀ j,j<L.length→w.cell? ⟨b,off+j,none⟩=some (.string (L.getD j ⟨#[]⟩)):=by
  by_cases hn:0<L.length
  · obtain ⟨b,off,e,_,hc⟩:=h.2.2.2.2 hn
    refine ⟨b,off,fun _=>e,fun j hj=>hc j _ ?_⟩
    rw [List.getElem?_map,List.getElem?_eq_getElem hj,List.getD_eq_getElem?_getD,List.getElem?_eq_getElem hj];rfl
  · exact ⟨0,0,fun q=>absurd q hn,fun j hj=>absurd hj ω⟩
def BP:EntT:=⟨⟨#[]⟩,0⟩
def Eh (M:MemM) (P:List PtM):List ByteArray→Int→Int×Int
  | [],i=>(i,0)
  | s::L,i=>
    if BL M P i≠0 then (0,BL M P i)
    else if Bd (Ar M P i) s<0 then (0,10)
    else
      if AT M P ((Ar M P i).getD (Bd (Ar M P i) s).toNat BP).ino≠0∨(Am M P ((Ar M P i).getD (Bd (Ar M P i) s).toNat BP).ino).k=0 then (0,36)
      else Eh M P L ((Ar M P i).getD (Bd (Ar M P i) s).toNat BP).ino
def Bg (M:MemM) (P:List PtM) (L:List ByteArray):Int×Int:=if AT M P 1≠0 then (0,AT M P 1) else Eh M P L 1
def AQ (M:MemM) (P:List PtM) (X:List UInt8):Int×Int:=match Cp X with
  | some L=>Bg M P L
  | none=>(0,15)
def Hb (M:MemM) (P:List PtM) (X:List UInt8):Int×InoT×Int:=
  if (AQ M P X).2≠0 then (0,AP,(AQ M P X).2)
  else if AT M P (AQ M P X).1≠0 then (0,AP,AT M P (AQ M P X).1)
  else ((AQ M P X).1,Am M P (AQ M P X).1,0)
def EU (M:MemM) (P:List PtM) (X:List UInt8):Int×ByteArray×Int:=match Cp X with
  | none=>(0,⟨#[]⟩,15)
  | some L=>match L.getLast? with
    | none=>(0,⟨#[]⟩,15)
    | some x=>
      if (Bg M P L.dropLast).2≠0 then (0,⟨#[]⟩,(Bg M P L.dropLast).2)
      else if AT M P (Bg M P L.dropLast).1≠0 then (0,⟨#[]⟩,AT M P (Bg M P L.dropLast).1)
      else if (Am M P (Bg M P L.dropLast).1).k≠2 then (0,⟨#[]⟩,12)
      else ((Bg M P L.dropLast).1,x,0)
theorem XW (t:List EntT) (s:ByteArray):-1≤Bd t s∧Bd t s<16:=by
  unfold Bd
  split
  · exact ⟨Int.le_refl _,by decide⟩
  · cases h:(BI (Ec s.data.toList)).find? (SK t s) with
    | none=>exact ⟨Int.le_refl _,by show (-1:Int)<16;decide⟩
    | some x=>
      have hm:=List.mem_of_find?_eq_some h
      unfold BI at hm
      obtain ⟨i,_,rfl⟩:=List.mem_map.1 hm
      have:=Nat.mod_lt (Ec s.data.toList+i) (show 0<16 by decide)
      exact ⟨by show (-1:Int)≤((_:Nat):Int);omega,by show (((Ec s.data.toList+i) % 16:Nat):Int)<16;omega⟩
end
section
def Xm (x y:PartT):Bool:=(decide (x.k=y.k)&&decide (x.n=y.n))||decide (x.a+x.s≤y.a)||decide (y.a+y.s≤x.a)
theorem Py:(BA.all fun x=>BA.all fun y=>Xm x y)=true:=by decide +kernel
theorem Tt:(BA.all fun x=>decide (x.k=5)||decide (x.k=6)||decide (x.s=64))=true:=by decide +kernel
theorem Wr:(BA.all fun x=>decide (x.k=5)||decide (x.a+x.s≤2688)||decide (6784≤x.a))=true:=by decide +kernel
theorem Mi {kd nm:Int} {q:PartT} (h:Bj kd nm=some q):q∈BA∧q.k=kd∧q.n=nm:=by
  have h2:=List.find?_some h
  unfold Ado at h2
  refine ⟨List.mem_of_find?_eq_some h,?_⟩
  simpa using h2
theorem Sz {kd nm kd' nm':Int} {q q':PartT} (h:Bj kd nm=some q) (h':Bj kd' nm'=some q') (hne:¬ (kd=kd'∧nm=nm')):q.a+q.s≤q'.a∨q'.a+q'.s≤q.a:=by
  have k:=Mi h
  have k':=Mi h'
  have z:=List.all_eq_true.1 (List.all_eq_true.1 Py q k.1) q' k'.1
  unfold Xm at z
  simp only [Bool.or_eq_true,Bool.and_eq_true,decide_eq_true_eq] at z
  rcases z with (z | z) | z
  · exact absurd ⟨k.2.1.symm.trans (z.1.trans k'.2.1),k.2.2.symm.trans (z.2.trans k'.2.2)⟩ hne
  · exact .inl z
  · exact .inr z
theorem Pe {kd nm:Int} {q:PartT} (h:Bj kd nm=some q) (h5:kd≠5) (h6:kd≠6):q.s=64:=by
  have k:=Mi h
  have z:=List.all_eq_true.1 Tt q k.1
  simp only [Bool.or_eq_true,decide_eq_true_eq,k.2.1,h5,h6,false_or] at z
  exact z
theorem XX {kd nm:Int} {q:PartT} (h:Bj kd nm=some q) (h5:kd≠5):q.a+q.s≤2688∨6784≤q.a:=by
  have k:=Mi h
  have z:=List.all_eq_true.1 Wr q k.1
  simp only [Bool.or_eq_true,decide_eq_true_eq,k.2.1,h5,false_or] at z
  exact z
theorem GP {at_:Int} {b:List UInt8} {p:PtM} (h:p.at_+p.d.length≤at_∨at_+b.length≤p.at_):JT at_ b p=b:=by
  refine CV (De _ _ _) fun i hi=>?_
  rw [Ib hi,if_neg ω]
theorem Tl {at_:Int} {b xs:List UInt8} (h:xs.length≤b.length):JT at_ b ⟨at_,xs⟩=xs++b.drop xs.length:=by
  refine CV (by rw [De,List.length_append,List.length_drop];omega) fun i hi=>?_
  rw [List.length_append,List.length_drop] at hi
  have hi:i<b.length:=ω
  rw [Ib hi]
  dsimp only
  simp only [List.getD_eq_getElem?_getD]
  by_cases hc:i<xs.length
  · rw [if_pos ω,List.getElem?_append_left hc,show (at_+(i:Int)-at_).toNat=i by omega]
  · rw [if_neg ω,List.getElem?_append_right ω,List.getElem?_drop,show xs.length+(i-xs.length)=i by omega]
abbrev LX (V:List UInt8) (at_ n:Int):List UInt8:=(V.drop at_.toNat).take n.toNat
theorem LY {V:List UInt8} {at_ n:Int} (h:0≤at_∧0≤n∧at_+n≤V.length):((LX V at_ n).length:Int)=n:=by rw [List.length_take,List.length_drop];omega
theorem Lz {V:List UInt8} {p:PtM} {at_ n:Int} (hp:0≤p.at_∧p.at_+p.d.length≤V.length) (h:0≤at_∧0≤n∧at_+n≤V.length):LX (stV V p) at_ n=JT at_ (LX V at_ n) p:=by
  have l1:=LY h
  have l2:((LX (stV V p) at_ n).length:Int)=n:=LY (by rw [Db];exact h)
  refine CV (by rw [De];omega) fun i hi=>?_
  rw [De] at hi
  rw [Ib hi]
  have e1:(LX (stV V p) at_ n).getD i 0=(stV V p).getD (at_.toNat+i) 0:=by
    simp only [List.getD_eq_getElem?_getD,List.getElem?_take,List.getElem?_drop];rw [if_pos ω]
  have e2:(LX V at_ n).getD i 0=V.getD (at_.toNat+i) 0:=by
    simp only [List.getD_eq_getElem?_getD,List.getElem?_take,List.getElem?_drop];rw [if_pos ω]
  rw [e1,e2]
  unfold stV
  rw [if_pos hp,FJ _ _ _ ω]
  by_cases hc:p.at_≤at_+(i:Int)∧at_+(i:Int)<p.at_+p.d.length
  · rw [if_pos ω,if_pos hc,show (at_+(i:Int)-p.at_).toNat=at_.toNat+i-p.at_.toNat by omega]
  · rw [if_neg ω,if_neg hc]
theorem PZ:∀ {P:List PtM} {V:List UInt8} {at_ n:Int} (_:∀ p∈P,0≤p.at_∧p.at_+p.d.length≤V.length) (_:0≤at_∧0≤n∧at_+n≤V.length),LX (P.foldl stV V) at_ n=ovl at_ (LX V at_ n) P
  | [],_,_,_,_,_=>rfl
  | p::P,V,at_,n,hp,h=>by
    rw [List.foldl_cons,PZ (fun q hq=>by rw [Db];exact hp q (List.mem_cons_of_mem _ hq)) (by rw [Db];exact h),Lz (hp p List.mem_cons_self) h]
    rfl
theorem Ur:∀ (L:List PtM) (b:List UInt8),(∀ p∈L,p.d.length≤64)→(L.foldl Fo b).length≤b.length+70*L.length
  | [],b,_=>by simp
  | p::L,b,h=>by
    have ih:=Ur L (Fo b p) (fun q hq=>h q (List.mem_cons_of_mem _ hq))
    have h1:(AC (AC b p.at_ 4) p.d.length 2).length≤(AC b p.at_ 4).length+2:=Ce _ _ 2
    have h2:(AC b p.at_ 4).length≤b.length+4:=Ce _ _ 4
    have h3:=h p List.mem_cons_self
    have h4:(Fo b p).length≤b.length+70:=by unfold Fo;rw [List.length_append];omega
    rw [List.foldl_cons,List.length_cons]
    omega
theorem Aak {L:List PtM} (h:∀ p∈L,p.d.length≤64):(Ct L).length≤70*L.length+13:=by
  unfold Ct;split
  · unfold Rn
    have h1:=Ur L (AC [] L.length 2) h
    have h2:(AC [] L.length 2).length≤0+2:=Ce _ _ 2
    have h4:Bz (Ln (DD L)).length≤7:=by unfold Bz;omega
    have h5:(Ln (DD L)).length≤(DD L).length+4:=Ce _ _ 4
    have h6:(DD L).length≤2+70*L.length:=by unfold DD;omega
    rw [List.length_append,List.length_replicate];omega
  · simp
theorem Abh {p:PtM} (h:0≤p.at_∧p.at_≤23168) (hd:p.d.length≤256):KF p=true:=by
  have hf:By p.at_ 4=true:=by
    unfold By
    rw [if_neg (by decide),if_neg (by decide),if_pos rfl,decide_eq_true ω,decide_eq_true ω];rfl
  unfold KF
  rw [hf,decide_eq_true hd];rfl
def OH (M:MemM) (P:List PtM) (kd nm:Int):List UInt8:=if kd=3∨kd=4∨kd=7 then Bc M P kd nm else []
structure Vol (M:MemM) (P:List PtM) (s:Int→Int→List UInt8) (n:Nat):Prop where
  m:M.V.length=23168
  r:CC M.V 2688 4096=([],0)
  k:∀ p∈P,0≤p.at_∧p.at_+p.d.length≤23168
  l:P.length=n
  d:∀ p∈P,p.d.length≤64
  s:OH M P=s
def BW (s:Int→Int→List UInt8) (kd nm:Int) (xs:List UInt8):Int→Int→List UInt8:=fun a b=>if a=kd∧b=nm then xs++(s kd nm).drop xs.length else s a b
section
variable {M:MemM} {P:List PtM} {s:Int→Int→List UInt8} {n:Nat}
theorem ZA {kd nm:Int} {q:PartT} {xs:List UInt8} (hm:M.V.length=23168) (h:Bj kd nm=some q) (hx:(xs.length:Int)≤q.s) (h64:xs.length≤64) (hn:P.length<64):stE M P kd nm xs.length=0∧stP M P kd nm xs=P++[⟨q.a,xs⟩]:=by
  have hi:=Dz h
  have ho:okT M P q.a xs.length=true:=by unfold okT;rw [decide_eq_true_iff];omega
  unfold stE stP;rw [h];dsimp only
  unfold ND Lw;rw [if_pos ho,if_pos ho];exact ⟨rfl,rfl⟩
theorem US {kd nm kd' nm':Int} {q:PartT} {xs:List UInt8} (hm:M.V.length=23168) (h:Bj kd nm=some q) (hx:(xs.length:Int)≤q.s):Bc M (P++[⟨q.a,xs⟩]) kd' nm'=if kd'=kd∧nm'=nm then xs++(Bc M P kd nm).drop xs.length else Bc M P kd' nm':=by
  cases h':Bj kd' nm' with
  | none=>
    rw [Dg h',Dg h']
    split
    · next e=>rw [e.1,e.2,h] at h';cases h'
    · rfl
  | some q'=>
    have l:=Nc (P:=P) (JJ hm h')
    have hi:=Dz h'
    rw [CD h',CD h',CD h]
    show ovl _ _ (P++_)=_
    rw [QO]
    split
    · next e=>
      rw [e.1,e.2,h] at h'
      cases h'
      exact Tl (by show xs.length≤(Fv M P q.a q.s).length;omega)
    · next e=>
      have z:=Sz h h' (fun e'=>e ⟨e'.1.symm,e'.2.symm⟩)
      exact GP (by show q.a+(xs.length:Int)≤_∨q'.a+((Fv M P q'.a q'.s).length:Int)≤q.a;omega)
theorem Vol.put (V:Vol M P s n) {kd nm:Int} {q:PartT} {xs:List UInt8} (h:Bj kd nm=some q) (hk:kd=3∨kd=4∨kd=7) (hx:xs.length≤64) (hn:n<64):stE M P kd nm xs.length=0∧Vol M (stP M P kd nm xs) (BW s kd nm xs) (n+1):=by
  have h64:=Pe h ω ω
  have hi:=Dz h
  have z:=ZA V.m h (xs:=xs) (P:=P) ω hx (by have:=V.l;omega)
  refine ⟨z.1,?_⟩
  rw [z.2]
  refine ⟨V.m,V.r,fun p hp=>?_,by rw [List.length_append,V.l];rfl,fun p hp=>?_,?_⟩
  · rcases List.mem_append.1 hp with hp | hp
    · exact V.k p hp
    · rw [List.mem_singleton.1 hp];dsimp only;omega
  · rcases List.mem_append.1 hp with hp | hp
    · exact V.d p hp
    · rw [List.mem_singleton.1 hp];exact hx
  · rw [← V.s]
    funext a b
    unfold OH BW
    dsimp only
    by_cases ha:a=3∨a=4∨a=7
    · rw [if_pos ha,US V.m h ω,if_pos ha,if_pos hk]
    · rw [if_neg ha,if_neg ha,if_neg (fun (e:a=kd∧b=nm)=>ha (e.1 ▸ hk))]
theorem Vol.put2 (V:Vol M P s n) {kd nm:Int} {q:PartT} {xs:List UInt8} (h:Bj kd nm=some q) (hk:¬ (kd=3∨kd=4∨kd=7)) (hx:(xs.length:Int)≤q.s) (hx2:xs.length≤64) (hn:n<64):stE M P kd nm xs.length=0∧Vol M (stP M P kd nm xs) s (n+1):=by
  have hi:=Dz h
  have z:=ZA V.m h (xs:=xs) (P:=P) ω hx2 (by have:=V.l;omega)
  refine ⟨z.1,?_⟩
  rw [z.2]
  refine ⟨V.m,V.r,fun p hp=>?_,by rw [List.length_append,V.l];rfl,fun p hp=>?_,?_⟩
  · rcases List.mem_append.1 hp with hp | hp
    · exact V.k p hp
    · rw [List.mem_singleton.1 hp];dsimp only;omega
  · rcases List.mem_append.1 hp with hp | hp
    · exact V.d p hp
    · rw [List.mem_singleton.1 hp];exact hx2
  · rw [← V.s]
    funext a b
    unfold OH
    by_cases ha:a=3∨a=4∨a=7
    · rw [if_pos ha,US V.m h hx,if_neg (fun (e:a=kd∧b=nm)=>hk (e.1 ▸ ha)),if_pos ha]
    · rw [if_neg ha,if_neg ha]
theorem Vol.com (V:Vol M P s n) (hn:n≤50):cmE M P=0∧cmP M P=[]∧Vol (cmM M P) [] s 0:=by
  by_cases h0:P=[]
  · subst h0
    refine ⟨rfl,rfl,?_⟩
    have e:cmM M []=M:=rfl
    rw [e]
    exact ⟨V.m,V.r,V.k,rfl,V.d,V.s⟩
  · have ok:LogOk 2688 4096 M:=⟨ω,ω,by have:=V.m;omega,by have:=V.m;omega⟩
    have hl:=Aak V.d
    have hE:CY P=true:=by
      unfold CY
      rw [decide_eq_true (by have:=V.l;omega),List.all_eq_true.2 fun p hp=>Abh (by have:=V.k p hp;omega) (by have:=V.d p hp;omega)];rfl
    have eE:IK P=0:=by unfold IK;rw [if_pos hE]
    have hP:=V.l
    have ap:El M 2688 4096 P=0:=by unfold El;rw [if_pos eE,V.r];exact if_neg (by show ¬ (4096-8<0+_);omega)
    have eM:cmM M P=Fu (DT M 2688 4096 P) 2688 4096:=by unfold cmM;rw [if_neg h0,if_pos ap]
    have lR:CC (DT M 2688 4096 P).V 2688 4096=([P],0+(Ct P).length):=by
      rw [YC ok,if_pos ap,V.r];rfl
    have okA:=Of ok P
    refine ⟨by unfold cmE;rw [if_neg h0,ap],by unfold cmP;rw [if_neg h0,if_pos ap],?_⟩
    rw [eM]
    refine ⟨by rw [KL,Jv];exact V.m,VU okA,fun p hp=>(by cases hp),rfl,fun p hp=>(by cases hp),?_⟩
    rw [← V.s]
    funext a b
    unfold OH
    split
    · next ha=>
      cases hf:Bj a b with
      | none=>rw [Dg hf,Dg hf]
      | some q=>
        have hi:=Dz hf
        have hg:=XX hf ω
        have hA:DT M 2688 4096 P=Gz (Di M [⟨((2688+8+0:Nat):Int),Ct P⟩]) 2688 ((0+(Ct P).length:Nat):Int):=by
          unfold DT;rw [if_pos ⟨eE,by rw [V.r];show ¬ (4096-8<0+_);omega⟩,V.r]
        have l8:∀ z:Int,(AC [] z 8).length≤8:=fun z=>Nat.le_trans (Ce [] z 8) (by simp)
        rw [CD hf,CD hf]
        show LX (Fu (DT M 2688 4096 P) 2688 4096).V q.a q.s=ovl q.a (LX M.V q.a q.s) P
        have eV:(Fu (DT M 2688 4096 P) 2688 4096).V=stV (P.foldl stV (stV (stV M.V ⟨((2688+8+0:Nat):Int),Ct P⟩) ⟨((2688:Nat):Int),AC [] ((0+(Ct P).length:Nat):Int) 8⟩)) ⟨((2688:Nat):Int),AC [] 0 8⟩:=by
          unfold Fu;rw [lR];unfold Gz;rw [FE,FE,hA];unfold Gz;rw [FE,FE]
          simp
        have m:=V.m
        have b1:=l8 ((0+(Ct P).length:Nat):Int)
        have b2:=l8 0
        rw [eV,Lz (by rw [Kz,Db,Db,m];dsimp only;omega) (by rw [Kz,Db,Db,m];omega),
          PZ (by rw [Db,Db,m];exact V.k) (by rw [Db,Db,m];omega),
          Lz (by rw [Db,m];dsimp only;omega) (by rw [Db,m];omega),Lz (by rw [m];dsimp only;omega) (by rw [m];omega)]
        have lc:((LX M.V q.a q.s).length:Int)=q.s:=LY (by rw [m];omega)
        rw [GP (p:=⟨((2688:Nat):Int),AC [] 0 8⟩) (by rw [GQ,De,De];dsimp only;omega)]
        rw [GP (p:=⟨((2688:Nat):Int),AC [] ((0+(Ct P).length:Nat):Int) 8⟩) (by rw [De];dsimp only;omega)]
        rw [GP (p:=⟨((2688+8+0:Nat):Int),Ct P⟩) (by dsimp only;omega)]
    · rfl
end
end
end Go.Proofs.YtbfgjinpchbajaaGreatDoor
