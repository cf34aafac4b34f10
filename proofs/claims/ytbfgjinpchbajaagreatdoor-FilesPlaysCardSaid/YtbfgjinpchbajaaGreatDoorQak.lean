/- Parts of the proof. -/
import Derived.Lib.Bytealg
import Derived.Laws.Externs
import Derived.Lib.IndexLaws
import Derived.Test.YtbfgjinpchbajaaGreatDoorQaj
namespace Go.Proofs.YtbfgjinpchbajaaGreatDoor
open Go.RowKit
open _root_.Go.Proofs.Tryz
set_option linter.unusedSimpArgs false
set_option linter.unusedVariables false
set_option linter.unusedSectionVars false
set_option maxRecDepth 100000
set_option maxHeartbeats 8000000
section
open Go.RowKit Go.Shelf
def Mb (bs:Λ) (i:Nat):Λ:=(bs.drop (16*i)).take 16
theorem VI {bs:Λ} (h:64≤bs.length) {i:Nat} (hi:i<4):(Mb bs i).length=16:=by
  unfold Mb;rw [List.length_take,List.length_drop];omega
def rdF (bs:Λ):Nat→Option (List EntT)
  | 0=>some []
  | j+1=>match rdF bs j,Lt (Mb bs j) with
    | some l,some e=>some (l++[e])
    | _,_=>none
theorem GD {bs:Λ} {j:Nat} (h:rdF bs j=none):rdF bs (j+1)=none:=by simp [rdF,h]
theorem Acn {bs:Λ} {j:Nat} (hj:j<4) (h:Lt (Mb bs j)=none):rdF bs 4=none:=by
  have h1:rdF bs (j+1)=none:=by simp only [rdF,h];cases rdF bs j<;>rfl
  rcases (ω:j=0∨j=1∨j=2∨j=3) with rfl | rfl | rfl | rfl
  · exact GD (GD (GD h1))
  · exact GD (GD h1)
  · exact GD h1
  · exact h1
theorem Ae8 {bs:Λ} {j:Nat} {l:List EntT} {e:EntT} (h:rdF bs j=some l) (hd:Lt (Mb bs j)=some e):rdF bs (j+1)=some (l++[e]):=by simp [rdF,h,hd]
theorem PG {bs:Λ}:∀ (j:Nat) (l:List EntT),rdF bs j=some l→l.length=j
  | 0,l,h=>by cases h;rfl
  | j+1,l,h=>by
    unfold rdF at h
    cases h1:rdF bs j with
    | none=>rw [h1] at h;cases h
    | some l1=>
      cases h2:Lt (Mb bs j) with
      | none=>rw [h1,h2] at h;cases h
      | some e=>
        rw [h1,h2] at h
        cases h
        rw [List.length_append,PG j l1 h1];rfl
def LC (t:List EntT) (q:Nat) (es:List EntT):List EntT:=splice t (4*q) es
theorem ZQ (t:List EntT) (q:Nat):LC t q []=t:=by simp [LC,splice]
theorem Rz {t:List EntT} (ht:t.length=16) {q:Nat} {es:List EntT} (h:4*q+es.length≤16):(LC t q es).length=16:=by
  unfold LC;rw [length_splice t (4*q) es ω,ht]
theorem WZ {t:List EntT} (ht:t.length=16) {q:Nat} {es:List EntT} (h:4*q+es.length<16) (e:EntT):(LC t q es).set (4*q+es.length) e=LC t q (es++[e]):=
  Nt t (4*q) es e ω
def Aab (t:List EntT) (q:Nat):Option (List EntT)→List EntT×Int
  | some es=>(LC t q es,0)
  | none=>(t,2)
def Fv (t:List EntT) (k:Int) (bs:Λ):List EntT×Int:=
  if 0≤k∧k<4 then (if bs.length<64 then (t,3) else Aab t k.toNat (rdF bs 4)) else (t,1)
def Afx (w:World) (p:List EntT×Int) (e:Ending) (w':World):Prop:=e=.returned (.tuple #[.agg (Au p.1).toArray,ν p.2])∧Below w.heap.size w w'
theorem Ga {fn:Func} {c u:Tmp} (h:fn.results=#[.cell c 179,.tmp u]) {tmps:Array Value} {w:World} {g:Nat} {e:TypeId} {t:List EntT} (ht:t.length=16) (hc:tmps.getD c undef=π g) (hb:Blk w g e (Au t)) :
    (results fn tmps).run prog w=.ok (.tuple #[.agg (Au t).toArray,tmps.getD u undef]) w:=
  Cc h hc hb υ179 rfl (by rw [IA,BL,ht])
theorem Ac0 (b off n c j:Nat) (hj:j<4) (hc:64≤c) (w:World):(Instr.sliceAt 74 (.slice (some ⟨b,off,none⟩) n c) (some (ν ((j:Int)*16))) (some (ν (((j:Int)+1)*16))) none).run prog w=.ok (.slice (some ⟨b,off+16*j,none⟩) 16 (c-16*j)) w:=by
  have u:=υ74
  have s8:(sizeOf 5).run prog w=.ok 1 w:=κ
  have he:prog.elem 74=5:=κ
  have hu:prog.underlying 74=some (.slice (prog.elem 74)):=by rw [he];exact u
  rw [run_sliceAt_slice w _ _ _ _ _ hu,run_slice_lh w _ _ _ _ hu _ _ _ _ ω ω ω,he,s8]
  show Result.ok (sliced _ _ _ _ _) w=_
  unfold sliced
  rw [show ((j:Int)*16).toNat=16*j by omega,show (((j:Int)+1)*16).toNat=16*j+16 by omega,if_neg ω]
  simp only [Option.map_some,Addr.add_mid,Nat.mul_one]
  rw [show 16*j+16-16*j=16 by omega]
theorem Xj (t:List EntT) (ht:t.length=16) (k:Int) (a:Ω) (c:Nat) (bs:Λ) (w:World) (hr:Bo w a c bs) :
    Calls prog 141 #[.agg (Au t).toArray,ν k,.slice a bs.length c] w (Afx w (Fv t k bs)):=by
  obtain ⟨z,hz⟩:∃ z,z=Bm:=⟨_,rfl⟩
  have HZE:=hid hz
  have HZ:=hid (show z.length=16 by rw [hz];exact Av)
  have HL:=hid (Ac3 HZ.out)
  have HT:=hid ht
  have hb9:=ER hr
  have HROW:=hid hr
  have K0:=hid (AK (W:=w) rfl 179 (Au t))
  have B0:=hid (Cq w (.cells (Au t).toArray 179))
  have S0:=hid (show (w.alloc (.cells (Au t).toArray 179)).heap.size=w.heap.size+1 by simp)
  clear ht hz hr
  by_cases hk:0≤k∧k<4
  · obtain ⟨q,rfl⟩:∃ q:Nat,k=q:=⟨k.toNat,ω⟩
    have hq:q<4:=ω
    have hir:Fv t (q:Int) bs=(if bs.length<64 then (t,3) else Aab t q (rdF bs 4)):=by unfold Fv;rw [if_pos hk];rfl
    have HIB:=fun w1=>DN (q:Int) w1
    rw [decide_eq_true hk] at HIB
    have HIB:=hid HIB
    clear hk
    by_cases hlen:bs.length<64
    · rw [if_pos hlen] at hir
      have HIR:=hid hir
      have d1:decide ((bs.length:Int)<64)=true:=decide_eq_true ω
      clear hir
      rw [HIR.out]
      go_enter func141,ntmps141
      go_wp2_with (first
        | ((with_reducible refine Ha (z:=z) HZE.out rfl rfl ?_);intro w1 k1 b1 s1;rw [S0.out] at k1 s1;have K1:=hid k1;have B1:=hid (B0.out.trans (b1.mono B0.out.size));have T1:=hid (K0.out.mono b1);have S1:=hid s1;clear k1 b1 s1)
        | (go_at_call 163;refine (HIB.out _).mono ?_;rintro e w2 ⟨rfl,rfl⟩)
        | (with_reducible refine DT rfl _ rfl w.heap.size rfl t HT.out T1.out ?_)
        | ((try rw [S0.out]);(with_reducible refine Di rfl _ _ rfl (w.heap.size+1) rfl t HT.out rfl K1.out HL.out ?_);intro w3 k3 g3;have K3:=hid k3;have G3:=hid g3;clear k3 g3))
      refine bodyPost_ret (Ga rfl HT.out rfl K3.out) rfl ⟨rfl,Cm B1.out G3.out ω B1.out.size⟩
    · rw [if_neg hlen] at hir
      have d1:decide ((bs.length:Int)<64)=false:=decide_eq_false ω
      have hbp:0<bs.length:=ω
      obtain ⟨b,off,rfl,hblt,_⟩:=HROW.out.at hbp
      have hc64:64≤c:=by have:=HROW.out.2.1;omega
      have h64:64≤bs.length:=ω
      have HSL:=hid (fun n j hj w1=>Ac0 b off n c j hj hc64 w1)
      have q4:(q:Int)<4:=ω
      have HIR:=hid hir
      clear hir hlen hbp
      go_enter func141,ntmps141
      go_wp2_with (first
        | (have _t:=T3;(with_reducible refine Ha (z:=z) HZE.out rfl rfl ?_);intro w4 k4 b4 s4;have K4:=hid k4;have B4:=hid (Ae B1.out b4);have T4:=hid (T1.out.mono b4);have R4:=hid (K1.out.mono b4);have S4:=hid s4;clear k4 b4 s4)
        | ((with_reducible refine Ha (z:=z) HZE.out rfl rfl ?_);intro w1 k1 b1 s1;rw [S0.out] at k1 s1;have K1:=hid k1;have B1:=hid (B0.out.trans (b1.mono B0.out.size));have T1:=hid (K0.out.mono b1);have S1:=hid s1;clear k1 b1 s1)
        | (go_at_call 163;refine (HIB.out _).mono ?_;rintro e w2 ⟨rfl,rfl⟩;have T3:True:=trivial)
        | (with_reducible refine DT rfl _ rfl w.heap.size rfl t HT.out T1.out ?_)
        | ((with_reducible refine Di rfl _ _ rfl w1.heap.size rfl t HT.out rfl K4.out HL.out ?_);intro w5 k5 g5;have K5:=hid k5;have G5:=hid g5;clear k5 g5))
      have hs1:w1.heap.size=w.heap.size+2:=by rw [S1.out]
      have T5:=hid (T4.out.grownS G5.out ω);have R5:=hid (R4.out.grownS G5.out ω);have B5:=hid (Cm B4.out G5.out ω B4.out.size)
      have K5':=K5.out
      rw [hs1] at K5' ⊢
      rw [← ZQ t q] at K5'
      have hs5:w.heap.size+3≤w5.heap.size:=by have h1:=G5.out.size;have h2:=S4.out;omega
      clear T4 R4 B4 K4 S4 G5 K5 T1 K1 B1 S1 hs1
      go_loopw [21] (fun i wr=>∃ (j:Nat) (l:List EntT),j≤4∧i=ν j∧rdF bs j=some l∧Blk wr w.heap.size 179 (Au t)∧Blk wr (w.heap.size+1) 179 (Au z)∧Blk wr (w.heap.size+2) 179 (Au (LC t q l))∧Below w.heap.size w wr∧w.heap.size+3≤wr.heap.size) (fun i _=>4-(intOf i).toNat)
      case atStart=>exact ⟨0,[],ω,rfl,rfl,T5.out,R5.out,K5',B5.out,hs5⟩
      case round=>
        obtain ⟨j,l,hj,rfl,hrd,ht0,hr0,hk0,hb0,hsz⟩:=hrel
        clear T5 R5 K5' B5 hs5
        have HRD:=hid hrd;have T6:=hid ht0;have R6:=hid hr0;have K6:=hid hk0;have B6:=hid hb0
        have hll:=PG j l hrd
        clear hrd ht0 hr0 hk0 hb0
        by_cases hj4:j<4
        · have ij:(j:Int)<4:=ω
          have dj:decide ((j:Int)<4)=true:=decide_eq_true ij
          have hsl:=fun n w1=>HSL.out n j hj4 w1
          have hrow:=Nd (HROW.out.mono B6.out) (16*j) 16 ω
          have hch:=VI h64 hj4
          have HRC:=fun w1 (hb:Below wr.heap.size wr w1)=>VN b (off+16*j) (c-16*j) (Mb bs j) hch w1 (hrow.mono hb)
          have HRC:=hid HRC
          have hls:=Rz HT.out (q:=q) (es:=l) ω
          have HLS:=hid hls;have HLL:=hid hll
          have hkt:4*q+j<(LC t q l).length:=by rw [hls];omega
          have HKT:=hid hkt
          clear hrow hch hls hll hkt
          go_wp2_with (go_at_call 164;fail)
          refine (HRC.out _ (Below.refl _ _)).mono ?_
          rintro e w7 ⟨nm,ino,ok,rfl,hyes,hno,b7⟩
          have HY:=hid hyes;have HN:=hid hno
          have T7:=hid (T6.out.mono b7);have R7:=hid (R6.out.mono b7);have K7:=hid (K6.out.mono b7);have B7:=hid (Ae B6.out b7)
          have z7:w.heap.size+3≤w7.heap.size:=Nat.le_trans hsz b7.size
          have KE:=hid (AK (W:=w7) rfl 177 [.string nm,ν ino])
          clear b7 hyes hno HRC hsl
          cases ok with
          | false=>
            have hbad:=Acn hj4 (HN.out rfl)
            have HBAD:=hid hbad
            clear hbad
            have T8:=hid (T7.out.mono (Cq _ (.cells #[.string nm,ν ino] 177)));have R8:=hid (R7.out.mono (Cq _ (.cells #[.string nm,ν ino] 177)))
            go_wp2_with (first
              | (with_reducible refine DT rfl _ rfl w.heap.size rfl t HT.out T8.out ?_)
              | ((with_reducible refine Di rfl _ _ rfl (w.heap.size+1) rfl t HT.out rfl R8.out HL.out ?_);intro w9 k9 g9;have K9:=hid k9;have G9:=hid g9;clear k9 g9))
            refine bodyPost_ret (Ga rfl HT.out rfl K9.out) rfl ⟨by rw [HIR.out,HBAD.out];rfl,Cm (B7.out.alloc B7.out.size _) G9.out ω (by simp;omega)⟩
          | true=>
            have hok:=Ae8 HRD.out (HY.out rfl)
            have hsn:=WZ HT.out (q:=q) (es:=l) (by have:=HLL.out;omega) ⟨nm,ino⟩
            rw [HLL.out] at hsn
            have HOK:=hid hok;have HSN:=hid hsn
            clear hok hsn
            have K8:Hid (Blk (w7.alloc (.cells #[.string nm,ν ino] 177)) (w.heap.size+2) 179 (Au (LC t q l))):=hid (K7.out.mono (Cq _ _))
            have e1:IntKind.i64.wrap ((q:Int)*4+j)=q*4+j:=IntWalk.i64_in _ ω
            have e3:((q:Int)*4+j)<16:=ω
            have e4:((q:Int)*4+j).toNat=4*q+j:=ω
            go_wp2_with (first
              | ((with_reducible refine Se rfl _ _ rfl (w.heap.size+2) (4*q+j) rfl nm ino rfl K8.out HKT.out ?_);intro w9 k9 g9;rw [HSN.out] at k9;have K9:=hid k9;have G9:=hid g9;clear k9 g9))
            go_roundw
            case rel=>exact ⟨j+1,l++[⟨nm,ino⟩],ω,by go_num,HOK.out,(T7.out.mono (Cq _ (.cells #[.string nm,ν ino] 177))).grownS G9.out ω,(R7.out.mono (Cq _ (.cells #[.string nm,ν ino] 177))).grownS G9.out ω,K9.out,Cm (B7.out.alloc B7.out.size (.cells #[.string nm,ν ino] 177)) G9.out ω (by simp;omega),by have:=G9.out.size;simp at this;omega⟩
            case measure=>simp [intOf];omega
        · obtain rfl:j=4:=ω
          have dj:decide (((4:Nat):Int)<4)=false:=by decide
          have hls:=Rz HT.out (q:=q) (es:=l) ω
          have HLS:=hid hls
          clear hls hll
          go_wp2_with (first
            | (with_reducible refine DT rfl _ rfl (w.heap.size+2) rfl (LC t q l) HLS.out K6.out ?_)
            | ((with_reducible refine Di rfl _ _ rfl (w.heap.size+1) rfl (LC t q l) HLS.out rfl R6.out HL.out ?_);intro w9 k9 g9;have K9:=hid k9;have G9:=hid g9;clear k9 g9))
          refine bodyPost_ret (Ga rfl HLS.out rfl K9.out) rfl ⟨by rw [HIR.out,HRD.out];rfl,Cm B6.out G9.out ω B6.out.size⟩
  · have hir:Fv t k bs=(t,1):=if_neg hk
    have HIB:=fun w1=>DN k w1
    rw [decide_eq_false hk] at HIB
    have HIB:=hid HIB
    have HIR:=hid hir
    clear hk hir
    rw [HIR.out]
    go_enter func141,ntmps141
    go_wp2_with (first
      | ((with_reducible refine Ha (z:=z) HZE.out rfl rfl ?_);intro w1 k1 b1 s1;rw [S0.out] at k1 s1;have K1:=hid k1;have B1:=hid (B0.out.trans (b1.mono B0.out.size));have T1:=hid (K0.out.mono b1);have S1:=hid s1;clear k1 b1 s1)
      | (go_at_call 163;refine (HIB.out _).mono ?_;rintro e w2 ⟨rfl,rfl⟩)
      | (with_reducible refine DT rfl _ rfl w.heap.size rfl t HT.out T1.out ?_)
      | ((try rw [S0.out]);(with_reducible refine Di rfl _ _ rfl (w.heap.size+1) rfl t HT.out rfl K1.out HL.out ?_);intro w3 k3 g3;have K3:=hid k3;have G3:=hid g3;clear k3 g3))
    refine bodyPost_ret (Ga rfl HT.out rfl K3.out) rfl ⟨rfl,Cm B1.out G3.out ω B1.out.size⟩
end
section
open Go.RowKit Go.Shelf
def nzE (e:EntT):Bool:=!decide (e.nm=⟨#[]⟩∧e.ino=0)
def Hk (t:List EntT) (k:Int):Bool:=decide (0≤k∧k<4)&&((t.drop (4*k.toNat)).take 4).any nzE
theorem Vy {es:List EntT} {j:Nat} (hj:j<es.length):(es.take (j+1)).any nzE=((es.take j).any nzE||nzE es[j]):=by
  rw [List.take_succ_eq_append_getElem hj,List.any_append];simp
theorem Xn (t:List EntT) (ht:t.length=16) (k:Int) (w:World):Calls prog 144 #[.agg (Au t).toArray,ν k] w fun e w'=>e=.returned (.bool (Hk t k))∧Below w.heap.size w w':=by
  have HT:=hid ht
  have K0:=hid (AK (W:=w) rfl 179 (Au t))
  have B0:=hid (Cq w (.cells (Au t).toArray 179))
  have SZ:=hid (show (w.alloc (.cells (Au t).toArray 179)).heap.size=w.heap.size+1 by simp)
  clear ht
  by_cases hk:0≤k∧k<4
  · obtain ⟨q,rfl⟩:∃ q:Nat,k=q:=⟨k.toNat,ω⟩
    have hq:q<4:=ω
    have hr:Hk t (q:Int)=((t.drop (4*q)).take 4).any nzE:=by unfold Hk;rw [decide_eq_true hk];rfl
    have HIB:=fun w1=>DN (q:Int) w1
    rw [decide_eq_true hk] at HIB
    have HIB:=hid HIB
    have q4:(q:Int)<4:=ω
    clear hk
    obtain ⟨es,hes⟩:∃ es,es=(t.drop (4*q)).take 4:=⟨_,rfl⟩
    rw [← hes] at hr
    rw [hr]
    have hel:es.length=4:=by rw [hes,List.length_take,List.length_drop,HT.out];omega
    have hget:∀ j (h:j<es.length),∃ h':4*q+j<t.length,es[j]=t[4*q+j]:=fun j h=>⟨by rw [HT.out];omega,by subst hes;simp⟩
    have HG:=hid hget;have HEL:=hid hel
    clear hes hget hel hr
    have hsl:=fun w1=>OJ w.heap.size q hq w1
    obtain ⟨r,hr⟩:∃ r,r=es.any nzE:=⟨_,rfl⟩
    rw [← hr]
    have HR:=hid hr
    clear hr
    go_enter func144,ntmps144
    go_wp2_with (go_at_call 163;refine (HIB.out _).mono ?_;rintro e w1 ⟨rfl,rfl⟩)
    go_loopw [17] (fun i wr=>∃ (j:Nat),j≤4∧i=ν j∧(es.take j).any nzE=false∧Blk wr w.heap.size 179 (Au t)∧Below w.heap.size w wr) (fun i _=>4-(intOf i).toNat)
    case atStart=>exact ⟨0,ω,rfl,rfl,K0.out,B0.out⟩
    case round=>
      obtain ⟨j,hj,rfl,hno,hb0,hbl⟩:=hrel
      clear K0 B0 SZ hsl
      have HB0:=hid hb0;have HBL:=hid hbl;have HNO:=hid hno
      clear hb0 hbl hno
      by_cases hj4:j<4
      · have ij:(j:Int)<4:=ω
        have dj:decide ((j:Int)<4)=true:=decide_eq_true ij
        have hje:j<es.length:=by rw [HEL.out];exact hj4
        obtain ⟨ht4,hte⟩:=HG.out j hje
        have ck:=EU t (4*q+j) ht4
        obtain ⟨hq0,hv0⟩:=List.getElem?_eq_some_iff.1 ck.1
        obtain ⟨hq1,hv1⟩:=List.getElem?_eq_some_iff.1 ck.2
        have c0:wr.cell? ⟨w.heap.size,8*q+j*2,none⟩=some (.string es[j].nm):=by rw [hte,show 8*q+j*2=2*(4*q+j) by omega,HB0.out.cell (i:=2*(4*q+j)) hq0,hv0]
        have c1':wr.cell? ⟨w.heap.size,8*q+j*2+1,none⟩=some (ν es[j].ino):=by rw [hte,show 8*q+j*2+1=2*(4*q+j)+1 by omega,HB0.out.cell (i:=2*(4*q+j)+1) hq1,hv1]
        have hsn:=Vy hje
        rw [HNO.out,Bool.false_or] at hsn
        have hyes:nzE es[j]=true→es.any nzE=true:=fun h=>List.any_eq_true.2 ⟨es[j],List.getElem_mem _,h⟩
        have E:=SD es[j].nm ⟨#[]⟩ es[j].ino 0
        have hnz:nzE es[j]=!decide (es[j].nm=⟨#[]⟩∧es[j].ino=0):=rfl
        rw [hnz] at hsn hyes
        have HSN:=hid hsn;have HY:=hid hyes
        clear hsn hyes hte ck hq0 hq1 hv0 hv1 hnz
        generalize es[j].nm=nm at *
        generalize es[j].ino=ino at *
        have HB1:=hid (HB0.out.mono (Cq wr (.cells #[.string nm,ν ino] 177)))
        have HL1:=hid (HBL.out.alloc HBL.out.size (.cells #[.string nm,ν ino] 177))
        by_cases hz:nm=⟨#[]⟩∧ino=0
        · rw [decide_eq_true hz] at E HSN
          clear hz
          go_wp2_with fail
          go_roundw
          case rel=>exact ⟨j+1,ω,by go_num,HSN.out,HB1.out,HL1.out⟩
          case measure=>simp [intOf];omega
        · rw [decide_eq_false hz] at E HY
          have HF:=hid (HR.out.trans (HY.out rfl))
          clear hz
          go_wp2_with fail
          go_ret
          exact ⟨Bp HF.out.symm,HL1.out⟩
      · obtain rfl:j=4:=ω
        have dj:decide (((4:Nat):Int)<4)=false:=by decide
        rw [List.take_of_length_le (by rw [HEL.out];omega)] at HNO
        have HF:=hid (HR.out.trans HNO.out)
        go_wp2_with fail
        go_ret
        exact ⟨Bp HF.out.symm,HBL.out⟩
  · have hr:Hk t k=false:=by unfold Hk;rw [decide_eq_false hk];rfl
    rw [hr]
    have HIB:=fun w1=>DN k w1
    rw [decide_eq_false hk] at HIB
    have HIB:=hid HIB
    clear hk hr
    go_enter func144,ntmps144
    go_wp2_with (go_at_call 163;refine (HIB.out _).mono ?_;rintro e w1 ⟨rfl,rfl⟩)
    go_ret
    exact ⟨rfl,B0.out⟩
end
section
open Go.RowKit Go.Shelf
def Aiz (l:Λ):Option Nat:=l.findIdx? (fun b=>b == 47)
def Bu:Λ→List (Λ)
  | []=>[[]]
  | b::l=>if b == 47 then []::Bu l else match Bu l with
    | p::r=>(b::p)::r
    | []=>[[b]]
theorem Lj (b:UInt8) (l:Λ):Bu (b::l)=if b == 47 then []::Bu l else match Bu l with
    | p::r=>(b::p)::r
    | []=>[[b]]:=by rw [Bu]
theorem Oy (l:Λ):Bu l≠[]:=by
  cases l with
  | nil=>simp [Bu]
  | cons b l=>
    unfold Bu
    split
    · simp
    · split<;>simp
theorem EM:∀ {l:Λ},(∀ b∈l,b≠47)→Bu l=[l]
  | [],_=>rfl
  | b::l,h=>by
    have hb:(b == 47)=false:=by simpa using h b (by simp)
    have ih:=EM (l:=l) (fun x hx=>h x (by simp [hx]))
    unfold Bu
    rw [hb,ih];rfl
theorem Gz:∀ (p r:Λ),(∀ b∈p,b≠47)→Bu (p++47::r)=p::Bu r
  | [],r,_=>by
    show Bu (47::r)=_
    rw [Lj];rfl
  | b::p,r,h=>by
    have hb:(b == 47)=false:=by simpa using h b (by simp)
    have ih:=Gz p r (fun x hx=>h x (by simp [hx]))
    show Bu (b::(p++47::r))=_
    rw [Lj,hb,ih];rfl
theorem IE:∀ l:Λ,(Bu l).length≤l.length+1
  | []=>by simp [Bu]
  | b::l=>by
    have ih:=IE l
    unfold Bu
    split
    · simp;omega
    · split
      · rename_i h;rw [h] at ih;simp at ih ⊢;omega
      · simp
theorem Gd (l:Λ):(Lib.indexByte l 47=-1∧∀ b∈l,b≠47)∨(∃ k:Nat,Lib.indexByte l 47=k∧k<l.length∧(∀ b∈l.take k,b≠47)∧l=l.take k++47::l.drop (k+1)):=by
  have hge:=Lib.indexByte_ge l 47
  by_cases h:Lib.indexByte l 47=-1
  · refine .inl ⟨h,fun b hb e=>?_⟩
    obtain ⟨i,hi,rfl⟩:=List.getElem_of_mem hb
    exact Lib.indexByte_none h i (by rw [List.getElem?_eq_getElem hi,e])
  · obtain ⟨k,hk⟩:∃ k:Nat,Lib.indexByte l 47=k:=⟨(Lib.indexByte l 47).toNat,ω⟩
    obtain ⟨h1,h2⟩:=Lib.indexByte_some hk
    obtain ⟨h3,h4⟩:=List.getElem?_eq_some_iff.1 h1
    refine .inr ⟨k,hk,h3,fun b hb e=>?_,?_⟩
    · obtain ⟨i,hi,rfl⟩:=List.getElem_of_mem hb
      rw [List.length_take] at hi
      rw [List.getElem_take] at e
      exact h2 i ω (by rw [List.getElem?_eq_getElem ω,e])
    · rw [← h4,List.getElem_cons_drop,List.take_append_drop]
theorem SU (s:ByteArray) (w:World):Calls prog 189 #[.string s,.int .u8 47] w fun e w'=>e=.returned (ν (Lib.indexByte s.data.toList 47))∧w=w':=by
  go_enter func189,ntmps189
  go_wp2
  rw [run_callFunc_extern func191 κ κ κ (e:=Extern.BytealgIndexByte.indexByte) κ,Lib.run_indexByteString]
  simp only [Result.andThen]
  rw [Oper.upon_value]
  go_wp2
  go_ret
  exact ⟨rfl,rfl⟩
theorem SV (s:ByteArray) (w:World):Calls prog 184 #[.string s,.string ⟨#[47]⟩] w fun e w'=>e=.returned (ν (Lib.indexByte s.data.toList 47))∧w=w':=by
  by_cases hs:s=⟨#[47]⟩
  · subst hs
    go_enter func184,ntmps184
    go_wp2_with fail
    go_ret
    exact ⟨GW (by decide +kernel),rfl⟩
  have e1:=LG s ⟨#[47]⟩
  rw [decide_eq_false hs,QB] at e1
  have e2:=LG ⟨#[47]⟩ s
  rw [decide_eq_false (fun h=>hs h.symm),QB] at e2
  have HI:=hid (fun w1=>SU s w1)
  clear hs
  go_enter func184,ntmps184
  go_wp2_with (go_at_call 189;refine (HI.out _).mono ?_;rintro e w1 ⟨rfl,rfl⟩)
  go_ret
  exact ⟨rfl,rfl⟩
theorem Oj (s:ByteArray) (w:World):Calls prog 176 #[.string s,.string ⟨#[47]⟩] w fun e w'=>e=.returned (ν (Lib.indexByte s.data.toList 47))∧w=w':=by
  have HI:=hid (fun w1=>SV s w1)
  go_enter func176,ntmps176
  go_wp2_with (go_at_call 184;refine (HI.out _).mono ?_;rintro e w1 ⟨rfl,rfl⟩)
  go_ret
  exact ⟨rfl,rfl⟩
theorem OW (a:Ω) (c:Nat) (L:List ByteArray) (w:World) (h:Kp w a c L) :
    Calls prog 140 #[.slice a L.length c] w fun e w'=>e=.returned (.bool (L.all DY))∧Below w.heap.size w w':=by
  have hl:=ZG h
  have HR:=hid h
  clear h
  go_enter func140,ntmps140
  go_wp2
  go_loopw [7] (fun i wr=>∃ j:Nat,j≤L.length∧i=ν j∧(L.take j).all DY=true∧Below w.heap.size w wr) (fun i _=>L.length-(intOf i).toNat)
  case atStart=>exact ⟨0,Nat.zero_le _,rfl,by simp,Below.refl _ _⟩
  case round=>
    obtain ⟨j,hj,rfl,hall,hb⟩:=hrel
    by_cases hlt:j<L.length
    · obtain ⟨b,off,rfl,hbl,hc⟩:=Jo (HR.out.mono hb) ω
      have cj:=hc j hlt
      have ij:(j:Int)<L.length:=ω
      have dj:decide ((j:Int)<(L.length:Int))=true:=decide_eq_true ij
      have hsn:(L.take (j+1)).all DY=DY L[j]:=by rw [List.take_succ_eq_append_getElem hlt,List.all_append,hall];simp
      have hbad:DY L[j]=false→L.all DY=false:=fun h=>by
        rw [List.all_eq_false];exact ⟨L[j],List.getElem_mem _,by rw [h];simp⟩
      have HM:=fun w1=>QH L[j] w1
      have HSN:=hid hsn;have HBAD:=hid hbad;have HB:=hid hb
      clear hc hsn hbad hall hb
      generalize L[j]=x at *
      cases hm:DY x with
      | true=>
        rw [hm] at HM HSN
        have HM:=hid HM
        clear hm
        go_wp2_with (go_at_call 162;refine (HM.out _).mono ?_;rintro e w1 ⟨rfl,b1⟩;have B1:=hid (Ae HB.out b1);clear b1)
        go_roundw
        case rel=>exact ⟨j+1,ω,by go_num,HSN.out,B1.out⟩
        case measure=>simp [intOf];omega
      | false=>
        rw [hm] at HM
        have HF:=hid (HBAD.out hm)
        have HM:=hid HM
        clear hm
        go_wp2_with (go_at_call 162;refine (HM.out _).mono ?_;rintro e w1 ⟨rfl,b1⟩;have B1:=hid (Ae HB.out b1);clear b1)
        go_ret
        exact ⟨Bp HF.out.symm,B1.out⟩
    · obtain rfl:j=L.length:=ω
      have dj:decide ((L.length:Int)<(L.length:Int))=false:=decide_eq_false ω
      rw [List.take_length] at hall
      have HALL:=hid hall
      clear hall
      go_wp2
      go_ret
      exact ⟨Bp HALL.out.symm,hb⟩
end
section
open Go.RowKit Go.Shelf
def Sh (w:World) (X:Λ) (e:Ending) (w':World):Prop:=
  ∃ (a:Ω) (c:Nat) (R:List ByteArray),e=.returned (.slice a R.length c)∧Ado w' w.heap.size a c R∧Below w.heap.size w w' ∧
    ((R=(Bu X).map Af∧R.length≤6)∨(6<(Bu X).length∧∃ x∈R,(47:UInt8)∈x.data.toList))
def Afu (n:Nat):List Value:=List.replicate n (.string ⟨#[]⟩)
theorem Aao (n:Nat):(Afu n).length=n:=List.length_replicate
def PK (L:List (Λ)) (n:Nat):List Value:=(L.map Af).map Xd++Afu (n-L.length)
theorem GG (L:List (Λ)) {n:Nat} (h:L.length≤n):(PK L n).length=n:=by simp [PK,Aao];omega
theorem Ru (L:List (Λ)) {n:Nat} (h:L.length<n) (x:Λ):(PK L n).set L.length (σ x)=PK (L++[x]) n:=by
  unfold PK
  have hl:((L.map Af).map Xd).length=L.length:=by simp
  rw [List.set_append_right _ _ ω,hl,Nat.sub_self]
  unfold Afu
  rw [show n-L.length=(n-(L++[x]).length)+1 by simp;omega,List.replicate_succ,List.set_cons_zero,List.map_append,List.map_append,List.append_assoc]
  rfl
theorem IG (L:List (Λ)) (n:Nat):(PK L n).take L.length=(L.map Af).map Xd:=by
  unfold PK
  exact List.take_left' (by simp)
theorem JE (l:Λ) (k:Nat):(Af l).extract 0 k=Af (l.take k):=by rw [LH,CJ];simp
theorem Mn (l:Λ) (k:Nat):(Af l).extract k l.length=Af (l.drop k):=by
  rw [LH,CJ,List.take_of_length_le (by rw [List.length_drop];omega)]
theorem Po (X:Λ) (hX:X.length≤1000) (w:World):Calls prog 161 #[σ X,.string ⟨#[47]⟩,ν 0,ν 6] w (Sh w X):=by
  have hsz:=CK X
  have hp1:=IE X
  by_cases h6:5≤X.length
  · have i6:(6:Int)≤(X.length:Int)+1:=ω
    go_enter func161,ntmps161
    go_wp2_with (refine Km rfl (.tmp 30) (.tmp 30) rfl υ25 (z:=.string ⟨#[]⟩) (bytes:=16) κ rfl (n:=6) rfl rfl (by first | rfl | omega) (by first | rfl | omega) ω ω ?_;intro w1 k1 b1;have K1:=hid k1;have B1:=hid b1;clear k1 b1)
    clear hsz
    go_loopw [0,10] (fun sv i wr=>∃ (j:Nat) (cur:Λ) (out:List (Λ)),j<6∧sv=σ cur∧i=ν j∧out.length=j∧Bu X=out++Bu cur∧cur.length≤X.length∧Blk wr w.heap.size 9 (PK out (6))∧Below w.heap.size w wr) (fun _ i _=>6-(intOf i).toNat)
    case atStart=>exact ⟨0,X,[],ω,rfl,rfl,rfl,rfl,Nat.le_refl _,K1.out,B1.out⟩
    case round=>
      obtain ⟨j,cur,out,hj,rfl,rfl,hol,hpc,hcl,hk,hb⟩:=hrel
      have HOL:=hid hol;have HPC:=hid hpc;have HB:=hid hb;have HK:=hid hk
      have hrl:=GG out (n:=6) ω
      have hrs:=fun x=>Ru out (n:=6) ω x
      have cj:∃ v,wr.cell? ⟨w.heap.size,j,none⟩=some v:=by rw [← hol];exact ⟨_,hk.cell (i:=out.length) (by rw [hrl,hol];omega)⟩
      obtain ⟨vj,cj⟩:=cj
      have fj:wr.frozen? ⟨w.heap.size,j,none⟩=false:=hk.frozen _
      have hlt:=hk.lt
      have HRS:=hid hrs
      have hcs:=CK cur
      have HI:=hid (fun w1=>Oj (Af cur) w1)
      clear hol hpc hb hk hrl hrs
      have ijn:(j:Int)<((6:Nat):Int):=ω
      have e0:IntKind.i64.wrap ((j:Int)+1)=j+1:=IntWalk.i64_in _ ω
      by_cases hlast:j+1=6
      · have dl:decide ((j:Int)<5)=false:=decide_eq_false ω
        have il:¬ (j:Int)<5:=ω
        have HLAST:=hid hlast
        clear hlast
        go_wp2_with fail
        have hlast:=HLAST.out
        have q:=HK.out.set j (σ cur)
        have hr:=HRS.out cur
        rw [HOL.out] at hr
        rw [hr] at q
        have hpc2:=HPC.out
        go_ret
        refine ⟨some ⟨w.heap.size,0,none⟩,6,(out++[cur]).map Af,?_,?_,HB.out.setCell (p:=⟨w.heap.size,j,none⟩) (Nat.le_refl _) _,?_⟩
        · have hlen:((out++[cur]).map Af).length=j+1:=by rw [List.length_map,List.length_append,HOL.out];rfl
          rw [hlen];rfl
        · have hlen:(out++[cur]).length=j+1:=by rw [List.length_append,HOL.out];rfl
          have qq:=Own.of_blk (B:=w.heap.size) (sz:=1) (n:=j+1) (c:=6) q (Nat.le_refl _) ω (by unfold maxLen;omega) (by rw [GG _ (by have:=HOL.out;simp;omega)];try omega)
          rw [Nat.mul_one,← hlen,IG] at qq
          show Own _ _ _ 1 _ ((out++[cur]).map Af).length _ _
          rw [List.length_map]
          exact qq
        · rcases Gd cur with ⟨_,hno⟩ | ⟨k,hk1,hk2,hk3,hk4⟩
          · have hp:=EM hno
            rw [hp] at hpc2
            exact .inl ⟨by rw [hpc2],by rw [List.length_map,List.length_append,HOL.out];simp;omega⟩
          · refine .inr ⟨?_,Af cur,by simp,by rw [CJ,hk4];simp⟩
            have hp:=Gz (cur.take k) (cur.drop (k+1)) hk3
            rw [← hk4] at hp
            rw [hp] at hpc2
            have h1:(Bu X).length=out.length+(1+(Bu (cur.drop (k+1))).length):=by rw [hpc2];simp;omega
            have h2:=List.length_pos_iff.2 (Oy (cur.drop (k+1)))
            have h3:=HOL.out
            have h4:=IE X
            omega
      · have dl:decide ((j:Int)<5)=true:=decide_eq_true ω
        have il:(j:Int)<5:=ω
        rcases Gd cur with ⟨hm,hno⟩ | ⟨k,hm,hk2,hk3,hk4⟩
        · rw [CJ,hm] at HI
          have HNO:=hid hno
          clear hno hm
          go_wp2_with (go_at_call 176;refine (HI.out _).mono ?_;rintro e w2 ⟨rfl,rfl⟩)
          have q:=HK.out.set j (σ cur)
          have hr:=HRS.out cur
          rw [HOL.out] at hr
          rw [hr] at q
          have hpc2:=HPC.out
          go_ret
          refine ⟨some ⟨w.heap.size,0,none⟩,6,(out++[cur]).map Af,?_,?_,HB.out.setCell (p:=⟨w.heap.size,j,none⟩) (Nat.le_refl _) _,?_⟩
          · have hlen:((out++[cur]).map Af).length=j+1:=by rw [List.length_map,List.length_append,HOL.out];rfl
            rw [hlen];rfl
          · have hlen:(out++[cur]).length=j+1:=by rw [List.length_append,HOL.out];rfl
            have qq:=Own.of_blk (B:=w.heap.size) (sz:=1) (n:=j+1) (c:=6) q (Nat.le_refl _) ω (by unfold maxLen;omega) (by rw [GG _ (by have:=HOL.out;simp;omega)];try omega)
            rw [Nat.mul_one,← hlen,IG] at qq
            show Own _ _ _ 1 _ ((out++[cur]).map Af).length _ _
            rw [List.length_map]
            exact qq
          · have hp:=EM HNO.out
            rw [hp] at hpc2
            exact .inl ⟨by rw [hpc2],by rw [List.length_map,List.length_append,HOL.out];simp;omega⟩
        · rw [CJ,hm] at HI
          have hp:=Gz (cur.take k) (cur.drop (k+1)) hk3
          rw [← hk4] at hp
          have HP:=hid hp
          have x1:=JE cur k
          have x2:=Mn cur (k+1)
          have ik:(k:Int)<cur.length:=ω
          have ik2:(k:Int)+1≤cur.length:=ω
          clear hk4 hk3 hm hp
          go_wp2_with (go_at_call 176;refine (HI.out _).mono ?_;rintro e w2 ⟨rfl,rfl⟩)
          go_roundw
          case rel=>
            refine ⟨j+1,cur.drop (k+1),out++[cur.take k],ω,rfl,by go_num,by rw [List.length_append,HOL.out];rfl,by rw [HPC.out,HP.out,List.append_assoc];rfl,by rw [List.length_drop];omega,?_,HB.out.setCell (p:=⟨w.heap.size,j,none⟩) (Nat.le_refl _) _⟩
            have q:=HK.out.set j (σ (cur.take k))
            have hr:=HRS.out (cur.take k)
            rw [HOL.out] at hr
            rw [hr] at q
            exact q
          case measure=>simp [intOf];omega
  · have i6:¬ (6:Int)≤(X.length:Int)+1:=ω
    go_enter func161,ntmps161
    go_wp2_with (refine Km rfl (.tmp 30) (.tmp 30) rfl υ25 (z:=.string ⟨#[]⟩) (bytes:=16) κ rfl (n:=(X.length+1)) rfl rfl (by first | rfl | omega) (by first | rfl | omega) ω ω ?_;intro w1 k1 b1;have K1:=hid k1;have B1:=hid b1;clear k1 b1)
    clear hsz
    go_loopw [0,10] (fun sv i wr=>∃ (j:Nat) (cur:Λ) (out:List (Λ)),j<(X.length+1)∧sv=σ cur∧i=ν j∧out.length=j∧Bu X=out++Bu cur∧cur.length≤X.length∧Blk wr w.heap.size 9 (PK out ((X.length+1)))∧Below w.heap.size w wr) (fun _ i _=>(X.length+1)-(intOf i).toNat)
    case atStart=>exact ⟨0,X,[],ω,rfl,rfl,rfl,rfl,Nat.le_refl _,K1.out,B1.out⟩
    case round=>
      obtain ⟨j,cur,out,hj,rfl,rfl,hol,hpc,hcl,hk,hb⟩:=hrel
      have HOL:=hid hol;have HPC:=hid hpc;have HB:=hid hb;have HK:=hid hk
      have hrl:=GG out (n:=(X.length+1)) ω
      have hrs:=fun x=>Ru out (n:=(X.length+1)) ω x
      have cj:∃ v,wr.cell? ⟨w.heap.size,j,none⟩=some v:=by rw [← hol];exact ⟨_,hk.cell (i:=out.length) (by rw [hrl,hol];omega)⟩
      obtain ⟨vj,cj⟩:=cj
      have fj:wr.frozen? ⟨w.heap.size,j,none⟩=false:=hk.frozen _
      have hlt:=hk.lt
      have HRS:=hid hrs
      have hcs:=CK cur
      have HI:=hid (fun w1=>Oj (Af cur) w1)
      clear hol hpc hb hk hrl hrs
      have ijn:(j:Int)<(((X.length+1):Nat):Int):=ω
      have e0:IntKind.i64.wrap ((j:Int)+1)=j+1:=IntWalk.i64_in _ ω
      by_cases hlast:j+1=(X.length+1)
      · have dl:decide ((j:Int)<(X.length:Int))=false:=decide_eq_false ω
        have il:¬ (j:Int)<(X.length:Int):=ω
        have HLAST:=hid hlast
        clear hlast
        go_wp2_with fail
        have hlast:=HLAST.out
        have q:=HK.out.set j (σ cur)
        have hr:=HRS.out cur
        rw [HOL.out] at hr
        rw [hr] at q
        have hpc2:=HPC.out
        go_ret
        refine ⟨some ⟨w.heap.size,0,none⟩,(X.length+1),(out++[cur]).map Af,?_,?_,HB.out.setCell (p:=⟨w.heap.size,j,none⟩) (Nat.le_refl _) _,?_⟩
        · have hlen:((out++[cur]).map Af).length=j+1:=by rw [List.length_map,List.length_append,HOL.out];rfl
          rw [hlen];rfl
        · have hlen:(out++[cur]).length=j+1:=by rw [List.length_append,HOL.out];rfl
          have qq:=Own.of_blk (B:=w.heap.size) (sz:=1) (n:=j+1) (c:=(X.length+1)) q (Nat.le_refl _) ω (by unfold maxLen;omega) (by rw [GG _ (by have:=HOL.out;simp;omega)];try omega)
          rw [Nat.mul_one,← hlen,IG] at qq
          show Own _ _ _ 1 _ ((out++[cur]).map Af).length _ _
          rw [List.length_map]
          exact qq
        · rcases Gd cur with ⟨_,hno⟩ | ⟨k,hk1,hk2,hk3,hk4⟩
          · have hp:=EM hno
            rw [hp] at hpc2
            exact .inl ⟨by rw [hpc2],by rw [List.length_map,List.length_append,HOL.out];simp;omega⟩
          · refine .inr ⟨?_,Af cur,by simp,by rw [CJ,hk4];simp⟩
            have hp:=Gz (cur.take k) (cur.drop (k+1)) hk3
            rw [← hk4] at hp
            rw [hp] at hpc2
            have h1:(Bu X).length=out.length+(1+(Bu (cur.drop (k+1))).length):=by rw [hpc2];simp;omega
            have h2:=List.length_pos_iff.2 (Oy (cur.drop (k+1)))
            have h3:=HOL.out
            have h4:=IE X
            omega
      · have dl:decide ((j:Int)<(X.length:Int))=true:=decide_eq_true ω
        have il:(j:Int)<(X.length:Int):=ω
        rcases Gd cur with ⟨hm,hno⟩ | ⟨k,hm,hk2,hk3,hk4⟩
        · rw [CJ,hm] at HI
          have HNO:=hid hno
          clear hno hm
          go_wp2_with (go_at_call 176;refine (HI.out _).mono ?_;rintro e w2 ⟨rfl,rfl⟩)
          have q:=HK.out.set j (σ cur)
          have hr:=HRS.out cur
          rw [HOL.out] at hr
          rw [hr] at q
          have hpc2:=HPC.out
          go_ret
          refine ⟨some ⟨w.heap.size,0,none⟩,(X.length+1),(out++[cur]).map Af,?_,?_,HB.out.setCell (p:=⟨w.heap.size,j,none⟩) (Nat.le_refl _) _,?_⟩
          · have hlen:((out++[cur]).map Af).length=j+1:=by rw [List.length_map,List.length_append,HOL.out];rfl
            rw [hlen];rfl
          · have hlen:(out++[cur]).length=j+1:=by rw [List.length_append,HOL.out];rfl
            have qq:=Own.of_blk (B:=w.heap.size) (sz:=1) (n:=j+1) (c:=(X.length+1)) q (Nat.le_refl _) ω (by unfold maxLen;omega) (by rw [GG _ (by have:=HOL.out;simp;omega)];try omega)
            rw [Nat.mul_one,← hlen,IG] at qq
            show Own _ _ _ 1 _ ((out++[cur]).map Af).length _ _
            rw [List.length_map]
            exact qq
          · have hp:=EM HNO.out
            rw [hp] at hpc2
            exact .inl ⟨by rw [hpc2],by rw [List.length_map,List.length_append,HOL.out];simp;omega⟩
        · rw [CJ,hm] at HI
          have hp:=Gz (cur.take k) (cur.drop (k+1)) hk3
          rw [← hk4] at hp
          have HP:=hid hp
          have x1:=JE cur k
          have x2:=Mn cur (k+1)
          have ik:(k:Int)<cur.length:=ω
          have ik2:(k:Int)+1≤cur.length:=ω
          clear hk4 hk3 hm hp
          go_wp2_with (go_at_call 176;refine (HI.out _).mono ?_;rintro e w2 ⟨rfl,rfl⟩)
          go_roundw
          case rel=>
            refine ⟨j+1,cur.drop (k+1),out++[cur.take k],ω,rfl,by go_num,by rw [List.length_append,HOL.out];rfl,by rw [HPC.out,HP.out,List.append_assoc];rfl,by rw [List.length_drop];omega,?_,HB.out.setCell (p:=⟨w.heap.size,j,none⟩) (Nat.le_refl _) _⟩
            have q:=HK.out.set j (σ (cur.take k))
            have hr:=HRS.out (cur.take k)
            rw [HOL.out] at hr
            rw [hr] at q
            exact q
          case measure=>simp [intOf];omega
end
section
open Go.RowKit Go.Shelf
def KI (rest:Λ):Option (List ByteArray):=if (Bu rest).length≤6∧((Bu rest).map Af).all DY=true then some ((Bu rest).map Af) else none
def OC:Λ→Option (List ByteArray)
  | b::r=>if b=47 then KI r else none
  | []=>none
def Co (X:Λ):Option (List ByteArray):=if X=[47] then some [] else OC X
def erO (o:Option (List ByteArray)):Int:=match o with | some _=>0 | none=>15
def Uq (w:World) (o:Option (List ByteArray)) (e:Ending) (w':World):Prop:=
  ∃ a c,e=.returned (.tuple #[.slice a (o.getD []).length c,ν (erO o)])∧Ado w' w.heap.size a c (o.getD [])∧Below w.heap.size w w'
theorem IV {w w':World} {o:Option (List ByteArray)} {e:Ending} (ho:o=none) (he:e=.returned (.tuple #[.slice none 0 0,ν 15])) (hb:Below w.heap.size w w'):Uq w o e w':=by
  subst ho;exact ⟨none,0,he,Own.nil _ _ _ _,hb⟩
theorem Sf {w w':World} {o:Option (List ByteArray)} {e:Ending} (ho:o=some []) (he:e=.returned (.tuple #[.slice none 0 0,ν 0])) (hb:Below w.heap.size w w'):Uq w o e w':=by
  subst ho;exact ⟨none,0,he,Own.nil _ _ _ _,hb⟩
theorem Sg {w w':World} {o:Option (List ByteArray)} {e:Ending} {L:List ByteArray} {a:Ω} {c:Nat} (ho:o=some L) (he:e=.returned (.tuple #[.slice a L.length c,ν 0])) (h:Ado w' w.heap.size a c L) (hb:Below w.heap.size w w'):Uq w o e w':=by
  subst ho;exact ⟨a,c,he,h,hb⟩
theorem Pw {x:ByteArray} (h:(47:UInt8)∈x.data.toList):DY x=false:=by
  have:Si x=false:=by
    unfold Si
    rw [List.all_eq_false]
    exact ⟨47,h,by decide⟩
  unfold DY;rw [this];simp
theorem Ua (X:Λ) (hX:X.length≤1000) (w:World):Calls prog 139 #[σ X,.string ⟨#[47]⟩,ν 6] w (Sh w X):=by
  have HG:=Po X hX w
  unfold Sh at HG ⊢
  have HG:=hid HG
  go_enter func139,ntmps139
  go_wp2_with (go_at_call 161;fail)
  refine (HG.out).mono ?_
  rintro e w1 ⟨a,c,R,rfl,o,b,h⟩
  have O:=hid o;have B:=hid b;have H:=hid h
  clear o b h
  go_wp2_with fail
  go_ret
  exact ⟨a,c,R,rfl,O.out,B.out,H.out⟩
theorem Sv (r:List UInt8) (w:World):Calls Tryz.prog 138 #[.string (Af (47::r)),.string ⟨#[47]⟩] w fun e w'=>e=.returned (.tuple #[.string (Af r),.bool true])∧w=w':=by
  have x1:(Af (47::r)).extract 0 1=⟨#[47]⟩:=by rw [JE];rfl
  have x2:(Af (47::r)).extract 1 (r.length+1)=Af r:=Mn (47::r) 1
  have hs:(Af (47::r)).size=r.length+1:=CK _
  generalize Af (47::r)=s at *
  have d1:decide ((1:Int)≤(r.length:Int)+1)=true:=decide_eq_true (by omega)
  have i1:(1:Int)≤((r.length+1:Nat):Int):=by omega
  have HX2:=hid x2;have HS:=hid hs
  have x3:s.extract 1 s.size=Af r:=by rw [hs];exact x2
  have i2:(1:Int)≤s.size:=by omega
  have d2:decide ((1:Int)≤(s.size:Int))=true:=decide_eq_true i2
  clear x2 hs d1 i1
  go_enter func138,ntmps138
  go_wp2
  go_ret2
  exact ⟨rfl,rfl⟩
theorem Ob (X:List UInt8) (hX:∀ b r,X=b::r→b≠47) (w:World):Calls Tryz.prog 138 #[.string (Af X),.string ⟨#[47]⟩] w fun e w'=>e=.returned (.tuple #[.string (Af X),.bool false])∧w=w':=by
  cases X with
  | nil=>
    have hs:(Af []).size=0:=rfl
    generalize Af []=s at *
    go_enter func138,ntmps138
    go_wp2
    go_ret2
    exact ⟨rfl,rfl⟩
  | cons b r=>
    have hb:¬ b=47:=hX b r rfl
    have x1:(Af (b::r)).extract 0 1=⟨#[b]⟩:=by rw [JE];rfl
    have hs:(Af (b::r)).size=r.length+1:=CK _
    generalize Af (b::r)=s at *
    have i2:(1:Int)≤s.size:=ω
    have d2:decide ((1:Int)≤(s.size:Int))=true:=decide_eq_true i2
    have e1:((⟨#[b]⟩:ByteArray).toList == [47])=false:=by rw [QB];simpa using hb
    have e2:([b] == [(47:UInt8)])=false:=by simpa using hb
    have e3:=QB b
    clear hs hX
    go_enter func138,ntmps138
    go_wp2
    go_ret2
    exact ⟨rfl,rfl⟩
end
section
open Go.RowKit Go.Shelf
theorem Xa {X:Λ} {R:List ByteArray} (h:(R=(Bu X).map Af∧R.length≤6)∨(6<(Bu X).length∧∃ x∈R,(47:UInt8)∈x.data.toList)) :
    (R.all DY=true∧KI X=some R)∨(R.all DY=false∧KI X=none):=by
  rcases h with ⟨rfl,h6⟩ | ⟨h6,x,hx,hs⟩
  · rw [List.length_map] at h6
    cases ha:((Bu X).map Af).all DY with
    | true=>exact .inl ⟨rfl,if_pos ⟨h6,ha⟩⟩
    | false=>exact .inr ⟨rfl,if_neg (fun q=>by rw [ha] at q;cases q.2)⟩
  · refine .inr ⟨?_,if_neg (fun q=>ω)⟩
    rw [List.all_eq_false]
    exact ⟨x,hx,by rw [Pw hs];simp⟩
theorem JX (X:Λ) (hX:X.length≤1000) (w:World):Calls prog 111 #[σ X] w (Uq w (Co X)):=by
  by_cases h0:X=[47]
  · subst h0
    have HO:Hid (Co [47]=some []):=if_pos rfl
    have hl:=Ol [47]
    go_enter func111,ntmps111
    go_wp2_with fail
    go_ret2
    exact Sf HO.out rfl (Below.refl _ _)
  · have e1:((Af X).toList == [(47:UInt8)])=false:=by rw [Ol];simpa using h0
    have hp:Co X=OC X:=if_neg h0
    cases X with
    | nil=>
      have HO:=hid (show Co []=none from hp)
      have HC:=hid (fun w1=>Ob [] (fun b r h=>by cases h) w1)
      clear hp h0
      go_enter func111,ntmps111
      go_wp2_with (go_at_call 138;refine (HC.out _).mono ?_;rintro e w1 ⟨rfl,rfl⟩)
      go_ret2
      exact IV HO.out rfl (Below.refl _ _)
    | cons b r=>
      by_cases hb:b=47
      · subst hb
        have HO:=hid (show Co (47::r)=KI r from hp.trans (by simp [OC]))
        have HC:=hid (fun w1=>Sv r w1)
        have hr:r.length≤1000:=by simp at hX;omega
        have HS:=hid (fun w1=>Ua r hr w1)
        clear hp h0 hX hr
        go_enter func111,ntmps111
        go_wp2_with (first
          | (go_at_call 138;refine (HC.out _).mono ?_;rintro e w1 ⟨rfl,rfl⟩)
          | (go_at_call 139;fail))
        refine (HS.out w).mono ?_
        rintro e w1 ⟨a,c,R,rfl,o,bb,h⟩
        have h2:=Xa h
        have O:=hid o;have B:=hid bb
        have HA:=fun w2 (q:Kp w2 a c R)=>OW a c R w2 q
        clear o bb h
        rcases h2 with ⟨ha,hn⟩ | ⟨ha,hn⟩
        · rw [ha] at HA
          have HA:=hid HA;have HN:=hid hn
          clear ha hn
          go_wp2_with (go_at_call 140;refine (HA.out _ O.out.row).mono ?_;rintro e w2 ⟨rfl,b2⟩;have O2:=hid (O.out.mono b2);have B2:=hid (Ae B.out b2);clear b2)
          go_ret2
          exact Sg (by rw [HO.out,HN.out]) rfl O2.out B2.out
        · rw [ha] at HA
          have HA:=hid HA;have HN:=hid hn
          clear ha hn
          go_wp2_with (go_at_call 140;refine (HA.out _ O.out.row).mono ?_;rintro e w2 ⟨rfl,b2⟩;have B2:=hid (Ae B.out b2);clear b2)
          go_ret2
          exact IV (by rw [HO.out,HN.out]) rfl B2.out
      · have HO:=hid (show Co (b::r)=none from hp.trans (by simp [OC,hb]))
        have HC:=hid (fun w1=>Ob (b::r) (fun b' r' h=>by cases h;exact hb) w1)
        clear hp h0 hb
        go_enter func111,ntmps111
        go_wp2_with (go_at_call 138;refine (HC.out _).mono ?_;rintro e w1 ⟨rfl,rfl⟩)
        go_ret2
        exact IV HO.out rfl (Below.refl _ _)
def Aht (w:World) (o:Option (List ByteArray)) (e:Ending) (w':World):Prop:=
  (∃ (L:List ByteArray) (x:ByteArray) (a:Ω) (c:Nat),o=some (L++[x])∧c=L.length∧e=.returned (.tuple #[.slice a L.length c,.string x,ν 0])∧Kp w' a c L∧Below w.heap.size w w') ∨
  ((o=none∨o=some [])∧e=.returned (.tuple #[.slice none 0 0,.string ⟨#[]⟩,ν 15])∧Below w.heap.size w w')
theorem Jp {α:Type} (L:List α):L=[]∨∃ A x,L=A++[x]:=by
  rcases List.eq_nil_or_concat L with h | ⟨A,x,h⟩
  · exact .inl h
  · exact .inr ⟨A,x,by rw [h];simp⟩
theorem TA (X:Λ) (hX:X.length≤1000) (w:World):Calls prog 82 #[σ X] w (Aht w (Co X)):=by
  have HP:=hid (JX X hX w)
  cases ho:Co X with
  | none=>
    rw [ho] at HP
    go_enter func82,ntmps82
    go_wp2_with (go_at_call 111;fail)
    refine (HP.out).mono ?_
    rintro e w1 ⟨a,c,rfl,o,b⟩
    have B:=hid b
    clear o b
    simp only [erO,Option.getD_none,List.length_nil]
    go_wp2_with fail
    go_ret3
    exact .inr ⟨.inl rfl,rfl,B.out⟩
  | some L=>
    rw [ho] at HP
    rcases Jp L with rfl | ⟨A,x,rfl⟩
    · go_enter func82,ntmps82
      go_wp2_with (go_at_call 111;fail)
      refine (HP.out).mono ?_
      rintro e w1 ⟨a,c,rfl,o,b⟩
      have B:=hid b
      clear o b
      simp only [erO,Option.getD_some,List.length_nil]
      go_wp2_with fail
      go_ret3
      exact .inr ⟨.inr rfl,rfl,B.out⟩
    · go_enter func82,ntmps82
      go_wp2_with (go_at_call 111;fail)
      refine (HP.out).mono ?_
      rintro e w1 ⟨a,c,rfl,o,b⟩
      have O:=hid o;have B:=hid b
      clear o b
      simp only [erO,Option.getD_some]
      simp only [Option.getD_some] at O
      have hl:(A++[x]).length=A.length+1:=by simp
      rw [hl]
      have hrow:Kp w1 a c (A++[x]):=O.out.row
      obtain ⟨g,off,rfl,hg,hc⟩:=Jo hrow ω
      have hlc:A.length+1≤c:=by have:=hrow.2.1;rw [hl] at this;exact this
      have hc9:c≤9223372036854775807:=by have:=hrow.2.2.1;unfold maxLen at this;exact this
      have cx:=hc A.length ω
      have hx:(A++[x])[A.length]' ω=x:=by simp
      rw [hx] at cx
      have HROW:=hid hrow
      clear hc hx hrow hl
      have i1:(A.length:Int)<(A.length:Int)+1:=ω
      have i2:(A.length:Int)≤c:=ω
      have i3:(0:Int)≤A.length:=ω
      go_wp2_with fail
      go_quiet (fail)
      go_wp2_with fail
      go_ret3
      refine .inl ⟨A,x,some ⟨g,off,none⟩,A.length,rfl,rfl,rfl,?_,Gp B.out _⟩
      obtain ⟨h1,h2,h3,h4,h5⟩:=HROW.out
      refine ⟨by simp,Nat.le_refl _,by unfold maxLen;omega,(fun h=>by cases h),fun hn=>?_⟩
      obtain ⟨b',o',e',hb',hc'⟩:=h5 (by simp)
      refine ⟨b',o',e',hb',fun j u hu=>hc' j u ?_⟩
      rw [List.map_append,List.getElem?_append_left (by have:=(List.getElem?_eq_some_iff.1 hu).1;exact this)]
      exact hu
end
section
def ME:Λ:=[67,77,78,49,0,0,0,0]
def Ai8:Int:=1152921504606846976
def My (n:Int):Λ:=if btw n 1152921504606846976 then Ni (BU ME [(n,8)]) else []
theorem Lv {n:Int} (h:btw n 1152921504606846976=true):(BU ME [(n,8)]).length=16:=by
  have h':0≤n:=by unfold btw at h;simp at h;exact h.1
  simp [BU,AB,BC,h',Az,ME]
theorem Nf (w:World) (fs:List (Int×Int)) (e:TypeId) (h:fs.length≤1000):Row (w.alloc (.cells (Cz fs).toArray e)) 2 (some ⟨w.heap.size,0,none⟩) fs.length fs.length (Cz fs):=by
  refine ⟨JF fs,Nat.le_refl _,by unfold maxLen;omega,fun h=>by (cases h),fun _=>⟨w.heap.size,0,rfl,by simp,fun j u hu=>?_⟩⟩
  have hh:=heap_alloc_new w (.cells (Cz fs).toArray e)
  unfold World.cell?
  rw [show (⟨w.heap.size,0+j,none⟩:Addr).block=w.heap.size from rfl,hh]
  simpa using hu
theorem Rk (n:Int) (w:World) (hn:n≤9223372036854775807) :
    Calls prog 51 #[ν n] w fun e w'=>∃ a c,e=.returned (.tuple #[.slice a (My n).length c,ν (if btw n 1152921504606846976 then 0 else 1)])∧Cb w' w.heap.size a c (My n)∧Below w.heap.size w w':=by
  by_cases hb:btw n 1152921504606846976=true
  · have hL:My n=Ni (BU ME [(n,8)]):=by unfold My;rw [if_pos hb]
    have hE:(if btw n 1152921504606846976 then (0:Int) else 1)=0:=if_pos hb
    have hl:=Lv hb
    have hl60:(BU ME [(n,8)]).length≤60:=ω
    rw [hL,hE]
    have HB:=hid hb;have HL:=hid hl60
    clear hb hL hE hl hl60
    go_enter func51,ntmps51
    go_wp2_with fail
    refine (Ho _ _ _).mono ?_
    rintro e w1 ⟨rfl,rfl⟩
    rw [HB.out]
    go_wp2_with fail
    refine (RG ⟨#[67,77,78,49,0,0,0,0]⟩ _ _ [(n,8)] _ (by decide) (Nf w [(n,8)] 147 (by simp)) (by simp) (by simp) (by simpa using hn) HL.out).mono ?_
    rintro e w2 ⟨a2,c2,rfl,o2,b2⟩
    go_wp2_with fail
    go_ret2
    exact ⟨a2,c2,rfl,o2.low (by simp),AP ((Below.refl _ w).alloc (Nat.le_refl _) _) b2 (by simp)⟩
  · have hb':btw n 1152921504606846976=false:=by simpa using hb
    have hL:My n=[]:=by unfold My;rw [if_neg hb]
    have hE:(if btw n 1152921504606846976 then (0:Int) else 1)=1:=if_neg hb
    rw [hL,hE]
    have HB:=hid hb'
    clear hb hL hE hb'
    go_enter func51,ntmps51
    go_wp2_with fail
    refine (Ho _ _ _).mono ?_
    rintro e w1 ⟨rfl,rfl⟩
    rw [HB.out]
    go_wp2_with fail
    go_ret2
    exact ⟨none,0,rfl,Own.nil _ _ _ _,Below.refl _ _⟩
def Hi (e h r er i wr:Int):List (Int×Int):=[(e,4),(h,4),(r,8),(er,1),(i,1),(wr,8)]
def Ns (e h r er i wr:Int):Λ:=if Px e h r er i wr then Ni (BU [] (Hi e h r er i wr)) else []
theorem Zd {e h r er i wr:Int} (hm:Px e h r er i wr=true):0≤e∧e≤1073741824∧0≤h∧h≤1024∧0≤r∧r≤1099511627776∧0≤wr∧wr≤1099511627776∧0≤er∧er≤255∧0≤i∧i≤32:=by
  unfold Px at hm;exact of_decide_eq_true hm
theorem Zw (e h r er i wr:Int) (w:World) :
    Calls prog 50 #[Vj e h r er i wr] w fun en w'=>∃ a c,en=.returned (.tuple #[.slice a (Ns e h r er i wr).length c,ν (if Px e h r er i wr then 0 else 1)])∧Cb w' w.heap.size a c (Ns e h r er i wr)∧Below w.heap.size w w':=by
  have hmay:=fun w1=>Abz e h r er i wr w1
  unfold Vj at *
  by_cases hb:Px e h r er i wr=true
  · have hL:Ns e h r er i wr=Ni (BU [] (Hi e h r er i wr)):=by unfold Ns;rw [if_pos hb]
    have hE:(if Px e h r er i wr then (0:Int) else 1)=0:=if_pos hb
    have hl60:(BU [] (Hi e h r er i wr)).length≤60:=by
      have:=Hd [] (Hi e h r er i wr)
      simp [Hi] at this ⊢;omega
    have h9:∀ f∈Hi e h r er i wr,f.1≤9223372036854775807:=by
      have:=Zd hb
      intro f hf;simp [Hi] at hf
      rcases hf with rfl | rfl | rfl | rfl | rfl | rfl<;>simp<;>omega
    rw [hL,hE]
    have HB:=hid hb;have HL:=hid hl60;have H9:=hid h9;have HM:=hid hmay
    clear hb hL hE hl60 h9 hmay
    go_enter func50,ntmps50
    go_wp2_with fail
    refine (HM.out _).mono ?_
    rintro en w1 ⟨rfl,b1⟩
    rw [HB.out]
    have H0:Blk (w.alloc (.cells #[ν e,ν h,ν r,ν er,ν i,ν wr] 111)) w.heap.size 111 [ν e,ν h,ν r,ν er,ν i,ν wr]:=heap_alloc_new w _
    have H1:=Blk.mono H0 b1
    have k0:=Blk.cell H1 (i:=0) (by simp)
    have k1:=Blk.cell H1 (i:=1) (by simp)
    have k2:=Blk.cell H1 (i:=2) (by simp)
    have k3:=Blk.cell H1 (i:=3) (by simp)
    have k4:=Blk.cell H1 (i:=4) (by simp)
    have k5:=Blk.cell H1 (i:=5) (by simp)
    simp only [List.getElem_cons_zero,List.getElem_cons_succ] at k0 k1 k2 k3 k4 k5
    have B1:=hid (AP ((Below.refl _ w).alloc (Nat.le_refl _) _) b1 (by simp))
    clear H0 H1 b1 HM
    go_wp2_with fail
    refine (RG ⟨#[]⟩ _ _ (Hi e h r er i wr) _ (by decide) (Nf w1 (Hi e h r er i wr) 147 (by simp [Hi])) (by simp [Hi]) (by simp [Hi]) H9.out HL.out).mono ?_
    rintro en w2 ⟨a2,c2,rfl,o2,b2⟩
    go_wp2_with fail
    go_ret2
    exact ⟨a2,c2,rfl,o2.low (Nat.le_trans B1.out.size (by simp)),AP (B1.out.alloc B1.out.size _) b2 (Nat.le_trans B1.out.size (by simp))⟩
  · have hb':Px e h r er i wr=false:=by simpa using hb
    have hL:Ns e h r er i wr=[]:=by unfold Ns;rw [if_neg hb]
    have hE:(if Px e h r er i wr then (0:Int) else 1)=1:=if_neg hb
    rw [hL,hE]
    have HB:=hid hb';have HM:=hid hmay
    clear hb hL hE hb' hmay
    go_enter func50,ntmps50
    go_wp2_with fail
    refine (HM.out _).mono ?_
    rintro en w1 ⟨rfl,b1⟩
    rw [HB.out]
    go_wp2_with fail
    go_ret2
    exact ⟨none,0,rfl,Own.nil _ _ _ _,AP ((Below.refl _ w).alloc (Nat.le_refl _) _) b1 (by simp)⟩
def Ai0 (xs:Λ):Bool:=decide (64≤xs.length∧AW xs 60 4=some (CN (xs.take 60)))
def chk (xs:Λ):Int:=if 64≤xs.length then (if AW xs 60 4=some (CN (xs.take 60)) then 0 else 4) else 3
end
section
def InoT.setB (x:InoT) (k:Nat) (n:Int):InoT:=match k with
  | 0=>{ x with b0:=n }
  | 1=>{ x with b1:=n }
  | 2=>{ x with b2:=n }
  | _=>{ x with b3:=n }
theorem AA {t:List EntT} (h:t.length=16) (k:Int) (bs:Λ):(Fv t k bs).1.length=16:=by
  unfold Fv
  split
  · rename_i hk
    split
    · exact h
    · unfold Aab
      split
      · rename_i es he
        have:=PG _ _ he;show (splice t (4*k.toNat) es).length=16;rw [length_splice _ _ _ ω];exact h
      · exact h
  · exact h
def BF (M:MemM) (P:List PtM) (x:InoT):Nat→List EntT×Int
  | 0=>(Bm,0)
  | k+1=>if (BF M P x k).2=0 then (if x.blk k=0 then BF M P x k else Fv (BF M P x k).1 k (Bg M P 7 (x.blk k))) else BF M P x k
theorem Ah (M:MemM) (P:List PtM) (x:InoT):∀ k,(BF M P x k).1.length=16
  | 0=>Av
  | k+1=>by
    have ih:=Ah M P x k
    unfold BF;split
    · split
      · exact ih
      · exact AA ih _ _
    · exact ih
theorem Nx {M:MemM} {P:List PtM} {x:InoT} {k:Nat} (h:(BF M P x k).2≠0):∀ m,k≤m→(BF M P x m).2≠0
  | 0,hm=>by
    have:k=0:=ω
    subst this;exact h
  | m+1,hm=>by
    by_cases e:k=m+1
    · subst e;exact h
    · have ih:=Nx h m (by omega)
      unfold BF;rw [if_neg ih];exact ih
def Aq (M:MemM) (P:List PtM) (i:Int):List EntT:=
  if AR M P i≠0 then Bm else if (Am M P i).k≠2 then Bm else if (BF M P (Am M P i) 4).2=0 then (BF M P (Am M P i) 4).1 else Bm
def BM (M:MemM) (P:List PtM) (i:Int):Int:=
  if AR M P i≠0 then AR M P i else if (Am M P i).k≠2 then 12 else if (BF M P (Am M P i) 4).2=0 then 0 else 36
theorem Ai (M:MemM) (P:List PtM) (i:Int):(Aq M P i).length=16:=by
  unfold Aq;split
  · exact Av
  · split
    · exact Av
    · split
      · exact Ah _ _ _ _
      · exact Av
def Aix (M:MemM) (P:List PtM):Option Nat:=(List.range 32).find? fun k=>decide (AR M P ((k:Int)+1)=0)&&decide ((Am M P ((k:Int)+1)).k=0)
end
section
def Uz (x:UInt8):List Value:=[Ag x]
theorem JH (xs:Λ) (f:Int):∀ k i:Nat,0≤CI xs f k i∧CI xs f k i≤(i+k:Nat)
 | 0,i=>⟨Int.le_refl 0,by show (0:Int)≤_;omega⟩
 | k+1,i=>by
  have ih:=JH xs f k (i+1)
  unfold CI;split<;>omega
theorem VY (xs:Λ):0≤Ar xs 1∧Ar xs 1≤128:=by have:=JH xs 1 128 0;unfold Ar;omega
theorem Gt (x:UInt8):(Uz x).length=1:=rfl
theorem Gw (xs:Λ) (h:xs.length=16):xs.length=16:=h
theorem SL (xs:Λ):xs.flatMap Uz=xs.map Ag:=by
 induction xs with
 | nil=>rfl
 | cons x xs ih=>rw [List.flatMap_cons,ih];rfl
theorem Gq {w:World} {g n:Nat} {R:List Ch} (h:Sep w (Ab g 5 ((List.replicate n (0:UInt8)).flatMap Uz)::R)) (hn:n≤maxLen:=by unfold maxLen;omega):Sep w (BR 0 5 1 (some ⟨g,0,none⟩) (List.replicate n (0:UInt8)).length n ((List.replicate n (0:UInt8)).map Ag)::R):=by
 have z:Blk w g 5 ((List.replicate n (0:UInt8)).map Ag):=by
  have z:Blk w g 5 ((List.replicate n (0:UInt8)).flatMap Uz):=h.get 0 rfl
  rw [SL] at z;exact z
 have o:=PW z (Nat.zero_le g) (by simpa using hn)
 rw [List.length_map,List.length_replicate] at o
 refine h.head (Turns.refl (fun _=>False) w) (fun _ _ q=>q.elim) (c':=BR 0 5 1 (some ⟨g,0,none⟩) _ n _) (by rw [List.length_replicate];exact o) fun k q=>.inl ?_
 have q:(some g:Option Nat)=some k:=q
 cases q;rfl
def bN (M:MemM) (P:List PtM) (s:Int):Int:=if De M P s then 0 else if VC M P=0 then PV M P else 0
def bE (M:MemM) (P:List PtM) (s:Int):Int:=if De M P s then 18 else VC M P
def bP (M:MemM) (P:List PtM) (s:Int):List PtM:=if De M P s then P else Af6 M P
theorem Aas (xs:Λ):(Du xs 128).length≤128:=by
 unfold Du;exact Nat.le_trans (List.length_filter_le _ _) (by rw [List.length_range];exact Nat.le_refl _)
theorem KF:(prog.info? 179).map (·.size)=some 32:=κ
theorem Hz {k:TypeDesc} (hu:prog.underlying 179=some k) {w:World} {g:Nat} {e:TypeId} {t:List EntT} (h:Blk w g e (Au t)) (hl:t.length=16) (hk:k.isRow=true:=by rfl):(Instr.loadAt 179 (π g)).run prog w=.ok (.agg (Au t).toArray) w:=
 ldA hu hk KF h (by rw [List.drop_zero,List.take_of_length_le (by rw [BL,hl];exact Nat.le_refl _)]) (by rw [BL,hl])
theorem Hj {Q:Exit→Act→World→Prop} {Kk:Act→World→Prop} {o:Oper} {a:Act} {w:World} {N:Nat} {l:List (Nat×Value)} {cs cs':List Ch} (h:Kn N l a) (hd:o.dst=none) {x y:Operand} (ho:o.op=.store 179 x y) (hS:Sep w cs) (i:Nat) {g:Nat} {e:TypeId} {xs ys:List EntT} (hi:cs[i]? = some (Ab g e (Au xs))) (h0:xs.length=16) (h1:ys.length=16) (hx:opv l x=some (π g)) (hy:opv l y=some (.agg (Au ys).toArray))
  (hcs:cs.set i (Ab g e (Au ys))=cs') (k:∀ a' w',Kn N l a'→Sep w' cs'→Turns (fun k=>k=g) w w'→Kk a' w'):Oper.wp prog o a w Kk Q:=
 FI h hd ho hS i hi hx hy (Au ys) rfl (by rw [BL,h1];exact KF) (by rw [List.all_eq_true];exact RM ys) (by rw [BL,BL,h0,h1];exact Nat.le_refl _) (L':=Au ys) (by
  unfold splice;rw [List.take_zero,List.nil_append,List.drop_of_length_le (by rw [BL,BL,h0,h1];exact Nat.le_refl _),List.append_nil]) hcs k
theorem Kc {fn:Func} {N:Nat} {l:List (Nat×Value)} {a:Act} {w:World} (hK:Kn N l a) {c u:Nat} (h:fn.results=#[.cell c 179,.tmp u]) {g:Nat} {e:TypeId} {t:List EntT} {k:TypeDesc} {v:Value} (hc:opv l (.tmp c)=some (π g)) (hv:opv l (.tmp u)=some v) (hb:Blk w g e (Au t)) (hu:prog.underlying 179=some k) (hl:t.length=16) (hk:k.isRow=true:=by rfl):(results fn a.tmps).run prog w=.ok (.tuple #[.agg (Au t).toArray,v]) w:=
 Adl hK h hc hv hb hu hk (by rw [BL,hl];exact KF)
theorem Ux {w:World} {R:List Ch} {mx:Nat} {K:VolK} {ta:Ω} {tc:Nat} {M:MemM} {P:List PtM} {spare:Int} (hS0:Sep w ([Ab mx 103 [π K.tg],txP K ta tc M P]++R)) (hM:M.V.length=23168) (hs:-9223372036854775808≤spare∧spare≤9223372036854775807) :
  CallsR prog 74 #[π mx,ν spare] w (fun v w'=>∃ ta' tc',v=.tuple #[ν (bN M P spare),ν (bE M P spare)]∧Sep w' ([Ab mx 103 [π K.tg],txP K ta' tc' M (bP M P spare)]++R)):=by
 have hS:Sep w [Ab mx 103 [π K.tg],txP K ta tc M P,Ch.many R]:=Sep.tail_many (xs:=[_,_]) hS0;clear hS0
 have hal:=Aas (As M P)
 have hfx:=VY (As M P)
 refine AL func74 rfl (N:=34) ntmps74 (by show 2≤34;decide) [(0,π mx),(1,ν spare)] rfl fun _ h1=>sqr fun _ hK3=>mvs 2 h1 rfl fun _ h6=>wpList_nil<|hK3 _ _<|sqr fun _ hK8=>mv h6 rfl fun _ h9=>cl h9 rfl (cF func18) (YY hS hM) fun _ v1 w2 r1 h2=>?_
 obtain ⟨rfl,s1⟩:=r1
 refine so (wn rfl) fun _ hK1=>AV h2 rfl rfl rfl rfl (z:=(AE).map Ag) (fun _=>rfl) s1 fun _ g1 w3 h3 s2 _ _=>hK1 _ _ ?_
 refine so (wn rfl) fun _ hK2=>RH h3 rfl rfl s2 0 rfl (Gw _ (by first | rfl | simp only [AX,Aw,As,An])) (Gw _ (by first | rfl | simp only [AX,Aw,As,An])) rfl rfl (cs':=[Ab g1 52 (((As M P)).map Ag),Ab mx 103 [π K.tg],txP K ta tc M P,Ch.many R]) rfl fun _ w4 h4 s3 _=>hK2 _ _ ?_
 refine h4.sn [6,5,4,0,1] rfl fun h5=>hK8 _ _<|sq fun _ hK4=>sqr fun _ hK5=>sw1 h5 rfl (rld h5 rfl rfl (Lf υ52 (s3.get 0 rfl:Blk _ _ _ _) (Gw _ (by first | rfl | simp only [AX,Aw,As,An])))) fun _ h7=>cl h7 rfl (cF func19) (Bv s3 (VK (As M P) _ (Gw _ (by first | rfl | simp only [AX,Aw,As,An])))) fun _ v2 w5 r2 h8=>?_
 obtain ⟨rfl,s4⟩:=r2
 refine bv h8 (z:=ν (128-((Du (As M P) 128).length:Int))) rfl (Vz _ _ _ ω ω ω) fun _ h10=>mv h10 rfl fun _ h11=>sv1 h11 rfl (Adm h11 rfl rfl rfl ω) fun _ h12=>bv h12 (z:=.bool (decide (128-((Du (As M P) 128).length:Int)≤max spare 0))) rfl (cLe _ _ _ _ rfl) fun _ h13=>h13.sn [16,6,5,4,0,1] rfl fun h14=>hK5 _ _ ?_
 rcases bC (decide (128-((Du (As M P) 128).length:Int)≤max spare 0)) with hc1 | hc1
 ·skip
  have hp1:128-((Du (As M P) 128).length:Int)≤max spare 0:=(dT hc1)
  refine wcT h14 rfl hc1<|h14.sk [6,5,4,0,1] rfl fun h15=>sqr fun _ hK6=>h15.sk [6,5,0,1] rfl fun h16=>mv h16 rfl fun _ h17=>h17.sk [4,6,0,1] rfl fun h18=>mv h18 rfl fun _ h19=>wpList_nil<|hK6 _ _<|wp_ret ?_
  try simp only [Exit.then,Exit.inBlock]
  refine Bj (v:=.tuple #[ν 0,ν 18]) (Dx h19 rfl rfl rfl) h19.defs ?_
  exact ⟨ta,tc,by unfold bN bE;rw [if_pos (show De M P spare from hp1),if_pos (show De M P spare from hp1)],by unfold bP;rw [if_pos (show De M P spare from hp1)];exact Sep.tail_un (xs:=[_,_]) (s4.pk [1,2,3] rfl)⟩
 ·skip
  have hp2:¬ (128-((Du (As M P) 128).length:Int)≤max spare 0):=(dF hc1)
  refine wcF h14 rfl hc1<|h14.sk [6,5,4,0,1] rfl fun h20=>wp_skip<|hK4 _ _<|sqr fun _ hK7=>sw1 h20 rfl (rld h20 rfl rfl (Lf υ52 (s4.get 0 rfl:Blk _ _ _ _) (Gw _ (by first | rfl | simp only [AX,Aw,As,An])))) fun _ h21=>cl h21 rfl (cF func107) (Bv s4 (VZ (As M P) 1 _ (Gw _ (by first | rfl | simp only [AX,Aw,As,An])) ω)) fun _ v3 w6 r3 h22=>?_
  obtain ⟨rfl,s5⟩:=r3
  refine mv h22 rfl fun _ h23=>h23.sn [7,6,5,4,0,1] rfl fun h24=>hK7 _ _<|sq fun K1 hK9=>?_
  have hJ79:∀ (ta9:Ω) (tc9:Nat) a' w',Kn 34 [(7,ν (Ar (As M P) 1)),(6,π g1),(5,ν 0),(4,ν 0),(0,π mx),(1,ν spare),(8,ν (AN [stE M P 3 0 16,stE M (stP M P 3 0 (AT (As M P) (Ar (As M P) 1))) 7 (Ar (As M P) 1) (List.replicate 64 (0:UInt8)).length]))] a'→Sep w' [Ab g1 52 (((As M P)).map Ag),Ab mx 103 [π K.tg],txP K ta9 tc9 M (stP M (stP M P 3 0 (AT (As M P) (Ar (As M P) 1))) 7 (Ar (As M P) 1) (List.replicate 64 (0:UInt8))),Ch.many R]→K1 a' w':=by
   intro ta9 tc9 a1 w7 h25 s6
   refine hK9 _ _ ?_
   refine sq fun _ hK10=>sqr fun _ hK11=>mv h25 rfl fun _ h26=>bv h26 (z:=.bool (decide (AN [stE M P 3 0 16,stE M (stP M P 3 0 (AT (As M P) (Ar (As M P) 1))) 7 (Ar (As M P) 1) (List.replicate 64 (0:UInt8)).length]≠0))) rfl (cNe _ _ _ _ rfl) fun _ h27=>h27.sn [31,7,6,5,4,0,1,8] rfl fun h28=>hK11 _ _ ?_
   rcases bC (decide (AN [stE M P 3 0 16,stE M (stP M P 3 0 (AT (As M P) (Ar (As M P) 1))) 7 (Ar (As M P) 1) (List.replicate 64 (0:UInt8)).length]≠0)) with hc2 | hc2
   ·skip
    have hp3:AN [stE M P 3 0 16,stE M (stP M P 3 0 (AT (As M P) (Ar (As M P) 1))) 7 (Ar (As M P) 1) (List.replicate 64 (0:UInt8)).length]≠0:=(dT hc2)
    refine wcT h28 rfl hc2<|h28.sk [7,6,5,4,0,1,8] rfl fun h29=>sqr fun _ hK12=>mv h29 rfl fun _ h30=>h30.sk [32,7,6,5,0,1,8] rfl fun h31=>mv h31 rfl fun _ h32=>h32.sk [4,32,7,6,0,1,8] rfl fun h33=>mv h33 rfl fun _ h34=>h34.sn [5,4,7,6,0,1,8] rfl fun h35=>hK12 _ _ ?_
    refine wp_ret ?_
    try simp only [Exit.then,Exit.inBlock]
    refine Bj (v:=.tuple #[ν 0,ν (AN [stE M P 3 0 16,stE M (stP M P 3 0 (AT (As M P) (Ar (As M P) 1))) 7 (Ar (As M P) 1) (List.replicate 64 (0:UInt8)).length])]) (Dx h35 rfl rfl rfl) h35.defs ?_
    try simp only [List.length_replicate] at hp3
    exact ⟨ta9,tc9,by unfold bN bE;rw [if_neg (show ¬ De M P spare from hp2),if_neg (show ¬ De M P spare from hp2)];unfold VC NX PV;(try simp only [List.length_replicate]);rw [if_neg hp3];(try rfl),by unfold bP;rw [if_neg (show ¬ De M P spare from hp2)];exact Sep.tail_un (xs:=[_,_]) (s6.pk [1,2,3] rfl)⟩
   ·skip
    have hp4:¬ (AN [stE M P 3 0 16,stE M (stP M P 3 0 (AT (As M P) (Ar (As M P) 1))) 7 (Ar (As M P) 1) (List.replicate 64 (0:UInt8)).length]≠0):=(dF hc2)
    refine wcF h28 rfl hc2<|h28.sk [7,6,5,4,0,1,8] rfl fun h36=>wp_skip<|hK10 _ _<|sqr fun _ hK13=>mv h36 rfl fun _ h37=>h37.sk [33,7,6,5,0,1,8] rfl fun h38=>mv h38 rfl fun _ h39=>h39.sk [4,33,7,6,0,1,8] rfl fun h40=>mv h40 rfl fun _ h41=>h41.sk [5,4,7,6,0,1,8] rfl fun h42=>?_
    refine wpList_nil<|hK13 _ _<|wp_ret ?_
    try simp only [Exit.then,Exit.inBlock]
    refine Bj (v:=.tuple #[ν (Ar (As M P) 1),ν 0]) (Dx h42 rfl rfl rfl) h42.defs ?_
    try simp only [List.length_replicate] at hp4
    exact ⟨ta9,tc9,by unfold bN bE;rw [if_neg (show ¬ De M P spare from hp2),if_neg (show ¬ De M P spare from hp2)];unfold VC NX PV;(try simp only [List.length_replicate]);rw [if_pos (Classical.not_not.1 hp4),Classical.not_not.1 hp4],by unfold bP;rw [if_neg (show ¬ De M P spare from hp2)];exact Sep.tail_un (xs:=[_,_]) (s6.pk [1,2,3] rfl)⟩
  have s7:=s5.drew
  refine wp_region_held_drew (S:=fun w'=>Sep w' [Ab g1 52 (((As M P)).map Ag),Ab mx 103 [π K.tg],Ch.many R]) κ (s7.pk [0,1,3] rfl) (fun hq1=>?_)
  refine tv1 hq1 h24 0 rfl rfl (fun w1 _=>(AF h24 rfl rfl) w1) fun _ h43=>?_
  refine tv1 hq1 h43 1 rfl rfl (fun w1 hSw=>(rld h43 rfl rfl (Lf υ52 (hSw.get 0 rfl:Blk _ _ _ _) (Gw _ (by first | rfl | simp only [AX,Aw,As,An]))))) fun _ h44=>?_
  refine tv1 hq1 h44 2 rfl rfl (fun w1 _=>(AF h44 rfl rfl) w1) fun _ h45=>?_
  refine tv1 hq1 h45 5 rfl rfl (fun w1 _=>(AF h45 rfl rfl) w1) fun _ h46=>?_
  refine tv1 hq1 h46 6 rfl rfl (fun w1 _=>(AF h46 rfl rfl) w1) fun _ h47=>?_
  refine wpAnyH_ready (rs:=[3,7]) κ (by simp) (toc rfl (wn rfl) (fun K2 hK14=>?_) (toc rfl (wn rfl) (fun K2 hK14=>?_) AllReadyH.nil))
  ·skip
   refine BI h47 rfl rfl rfl (xs:=[.tmp 20,.tmp 21]) rfl (cF func108) rfl (vs:=[.agg (Al (As M P)),ν (Ar (As M P) 1)]) rfl (args:=#[.agg (Al (As M P)),ν (Ar (As M P) 1)]) rfl (Bv s7 (RT (As M P) (Ar (As M P) 1) _ (Gw _ (by first | rfl | simp only [AX,Aw,As,An])) ω)) fun _ v4 w8 r4 h48=>?_
   obtain ⟨rfl,s8⟩:=r4
   refine hK14 _ _ (s8.pk [0,1,3] rfl) fun hq2=>?_
   refine wpAnyH_ready (rs:=[4,7]) κ (by simp) (toc rfl (wn rfl) (fun K3 hK15=>?_) (toc rfl (wn rfl) (fun K3 hK15=>?_) AllReadyH.nil))
   ·skip
    refine BI h48 rfl rfl rfl (xs:=[.tmp 19,.tmp 22]) rfl (cF func49) rfl (vs:=[π mx,.agg (Al (AT (As M P) (Ar (As M P) 1)))]) rfl (args:=#[π mx,.agg (Al (AT (As M P) (Ar (As M P) 1)))]) rfl (Ij (xs:=(AT (As M P) (Ar (As M P) 1))) (s8.pk [1,2,0,3] rfl) hM (Gw _ (by first | rfl | simp only [AX,Aw,As,An]))) fun _ v5 w9 r5 h49=>?_
    obtain ⟨tax138,tcx139,rfl,s9⟩:=r5
    refine hK15 _ _ (s9.pk [2,0,3] rfl) fun hq3=>?_
    refine to_ 7 rfl (wn rfl) κ fun _ hK16=>NH Gt (by decide) h49 rfl rfl rfl rfl υ74 (z:=.int .u8 0) (n:=64) κ (m:=(0:UInt8)) rfl rfl rfl (by decide) s9 fun _ g2 w10 h50 s10 _ _=>?_
    refine hK16 _ _ (s10.pk [3,1,4] rfl) fun hq4=>?_
    have s11:Sep _ [BR 0 5 1 (some ⟨g2,0,none⟩) ((List.replicate 64 (0:UInt8))).length 64 (((List.replicate 64 (0:UInt8))).map Ag),Ab mx 103 [π K.tg],txP K tax138 tcx139 M (stP M P 3 0 (AT (As M P) (Ar (As M P) 1))),Ab g1 52 (((As M P)).map Ag),Ch.many R]:=Gq s10
    refine to_ 8 rfl (wn rfl) κ fun _ hK17=>BI h50 rfl rfl rfl (xs:=[.tmp 24,.const (ν 7),.tmp 25,.tmp 26]) rfl (cF func52) rfl (vs:=[π mx,ν 7,ν (Ar (As M P) 1),.slice (some ⟨g2,0,none⟩) 64 64]) rfl (args:=#[π mx,ν 7,ν (Ar (As M P) 1),.slice (some ⟨g2,0,none⟩) 64 64]) rfl (Dd (kd:=7) (nm:=Ar (As M P) 1) (xs:=(List.replicate 64 (0:UInt8))) s11 hM (by simp)) fun _ v6 w11 r6 h51=>?_
    obtain ⟨tax157,tcx158,rfl,s12⟩:=r6
    refine hK17 _ _ (s12.pk [3,1,4] rfl) fun hq5=>?_
    refine to_ 9 rfl (wn rfl) κ fun _ hK18=>Do h51 rfl rfl rfl (E:=29) (xs:=[(0,.tmp 23),(1,.tmp 27)]) rfl (vs:=[(0,ν (stE M P 3 0 16)),(1,ν (stE M (stP M P 3 0 (AT (As M P) (Ar (As M P) 1))) 7 (Ar (As M P) 1) (List.replicate 64 (0:UInt8)).length))]) rfl (z:=[ν (stE M P 3 0 16),ν (stE M (stP M P 3 0 (AT (As M P) (Ar (As M P) 1))) 7 (Ar (As M P) 1) (List.replicate 64 (0:UInt8)).length)]) (fun _=>κ) s12 fun _ g3 w12 h52 s13 _ _=>?_
    refine hK18 _ _ (s13.pk [4,2,5] rfl) fun hq6=>?_
    refine to_ 10 rfl (wn rfl) κ fun _ hK19=>BI h52 rfl rfl rfl (xs:=[.tmp 28]) rfl (cF func48) rfl (vs:=[.slice (some ⟨g3,0,none⟩) 2 2]) rfl (args:=#[.slice (some ⟨g3,0,none⟩) 2 2]) rfl (Ed (L:=[stE M P 3 0 16,stE M (stP M P 3 0 (AT (As M P) (Ar (As M P) 1))) 7 (Ar (As M P) 1) (List.replicate 64 (0:UInt8)).length]) s13 (Nat.le_of_ble_eq_true rfl)) fun _ v7 w13 r7 h53=>?_
    obtain ⟨rfl,s14⟩:=r7
    refine hK19 _ _ (s14.pk [4,2,5] rfl) fun hq7=>?_
    refine tv1 hq7 h53 11 rfl rfl (fun w1 _=>(Be h53 rfl rfl) w1) fun _ h54=>?_
    refine h54.sk [8,7,6,5,4,0,1] rfl fun h55=>?_
    refine wpAnyH_done κ ?_ _
    exact hJ79 tax157 tcx158 _ _ (h55.subs rfl) (s14.pk [4,2,3,5] rfl) 
   ·skip
    refine NH Gt (by decide) h48 rfl rfl rfl rfl υ74 (z:=.int .u8 0) (n:=64) κ (m:=(0:UInt8)) rfl rfl rfl (by decide) s8 fun _ g4 w14 h56 s15 _ _=>hK15 _ _ (s15.pk [1,2,4] rfl) fun hq8=>?_
    refine to_ 4 rfl (wn rfl) κ fun _ hK20=>BI h56 rfl rfl rfl (xs:=[.tmp 19,.tmp 22]) rfl (cF func49) rfl (vs:=[π mx,.agg (Al (AT (As M P) (Ar (As M P) 1)))]) rfl (args:=#[π mx,.agg (Al (AT (As M P) (Ar (As M P) 1)))]) rfl (Ij (xs:=(AT (As M P) (Ar (As M P) 1))) (s15.pk [2,3,0,1,4] rfl) hM (Gw _ (by first | rfl | simp only [AX,Aw,As,An]))) fun _ v8 w15 r8 h57=>?_
    obtain ⟨tax195,tcx196,rfl,s16⟩:=r8
    refine hK20 _ _ (s16.pk [3,0,4] rfl) fun hq9=>?_
    have s17:Sep _ [BR 0 5 1 (some ⟨g4,0,none⟩) ((List.replicate 64 (0:UInt8))).length 64 (((List.replicate 64 (0:UInt8))).map Ag),Ab mx 103 [π K.tg],txP K tax195 tcx196 M (stP M P 3 0 (AT (As M P) (Ar (As M P) 1))),Ab g1 52 (((As M P)).map Ag),Ch.many R]:=Gq (s16.pk [2,0,1,3,4] rfl)
    refine to_ 8 rfl (wn rfl) κ fun _ hK21=>BI h57 rfl rfl rfl (xs:=[.tmp 24,.const (ν 7),.tmp 25,.tmp 26]) rfl (cF func52) rfl (vs:=[π mx,ν 7,ν (Ar (As M P) 1),.slice (some ⟨g4,0,none⟩) 64 64]) rfl (args:=#[π mx,ν 7,ν (Ar (As M P) 1),.slice (some ⟨g4,0,none⟩) 64 64]) rfl (Dd (kd:=7) (nm:=Ar (As M P) 1) (xs:=(List.replicate 64 (0:UInt8))) s17 hM (by simp)) fun _ v9 w16 r9 h58=>?_
    obtain ⟨tax206,tcx207,rfl,s18⟩:=r9
    refine hK21 _ _ (s18.pk [3,1,4] rfl) fun hq10=>?_
    refine to_ 9 rfl (wn rfl) κ fun _ hK22=>Do h58 rfl rfl rfl (E:=29) (xs:=[(0,.tmp 23),(1,.tmp 27)]) rfl (vs:=[(0,ν (stE M P 3 0 16)),(1,ν (stE M (stP M P 3 0 (AT (As M P) (Ar (As M P) 1))) 7 (Ar (As M P) 1) (List.replicate 64 (0:UInt8)).length))]) rfl (z:=[ν (stE M P 3 0 16),ν (stE M (stP M P 3 0 (AT (As M P) (Ar (As M P) 1))) 7 (Ar (As M P) 1) (List.replicate 64 (0:UInt8)).length)]) (fun _=>κ) s18 fun _ g5 w17 h59 s19 _ _=>?_
    refine hK22 _ _ (s19.pk [4,2,5] rfl) fun hq11=>?_
    refine to_ 10 rfl (wn rfl) κ fun _ hK23=>BI h59 rfl rfl rfl (xs:=[.tmp 28]) rfl (cF func48) rfl (vs:=[.slice (some ⟨g5,0,none⟩) 2 2]) rfl (args:=#[.slice (some ⟨g5,0,none⟩) 2 2]) rfl (Ed (L:=[stE M P 3 0 16,stE M (stP M P 3 0 (AT (As M P) (Ar (As M P) 1))) 7 (Ar (As M P) 1) (List.replicate 64 (0:UInt8)).length]) s19 (Nat.le_of_ble_eq_true rfl)) fun _ v10 w18 r10 h60=>?_
    obtain ⟨rfl,s20⟩:=r10
    refine hK23 _ _ (s20.pk [4,2,5] rfl) fun hq12=>?_
    refine tv1 hq12 h60 11 rfl rfl (fun w1 _=>(Be h60 rfl rfl) w1) fun _ h61=>?_
    refine h61.sk [8,7,6,5,4,0,1] rfl fun h62=>?_
    refine wpAnyH_done κ ?_ _
    exact hJ79 tax206 tcx207 _ _ (h62.subs rfl) (s20.pk [4,2,3,5] rfl) 
  ·skip
   refine NH Gt (by decide) h47 rfl rfl rfl rfl υ74 (z:=.int .u8 0) (n:=64) κ (m:=(0:UInt8)) rfl rfl rfl (by decide) s7 fun _ g6 w19 h63 s21 _ _=>hK14 _ _ (s21.pk [1,2,4] rfl) fun hq13=>?_
   refine to_ 3 rfl (wn rfl) κ fun _ hK24=>BI h63 rfl rfl rfl (xs:=[.tmp 20,.tmp 21]) rfl (cF func108) rfl (vs:=[.agg (Al (As M P)),ν (Ar (As M P) 1)]) rfl (args:=#[.agg (Al (As M P)),ν (Ar (As M P) 1)]) rfl (Bv s21 (RT (As M P) (Ar (As M P) 1) _ (Gw _ (by first | rfl | simp only [AX,Aw,As,An])) ω)) fun _ v11 w20 r11 h64=>?_
   obtain ⟨rfl,s22⟩:=r11
   refine hK24 _ _ (s22.pk [1,2,4] rfl) fun hq14=>?_
   refine to_ 4 rfl (wn rfl) κ fun _ hK25=>BI h64 rfl rfl rfl (xs:=[.tmp 19,.tmp 22]) rfl (cF func49) rfl (vs:=[π mx,.agg (Al (AT (As M P) (Ar (As M P) 1)))]) rfl (args:=#[π mx,.agg (Al (AT (As M P) (Ar (As M P) 1)))]) rfl (Ij (xs:=(AT (As M P) (Ar (As M P) 1))) (s22.pk [2,3,0,1,4] rfl) hM (Gw _ (by first | rfl | simp only [AX,Aw,As,An]))) fun _ v12 w21 r12 h65=>?_
   obtain ⟨tax252,tcx253,rfl,s23⟩:=r12
   refine hK25 _ _ (s23.pk [3,0,4] rfl) fun hq15=>?_
   have s24:Sep _ [BR 0 5 1 (some ⟨g6,0,none⟩) ((List.replicate 64 (0:UInt8))).length 64 (((List.replicate 64 (0:UInt8))).map Ag),Ab mx 103 [π K.tg],txP K tax252 tcx253 M (stP M P 3 0 (AT (As M P) (Ar (As M P) 1))),Ab g1 52 (((As M P)).map Ag),Ch.many R]:=Gq (s23.pk [2,0,1,3,4] rfl)
   refine to_ 8 rfl (wn rfl) κ fun _ hK26=>BI h65 rfl rfl rfl (xs:=[.tmp 24,.const (ν 7),.tmp 25,.tmp 26]) rfl (cF func52) rfl (vs:=[π mx,ν 7,ν (Ar (As M P) 1),.slice (some ⟨g6,0,none⟩) 64 64]) rfl (args:=#[π mx,ν 7,ν (Ar (As M P) 1),.slice (some ⟨g6,0,none⟩) 64 64]) rfl (Dd (kd:=7) (nm:=Ar (As M P) 1) (xs:=(List.replicate 64 (0:UInt8))) s24 hM (by simp)) fun _ v13 w22 r13 h66=>?_
   obtain ⟨tax263,tcx264,rfl,s25⟩:=r13
   refine hK26 _ _ (s25.pk [3,1,4] rfl) fun hq16=>?_
   refine to_ 9 rfl (wn rfl) κ fun _ hK27=>Do h66 rfl rfl rfl (E:=29) (xs:=[(0,.tmp 23),(1,.tmp 27)]) rfl (vs:=[(0,ν (stE M P 3 0 16)),(1,ν (stE M (stP M P 3 0 (AT (As M P) (Ar (As M P) 1))) 7 (Ar (As M P) 1) (List.replicate 64 (0:UInt8)).length))]) rfl (z:=[ν (stE M P 3 0 16),ν (stE M (stP M P 3 0 (AT (As M P) (Ar (As M P) 1))) 7 (Ar (As M P) 1) (List.replicate 64 (0:UInt8)).length)]) (fun _=>κ) s25 fun _ g7 w23 h67 s26 _ _=>?_
   refine hK27 _ _ (s26.pk [4,2,5] rfl) fun hq17=>?_
   refine to_ 10 rfl (wn rfl) κ fun _ hK28=>BI h67 rfl rfl rfl (xs:=[.tmp 28]) rfl (cF func48) rfl (vs:=[.slice (some ⟨g7,0,none⟩) 2 2]) rfl (args:=#[.slice (some ⟨g7,0,none⟩) 2 2]) rfl (Ed (L:=[stE M P 3 0 16,stE M (stP M P 3 0 (AT (As M P) (Ar (As M P) 1))) 7 (Ar (As M P) 1) (List.replicate 64 (0:UInt8)).length]) s26 (Nat.le_of_ble_eq_true rfl)) fun _ v14 w24 r14 h68=>?_
   obtain ⟨rfl,s27⟩:=r14
   refine hK28 _ _ (s27.pk [4,2,5] rfl) fun hq18=>?_
   refine tv1 hq18 h68 11 rfl rfl (fun w1 _=>(Be h68 rfl rfl) w1) fun _ h69=>?_
   refine h69.sk [8,7,6,5,4,0,1] rfl fun h70=>?_
   refine wpAnyH_done κ ?_ _
   exact hJ79 tax263 tcx264 _ _ (h70.subs rfl) (s27.pk [4,2,3,5] rfl) 
theorem Vn {w:World} {R:List Ch} {mx:Nat} {K:VolK} {ta:Ω} {tc:Nat} {M:MemM} {P:List PtM} {i:Int} (hS0:Sep w ([Ab mx 103 [π K.tg],txP K ta tc M P]++R)) (hM:M.V.length=23168)  :
  CallsR prog 112 #[π mx,ν i] w (fun v w'=>v=.tuple #[.agg (Au (Aq M P i)).toArray,ν (BM M P i)]∧Sep w' ([Ab mx 103 [π K.tg],txP K ta tc M P]++R)):=by
 have hS:Sep w [Ab mx 103 [π K.tg],txP K ta tc M P,Ch.many R]:=Sep.tail_many (xs:=[_,_]) hS0;clear hS0
 refine AL func112 rfl (N:=53) ntmps112 (by show 2≤53;decide) [(0,π mx),(1,ν i)] rfl fun _ h1=>sqr fun _ hK3=>so (wn rfl) fun _ hK1=>AV h1 rfl rfl rfl rfl (z:=Au Bm) (fun _=>rfl) hS fun _ g4 w7 h5 s8 _ _=>hK1 _ _ ?_
 refine mv h5 rfl fun _ h2=>wpList_nil<|hK3 _ _<|sqr fun _ hK2=>mvs 2 h2 rfl fun _ h3=>cl h3 rfl (cF func15) (FT (i:=i) (s8.pk [1,2,0,3] rfl) hM) fun _ v1 w1 r1 h4=>?_
 obtain ⟨rfl,s1⟩:=r1
 refine mvs 3 h4 rfl fun _ h6=>so (wn rfl) fun _ hK4=>AV h6 rfl rfl rfl rfl (z:=[ν 0,ν 0,ν 0,ν 0,ν 0,ν 0,ν 0,ν 0,ν 0,ν 0,ν 0,ν 0,ν 0,ν 0,ν 0]) (fun _=>rfl) s1 fun _ g1 w2 h7 s2 _ _=>hK4 _ _ ?_
 refine stA h7 s2 0 rfl rfl rfl κ rfl rfl rfl rfl fun _ w3 h8 s3 _=>mv h8 rfl fun _ h9=>h9.sn [7,6,5,4,0,1] rfl fun h10=>hK2 _ _<|sq fun _ hK5=>sqr fun _ hK6=>mv h10 rfl fun _ h11=>bv h11 (z:=.bool (decide (AR M P i≠0))) rfl (cNe _ _ _ _ rfl) fun _ h12=>h12.sn [20,7,6,5,4,0,1] rfl fun h13=>hK6 _ _ ?_
 rcases bC (decide (AR M P i≠0)) with hc1 | hc1
 ·skip
  have hp1:AR M P i≠0:=(dT hc1)
  refine wcT h13 rfl hc1<|h13.sk [7,6,5,4,0,1] rfl fun h14=>sqr fun _ hK7=>bu h14 (v:=.agg ((Au Bm).toArray)) rfl (fun w=>κ) fun _ h15=>mv h15 rfl fun _ h16=>so (wn rfl) fun _ hK8=>Hj h16 rfl rfl s3 3 rfl (by first | exact Av | exact Ah _ _ _ _ | exact AA (Ah _ _ _ _) _ _ | exact Ai _ _ _ | (rw [AC];exact Ai _ _ _) | assumption) (by first | exact Av | exact Ah _ _ _ _ | exact AA (Ah _ _ _ _) _ _ | exact Ai _ _ _ | (rw [AC];exact Ai _ _ _) | assumption) rfl rfl (cs':=[Ab g1 45 (Ao (Am M P i)),Ab mx 103 [π K.tg],txP K ta tc M P,Ab g4 179 (Au Bm),Ch.many R]) rfl fun _ w4 h17 s4 _=>hK8 _ _ ?_
  refine h17.sk [22,21,7,6,4,0,1] rfl fun h18=>mv h18 rfl fun _ h19=>h19.sn [5,7,6,4,0,1] rfl fun h20=>hK7 _ _<|wp_ret ?_
  try simp only [Exit.then,Exit.inBlock]
  refine Hh (v:=.tuple #[.agg ((Au Bm).toArray),ν (AR M P i)]) (Kc h20 rfl rfl rfl (s4.get 3 rfl:Blk _ _ _ _) υ179 (by first | exact Av | exact Ah _ _ _ _ | exact AA (Ah _ _ _ _) _ _ | exact Ai _ _ _ | (rw [AC];exact Ai _ _ _) | assumption)) h20.defs ?_
  exact ⟨by unfold Aq BM;rw [if_pos hp1,if_pos hp1],Sep.tail_un (xs:=[_,_]) (s4.pk [1,2,4] rfl)⟩
 ·skip
  have hp2:¬ (AR M P i≠0):=(dF hc1)
  refine wcF h13 rfl hc1<|h13.sk [7,6,5,4,0,1] rfl fun h21=>wp_skip<|hK5 _ _<|sq fun _ hK9=>sqr fun _ hK10=>fav h21 rfl (fQ 0) fun _ h22=>ldv h22 s3 0 υ3 rfl rfl rfl rfl fun _ h23=>bv h23 (z:=.bool (decide ((Am M P i).k≠2))) rfl (cNe _ _ _ _ rfl) fun _ h24=>h24.sn [25,7,6,5,4,0,1] rfl fun h25=>hK10 _ _ ?_
  rcases bC (decide ((Am M P i).k≠2)) with hc2 | hc2
  ·skip
   have hp3:(Am M P i).k≠2:=(dT hc2)
   refine wcT h25 rfl hc2<|h25.sk [7,6,5,4,0,1] rfl fun h26=>sqr fun _ hK11=>bu h26 (v:=.agg ((Au Bm).toArray)) rfl (fun w=>κ) fun _ h27=>so (wn rfl) fun _ hK12=>Hj h27 rfl rfl s3 3 rfl (by first | exact Av | exact Ah _ _ _ _ | exact AA (Ah _ _ _ _) _ _ | exact Ai _ _ _ | (rw [AC];exact Ai _ _ _) | assumption) (by first | exact Av | exact Ah _ _ _ _ | exact AA (Ah _ _ _ _) _ _ | exact Ai _ _ _ | (rw [AC];exact Ai _ _ _) | assumption) rfl rfl (cs':=[Ab g1 45 (Ao (Am M P i)),Ab mx 103 [π K.tg],txP K ta tc M P,Ab g4 179 (Au Bm),Ch.many R]) rfl fun _ w5 h28 s5 _=>hK12 _ _ ?_
   refine h28.sk [26,7,6,4,0,1] rfl fun h29=>mv h29 rfl fun _ h30=>h30.sn [5,7,6,4,0,1] rfl fun h31=>hK11 _ _<|wp_ret ?_
   try simp only [Exit.then,Exit.inBlock]
   refine Hh (v:=.tuple #[.agg ((Au Bm).toArray),ν 12]) (Kc h31 rfl rfl rfl (s5.get 3 rfl:Blk _ _ _ _) υ179 (by first | exact Av | exact Ah _ _ _ _ | exact AA (Ah _ _ _ _) _ _ | exact Ai _ _ _ | (rw [AC];exact Ai _ _ _) | assumption)) h31.defs ?_
   exact ⟨by unfold Aq BM;rw [if_neg hp2,if_neg hp2,if_pos hp3,if_pos hp3],Sep.tail_un (xs:=[_,_]) (s5.pk [1,2,4] rfl)⟩
  ·skip
   have hp4:¬ ((Am M P i).k≠2):=(dF hc2)
   refine wcF h25 rfl hc2<|h25.sk [7,6,5,4,0,1] rfl fun h32=>wp_skip<|hK9 _ _<|sqr fun _ hK13=>so (wn rfl) fun _ hK14=>AV h32 rfl rfl rfl rfl (z:=Au Bm) (fun _=>rfl) s3 fun _ g2 w6 h33 s6 _ _=>hK14 _ _ ?_
   refine wpList_nil<|hK13 _ _<|sq fun _ hK15=>sqr fun _ hK16=>fav h33 rfl (fQ 3) fun _ h34=>sw1 h34 rfl (rld h34 rfl rfl (ldA υ42 rfl (n:=4) κ (s6.get 1 rfl:Blk _ _ _ _) rfl rfl)) fun _ h35=>mv h35 rfl fun _ h36=>h36.sn [29,28,8,7,6,5,4,0,1] rfl fun h37=>hK16 _ _<|wp_block ?_
   refine FE (fun (k:Nat) a' w'=>Kn 53 [(29,ν (k:Int)),(28,.agg #[ν ((Am M P i).b0),ν ((Am M P i).b1),ν ((Am M P i).b2),ν ((Am M P i).b3)]),(8,π g2),(6,π g1),(5,ν 0),(4,π g4),(0,π mx),(1,ν i)] a'∧Sep w' [Ab g2 179 (Au (BF M P (Am M P i) k).1),Ab g1 45 (Ao (Am M P i)),Ab mx 103 [π K.tg],txP K ta tc M P,Ab g4 179 (Au Bm),Ch.many R]∧(k≤4)∧((BF M P (Am M P i) k).2=0)) (fun (k:Nat)=>4-k) 0 ⟨h37.subs rfl,s6,Nat.zero_le _,rfl⟩ ?_
   rintro k1 a1 w8 ⟨h38,s7,hk126,hk0127⟩ K1 hK17
   refine sqr fun _ hK18=>bv h38 (z:=.bool (decide ((k1:Int)<4))) rfl (cLt _ _ _ _ rfl) fun _ h39=>wpList_nil<|hK18 _ _<|sq fun _ hK19=>?_
   rcases bC (decide ((k1:Int)<4)) with hc3 | hc3
   ·skip
    have hp5:(k1:Int)<4:=(dT hc3)
    refine wcT h39 rfl hc3<|h39.sk [29,28,8,6,5,4,0,1] rfl fun h40=>wp_skip<|hK19 _ _<|sq fun _ hK20=>wp_block ?_
    refine sqr fun _ hK21=>mv h40 rfl fun _ h41=>sv1 h41 rfl (MZ h41 rfl rfl rfl (xs:=[(Am M P i).b0,(Am M P i).b1,(Am M P i).b2,(Am M P i).b3]) rfl υ42 rfl rfl rfl (by show _<4;omega)) fun _ h42=>mvs 2 h42 rfl fun _ h43=>h43.sn [10,9,29,28,8,6,5,4,0,1] rfl fun h44=>hK21 _ _<|sq fun _ hK22=>sqr fun _ hK23=>mv h44 rfl fun _ h45=>bv h45 (z:=.bool (decide ((Am M P i).blk k1=0))) rfl (cEq _ _ _ _ rfl) fun _ h46=>h46.sk [34,10,9,29,28,8,6,5,4,0,1] rfl fun h47=>?_
    refine wpList_nil<|hK23 _ _ ?_
    rcases bC (decide ((Am M P i).blk k1=0)) with hc4 | hc4
    ·skip
     have hp6:(Am M P i).blk k1=0:=(dT hc4)
     refine wcT h47 rfl hc4<|h47.sk [10,9,29,28,8,6,5,4,0,1] rfl fun h48=>wp_exit ?_
     refine hK20 _ _ ?_
     refine wp_region_lit<|bv h48 (z:=ν ((k1+1:Nat):Int)) rfl (CP _ _ _ ω ω ω) fun _ h49=>h49.sk [51,10,9,28,8,6,5,4,0,1] rfl fun h50=>mv h50 rfl fun _ h51=>h51.sk [29,10,9,28,8,6,5,4,0,1] rfl fun h52=>wpList_nil ?_
     have hn9:BF M P (Am M P i) (k1+1)=BF M P (Am M P i) k1:=by show (if _ then _ else _)=_;rw [if_pos hk0127,if_pos hp6]
     exact hK17 (k1+1) _ _ ⟨h52.subs rfl,(by rw [hn9];exact s7),ω,(by rw [hn9];exact hk0127)⟩ ω
    ·skip
     have hp7:¬ ((Am M P i).blk k1=0):=(dF hc4)
     refine wcF h47 rfl hc4<|h47.sk [10,9,29,28,8,6,5,4,0,1] rfl fun h53=>wp_skip<|hK22 _ _<|sqr fun _ hK24=>mvs 2 h53 rfl fun _ h54=>cl h54 rfl (cF func38) (Py (kd:=7) (nm:=(Am M P i).blk k1) (s7.pk [2,3,0,1,4,5] rfl) hM) fun _ v2 w9 r2 h55=>?_
     obtain ⟨ra_x170,rc_x171,rfl,s9⟩:=r2
     refine mvs 5 h55 rfl fun _ h56=>h56.sn [11,10,9,29,28,8,6,5,4,0,1] rfl fun h57=>hK24 _ _<|sqr fun _ hK25=>sw1 h57 rfl (rld h57 rfl rfl (Hz υ179 (s9.get 3 rfl:Blk _ _ _ _) (by first | exact Av | exact Ah _ _ _ _ | exact AA (Ah _ _ _ _) _ _ | exact Ai _ _ _ | (rw [AC];exact Ai _ _ _) | assumption))) fun _ h58=>mvs 2 h58 rfl fun _ h59=>cl h59 rfl (cF func141) (Bv s9 (Xj ((BF M P (Am M P i) k1).1) (by first | exact Av | exact Ah _ _ _ _ | exact AA (Ah _ _ _ _) _ _ | exact Ai _ _ _ | (rw [AC];exact Ai _ _ _) | assumption) (k1:Int) _ _ (Bg M P 7 ((Am M P i).blk k1)) _ (s9.get 0 rfl:Own _ _ _ _ _ _ _ _).row)) fun _ v3 w10 r3 h60=>?_
     obtain ⟨rfl,s10⟩:=r3
     refine mvs 3 h60 rfl fun _ h61=>so (wn rfl) fun _ hK26=>Hj h61 rfl rfl s10 3 rfl (by first | exact Av | exact Ah _ _ _ _ | exact AA (Ah _ _ _ _) _ _ | exact Ai _ _ _ | (rw [AC];exact Ai _ _ _) | assumption) (by first | exact Av | exact Ah _ _ _ _ | exact AA (Ah _ _ _ _) _ _ | exact Ai _ _ _ | (rw [AC];exact Ai _ _ _) | assumption) rfl rfl (cs':=[BR 0 5 1 ra_x170 ((Bg M P 7 ((Am M P i).blk k1))).length rc_x171 (((Bg M P 7 ((Am M P i).blk k1))).map Ag),Ab mx 103 [π K.tg],txP K ta tc M P,Ab g2 179 (Au ((Fv ((BF M P (Am M P i) k1).1) (k1:Int) (Bg M P 7 ((Am M P i).blk k1))).1)),Ab g1 45 (Ao (Am M P i)),Ab g4 179 (Au Bm),Ch.many R]) rfl fun _ w11 h62 s11 _=>hK26 _ _ ?_
     refine mv h62 rfl fun _ h63=>h63.sn [7,11,10,9,29,28,8,6,5,4,0,1] rfl fun h64=>hK25 _ _<|sqr fun _ hK27=>mv h64 rfl fun _ h65=>bv h65 (z:=.bool (decide ((Fv ((BF M P (Am M P i) k1).1) (k1:Int) (Bg M P 7 ((Am M P i).blk k1))).2≠0))) rfl (cNe _ _ _ _ rfl) fun _ h66=>h66.sn [49,7,11,10,9,29,28,8,6,5,4,0,1] rfl fun h67=>hK27 _ _ ?_
     rcases bC (decide ((Fv ((BF M P (Am M P i) k1).1) (k1:Int) (Bg M P 7 ((Am M P i).blk k1))).2≠0)) with hc5 | hc5
     ·skip
      have hp8:(Fv ((BF M P (Am M P i) k1).1) (k1:Int) (Bg M P 7 ((Am M P i).blk k1))).2≠0:=(dT hc5)
      refine wcT h67 rfl hc5<|h67.sk [7,11,10,9,29,28,8,6,5,4,0,1] rfl fun h68=>sqr fun _ hK28=>bu h68 (v:=.agg ((Au Bm).toArray)) rfl (fun w=>κ) fun _ h69=>so (wn rfl) fun _ hK29=>Hj h69 rfl rfl s11 5 rfl (by first | exact Av | exact Ah _ _ _ _ | exact AA (Ah _ _ _ _) _ _ | exact Ai _ _ _ | (rw [AC];exact Ai _ _ _) | assumption) (by first | exact Av | exact Ah _ _ _ _ | exact AA (Ah _ _ _ _) _ _ | exact Ai _ _ _ | (rw [AC];exact Ai _ _ _) | assumption) rfl rfl (cs':=[BR 0 5 1 ra_x170 ((Bg M P 7 ((Am M P i).blk k1))).length rc_x171 (((Bg M P 7 ((Am M P i).blk k1))).map Ag),Ab mx 103 [π K.tg],txP K ta tc M P,Ab g2 179 (Au ((Fv ((BF M P (Am M P i) k1).1) (k1:Int) (Bg M P 7 ((Am M P i).blk k1))).1)),Ab g1 45 (Ao (Am M P i)),Ab g4 179 (Au Bm),Ch.many R]) rfl fun _ w12 h70 s12 _=>hK29 _ _ ?_
      refine h70.sk [50,7,11,10,9,29,28,8,6,4,0,1] rfl fun h71=>mv h71 rfl fun _ h72=>h72.sn [5,7,11,10,9,29,28,8,6,4,0,1] rfl fun h73=>hK28 _ _<|wp_ret ?_
      try simp only [Exit.then,Exit.inBlock]
      refine Hh (v:=.tuple #[.agg ((Au Bm).toArray),.int .i64 36]) (Kc h73 rfl rfl rfl (s12.get 5 rfl:Blk _ _ _ _) Tryz.underlying179 (by first | exact Av | exact Ah _ _ _ _ | exact AA (Ah _ _ _ _) _ _ | exact Ai _ _ _ | (rw [AC];exact Ai _ _ _) | assumption)) h73.defs ?_
      have hn9:(BF M P (Am M P i) (k1+1)).2≠0:=by show ((if _ then _ else _):List EntT×Int).2≠0;rw [if_pos hk0127,if_neg hp7];exact hp8
      have hn8:=Nx hn9 4 ω
      exact ⟨by unfold Aq BM;rw [if_neg hp2,if_neg hp2,if_neg hp4,if_neg hp4,if_neg hn8,if_neg hn8],Sep.tail_un (xs:=[_,_]) (s12.pk [1,2,6] rfl)⟩
     ·skip
      have hp9:¬ ((Fv ((BF M P (Am M P i) k1).1) (k1:Int) (Bg M P 7 ((Am M P i).blk k1))).2≠0):=(dF hc5)
      refine wcF h67 rfl hc5<|h67.sk [7,11,10,9,29,28,8,6,5,4,0,1] rfl fun h74=>wp_skip<|hK20 _ _<|wp_region_lit<|bv h74 (z:=ν ((k1+1:Nat):Int)) rfl (CP _ _ _ ω ω ω) fun _ h75=>h75.sk [51,7,11,10,9,28,8,6,5,4,0,1] rfl fun h76=>mv h76 rfl fun _ h77=>h77.sk [29,7,11,10,9,28,8,6,5,4,0,1] rfl fun h78=>wpList_nil ?_
      have hn9:BF M P (Am M P i) (k1+1)=Fv (BF M P (Am M P i) k1).1 k1 (Bg M P 7 ((Am M P i).blk k1)):=by show (if _ then _ else _)=_;rw [if_pos hk0127,if_neg hp7]
      exact hK17 (k1+1) _ _ ⟨h78.subs rfl,(by rw [hn9];exact (s11.pk [3,4,1,2,5,6] rfl)),ω,(by rw [hn9];exact Classical.not_not.1 hp9)⟩ ω
   ·skip
    have hp10:¬ ((k1:Int)<4):=(dF hc3)
    refine wcF h39 rfl hc3<|h39.sk [29,28,8,6,5,4,0,1] rfl fun h79=>wp_exit ?_
    refine hK15 _ _ ?_
    refine sqr fun _ hK30=>sw1 h79 rfl (rld h79 rfl rfl (Hz υ179 (s7.get 0 rfl:Blk _ _ _ _) (by first | exact Av | exact Ah _ _ _ _ | exact AA (Ah _ _ _ _) _ _ | exact Ai _ _ _ | (rw [AC];exact Ai _ _ _) | assumption))) fun _ h80=>so (wn rfl) fun _ hK31=>Hj h80 rfl rfl s7 4 rfl (by first | exact Av | exact Ah _ _ _ _ | exact AA (Ah _ _ _ _) _ _ | exact Ai _ _ _ | (rw [AC];exact Ai _ _ _) | assumption) (by first | exact Av | exact Ah _ _ _ _ | exact AA (Ah _ _ _ _) _ _ | exact Ai _ _ _ | (rw [AC];exact Ai _ _ _) | assumption) rfl rfl (cs':=[Ab g2 179 (Au (BF M P (Am M P i) k1).1),Ab g1 45 (Ao (Am M P i)),Ab mx 103 [π K.tg],txP K ta tc M P,Ab g4 179 (Au ((BF M P (Am M P i) k1).1)),Ch.many R]) rfl fun _ w13 h81 s13 _=>hK31 _ _ ?_
    refine h81.sk [52,29,28,8,6,4,0,1] rfl fun h82=>mv h82 rfl fun _ h83=>h83.sn [5,29,28,8,6,4,0,1] rfl fun h84=>hK30 _ _<|wp_ret ?_
    try simp only [Exit.then,Exit.inBlock]
    refine Hh (v:=.tuple #[.agg ((Au ((BF M P (Am M P i) k1).1)).toArray),ν 0]) (Kc h84 rfl rfl rfl (s13.get 4 rfl:Blk _ _ _ _) υ179 (by first | exact Av | exact Ah _ _ _ _ | exact AA (Ah _ _ _ _) _ _ | exact Ai _ _ _ | (rw [AC];exact Ai _ _ _) | assumption)) h84.defs ?_
    obtain rfl:k1=4:=ω
    exact ⟨by unfold Aq BM;rw [if_neg hp2,if_neg hp2,if_neg hp4,if_neg hp4,if_pos hk0127,if_pos hk0127],Sep.tail_un (xs:=[_,_]) (s13.pk [2,3,5] rfl)⟩
theorem SY {w:World} {R:List Ch} {c:Int} (hS0:Sep w ([]++R)) :
  CallsR prog 53 #[ν c] w (fun v w'=>v=.bool (decide (c≥1)&&decide (c≤8))∧Sep w' ([]++R)):=by
 have hS:Sep w [Ch.many R]:=Sep.tail_many (xs:=[]) hS0;clear hS0
 refine AL func53 rfl (N:=9) ntmps53 (by show 1≤9;decide) [(0,ν c)] rfl fun _ h1=>sqr fun _ hK3=>mv h1 rfl fun _ h4=>wpList_nil<|hK3 _ _<|sqr fun _ hK6=>mv h4 rfl fun _ h7=>bv h7 (z:=.bool (decide (c≥1))) rfl (cGe _ _ _ _ rfl) fun _ h9=>mv h9 rfl fun _ h2=>sg h2 (wT h2 rfl rfl rfl) rfl rfl rfl (fun hC1=>AF h2 rfl rfl _) fun _ h3=>sg h3 (wT h3 rfl rfl rfl) rfl rfl rfl (fun hC2=>BN h3 rfl (opg rfl hC2) rfl (cLe _ _ _ _ rfl) _) fun _ h5=>?_
 refine sv1 h5 rfl (EY h5 rfl (E:=(decide (c≥1))) (F:=(decide (c≤8))) rfl rfl rfl (fun e=>if_pos (by rw [e];try rfl))) fun _ h6=>h6.sk [8,7,6,5,4,3,0] rfl fun h8=>mv h8 rfl fun _ h10=>h10.sn [2,0] rfl fun h11=>hK6 _ _<|wp_ret ?_
 try simp only [Exit.then,Exit.inBlock]
 refine Bj (v:=.bool ((decide (c≥1))&&(decide (c≤8)))) (CV h11 rfl rfl) h11.defs ?_
 exact ⟨by first | rfl | (rw [isCl_eq]),Sep.tail_un (xs:=[]) hS⟩
end
section
theorem WF (X:Λ) (hX:X.length≤1000) (w:World) {A:List ByteArray} {x:ByteArray} (ho:Co X=some (A++[x])):Calls prog 82 #[σ X] w fun e w'=>∃ a,e=.returned (.tuple #[.slice a A.length A.length,.string x,ν 0])∧Kp w' a A.length A∧Below w.heap.size w w'∧∀ b off,a=some ⟨b,off,none⟩→w.heap.size≤b:=by
  have HP:=hid (JX X hX w)
  rw [ho] at HP
  go_enter func82,ntmps82
  go_wp2_with (go_at_call 111;fail)
  refine (HP.out).mono ?_
  rintro e w1 ⟨a,c,rfl,o,b⟩
  have O:=hid o;have B:=hid b
  clear o b
  simp only [erO,Option.getD_some]
  simp only [Option.getD_some] at O
  have hl:(A++[x]).length=A.length+1:=by simp
  rw [hl]
  have hrow:Kp w1 a c (A++[x]):=O.out.row
  obtain ⟨g,off,rfl,hg,hc⟩:=Jo hrow ω
  have hlc:A.length+1≤c:=by have:=hrow.2.1;rw [hl] at this;exact this
  have hc9:c≤9223372036854775807:=by have:=hrow.2.2.1;unfold maxLen at this;exact this
  have cx:=hc A.length ω
  have hx:(A++[x])[A.length]' ω=x:=by simp
  rw [hx] at cx
  have HROW:=hid hrow
  clear hc hx hrow hl
  have i1:(A.length:Int)<(A.length:Int)+1:=ω
  have i2:(A.length:Int)≤c:=ω
  have i3:(0:Int)≤A.length:=ω
  go_wp2_with fail
  go_quiet (fail)
  go_wp2_with fail
  go_ret3
  refine ⟨some ⟨g,off,none⟩,rfl,?_,Gp B.out _,fun b off' q=>?_⟩
  · obtain ⟨h1,h2,h3,h4,h5⟩:=HROW.out
    refine ⟨by simp,Nat.le_refl _,by unfold maxLen;omega,(fun h=>by cases h),fun hn=>?_⟩
    obtain ⟨b',o',e',hb',hc'⟩:=h5 (by simp)
    refine ⟨b',o',e',hb',fun j u hu=>hc' j u ?_⟩
    rw [List.map_append,List.getElem?_append_left (by have:=(List.getElem?_eq_some_iff.1 hu).1;exact this)]
    exact hu
  · cases q
    exact (World.ownsRow.lt O.out g rfl).1
def rwS (a:Ω) (c:Nat) (L:List ByteArray):Ch where
  F b:=∃ off,a=some ⟨b,off,none⟩∧0<L.length
  P w:=Kp w a c L
  keep {w w'} h t:=t.row h fun hn b ⟨off,e⟩ q=>q ⟨off,e,hn⟩
  lt {w} h b hb:=by
    obtain ⟨off,e,hn⟩:=hb
    obtain ⟨b',off',e',hlt,_⟩:=h.2.2.2.2 hn
    rw [e] at e';cases e';exact hlt
theorem Afk {w:World} {a:Ω} {c:Nat} {L:List ByteArray} (h:Kp w a c L):∃ b off,(0<L.length→a=some ⟨b,off,none⟩)∧∀ j,j<L.length→w.cell? ⟨b,off+j,none⟩=some (.string (L.getD j ⟨#[]⟩)):=by
  by_cases hn:0<L.length
  · obtain ⟨b,off,e,_,hc⟩:=h.2.2.2.2 hn
    refine ⟨b,off,fun _=>e,fun j hj=>hc j _ ?_⟩
    rw [List.getElem?_map,List.getElem?_eq_getElem hj,List.getD_eq_getElem?_getD,List.getElem?_eq_getElem hj];rfl
  · exact ⟨0,0,fun q=>absurd q hn,fun j hj=>absurd hj ω⟩
def BQ:EntT:=⟨⟨#[]⟩,0⟩
def Ej (M:MemM) (P:List PtM):List ByteArray→Int→Int×Int
  | [],i=>(i,0)
  | s::L,i=>
    if BM M P i≠0 then (0,BM M P i)
    else if AY (Aq M P i) s<0 then (0,10)
    else
      if AR M P ((Aq M P i).getD (AY (Aq M P i) s).toNat BQ).ino≠0∨(Am M P ((Aq M P i).getD (AY (Aq M P i) s).toNat BQ).ino).k=0 then (0,36)
      else Ej M P L ((Aq M P i).getD (AY (Aq M P i) s).toNat BQ).ino
def Bh (M:MemM) (P:List PtM) (L:List ByteArray):Int×Int:=if AR M P 1≠0 then (0,AR M P 1) else Ej M P L 1
def AQ (M:MemM) (P:List PtM) (X:Λ):Int×Int:=match Co X with
  | some L=>Bh M P L
  | none=>(0,15)
def He (M:MemM) (P:List PtM) (X:Λ):Int×InoT×Int:=
  if (AQ M P X).2≠0 then (0,AS,(AQ M P X).2)
  else if AR M P (AQ M P X).1≠0 then (0,AS,AR M P (AQ M P X).1)
  else ((AQ M P X).1,Am M P (AQ M P X).1,0)
def EX (M:MemM) (P:List PtM) (X:Λ):Int×ByteArray×Int:=match Co X with
  | none=>(0,⟨#[]⟩,15)
  | some L=>match L.getLast? with
    | none=>(0,⟨#[]⟩,15)
    | some x=>
      if (Bh M P L.dropLast).2≠0 then (0,⟨#[]⟩,(Bh M P L.dropLast).2)
      else if AR M P (Bh M P L.dropLast).1≠0 then (0,⟨#[]⟩,AR M P (Bh M P L.dropLast).1)
      else if (Am M P (Bh M P L.dropLast).1).k≠2 then (0,⟨#[]⟩,12)
      else ((Bh M P L.dropLast).1,x,0)
theorem Yp (t:List EntT) (s:ByteArray):-1≤AY t s∧AY t s<16:=by
  unfold AY
  split
  · exact ⟨Int.le_refl _,by decide⟩
  · cases h:(BK (Eg s.data.toList)).find? (SS t s) with
    | none=>exact ⟨Int.le_refl _,by show (-1:Int)<16;decide⟩
    | some x=>
      have hm:=List.mem_of_find?_eq_some h
      unfold BK at hm
      obtain ⟨i,_,rfl⟩:=List.mem_map.1 hm
      have:=Nat.mod_lt (Eg s.data.toList+i) (show 0<16 by decide)
      exact ⟨by show (-1:Int)≤((_:Nat):Int);omega,by show (((Eg s.data.toList+i) % 16:Nat):Int)<16;omega⟩
end
section
def XB (x y:PartT):Bool:=(decide (x.k=y.k)&&decide (x.n=y.n))||decide (x.a+x.s≤y.a)||decide (y.a+y.s≤x.a)
theorem PD:(Bz.all fun x=>Bz.all fun y=>XB x y)=true:=by decide +kernel
theorem TD:(Bz.all fun x=>decide (x.k=5)||decide (x.k=6)||decide (x.s=64))=true:=by decide +kernel
theorem WG:(Bz.all fun x=>decide (x.k=5)||decide (x.a+x.s≤2688)||decide (6784≤x.a))=true:=by decide +kernel
theorem KB {kd nm:Int} {q:PartT} (h:Bk kd nm=some q):q∈Bz∧q.k=kd∧q.n=nm:=by
  have h2:=List.find?_some h
  unfold Aef at h2
  refine ⟨List.mem_of_find?_eq_some h,?_⟩
  simpa using h2
theorem SH {kd nm kd' nm':Int} {q q':PartT} (h:Bk kd nm=some q) (h':Bk kd' nm'=some q') (hne:¬ (kd=kd'∧nm=nm')):q.a+q.s≤q'.a∨q'.a+q'.s≤q.a:=by
  have k:=KB h
  have k':=KB h'
  have z:=List.all_eq_true.1 (List.all_eq_true.1 PD q k.1) q' k'.1
  unfold XB at z
  simp only [Bool.or_eq_true,Bool.and_eq_true,decide_eq_true_eq] at z
  rcases z with (z | z) | z
  · exact absurd ⟨k.2.1.symm.trans (z.1.trans k'.2.1),k.2.2.symm.trans (z.2.trans k'.2.2)⟩ hne
  · exact .inl z
  · exact .inr z
theorem Pj {kd nm:Int} {q:PartT} (h:Bk kd nm=some q) (h5:kd≠5) (h6:kd≠6):q.s=64:=by
  have k:=KB h
  have z:=List.all_eq_true.1 TD q k.1
  simp only [Bool.or_eq_true,decide_eq_true_eq,k.2.1,h5,h6,false_or] at z
  exact z
theorem Yq {kd nm:Int} {q:PartT} (h:Bk kd nm=some q) (h5:kd≠5):q.a+q.s≤2688∨6784≤q.a:=by
  have k:=KB h
  have z:=List.all_eq_true.1 WG q k.1
  simp only [Bool.or_eq_true,decide_eq_true_eq,k.2.1,h5,false_or] at z
  exact z
theorem GT {at_:Int} {b:Λ} {p:PtM} (h:p.at_+p.d.length≤at_∨at_+b.length≤p.at_):JW at_ b p=b:=by
  refine CT (Df _ _ _) fun i hi=>?_
  rw [Id hi,if_neg ω]
theorem Tv {at_:Int} {b xs:Λ} (h:xs.length≤b.length):JW at_ b ⟨at_,xs⟩=xs++b.drop xs.length:=by
  refine CT (by rw [Df,List.length_append,List.length_drop];omega) fun i hi=>?_
  rw [List.length_append,List.length_drop] at hi
  have hi:i<b.length:=ω
  rw [Id hi]
  dsimp only
  simp only [List.getD_eq_getElem?_getD]
  by_cases hc:i<xs.length
  · rw [if_pos ω,List.getElem?_append_left hc,show (at_+(i:Int)-at_).toNat=i by omega]
  · rw [if_neg ω,List.getElem?_append_right ω,List.getElem?_drop,show xs.length+(i-xs.length)=i by omega]
abbrev Mf (V:Λ) (at_ n:Int):Λ:=(V.drop at_.toNat).take n.toNat
theorem Mg {V:Λ} {at_ n:Int} (h:0≤at_∧0≤n∧at_+n≤V.length):((Mf V at_ n).length:Int)=n:=by rw [List.length_take,List.length_drop];omega
theorem LF {V:Λ} {p:PtM} {at_ n:Int} (hp:0≤p.at_∧p.at_+p.d.length≤V.length) (h:0≤at_∧0≤n∧at_+n≤V.length):Mf (stV V p) at_ n=JW at_ (Mf V at_ n) p:=by
  have l1:=Mg h
  have l2:((Mf (stV V p) at_ n).length:Int)=n:=Mg (by rw [Db];exact h)
  refine CT (by rw [Df];omega) fun i hi=>?_
  rw [Df] at hi
  rw [Id hi]
  have e1:(Mf (stV V p) at_ n).getD i 0=(stV V p).getD (at_.toNat+i) 0:=by
    simp only [List.getD_eq_getElem?_getD,List.getElem?_take,List.getElem?_drop];rw [if_pos ω]
  have e2:(Mf V at_ n).getD i 0=V.getD (at_.toNat+i) 0:=by
    simp only [List.getD_eq_getElem?_getD,List.getElem?_take,List.getElem?_drop];rw [if_pos ω]
  rw [e1,e2]
  unfold stV
  rw [if_pos hp,FP _ _ _ ω]
  by_cases hc:p.at_≤at_+(i:Int)∧at_+(i:Int)<p.at_+p.d.length
  · rw [if_pos ω,if_pos hc,show (at_+(i:Int)-p.at_).toNat=at_.toNat+i-p.at_.toNat by omega]
  · rw [if_neg ω,if_neg hc]
theorem Qg:∀ {P:List PtM} {V:Λ} {at_ n:Int} (_:∀ p∈P,0≤p.at_∧p.at_+p.d.length≤V.length) (_:0≤at_∧0≤n∧at_+n≤V.length),Mf (P.foldl stV V) at_ n=ovl at_ (Mf V at_ n) P
  | [],_,_,_,_,_=>rfl
  | p::P,V,at_,n,hp,h=>by
    rw [List.foldl_cons,Qg (fun q hq=>by rw [Db];exact hp q (List.mem_cons_of_mem _ hq)) (by rw [Db];exact h),LF (hp p List.mem_cons_self) h]
    rfl
theorem UF:∀ (L:List PtM) (b:Λ),(∀ p∈L,p.d.length≤64)→(L.foldl Fq b).length≤b.length+70*L.length
  | [],b,_=>by simp
  | p::L,b,h=>by
    have ih:=UF L (Fq b p) (fun q hq=>h q (List.mem_cons_of_mem _ hq))
    have h1:(AB (AB b p.at_ 4) p.d.length 2).length≤(AB b p.at_ 4).length+2:=Cg _ _ 2
    have h2:(AB b p.at_ 4).length≤b.length+4:=Cg _ _ 4
    have h3:=h p List.mem_cons_self
    have h4:(Fq b p).length≤b.length+70:=by unfold Fq;rw [List.length_append];omega
    rw [List.foldl_cons,List.length_cons]
    omega
theorem Aa9 {L:List PtM} (h:∀ p∈L,p.d.length≤64):(Ct L).length≤70*L.length+13:=by
  unfold Ct;split
  · unfold Rv
    have h1:=UF L (AB [] L.length 2) h
    have h2:(AB [] L.length 2).length≤0+2:=Cg _ _ 2
    have h4:BD (Lo (DF L)).length≤7:=by unfold BD;omega
    have h5:(Lo (DF L)).length≤(DF L).length+4:=Cg _ _ 4
    have h6:(DF L).length≤2+70*L.length:=by unfold DF;omega
    rw [List.length_append,List.length_replicate];omega
  · simp
theorem Ab7 {p:PtM} (h:0≤p.at_∧p.at_≤23168) (hd:p.d.length≤256):KJ p=true:=by
  have hf:BC p.at_ 4=true:=by
    unfold BC
    rw [if_neg (by decide),if_neg (by decide),if_pos rfl,decide_eq_true ω,decide_eq_true ω];rfl
  unfold KJ
  rw [hf,decide_eq_true hd];rfl
def OP (M:MemM) (P:List PtM) (kd nm:Int):Λ:=if kd=3∨kd=4∨kd=7 then Bg M P kd nm else []
structure Vol (M:MemM) (P:List PtM) (s:Int→Int→Λ) (n:Nat):Prop where
  m:M.V.length=23168
  r:CA M.V 2688 4096=([],0)
  k:∀ p∈P,0≤p.at_∧p.at_+p.d.length≤23168
  l:P.length=n
  d:∀ p∈P,p.d.length≤64
  s:OP M P=s
def BW (s:Int→Int→Λ) (kd nm:Int) (xs:Λ):Int→Int→Λ:=fun a b=>if a=kd∧b=nm then xs++(s kd nm).drop xs.length else s a b
section
variable {M:MemM} {P:List PtM} {s:Int→Int→Λ} {n:Nat}
theorem ZT {kd nm:Int} {q:PartT} {xs:Λ} (hm:M.V.length=23168) (h:Bk kd nm=some q) (hx:(xs.length:Int)≤q.s) (h64:xs.length≤64) (hn:P.length<64):stE M P kd nm xs.length=0∧stP M P kd nm xs=P++[⟨q.a,xs⟩]:=by
  have hi:=DC h
  have ho:okT M P q.a xs.length=true:=by unfold okT;rw [decide_eq_true_iff];omega
  unfold stE stP;rw [h];dsimp only
  unfold NM Ly;rw [if_pos ho,if_pos ho];exact ⟨rfl,rfl⟩
theorem Vg {kd nm kd' nm':Int} {q:PartT} {xs:Λ} (hm:M.V.length=23168) (h:Bk kd nm=some q) (hx:(xs.length:Int)≤q.s):Bg M (P++[⟨q.a,xs⟩]) kd' nm'=if kd'=kd∧nm'=nm then xs++(Bg M P kd nm).drop xs.length else Bg M P kd' nm':=by
  cases h':Bk kd' nm' with
  | none=>
    rw [Dh h',Dh h']
    split
    · next e=>rw [e.1,e.2,h] at h';cases h'
    · rfl
  | some q'=>
    have l:=Nj (P:=P) (JM hm h')
    have hi:=DC h'
    rw [CB h',CB h',CB h]
    show ovl _ _ (P++_)=_
    rw [QV]
    split
    · next e=>
      rw [e.1,e.2,h] at h'
      cases h'
      exact Tv (by show xs.length≤(Fx M P q.a q.s).length;omega)
    · next e=>
      have z:=SH h h' (fun e'=>e ⟨e'.1.symm,e'.2.symm⟩)
      exact GT (by show q.a+(xs.length:Int)≤_∨q'.a+((Fx M P q'.a q'.s).length:Int)≤q.a;omega)
theorem Vol.put (V:Vol M P s n) {kd nm:Int} {q:PartT} {xs:Λ} (h:Bk kd nm=some q) (hk:kd=3∨kd=4∨kd=7) (hx:xs.length≤64) (hn:n<64):stE M P kd nm xs.length=0∧Vol M (stP M P kd nm xs) (BW s kd nm xs) (n+1):=by
  have h64:=Pj h ω ω
  have hi:=DC h
  have z:=ZT V.m h (xs:=xs) (P:=P) ω hx (by have:=V.l;omega)
  refine ⟨z.1,?_⟩
  rw [z.2]
  refine ⟨V.m,V.r,fun p hp=>?_,by rw [List.length_append,V.l];rfl,fun p hp=>?_,?_⟩
  · rcases List.mem_append.1 hp with hp | hp
    · exact V.k p hp
    · rw [List.mem_singleton.1 hp];dsimp only;omega
  · rcases List.mem_append.1 hp with hp | hp
    · exact V.d p hp
    · rw [List.mem_singleton.1 hp];exact hx
  · rw [← V.s]
    funext a b
    unfold OP BW
    dsimp only
    by_cases ha:a=3∨a=4∨a=7
    · rw [if_pos ha,Vg V.m h ω,if_pos ha,if_pos hk]
    · rw [if_neg ha,if_neg ha,if_neg (fun (e:a=kd∧b=nm)=>ha (e.1 ▸ hk))]
theorem Vol.put2 (V:Vol M P s n) {kd nm:Int} {q:PartT} {xs:Λ} (h:Bk kd nm=some q) (hk:¬ (kd=3∨kd=4∨kd=7)) (hx:(xs.length:Int)≤q.s) (hx2:xs.length≤64) (hn:n<64):stE M P kd nm xs.length=0∧Vol M (stP M P kd nm xs) s (n+1):=by
  have hi:=DC h
  have z:=ZT V.m h (xs:=xs) (P:=P) ω hx2 (by have:=V.l;omega)
  refine ⟨z.1,?_⟩
  rw [z.2]
  refine ⟨V.m,V.r,fun p hp=>?_,by rw [List.length_append,V.l];rfl,fun p hp=>?_,?_⟩
  · rcases List.mem_append.1 hp with hp | hp
    · exact V.k p hp
    · rw [List.mem_singleton.1 hp];dsimp only;omega
  · rcases List.mem_append.1 hp with hp | hp
    · exact V.d p hp
    · rw [List.mem_singleton.1 hp];exact hx2
  · rw [← V.s]
    funext a b
    unfold OP
    by_cases ha:a=3∨a=4∨a=7
    · rw [if_pos ha,Vg V.m h hx,if_neg (fun (e:a=kd∧b=nm)=>hk (e.1 ▸ ha)),if_pos ha]
    · rw [if_neg ha,if_neg ha]
theorem Vol.com (V:Vol M P s n) (hn:n≤50):cmE M P=0∧cmP M P=[]∧Vol (cmM M P) [] s 0:=by
  by_cases h0:P=[]
  · subst h0
    refine ⟨rfl,rfl,?_⟩
    have e:cmM M []=M:=rfl
    rw [e]
    exact ⟨V.m,V.r,V.k,rfl,V.d,V.s⟩
  · have ok:LogOk 2688 4096 M:=⟨ω,ω,by have:=V.m;omega,by have:=V.m;omega⟩
    have hl:=Aa9 V.d
    have hE:CX P=true:=by
      unfold CX
      rw [decide_eq_true (by have:=V.l;omega),List.all_eq_true.2 fun p hp=>Ab7 (by have:=V.k p hp;omega) (by have:=V.d p hp;omega)];rfl
    have eE:IL P=0:=by unfold IL;rw [if_pos hE]
    have hP:=V.l
    have ap:Eo M 2688 4096 P=0:=by unfold Eo;rw [if_pos eE,V.r];exact if_neg (by show ¬ (4096-8<0+_);omega)
    have eM:cmM M P=Fw (DV M 2688 4096 P) 2688 4096:=by unfold cmM;rw [if_neg h0,if_pos ap]
    have lR:CA (DV M 2688 4096 P).V 2688 4096=([P],0+(Ct P).length):=by
      rw [YV ok,if_pos ap,V.r];rfl
    have okA:=Om ok P
    refine ⟨by unfold cmE;rw [if_neg h0,ap],by unfold cmP;rw [if_neg h0,if_pos ap],?_⟩
    rw [eM]
    refine ⟨by rw [KO,Jv];exact V.m,Wk okA,fun p hp=>(by cases hp),rfl,fun p hp=>(by cases hp),?_⟩
    rw [← V.s]
    funext a b
    unfold OP
    split
    · next ha=>
      cases hf:Bk a b with
      | none=>rw [Dh hf,Dh hf]
      | some q=>
        have hi:=DC hf
        have hg:=Yq hf ω
        have hA:DV M 2688 4096 P=GI (Dj M [⟨((2688+8+0:Nat):Int),Ct P⟩]) 2688 ((0+(Ct P).length:Nat):Int):=by
          unfold DV;rw [if_pos ⟨eE,by rw [V.r];show ¬ (4096-8<0+_);omega⟩,V.r]
        have l8:∀ z:Int,(AB [] z 8).length≤8:=fun z=>Nat.le_trans (Cg [] z 8) (by simp)
        rw [CB hf,CB hf]
        show Mf (Fw (DV M 2688 4096 P) 2688 4096).V q.a q.s=ovl q.a (Mf M.V q.a q.s) P
        have eV:(Fw (DV M 2688 4096 P) 2688 4096).V=stV (P.foldl stV (stV (stV M.V ⟨((2688+8+0:Nat):Int),Ct P⟩) ⟨((2688:Nat):Int),AB [] ((0+(Ct P).length:Nat):Int) 8⟩)) ⟨((2688:Nat):Int),AB [] 0 8⟩:=by
          unfold Fw;rw [lR];unfold GI;rw [FG,FG,hA];unfold GI;rw [FG,FG]
          simp
        have m:=V.m
        have b1:=l8 ((0+(Ct P).length:Nat):Int)
        have b2:=l8 0
        rw [eV,LF (by rw [KC,Db,Db,m];dsimp only;omega) (by rw [KC,Db,Db,m];omega),
          Qg (by rw [Db,Db,m];exact V.k) (by rw [Db,Db,m];omega),
          LF (by rw [Db,m];dsimp only;omega) (by rw [Db,m];omega),LF (by rw [m];dsimp only;omega) (by rw [m];omega)]
        have lc:((Mf M.V q.a q.s).length:Int)=q.s:=Mg (by rw [m];omega)
        rw [GT (p:=⟨((2688:Nat):Int),AB [] 0 8⟩) (by rw [GU,Df,Df];dsimp only;omega)]
        rw [GT (p:=⟨((2688:Nat):Int),AB [] ((0+(Ct P).length:Nat):Int) 8⟩) (by rw [Df];dsimp only;omega)]
        rw [GT (p:=⟨((2688+8+0:Nat):Int),Ct P⟩) (by dsimp only;omega)]
    · rfl
end
end
end Go.Proofs.YtbfgjinpchbajaaGreatDoor
