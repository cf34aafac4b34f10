/- Parts of the proof. -/
import Derived.Test.YthiplgahhejmcaaGreatDoorQaj
namespace Go.Proofs.YthiplgahhejmcaaGreatDoor
open Go.RowKit
open _root_.Go.Proofs.Tryz
set_option linter.unusedSimpArgs false
set_option linter.unusedVariables false
set_option linter.unusedSectionVars false
set_option maxRecDepth 100000
set_option maxHeartbeats 8000000
section
theorem RV {w:World} {R:List Ch} {mx:Nat} {K:VolK} {ta:Ω} {tc:Nat} {M:MemM} {P:List PtM} {n:Int} (hS0:Sep w ([Ab mx 99 [π K.tg],txP K ta tc M P]++R)) (hM:M.V.length=23168) (h:Hb M P=(n,0)):CallsR prog 101 #[π mx] w (fun v w'=>v=.tuple #[ν n,ν 0]∧Sep w' ([Ab mx 99 [π K.tg],txP K ta tc M P]++R)):=
 Calls.mono (Ac3 hS0 hM) fun e w' z=>by rw [h] at z;exact z
theorem UU {w:World} {R:List Ch} {mx:Nat} {K:VolK} {ta:Ω} {tc:Nat} {M:MemM} {P:List PtM} {X:Λ} (hS0:Sep w ([Ab mx 99 [π K.tg],txP K ta tc M P]++R)) (hM:M.V.length=23168) (hX:X.length≤1000) (h:Ey M P X=(0,AD,10)):CallsR prog 70 #[π mx,σ X] w (fun v w'=>v=.tuple #[ν 0,.agg (Ak AD).toArray,ν 10]∧Sep w' ([Ab mx 99 [π K.tg],txP K ta tc M P]++R)):=
 Calls.mono (XL hS0 hM hX) fun e w' z=>by rw [h] at z;exact z
theorem Qd {w:World} {R:List Ch} (hS:Sep w R) {t:List EntT} {s:ByteArray} (ht:t.length=16) (hs:s.size≤1000) {j:Nat} (hp:FJ t s=(j:Int)):CallsR prog 127 #[.agg (Am t).toArray,.string s] w (fun v w'=>v=ν (j:Int)∧Sep w' R):=
 Calls.mono (IF t s ht hs w) fun e w' z=>⟨_,z.1,by rw [hp],hS.mono z.2⟩
theorem FQ (M:MemM) (P:List PtM) (i:Int):(GS M P i).length=16:=by
 unfold GS;split
 ·exact Aq
 ·exact Ah _ _ _
theorem SM {w:World} {R:List Ch} (hS:Sep w R) {t:List EntT} (ht:t.length=16) {k:Int} (hu:Gi t k=true):CallsR prog 156 #[.agg (Am t).toArray,ν k] w (fun v w'=>v=.bool true∧Sep w' R):=
 Calls.mono (NM t ht k w) fun e w' z=>⟨_,z.1,by rw [hu],hS.mono z.2⟩
theorem OK {w:World} {R:List Ch} (hS:Sep w R) {t:List EntT} (ht:t.length=16) {k:Int} {bs:Λ} (hb:Ir t k=some bs):CallsR prog 158 #[.agg (Am t).toArray,ν k] w (fun v w'=>∃ a c,v=.tuple #[.slice a bs.length c,ν 0]∧Sep w' (Bm 0 5 1 a bs.length c (bs.map Ac)::R)):=
 Calls.mono (SJ t ht k w) fun e w' z=>by
  rw [hb] at z
  obtain ⟨a,c,e1,o,b⟩:=z
  exact ⟨_,e1,a,c,rfl,hS.push b (c:=Bm 0 5 1 a _ c _) (Own.low o (Nat.zero_le _)) fun k hk=>(World.ownsRow.lt o k hk).1⟩
def Up (M:MemM) (P:List PtM) (p:Int) (x:InoT) (j:Nat) (bs:Λ):Int:=AC [0,stE M P 7 (x.blk (j / 4)) bs.length,BC M (stP M P 7 (x.blk (j / 4)) bs) p x]
def WG (M:MemM) (P:List PtM) (p:Int) (x:InoT) (j:Nat) (bs:Λ):List PtM:=BQ M (stP M P 7 (x.blk (j / 4)) bs) p x
def RD (x:InoT):InoT:={ x with s:=x.s+1 }
def Agp (M:MemM) (P:List PtM) (p:Int) (j:Nat) (bs:Λ):Int:=Up M P p (RD (Bl M P p)) j bs
def Agq (M:MemM) (P:List PtM) (p:Int) (j:Nat) (bs:Λ):List PtM:=WG M P p (RD (Bl M P p)) j bs
def VY (M:MemM) (P:List PtM) (p spare:Int) (j:Nat) (bs:Λ):Int:=Up M (bP M P spare) p (RD ((Bl M P p).setB (j / 4) (bN M P spare))) j bs
def VZ (M:MemM) (P:List PtM) (p spare:Int) (j:Nat) (bs:Λ):List PtM:=WG M (bP M P spare) p (RD ((Bl M P p).setB (j / 4) (bN M P spare))) j bs
theorem Adi (x:InoT) (k:Nat) (n:Int):(x.setB k n).s=x.s:=by unfold InoT.setB;split<;>rfl
theorem YR (j:Nat):(j:Int).tdiv 4=((j / 4:Nat):Int):=rfl
theorem Sz {w:World} {R:List Ch} {mx:Nat} {K:VolK} {ta:Ω} {tc:Nat} {M:MemM} {P:List PtM} {p n:Int} {x:InoT} {t:List EntT} {j:Nat} {nm:ByteArray} {bs:Λ} (hS0:Sep w ([Ab mx 99 [π K.tg],txP K ta tc M P]++R)) (hM:M.V.length=23168) (ht:t.length=16) (hj:j<16) (hu:Gi (Ev t (j:Int) ⟨nm,n⟩) (((j / 4:Nat):Nat):Int)=true) (hb:Ir (Ev t (j:Int) ⟨nm,n⟩) ((j / 4:Nat):Int)=some bs) (hbl:bs.length≤64) :
  CallsR prog 128 #[π mx,ν p,.agg (Ak x).toArray,.agg ((Am t).toArray),ν (j:Int),.agg #[.string nm,ν n]] w (fun v w'=>∃ ta' tc',v=ν (Up M P p x j bs)∧Sep w' ([Ab mx 99 [π K.tg],txP K ta' tc' M (WG M P p x j bs)]++R)):=by
 have hS:Sep w [Ab mx 99 [π K.tg],txP K ta tc M P,Ch.many R]:=Sep.tail_many (xs:=[_,_]) hS0;clear hS0
 refine AG func128 rfl (N:=66) ntmps128 (by show 6≤66;decide) [(0,π mx),(1,ν p),(2,.agg (Ak x).toArray),(3,.agg ((Am t).toArray)),(4,ν (j:Int)),(5,.agg #[.string nm,ν n])] rfl fun _ h1=>sqr fun _ hK3=>so (wn rfl) fun _ hK1=>Gk h1 rfl rfl rfl rfl rfl (z:=(Ak x)) rfl hS fun _ g4 w7 h5 s8 _ _=>hK1 _ _ ?_
 refine so (wn rfl) fun _ hK2=>Gk h5 rfl rfl rfl rfl rfl (z:=Am t) rfl s8 fun _ g1 w2 h2 s1 _ _=>hK2 _ _ ?_
 refine so (wn rfl) fun _ hK4=>Gk h2 rfl rfl rfl rfl rfl (z:=[.string nm,ν n]) rfl s1 fun _ g2 w3 h3 s2 _ _=>hK4 _ _ ?_
 refine mv h3 rfl fun _ h4=>wpList_nil<|hK3 _ _<|sqr fun _ hK5=>sw1 h4 rfl (v:=.agg ((Am t).toArray)) (rld h4 rfl rfl (Fb υ111 (s2.get 1 rfl:Blk _ _ _ _) ht)) fun _ h6=>mv h6 rfl fun _ h7=>sw1 h7 rfl (v:=.agg #[.string nm,ν n]) (rld h7 rfl rfl (ldA υ109 rfl (n:=2) κ (s2.get 0 rfl:Blk _ _ _ _) rfl rfl)) fun _ h8=>cl h8 rfl (cF func155) (AS s2 (Mv t (j:Int) nm n ht _)) fun _ v1 w4 r1 h9=>?_
 obtain ⟨rfl,s3⟩:=r1
 refine mv h9 rfl fun _ h10=>bv h10 (z:=ν ((j / 4:Nat):Int)) rfl (Ab9 _ _ _ (by decide) (YR _) ω ω) fun _ h11=>so (wn rfl) fun _ hK6=>Fj h11 rfl rfl s3 1 rfl ht (by rw [Az];exact ht) rfl rfl (cs':=[Ab g2 109 [.string nm,ν n],Ab g1 111 (Am (Ev t (j:Int) ⟨nm,n⟩)),Ab g4 25 (Ak x),Ab mx 99 [π K.tg],txP K ta tc M P,Ch.many R]) rfl fun _ w5 h12 s4 _=>hK6 _ _ ?_
 refine mv h12 rfl fun _ h13=>h13.sn [13,12,11,9,8,0,1,2,3,4,5] rfl fun h14=>hK5 _ _<|sq fun _ hK7=>sqr fun _ hK8=>sw1 h14 rfl (v:=.agg ((Am (Ev t (j:Int) ⟨nm,n⟩)).toArray)) (rld h14 rfl rfl (Fb υ111 (s4.get 1 rfl:Blk _ _ _ _) (by rw [Az];exact ht))) fun _ h15=>mv h15 rfl fun _ h16=>cl h16 rfl (cF func156) (SM s4 (by rw [Az];exact ht) hu) fun _ v2 w6 r2 h17=>?_
 obtain ⟨rfl,s5⟩:=r2
 refine mv h17 rfl fun _ h18=>h18.sn [26,13,12,11,9,8,0,1,2,3,4,5] rfl fun h19=>hK8 _ _<|wcF h19 rfl rfl<|h19.sk [13,12,11,9,8,0,1,2,3,4,5] rfl fun h20=>wp_skip<|hK7 _ _<|sqr fun _ hK9=>sw1 h20 rfl (v:=.agg ((Am (Ev t (j:Int) ⟨nm,n⟩)).toArray)) (rld h20 rfl rfl (Fb υ111 (s5.get 1 rfl:Blk _ _ _ _) (by rw [Az];exact ht))) fun _ h21=>mv h21 rfl fun _ h22=>cl h22 rfl (cF func158) (OK s5 (by rw [Az];exact ht) hb) fun _ v3 w8 r3 h23=>?_
 obtain ⟨pa_x79,pc_x80,rfl,s6⟩:=r3
 refine mvs 5 h23 rfl fun _ h24=>h24.sn [16,15,13,12,11,9,8,0,1,2,3,4,5] rfl fun h25=>hK9 _ _<|sq fun _ hK10=>?_
 have s7:=s6.drew
 refine wp_region_held_drew (S:=fun w'=>Sep w' [Bm 0 5 1 pa_x79 (bs).length pc_x80 ((bs).map Ac),Ab g2 109 [.string nm,ν n],Ab g1 111 (Am (Ev t (j:Int) ⟨nm,n⟩)),Ab g4 25 (Ak x),Ab mx 99 [π K.tg],Ch.many R]) κ (s7.pk [0,1,2,3,4,6] rfl) (fun hq1=>?_)
 refine tv1 hq1 h25 0 rfl rfl (v:=ν 0) (fun w1 _=>(Au h25 rfl rfl) w1) fun _ h26=>?_
 refine tv1 hq1 h26 1 rfl rfl (v:=π mx) (fun w1 _=>(Au h26 rfl rfl) w1) fun _ h27=>?_
 refine tv1 hq1 h27 2 rfl rfl (v:=ν ((j / 4:Nat):Int)) (fun w1 _=>(Au h27 rfl rfl) w1) fun _ h28=>?_
 refine tv1 hq1 h28 3 rfl rfl (v:=.pointer (some ⟨g4,3,none⟩)) (fun w1 _=>(rfa h28 rfl rfl (fQ 3)) w1) fun _ h29=>?_
 refine tv1 hq1 h29 4 rfl rfl (v:=.pointer (some ⟨g4,3+(j / 4),none⟩)) (fun w1 _=>(Bq h29 rfl rfl rfl (fun w=>Oj g4 (j / 4) ω ω w)) w1) fun _ h30=>?_
 refine tv1 hq1 h30 5 rfl rfl (v:=ν (x.blk (j / 4))) (fun w1 hSw=>(rld h30 rfl rfl (ldB υ3 rfl (hSw.get 3 rfl:Blk _ _ _ _) (EW x ω)))) fun _ h31=>?_
 refine tv1 hq1 h31 6 rfl rfl (v:=.slice pa_x79 bs.length pc_x80) (fun w1 _=>(Au h31 rfl rfl) w1) fun _ h32=>?_
 refine tv1 hq1 h32 8 rfl rfl (v:=π mx) (fun w1 _=>(Au h32 rfl rfl) w1) fun _ h33=>?_
 refine tv1 hq1 h33 9 rfl rfl (v:=ν p) (fun w1 _=>(Au h33 rfl rfl) w1) fun _ h34=>?_
 refine tv1 hq1 h34 10 rfl rfl (v:=.agg (Ak x).toArray) (fun w1 hSw=>(rld h34 rfl rfl (ldA υ25 rfl (n:=15) κ (hSw.get 3 rfl:Blk _ _ _ _) rfl rfl))) fun _ h35=>?_
 refine to_ 7 rfl (wn rfl) κ fun _ hK11=>Be h35 rfl rfl rfl (xs:=[.tmp 53,.const (ν 7),.tmp 57,.tmp 58]) rfl (cF func30) rfl (vs:=[π mx,ν 7,ν (x.blk (j / 4)),.slice pa_x79 bs.length pc_x80]) rfl (args:=#[π mx,ν 7,ν (x.blk (j / 4)),.slice pa_x79 bs.length pc_x80]) rfl (CP (kd:=7) (nm:=x.blk (j / 4)) (xs:=bs) (s7.pk [0,4,5,1,2,3,6] rfl) hM ω) fun _ v4 w9 r4 h36=>?_
 obtain ⟨tax123,tcx124,rfl,s9⟩:=r4
 refine hK11 _ _ (s9.pk [0,3,4,5,1,6] rfl) fun hq2=>?_
 refine to_ 11 rfl (wn rfl) κ fun _ hK12=>Be h36 rfl rfl rfl (xs:=[.tmp 60,.tmp 61,.tmp 62]) rfl (cF func9) rfl (vs:=[π mx,ν p,.agg (Ak x).toArray]) rfl (args:=#[π mx,ν p,.agg (Ak x).toArray]) rfl (Dp (i:=p) (x:=x) (s9.pk [1,2,0,3,4,5,6] rfl) hM) fun _ v5 w10 r5 h37=>?_
 obtain ⟨tax133,tcx134,rfl,s10⟩:=r5
 refine hK12 _ _ (s10.pk [2,3,4,5,0,6] rfl) fun hq3=>?_
 refine to_ 12 rfl (wn rfl) κ fun _ hK13=>CB h37 rfl rfl rfl (E:=31) (xs:=[(0,.tmp 52),(1,.tmp 59),(2,.tmp 63)]) rfl (vs:=[(0,ν 0),(1,ν (stE M P 7 (x.blk (j / 4)) bs.length)),(2,ν (BC M (stP M P 7 (x.blk (j / 4)) bs) p x))]) rfl (z:=[ν 0,ν (stE M P 7 (x.blk (j / 4)) bs.length),ν (BC M (stP M P 7 (x.blk (j / 4)) bs) p x)]) (fun _=>κ) s10 fun _ g3 w11 h38 s11 _ _=>?_
 refine hK13 _ _ (s11.pk [3,4,5,6,1,7] rfl) fun hq4=>?_
 refine to_ 13 rfl (wn rfl) κ fun _ hK14=>Be h38 rfl rfl rfl (xs:=[.tmp 64]) rfl (cF func38) rfl (vs:=[.slice (some ⟨g3,0,none⟩) 3 3]) rfl (args:=#[.slice (some ⟨g3,0,none⟩) 3 3]) rfl (CI (L:=[0,stE M P 7 (x.blk (j / 4)) bs.length,BC M (stP M P 7 (x.blk (j / 4)) bs) p x]) s11 (Nat.le_of_ble_eq_true rfl)) fun _ v6 w12 r6 h39=>?_
 obtain ⟨rfl,s12⟩:=r6
 refine hK14 _ _ (s12.pk [3,4,5,6,1,7] rfl) fun hq5=>h39.sk [65,64,63,59,62,61,60,58,57,56,55,54,53,52,16,15,13,11,9,8,0,1,2,3,4,5] rfl fun h40=>?_
 refine tv1 hq5 h40 14 rfl rfl (v:=ν (AC [0,stE M P 7 (x.blk (j / 4)) bs.length,BC M (stP M P 7 (x.blk (j / 4)) bs) p x])) (fun w1 _=>(BH h40 rfl rfl) w1) fun _ h41=>?_
 refine h41.sk [12,16,15,13,11,9,8,0,1,2,3,4,5] rfl fun h42=>?_
 refine wpAnyH_done κ ?_ _
 refine hK10 _ _ ?_
 refine wp_ret ?_
 try simp only [Exit.then,Exit.inBlock]
 refine By (v:=ν (AC [0,stE M P 7 (x.blk (j / 4)) bs.length,BC M (stP M P 7 (x.blk (j / 4)) bs) p x])) (Cx h42 rfl rfl) h42.defs ?_
 exact ⟨tax133,tcx134,rfl,Sep.tail_un (xs:=[_,_]) (s12.pk [1,2,7] rfl)⟩
theorem Ab4 {w:World} {R:List Ch} {mx:Nat} {K:VolK} {ta:Ω} {tc:Nat} {M:MemM} {P:List PtM} {p n spare:Int} {j:Nat} {nm:ByteArray} {bs:Λ} (hS0:Sep w ([Ab mx 99 [π K.tg],txP K ta tc M P]++R)) (hM:M.V.length=23168) (hs:nm.size≤1000) (hsp:-9223372036854775808≤spare∧spare≤9223372036854775807) (hj:j<16) (hd:Pf M P p=0) (hx:0≤(Bl M P p).s∧(Bl M P p).s≤1000) (hp:FJ (GS M P p) nm=(j:Int)) (hk:(Bl M P p).blk (j / 4)=0) (hbe:bE M P spare=0) (hu:Gi (Ev (GS M P p) (j:Int) ⟨nm,n⟩) ((j / 4:Nat):Int)=true) (hb:Ir (Ev (GS M P p) (j:Int) ⟨nm,n⟩) ((j / 4:Nat):Int)=some bs) (hbl:bs.length≤64) :
  CallsR prog 102 #[π mx,ν p,.string nm,ν n,ν spare] w (fun v w'=>∃ ta' tc',v=ν (VY M P p spare j bs)∧Sep w' ([Ab mx 99 [π K.tg],txP K ta' tc' M (VZ M P p spare j bs)]++R)):=by
 have hS:Sep w [Ab mx 99 [π K.tg],txP K ta tc M P,Ch.many R]:=Sep.tail_many (xs:=[_,_]) hS0;clear hS0
 have hss:((Bl M P p).setB (j / 4) (bN M P spare)).s=(Bl M P p).s:=Adi _ _ _
 refine AG func102 rfl (N:=63) ntmps102 (by show 5≤63;decide) [(0,π mx),(1,ν p),(2,.string nm),(3,ν n),(4,ν spare)] rfl fun _ h1=>sqr fun _ hK3=>mv h1 rfl fun _ h4=>wpList_nil<|hK3 _ _<|sqr fun _ hK6=>mvs 2 h4 rfl fun _ h9=>cl h9 rfl (cF func126) (Kf (i:=p) hS hM) fun _ v1 w1 r1 h2=>?_
 obtain ⟨rfl,s1⟩:=r1
 refine mvs 4 h2 rfl fun _ h3=>so (wn rfl) fun _ hK1=>AH h3 rfl rfl rfl rfl (z:=[ν 0,ν 0,ν 0,ν 0,ν 0,ν 0,ν 0,ν 0,ν 0,ν 0,ν 0,ν 0,ν 0,ν 0,ν 0]) (fun _=>rfl) s1 fun _ g1 w2 h5 s2 _ _=>hK1 _ _ ?_
 refine so (wn rfl) fun _ hK2=>AH h5 rfl rfl rfl rfl (z:=Am AB) (fun _=>rfl) s2 fun _ g2 w3 h6 s3 _ _=>hK2 _ _ ?_
 refine stA h6 s3 1 rfl rfl rfl κ rfl rfl rfl rfl fun _ w4 h7 s4 _=>so (wn rfl) fun _ hK4=>Fj h7 rfl rfl s4 0 rfl (by first | exact FQ _ _ _ | exact Aq) (by first | exact FQ _ _ _ | exact Aq) rfl rfl (cs':=[Ab g2 111 (Am (GS M P p)),Ab g1 25 (Ak (Bl M P p)),Ab mx 99 [π K.tg],txP K ta tc M P,Ch.many R]) rfl fun _ w5 h8 s5 _=>hK4 _ _ ?_
 refine mv h8 rfl fun _ h10=>h10.sn [13,12,11,10,0,1,2,3,4] rfl fun h11=>hK6 _ _<|sq fun _ hK5=>sqr fun _ hK7=>mv h11 rfl fun _ h12=>bv h12 (z:=.bool false) rfl (cNe _ _ _ _ (decide_eq_false ω)) fun _ h13=>h13.sn [24,13,12,11,10,0,1,2,3,4] rfl fun h14=>hK7 _ _<|wcF h14 rfl rfl<|h14.sk [13,12,11,10,0,1,2,3,4] rfl fun h15=>?_
 refine wp_skip<|hK5 _ _<|sqr fun _ hK8=>sw1 h15 rfl (v:=.agg ((Am (GS M P p)).toArray)) (rld h15 rfl rfl (Fb υ111 (s5.get 0 rfl:Blk _ _ _ _) (by first | exact FQ _ _ _ | exact Aq))) fun _ h16=>mv h16 rfl fun _ h17=>cl h17 rfl (cF func127) (Qd s5 (by first | exact FQ _ _ _ | exact Aq) hs hp) fun _ v2 w6 r2 h18=>?_
 obtain ⟨rfl,s6⟩:=r2
 refine mv h18 rfl fun _ h19=>h19.sn [14,13,12,11,10,0,1,2,3,4] rfl fun h20=>hK8 _ _<|sq fun _ hK9=>sqr fun _ hK10=>mv h20 rfl fun _ h21=>bv h21 (z:=.bool false) rfl (cLt _ _ _ _ (decide_eq_false ω)) fun _ h22=>h22.sn [30,14,13,12,11,10,0,1,2,3,4] rfl fun h23=>hK10 _ _<|wcF h23 rfl rfl<|h23.sk [14,13,12,11,10,0,1,2,3,4] rfl fun h24=>?_
 refine wp_skip<|hK9 _ _<|sq fun _ hK11=>sqr fun _ hK12=>mv h24 rfl fun _ h25=>bv h25 (z:=ν ((j / 4:Nat):Int)) rfl (Ab9 _ _ _ (by decide) (YR _) ω ω) fun _ h26=>mv h26 rfl fun _ h27=>h27.sn [15,14,13,12,11,10,0,1,2,3,4] rfl fun h28=>hK12 _ _<|sqr fun _ hK13=>mv h28 rfl fun _ h29=>fav h29 rfl (fQ 3) fun _ h30=>?_
 refine sv1 h30 rfl (v:=.pointer (some ⟨g1,3+(j / 4),none⟩)) (Bq h30 rfl rfl rfl (fun w=>Oj g1 (j / 4) ω ω w)) fun _ h31=>sw1 h31 rfl (v:=ν ((Bl M P p).blk (j / 4))) (rld h31 rfl rfl (ldB υ3 rfl (s6.get 1 rfl:Blk _ _ _ _) (EW (Bl M P p) ω))) fun _ h32=>bv h32 (z:=.bool true) rfl (cEq _ _ _ _ (decide_eq_true ω)) fun _ h33=>h33.sn [37,15,14,13,12,11,10,0,1,2,3,4] rfl fun h34=>hK13 _ _<|wcT h34 rfl rfl<|h34.sk [15,14,13,12,11,10,0,1,2,3,4] rfl fun h35=>sqr fun _ hK14=>mvs 3 h35 rfl fun _ h36=>cl h36 rfl (cF func13) (Zn (spare:=spare) (s6.pk [2,3,0,1,4] rfl) hM ω) fun _ v3 w7 r3 h37=>?_
 obtain ⟨tax117,tcx118,rfl,s7⟩:=r3
 refine mvs 3 h37 rfl fun _ h38=>fav h38 rfl (fQ 3) fun _ h39=>sv1 h39 rfl (v:=.pointer (some ⟨g1,3+(j / 4),none⟩)) (Bq h39 rfl rfl rfl (fun w=>Oj g1 (j / 4) ω ω w)) fun _ h40=>so (wn rfl) fun _ hK15=>FN h40 rfl rfl s7 3 rfl rfl rfl [ν (bN M P spare)] rfl κ rfl (by show 3+(j / 4)+1≤15;omega) (L':=Ak ((Bl M P p).setB (j / 4) (bN M P spare))) (Np (Bl M P p) ω) (cs':=[Ab mx 99 [π K.tg],txP K tax117 tcx118 M (bP M P spare),Ab g2 111 (Am (GS M P p)),Ab g1 25 (Ak ((Bl M P p).setB (j / 4) (bN M P spare))),Ch.many R]) rfl fun _ w8 h41 s8 _=>hK15 _ _ ?_
 refine h41.sk [46,45,44,43,38,42,41,40,39,15,14,12,11,10,0,1,2,3,4] rfl fun h42=>mv h42 rfl fun _ h43=>h43.sn [13,15,14,12,11,10,0,1,2,3,4] rfl fun h44=>hK14 _ _<|sqr fun _ hK16=>mv h44 rfl fun _ h45=>bv h45 (z:=.bool false) rfl (cNe _ _ _ _ (decide_eq_false ω)) fun _ h46=>h46.sn [48,13,15,14,12,11,10,0,1,2,3,4] rfl fun h47=>hK16 _ _<|wcF h47 rfl rfl ?_
 refine h47.sk [13,15,14,12,11,10,0,1,2,3,4] rfl fun h48=>wp_skip<|hK11 _ _<|sqr fun _ hK17=>fav h48 rfl (fQ 2) fun _ h49=>ldv h49 s8 3 υ3 rfl rfl rfl rfl fun _ h50=>bv h50 (z:=ν (((Bl M P p).setB (j / 4) (bN M P spare)).s+1)) rfl (DE _ _ _ ω ω ω) fun _ h51=>fav h51 rfl (fQ 2) fun _ h52=>st1 h52 s8 3 rfl rfl κ rfl rfl rfl rfl fun _ w9 h53 s9 _=>h53.sn [13,15,14,12,11,10,0,1,2,3,4] rfl fun h54=>hK17 _ _ ?_
 refine sqr fun _ hK18=>mvs 2 h54 rfl fun _ h55=>sw1 h55 rfl (v:=.agg (Ak (⟨((Bl M P p).setB (j / 4) (bN M P spare)).k,((Bl M P p).setB (j / 4) (bN M P spare)).l,((Bl M P p).setB (j / 4) (bN M P spare)).s+1,((Bl M P p).setB (j / 4) (bN M P spare)).b0,((Bl M P p).setB (j / 4) (bN M P spare)).b1,((Bl M P p).setB (j / 4) (bN M P spare)).b2,((Bl M P p).setB (j / 4) (bN M P spare)).b3,((Bl M P p).setB (j / 4) (bN M P spare)).o0,((Bl M P p).setB (j / 4) (bN M P spare)).o1,((Bl M P p).setB (j / 4) (bN M P spare)).o2,((Bl M P p).setB (j / 4) (bN M P spare)).o3,((Bl M P p).setB (j / 4) (bN M P spare)).o4,((Bl M P p).setB (j / 4) (bN M P spare)).o5,((Bl M P p).setB (j / 4) (bN M P spare)).o6,((Bl M P p).setB (j / 4) (bN M P spare)).o7⟩:InoT)).toArray) (rld h55 rfl rfl (ldA υ25 rfl (n:=15) κ (s9.get 3 rfl:Blk _ _ _ _) rfl rfl)) fun _ h56=>sw1 h56 rfl (v:=.agg ((Am (GS M P p)).toArray)) (rld h56 rfl rfl (Fb υ111 (s9.get 2 rfl:Blk _ _ _ _) (by first | exact FQ _ _ _ | exact Aq))) fun _ h57=>mvs 3 h57 rfl fun _ h58=>bu h58 (v:=.agg #[.string nm,ν n]) rfl (fun w=>κ) fun _ h59=>cl h59 rfl (cF func128) (Sz (x:=(⟨((Bl M P p).setB (j / 4) (bN M P spare)).k,((Bl M P p).setB (j / 4) (bN M P spare)).l,((Bl M P p).setB (j / 4) (bN M P spare)).s+1,((Bl M P p).setB (j / 4) (bN M P spare)).b0,((Bl M P p).setB (j / 4) (bN M P spare)).b1,((Bl M P p).setB (j / 4) (bN M P spare)).b2,((Bl M P p).setB (j / 4) (bN M P spare)).b3,((Bl M P p).setB (j / 4) (bN M P spare)).o0,((Bl M P p).setB (j / 4) (bN M P spare)).o1,((Bl M P p).setB (j / 4) (bN M P spare)).o2,((Bl M P p).setB (j / 4) (bN M P spare)).o3,((Bl M P p).setB (j / 4) (bN M P spare)).o4,((Bl M P p).setB (j / 4) (bN M P spare)).o5,((Bl M P p).setB (j / 4) (bN M P spare)).o6,((Bl M P p).setB (j / 4) (bN M P spare)).o7⟩:InoT)) (t:=(GS M P p)) (nm:=nm) (n:=n) s9 hM (by first | exact FQ _ _ _ | exact Aq) hj hu hb hbl) fun _ v4 w10 r4 h60=>?_
 obtain ⟨tax186,tcx187,rfl,s10⟩:=r4
 refine h60.sk [62,61,60,59,58,57,56,55,54,13,15,14,12,11,0,1,2,3,4] rfl fun h61=>mv h61 rfl fun _ h62=>h62.sn [10,13,15,14,12,11,0,1,2,3,4] rfl fun h63=>hK18 _ _<|wp_ret ?_
 try simp only [Exit.then,Exit.inBlock]
 refine By (v:=ν (Up M (bP M P spare) p (⟨((Bl M P p).setB (j / 4) (bN M P spare)).k,((Bl M P p).setB (j / 4) (bN M P spare)).l,((Bl M P p).setB (j / 4) (bN M P spare)).s+1,((Bl M P p).setB (j / 4) (bN M P spare)).b0,((Bl M P p).setB (j / 4) (bN M P spare)).b1,((Bl M P p).setB (j / 4) (bN M P spare)).b2,((Bl M P p).setB (j / 4) (bN M P spare)).b3,((Bl M P p).setB (j / 4) (bN M P spare)).o0,((Bl M P p).setB (j / 4) (bN M P spare)).o1,((Bl M P p).setB (j / 4) (bN M P spare)).o2,((Bl M P p).setB (j / 4) (bN M P spare)).o3,((Bl M P p).setB (j / 4) (bN M P spare)).o4,((Bl M P p).setB (j / 4) (bN M P spare)).o5,((Bl M P p).setB (j / 4) (bN M P spare)).o6,((Bl M P p).setB (j / 4) (bN M P spare)).o7⟩:InoT) j bs)) (Cx h63 rfl rfl) h63.defs ?_
 exact ⟨tax186,tcx187,rfl,Sep.tail_un (xs:=[_,_]) (s10.pk [0,1,4] rfl)⟩
theorem Nf {w:World} {R:List Ch} {mx:Nat} {K:VolK} {ta:Ω} {tc:Nat} {M:MemM} {P:List PtM} {p n spare E:Int} {x:InoT} {nm:ByteArray} {P2:List PtM} (hS0:Sep w ([Ab mx 99 [π K.tg],txP K ta tc M P]++R)) (hM:M.V.length=23168) (hnn:Hb M P=(n,0)) (hadd:∀ {w:World} {R:List Ch} {ta:Ω} {tc:Nat},Sep w ([Ab mx 99 [π K.tg],txP K ta tc M (BQ M P n x)]++R)→CallsR prog 102 #[π mx,ν p,.string nm,ν n,ν spare] w (fun v w'=>∃ ta' tc',v=ν E∧Sep w' ([Ab mx 99 [π K.tg],txP K ta' tc' M P2]++R))) (hE:AC [BC M P n x,E]=0) :
  CallsR prog 68 #[π mx,ν p,.string nm,.agg (Ak x).toArray,ν spare] w (fun v w'=>∃ ta' tc',v=.tuple #[ν n,ν 0]∧Sep w' ([Ab mx 99 [π K.tg],txP K ta' tc' M P2]++R)):=by
 have hS:Sep w [Ab mx 99 [π K.tg],txP K ta tc M P,Ch.many R]:=Sep.tail_many (xs:=[_,_]) hS0;clear hS0
 refine AG func68 rfl (N:=39) ntmps68 (by show 5≤39;decide) [(0,π mx),(1,ν p),(2,.string nm),(3,.agg (Ak x).toArray),(4,ν spare)] rfl fun _ h1=>sqr fun _ hK3=>so (wn rfl) fun _ hK1=>Gk h1 rfl rfl rfl rfl rfl (z:=(Ak x)) rfl hS fun _ g4 w7 h5 s8 _ _=>hK1 _ _ ?_
 refine mvs 2 h5 rfl fun _ h2=>wpList_nil<|hK3 _ _<|sqr fun _ hK2=>mv h2 rfl fun _ h3=>cl h3 rfl (cF func101) (RV (s8.pk [1,2,0,3] rfl) hM hnn) fun _ v1 w1 r1 h4=>?_
 obtain ⟨rfl,s1⟩:=r1
 refine mvs 5 h4 rfl fun _ h6=>h6.sn [13,12,11,10,8,0,1,2,3,4] rfl fun h7=>hK2 _ _<|sq fun _ hK4=>sqr fun _ hK5=>mv h7 rfl fun _ h8=>bv h8 (z:=.bool false) rfl (cNe _ _ _ _ rfl) fun _ h9=>h9.sn [21,13,12,11,10,8,0,1,2,3,4] rfl fun h10=>hK5 _ _<|wcF h10 rfl rfl<|h10.sk [13,12,11,10,8,0,1,2,3,4] rfl fun h11=>?_
 refine wp_skip<|hK4 _ _<|sq fun _ hK6=>sqr fun _ hK7=>mvs 2 h11 rfl fun _ h12=>sw1 h12 rfl (v:=.agg (Ak x).toArray) (rld h12 rfl rfl (ldA υ25 rfl (n:=15) κ (s1.get 2 rfl:Blk _ _ _ _) rfl rfl)) fun _ h13=>cl h13 rfl (cF func9) (Dp (i:=n) (x:=x) s1 hM) fun _ v2 w2 r2 h14=>?_
 obtain ⟨tax53,tcx54,rfl,s2⟩:=r2
 refine mvs 5 h14 rfl fun _ h15=>cl h15 rfl (cF func102) (hadd s2) fun _ v3 w3 r3 h16=>?_
 obtain ⟨tax72,tcx73,rfl,s3⟩:=r3
 refine so (wn rfl) fun _ hK8=>CB h16 rfl rfl rfl (E:=31) (xs:=[(0,.tmp 26),(1,.tmp 32)]) rfl (vs:=[(0,ν (BC M P n x)),(1,ν E)]) rfl (z:=[ν (BC M P n x),ν E]) (fun _=>κ) s3 fun _ g1 w4 h17 s4 _ _=>hK8 _ _ ?_
 refine cl h17 rfl (cF func38) (CI (L:=[BC M P n x,E]) s4 (Nat.le_of_ble_eq_true rfl)) fun _ v4 w5 r4 h18=>?_
 obtain ⟨rfl,s5⟩:=r4
 refine mv h18 rfl fun _ h19=>h19.sn [14,13,12,11,10,8,0,1,2,3,4] rfl fun h20=>hK7 _ _<|sqr fun _ hK9=>mv h20 rfl fun _ h21=>bv h21 (z:=.bool false) rfl (cNe _ _ _ _ (decide_eq_false ω)) fun _ h22=>h22.sn [36,14,13,12,11,10,8,0,1,2,3,4] rfl fun h23=>hK9 _ _<|wcF h23 rfl rfl<|h23.sk [14,13,12,11,10,8,0,1,2,3,4] rfl fun h24=>?_
 refine wp_skip<|hK6 _ _<|sqr fun _ hK10=>mv h24 rfl fun _ h25=>h25.sk [38,14,13,12,11,8,0,1,2,3,4] rfl fun h26=>mv h26 rfl fun _ h27=>h27.sk [10,38,14,13,12,8,0,1,2,3,4] rfl fun h28=>mv h28 rfl fun _ h29=>h29.sn [11,10,14,13,12,8,0,1,2,3,4] rfl fun h30=>hK10 _ _<|wp_ret ?_
 try simp only [Exit.then,Exit.inBlock]
 refine By (v:=.tuple #[ν n,ν 0]) (Gc h30 rfl rfl rfl) h30.defs ?_
 exact ⟨tax72,tcx73,rfl,Sep.tail_un (xs:=[_,_]) (s5.pk [1,2,4] rfl)⟩
end
section
theorem ZL {M:MemM} (h:M.V.length=23168):inM M 0 23168=true:=by unfold inM;rw [decide_eq_true_iff];omega
theorem Xf {M:MemM} (h:M.V.length=23168):inM M 23168 1=false:=by unfold inM;rw [decide_eq_false_iff_not];omega
def AU:Λ:=Mx 0 0 0 0 0 0
def Du:Λ:=Lx 0
theorem Qx:AU.length≤1000000:=by decide +kernel
theorem Xb:Du.length≤1000000:=by decide +kernel
theorem Yc {w:World} {R:List Ch} (hS:Sep w R):CallsR prog 48 #[.agg #[ν 0,ν 0,ν 0,ν 0,ν 0,ν 0]] w (fun v w'=>∃ a c,v=.tuple #[.slice a AU.length c,ν 0]∧Sep w' (Bm 0 5 1 a AU.length c (AU.map Ac)::R)):=
 Calls.mono (Yb 0 0 0 0 0 0 w) fun e w' ⟨a,c,e1,o,b⟩=>⟨_,e1,a,c,rfl,hS.push b (c:=Bm 0 5 1 a AU.length c (AU.map Ac)) (Own.low o (Nat.zero_le _)) fun k hk=>(World.ownsRow.lt o k hk).1⟩
theorem Xc {w:World} {R:List Ch} (hS:Sep w R):CallsR prog 49 #[ν 0] w (fun v w'=>∃ a c,v=.tuple #[.slice a Du.length c,ν 0]∧Sep w' (Bm 0 5 1 a Du.length c (Du.map Ac)::R)):=
 Calls.mono (Qh 0 w ω) fun e w' ⟨a,c,e1,o,b⟩=>⟨_,e1,a,c,rfl,hS.push b (c:=Bm 0 5 1 a Du.length c (Du.map Ac)) (Own.low o (Nat.zero_le _)) fun k hk=>(World.ownsRow.lt o k hk).1⟩
def Ez:InoT:=⟨2,1,0,0,0,0,0,0,0,0,0,0,0,0,0⟩
def Dh (M:MemM) (P:List PtM):Nat→List PtM
 | 0=>BQ M P 1 Ez
 | k+1=>if k=0 then Dh M P k else BQ M (Dh M P k) ((k+1:Nat):Int) AD
def MS (M:MemM) (P:List PtM):Nat→Int
 | 0=>BC M P 1 Ez
 | k+1=>if k=0 then MS M P k else AC [MS M P k,BC M (Dh M P k) ((k+1:Nat):Int) AD]
theorem Pm {M:MemM} {P:List PtM} {k:Nat} (h:k=0):Dh M P (k+1)=Dh M P k∧MS M P (k+1)=MS M P k:=⟨if_pos h,if_pos h⟩
theorem Pn {M:MemM} {P:List PtM} {k:Nat} (h:k≠0):Dh M P (k+1)=BQ M (Dh M P k) ((k+1:Nat):Int) AD∧MS M P (k+1)=AC [MS M P k,BC M (Dh M P k) ((k+1:Nat):Int) AD]:=⟨if_neg h,if_neg h⟩
def Aeq (M:MemM) (P:List PtM):List PtM:=stP M (Dh M P 32) 3 0 Aj
def Dd (M:MemM) (P:List PtM):Nat→List PtM
 | 0=>stP M (Aeq M P) 1 0 Du
 | k+1=>stP M (stP M (Dd M P k) 2 ((k+1:Nat):Int) AU) 6 ((k+1:Nat):Int) (List.replicate 8 0)
theorem Aeg {M:MemM} {P:List PtM} {k:Nat} (h:k=32):stP M (stP M (Dh M P k) 3 0 Aj) 1 0 Du=Dd M P 0:=by subst h;rfl
def MU (M:MemM) (P:List PtM):Nat→Int
 | 0=>AC [AC [MS M P 32,stE M (Dh M P 32) 3 0 16],0,0,stE M (Aeq M P) 1 0 Du.length]
 | k+1=>AC [MU M P k,stE M (Dd M P k) 2 ((k+1:Nat):Int) AU.length,stE M (stP M (Dd M P k) 2 ((k+1:Nat):Int) AU) 6 ((k+1:Nat):Int) (List.replicate 8 (0:UInt8)).length]
theorem Nu {w:World} {R:List Ch} {K:VolK} {ta:Ω} {tc:Nat} {M:MemM} {P:List PtM} (hS0:Sep w ([txP K ta tc M P]++R)) (hM:M.V.length=23168)  :
  CallsR prog 21 #[π K.tg] w (fun v w'=>∃ mx,v=π mx∧Sep w' ([Ab mx 99 [π K.tg],txP K ta tc M P]++R)):=by
 have hS:Sep w [txP K ta tc M P,Ch.many R]:=Sep.tail_many (xs:=[_]) hS0;clear hS0
 refine AG func21 rfl (N:=30) ntmps21 (by show 1≤30;decide) [(0,π K.tg)] rfl fun _ h1=>sqr fun _ hK3=>mv h1 rfl fun _ h4=>wpList_nil<|hK3 _ _<|sq fun _ hK6=>sqr fun _ hK7=>mv h4 rfl fun _ h8=>bv h8 (z:=.bool false) rfl (MP _ υ34 _ _ _) fun _ h2=>h2.sn [8,2,0] rfl fun h3=>hK7 _ _<|wcF h3 rfl rfl ?_
 refine h3.sk [2,0] rfl fun h5=>wp_skip<|hK6 _ _<|sqr fun _ hK1=>mv h5 rfl fun _ h6=>cl h6 rfl (cF func47) (AS hS (Ic _)) fun _ v1 w1 r1 h7=>?_
 obtain ⟨rfl,s1⟩:=r1
 refine cl h7 rfl (cF func46) (Xp (at_:=0) (n:=23168) s1 (ZL hM) (by unfold ET;omega) (by unfold ET;omega)) fun _ v2 w2 r2 h9=>?_
 obtain ⟨ra_x24,rc_x25,rfl,s2⟩:=r2
 refine mvs 5 h9 rfl fun _ h10=>h10.sn [4,2,0] rfl fun h11=>hK1 _ _<|sqr fun _ hK2=>mv h11 rfl fun _ h12=>cl h12 rfl (cF func47) (AS s2 (Ic _)) fun _ v3 w3 r3 h13=>?_
 obtain ⟨rfl,s3⟩:=r3
 refine cl h13 rfl (cF func46) (Xq (at_:=23168) (n:=1) (s3.pk [1,0,2] rfl) (Xf hM) (by unfold ET;omega) (by unfold ET;omega)) fun _ v4 w4 r4 h14=>?_
 obtain ⟨rfl,s4⟩:=r4
 refine mvs 5 h14 rfl fun _ h15=>h15.sn [6,4,2,0] rfl fun h16=>hK2 _ _<|sq fun _ hK4=>sqr fun _ hK5=>mv h16 rfl fun _ h17=>bv h17 (z:=.bool false) rfl (cNe _ _ _ _ rfl) fun _ h18=>mv h18 rfl fun _ h19=>sv h19 (wF h19 (E:=false) rfl rfl rfl) rfl rfl rfl (Au h19 rfl rfl) fun _ h20=>sv h20 (wF h20 (E:=false) rfl rfl rfl) rfl rfl rfl (BR h20 rfl rfl rfl (cEq _ _ _ _ rfl)) fun _ h21=>sv1 h21 rfl (BD h21 rfl rfl rfl) fun _ h22=>?_
 refine h22.sn [26,6,4,2,0] rfl fun h23=>hK5 _ _<|wcF h23 rfl rfl<|h23.sk [6,4,2,0] rfl fun h24=>wp_skip<|hK4 _ _<|sqr fun _ hK8=>mv h24 rfl fun _ h25=>bu h25 (v:=.agg #[π K.tg]) rfl (fun w=>κ) fun _ h26=>so (wn rfl) fun _ hK9=>Gk h26 rfl rfl rfl rfl rfl (z:=[π K.tg]) rfl s4 fun _ g1 w5 h27 s5 _ _=>hK9 _ _ ?_
 refine h27.sk [29,28,27,6,4,0] rfl fun h28=>mv h28 rfl fun _ h29=>h29.sn [2,6,4,0] rfl fun h30=>hK8 _ _<|wp_ret ?_
 try simp only [Exit.then,Exit.inBlock]
 refine By (v:=π g1) (Cx h30 rfl rfl) h30.defs ?_
 exact ⟨g1,rfl,Sep.tail_un (xs:=[_,_]) (s5.pk [0,1,3] rfl)⟩
theorem Po {w:World} {R:List Ch} {mx:Nat} {K:VolK} {ta:Ω} {tc:Nat} {M:MemM} {P:List PtM} (hS0:Sep w ([Ab mx 99 [π K.tg],txP K ta tc M P]++R)) (hM:M.V.length=23168)  :
  CallsR prog 22 #[π mx] w (fun v w'=>∃ ta' tc',v=ν (MU M P 8)∧Sep w' ([Ab mx 99 [π K.tg],txP K ta' tc' M (Dd M P 8)]++R)):=by
 have hS:Sep w [Ab mx 99 [π K.tg],txP K ta tc M P,Ch.many R]:=Sep.tail_many (xs:=[_,_]) hS0;clear hS0
 refine AG func22 rfl (N:=69) ntmps22 (by show 1≤69;decide) [(0,π mx)] rfl fun _ h1=>sqr fun _ hK3=>mv h1 rfl fun _ h4=>wpList_nil<|hK3 _ _<|sqr fun _ hK6=>mv h4 rfl fun _ h7=>bu h7 (v:=.agg (Ak (⟨2,1,0,0,0,0,0,0,0,0,0,0,0,0,0⟩:InoT)).toArray) rfl (fun w=>κ) fun _ h9=>cl h9 rfl (cF func9) (Dp (i:=1) (x:=(⟨2,1,0,0,0,0,0,0,0,0,0,0,0,0,0⟩:InoT)) hS hM) fun _ v1 w2 r1 h2=>?_
 obtain ⟨tax11,tcx12,rfl,s1⟩:=r1
 refine mv h2 rfl fun _ h3=>h3.sn [3,2,0] rfl fun h5=>hK6 _ _<|sq fun _ hK1=>sqr fun _ hK2=>mv h5 rfl fun _ h6=>wpList_nil<|hK2 _ _<|wp_block ?_
 refine MJ (fun (k:Nat) (er:Int) (ta2:Ω) (tc2:Nat) a' w'=>Kn 69 [(13,ν (k:Int)),(3,ν er),(2,ν 0),(0,π mx)] a'∧Sep w' [Ab mx 99 [π K.tg],txP K ta2 tc2 M (Dh M P k),Ch.many R]∧(k≤32)∧(er=MS M P k)) (fun (k:Nat) (er:Int) (ta2:Ω) (tc2:Nat)=>32-k) 0 (BC M P 1 (⟨2,1,0,0,0,0,0,0,0,0,0,0,0,0,0⟩:InoT)) tax11 tcx12 ⟨h6.subs rfl,(show Sep _ [Ab mx 99 [π K.tg],txP K tax11 tcx12 M (Dh M P 0),Ch.many R] from s1),Nat.zero_le _,rfl⟩ ?_
 rintro k1 er35 ta236 tc237 a1 w3 ⟨h8,s2,hk32,he33⟩ K1 hK4
 refine sqr fun _ hK5=>bv h8 (z:=.bool (decide ((k1:Int)<32))) rfl (cLt _ _ _ _ rfl) fun _ h10=>wpList_nil<|hK5 _ _<|sq fun _ hK7=>?_
 rcases bC (decide ((k1:Int)<32)) with hc1 | hc1
 ·skip
  have hp1:(k1:Int)<32:=(dT hc1)
  refine wcT h10 rfl hc1<|h10.sk [13,3,2,0] rfl fun h11=>wp_skip<|hK7 _ _<|sq fun _ hK8=>wp_block ?_
  refine sqr fun _ hK9=>mvs 2 h11 rfl fun _ h12=>h12.sn [4,13,3,2,0] rfl fun h13=>hK9 _ _<|sqr fun _ hK10=>mv h13 rfl fun _ h14=>bv h14 (z:=ν ((k1+1:Nat):Int)) rfl (DE _ _ _ ω ω ω) fun _ h15=>bv h15 (z:=.bool (decide (((k1+1:Nat):Int)≠1))) rfl (cNe _ _ _ _ rfl) fun _ h16=>h16.sn [18,4,13,3,2,0] rfl fun h17=>hK10 _ _ ?_
  rcases bC (decide (((k1+1:Nat):Int)≠1)) with hc2 | hc2
  ·skip
   have hp2:((k1+1:Nat):Int)≠1:=(dT hc2)
   refine wcT h17 rfl hc2<|h17.sk [4,13,3,2,0] rfl fun h18=>wp_region_lit<|mvs 3 h18 rfl fun _ h19=>bv h19 (z:=ν ((k1+1:Nat):Int)) rfl (DE _ _ _ ω ω ω) fun _ h20=>bu h20 (v:=.agg (Ak AD).toArray) rfl (fun w=>κ) fun _ h21=>cl h21 rfl (cF func9) (Dp (i:=((k1+1:Nat):Int)) (x:=AD) s2 hM) fun _ v2 w4 r2 h22=>?_
   obtain ⟨tax73,tcx74,rfl,s3⟩:=r2
   refine so (wn rfl) fun _ hK11=>CB h22 rfl rfl rfl (E:=31) (xs:=[(0,.tmp 19),(1,.tmp 24)]) rfl (vs:=[(0,ν er35),(1,ν (BC M (Dh M P k1) ((k1+1:Nat):Int) AD))]) rfl (z:=[ν er35,ν (BC M (Dh M P k1) ((k1+1:Nat):Int) AD)]) (fun _=>κ) s3 fun _ g1 w5 h23 s4 _ _=>hK11 _ _ ?_
   refine cl h23 rfl (cF func38) (CI (L:=[er35,BC M (Dh M P k1) ((k1+1:Nat):Int) AD]) s4 (Nat.le_of_ble_eq_true rfl)) fun _ v3 w6 r3 h24=>?_
   obtain ⟨rfl,s5⟩:=r3
   refine h24.sk [26,25,24,23,22,21,20,19,4,13,2,0] rfl fun h25=>mv h25 rfl fun _ h26=>h26.sn [3,4,13,2,0] rfl fun h27=>hK8 _ _<|wp_region_lit<|bv h27 (z:=ν ((k1+1:Nat):Int)) rfl (DE _ _ _ ω ω ω) fun _ h28=>h28.sk [27,3,4,2,0] rfl fun h29=>mv h29 rfl fun _ h30=>h30.sk [13,3,4,2,0] rfl fun h31=>wpList_nil ?_
   have hf9:=Pn (M:=M) (P:=P) (k:=k1) ω
   exact hK4 (k1+1) (AC [er35,BC M (Dh M P k1) ((k1+1:Nat):Int) AD]) tax73 tcx74 _ _ ⟨h31.subs rfl,(by rw [hf9.1];exact (s5.pk [1,2,3] rfl)),ω,(by rw [hf9.2,he33])⟩ ω
  ·skip
   have hp3:¬ (((k1+1:Nat):Int)≠1):=(dF hc2)
   refine wcF h17 rfl hc2<|h17.sk [4,13,3,2,0] rfl fun h32=>wp_skip<|hK8 _ _<|wp_region_lit<|bv h32 (z:=ν ((k1+1:Nat):Int)) rfl (DE _ _ _ ω ω ω) fun _ h33=>h33.sk [27,4,3,2,0] rfl fun h34=>mv h34 rfl fun _ h35=>h35.sk [13,4,3,2,0] rfl fun h36=>wpList_nil ?_
   have hf9:=Pm (M:=M) (P:=P) (k:=k1) ω
   exact hK4 (k1+1) er35 ta236 tc237 _ _ ⟨h36.subs rfl,(by rw [hf9.1];exact s2),ω,(by rw [hf9.2,he33])⟩ ω
 ·skip
  have hp4:¬ ((k1:Int)<32):=(dF hc1)
  refine wcF h10 rfl hc1<|h10.sk [13,3,2,0] rfl fun h37=>wp_exit ?_
  refine hK1 _ _ ?_
  refine sqr fun _ hK12=>mvs 2 h37 rfl fun _ h38=>bu h38 (v:=.agg (Ai Aj)) rfl (fun w=>κ) fun _ h39=>cl h39 rfl (cF func10) (Gg (xs:=Aj) s2 hM (Ca _ (by first | rfl | decide))) fun _ v4 w7 r4 h40=>?_
  obtain ⟨tax124,tcx125,rfl,s6⟩:=r4
  refine so (wn rfl) fun _ hK13=>CB h40 rfl rfl rfl (E:=31) (xs:=[(0,.tmp 28),(1,.tmp 31)]) rfl (vs:=[(0,ν er35),(1,ν (stE M (Dh M P k1) 3 0 16))]) rfl (z:=[ν er35,ν (stE M (Dh M P k1) 3 0 16)]) (fun _=>κ) s6 fun _ g2 w8 h41 s7 _ _=>hK13 _ _ ?_
  refine cl h41 rfl (cF func38) (CI (L:=[er35,stE M (Dh M P k1) 3 0 16]) s7 (Nat.le_of_ble_eq_true rfl)) fun _ v5 w9 r5 h42=>?_
  obtain ⟨rfl,s8⟩:=r5
  refine h42.sk [33,32,31,30,29,28,13,2,0] rfl fun h43=>mv h43 rfl fun _ h44=>h44.sn [3,13,2,0] rfl fun h45=>hK12 _ _<|sqr fun _ hK14=>bu h45 (v:=.agg #[ν 0,ν 0,ν 0,ν 0,ν 0,ν 0]) rfl (fun w=>κ) fun _ h46=>cl h46 rfl (cF func48) (Yc s8) fun _ v6 w10 r6 h47=>?_
  obtain ⟨pa_x155,pc_x156,rfl,s9⟩:=r6
  refine mvs 5 h47 rfl fun _ h48=>h48.sn [6,5,3,13,2,0] rfl fun h49=>hK14 _ _<|sqr fun _ hK15=>cl h49 rfl (cF func49) (Xc s9) fun _ v7 w11 r7 h50=>?_
  obtain ⟨pa_x176,pc_x177,rfl,s10⟩:=r7
  refine mvs 5 h50 rfl fun _ h51=>h51.sn [8,7,6,5,3,13,2,0] rfl fun h52=>hK15 _ _<|sqr fun _ hK16=>mvs 5 h52 rfl fun _ h53=>cl h53 rfl (cF func30) (CP (kd:=1) (nm:=0) (xs:=Du) (s10.pk [0,3,4,1,2,5] rfl) hM Xb) fun _ v8 w12 r8 h54=>?_
  obtain ⟨tax207,tcx208,rfl,s11⟩:=r8
  refine so (wn rfl) fun _ hK17=>CB h54 rfl rfl rfl (E:=31) (xs:=[(0,.tmp 43),(1,.tmp 44),(2,.tmp 45),(3,.tmp 48)]) rfl (vs:=[(0,ν (AC [er35,stE M (Dh M P k1) 3 0 16])),(1,ν 0),(2,ν 0),(3,ν (stE M (stP M (Dh M P k1) 3 0 Aj) 1 0 Du.length))]) rfl (z:=[ν (AC [er35,stE M (Dh M P k1) 3 0 16]),ν 0,ν 0,ν (stE M (stP M (Dh M P k1) 3 0 Aj) 1 0 Du.length)]) (fun _=>κ) s11 fun _ g3 w13 h55 s12 _ _=>hK17 _ _ ?_
  refine cl h55 rfl (cF func38) (CI (L:=[AC [er35,stE M (Dh M P k1) 3 0 16],0,0,stE M (stP M (Dh M P k1) 3 0 Aj) 1 0 Du.length]) s12 (Nat.le_of_ble_eq_true rfl)) fun _ v9 w14 r9 h56=>?_
  obtain ⟨rfl,s13⟩:=r9
  refine h56.sk [50,49,48,47,46,45,44,43,8,7,6,5,13,2,0] rfl fun h57=>mv h57 rfl fun _ h58=>h58.sn [3,8,7,6,5,13,2,0] rfl fun h59=>hK16 _ _<|sq fun _ hK18=>sqr fun _ hK19=>mv h59 rfl fun _ h60=>wpList_nil<|hK19 _ _<|wp_block ?_
  have hk9:k1=32:=ω
  refine MJ (fun (k:Nat) (er:Int) (ta2:Ω) (tc2:Nat) a' w'=>Kn 69 [(51,ν (k:Int)),(3,ν er),(8,ν 0),(7,.slice pa_x176 Du.length pc_x177),(6,ν 0),(5,.slice pa_x155 AU.length pc_x156),(13,ν (k1:Int)),(2,ν 0),(0,π mx)] a'∧Sep w' [Bm 0 5 1 pa_x155 (AU).length pc_x156 ((AU).map Ac),Ab mx 99 [π K.tg],txP K ta2 tc2 M (Dd M P k),Ch.many R]∧(k≤8)∧(er=MU M P k)) (fun (k:Nat) (er:Int) (ta2:Ω) (tc2:Nat)=>8-k) 0 (AC [AC [er35,stE M (Dh M P k1) 3 0 16],0,0,stE M (stP M (Dh M P k1) 3 0 Aj) 1 0 Du.length]) tax207 tcx208 ⟨h60.subs rfl,(show Sep _ [Bm 0 5 1 pa_x155 (AU).length pc_x156 ((AU).map Ac),Ab mx 99 [π K.tg],txP K tax207 tcx208 M (Dd M P 0),Ch.many R] from by have z9:=(s13.pk [4,2,3,6] rfl);rw [Aeg hk9] at z9;exact z9),Nat.zero_le _,(by rw [he33,hk9];rfl)⟩ ?_
  rintro k2 er247 ta2248 tc2249 a2 w15 ⟨h61,s14,hk244,he2245⟩ K2 hK20
  refine sqr fun _ hK21=>bv h61 (z:=.bool (decide ((k2:Int)<8))) rfl (cLt _ _ _ _ rfl) fun _ h62=>wpList_nil<|hK21 _ _<|sq fun _ hK22=>?_
  rcases bC (decide ((k2:Int)<8)) with hc3 | hc3
  ·skip
   have hp5:(k2:Int)<8:=(dT hc3)
   refine wcT h62 rfl hc3<|h62.sk [51,3,8,7,6,5,13,2,0] rfl fun h63=>wp_skip<|hK22 _ _<|sq fun _ hK23=>wp_block ?_
   refine sqr fun _ hK24=>mvs 2 h63 rfl fun _ h64=>h64.sn [9,51,3,8,7,6,5,13,2,0] rfl fun h65=>hK24 _ _ ?_
   have s15:=s14.drew
   refine wp_region_held_drew (S:=fun w'=>Sep w' [Bm 0 5 1 pa_x155 (AU).length pc_x156 ((AU).map Ac),Ab mx 99 [π K.tg],Ch.many R]) κ (s15.pk [0,1,3] rfl) (fun hq1=>?_)
   refine tv1 hq1 h65 0 rfl rfl (fun w1 _=>(Au h65 rfl rfl) w1) fun _ h66=>?_
   refine tv1 hq1 h66 1 rfl rfl (fun w1 _=>(Au h66 rfl rfl) w1) fun _ h67=>?_
   refine tv1 hq1 h67 2 rfl rfl (fun w1 _=>(Au h67 rfl rfl) w1) fun _ h68=>?_
   refine tv1 hq1 h68 3 rfl rfl (v:=ν ((k2+1:Nat):Int)) (fun w1 _=>(BR h68 rfl rfl rfl (DE _ _ _ ω ω ω)) w1) fun _ h69=>?_
   refine tv1 hq1 h69 4 rfl rfl (fun w1 _=>(Au h69 rfl rfl) w1) fun _ h70=>?_
   refine tv1 hq1 h70 6 rfl rfl (fun w1 _=>(Au h70 rfl rfl) w1) fun _ h71=>?_
   refine tv1 hq1 h71 7 rfl rfl (fun w1 _=>(Au h71 rfl rfl) w1) fun _ h72=>?_
   refine tv1 hq1 h72 8 rfl rfl (v:=ν ((k2+1:Nat):Int)) (fun w1 _=>(BR h72 rfl rfl rfl (DE _ _ _ ω ω ω)) w1) fun _ h73=>?_
   refine wpAnyH_ready (rs:=[5,9]) κ (by simp) (toc rfl (wn rfl) (fun K3 hK25=>?_) (toc rfl (wn rfl) (fun K3 hK25=>?_) AllReadyH.nil))
   ·skip
    refine Be h73 rfl rfl rfl (xs:=[.tmp 55,.const (ν 2),.tmp 57,.tmp 58]) rfl (cF func30) rfl (vs:=[π mx,ν 2,ν ((k2+1:Nat):Int),.slice pa_x155 AU.length pc_x156]) rfl (args:=#[π mx,ν 2,ν ((k2+1:Nat):Int),.slice pa_x155 AU.length pc_x156]) rfl (CP (kd:=2) (nm:=((k2+1:Nat):Int)) (xs:=AU) s15 hM Qx) fun _ v10 w16 r10 h74=>?_
    obtain ⟨tax284,tcx285,rfl,s16⟩:=r10
    refine hK25 _ _ (s16.pk [0,1,3] rfl) fun hq2=>?_
    refine to_ 9 rfl (wn rfl) κ fun _ hK26=>Kc EK (by decide) h74 rfl rfl rfl rfl υ52 (z:=.int .u8 0) (n:=8) κ (m:=(0:UInt8)) rfl rfl rfl (by decide) s16 fun _ g4 w17 h75 s17 _ _=>?_
    refine hK26 _ _ (s17.pk [1,2,4] rfl) fun hq3=>?_
    have s18:Sep _ [Bm 0 5 1 (some ⟨g4,0,none⟩) ((List.replicate 8 (0:UInt8))).length 8 (((List.replicate 8 (0:UInt8))).map Ac),Bm 0 5 1 pa_x155 (AU).length pc_x156 ((AU).map Ac),Ab mx 99 [π K.tg],txP K tax284 tcx285 M (stP M (Dd M P k2) 2 ((k2+1:Nat):Int) AU),Ch.many R]:=EJ s17
    refine to_ 10 rfl (wn rfl) κ fun _ hK27=>Be h75 rfl rfl rfl (xs:=[.tmp 60,.const (ν 6),.tmp 62,.tmp 63]) rfl (cF func30) rfl (vs:=[π mx,ν 6,ν ((k2+1:Nat):Int),.slice (some ⟨g4,0,none⟩) 8 8]) rfl (args:=#[π mx,ν 6,ν ((k2+1:Nat):Int),.slice (some ⟨g4,0,none⟩) 8 8]) rfl (CP (kd:=6) (nm:=((k2+1:Nat):Int)) (xs:=(List.replicate 8 (0:UInt8))) (s18.pk [0,2,3,1,4] rfl) hM (by simp)) fun _ v11 w18 r11 h76=>?_
    obtain ⟨tax303,tcx304,rfl,s19⟩:=r11
    refine hK27 _ _ (s19.pk [3,1,4] rfl) fun hq4=>?_
    refine to_ 11 rfl (wn rfl) κ fun _ hK28=>CB h76 rfl rfl rfl (E:=31) (xs:=[(0,.tmp 54),(1,.tmp 59),(2,.tmp 64)]) rfl (vs:=[(0,ν er247),(1,ν (stE M (Dd M P k2) 2 ((k2+1:Nat):Int) AU.length)),(2,ν (stE M (stP M (Dd M P k2) 2 ((k2+1:Nat):Int) AU) 6 ((k2+1:Nat):Int) (List.replicate 8 (0:UInt8)).length))]) rfl (z:=[ν er247,ν (stE M (Dd M P k2) 2 ((k2+1:Nat):Int) AU.length),ν (stE M (stP M (Dd M P k2) 2 ((k2+1:Nat):Int) AU) 6 ((k2+1:Nat):Int) (List.replicate 8 (0:UInt8)).length)]) (fun _=>κ) s19 fun _ g5 w19 h77 s20 _ _=>?_
    refine hK28 _ _ (s20.pk [4,2,5] rfl) fun hq5=>?_
    refine to_ 12 rfl (wn rfl) κ fun _ hK29=>Be h77 rfl rfl rfl (xs:=[.tmp 65]) rfl (cF func38) rfl (vs:=[.slice (some ⟨g5,0,none⟩) 3 3]) rfl (args:=#[.slice (some ⟨g5,0,none⟩) 3 3]) rfl (CI (L:=[er247,stE M (Dd M P k2) 2 ((k2+1:Nat):Int) AU.length,stE M (stP M (Dd M P k2) 2 ((k2+1:Nat):Int) AU) 6 ((k2+1:Nat):Int) (List.replicate 8 (0:UInt8)).length]) s20 (Nat.le_of_ble_eq_true rfl)) fun _ v12 w20 r12 h78=>?_
    obtain ⟨rfl,s21⟩:=r12
    refine hK29 _ _ (s21.pk [4,2,5] rfl) fun hq6=>h78.sk [66,65,64,63,59,62,61,60,58,57,56,55,54,9,51,8,7,6,5,13,2,0] rfl fun h79=>?_
    refine tv1 hq6 h79 13 rfl rfl (fun w1 _=>(BH h79 rfl rfl) w1) fun _ h80=>?_
    refine h80.sk [3,9,51,8,7,6,5,13,2,0] rfl fun h81=>?_
    refine wpAnyH_done κ ?_ _
    refine hK23 _ _ ?_
    refine wp_region_lit<|bv h81 (z:=ν ((k2+1:Nat):Int)) rfl (DE _ _ _ ω ω ω) fun _ h82=>h82.sk [67,3,9,8,7,6,5,13,2,0] rfl fun h83=>mv h83 rfl fun _ h84=>h84.sk [51,3,9,8,7,6,5,13,2,0] rfl fun h85=>wpList_nil ?_
    exact hK20 (k2+1) (AC [er247,stE M (Dd M P k2) 2 ((k2+1:Nat):Int) AU.length,stE M (stP M (Dd M P k2) 2 ((k2+1:Nat):Int) AU) 6 ((k2+1:Nat):Int) (List.replicate 8 (0:UInt8)).length]) tax303 tcx304 _ _ ⟨h85.subs rfl,(show Sep _ [Bm 0 5 1 pa_x155 (AU).length pc_x156 ((AU).map Ac),Ab mx 99 [π K.tg],txP K tax303 tcx304 M (Dd M P (k2+1)),Ch.many R] from (s21.pk [4,2,3,5] rfl)),ω,(by rw [he2245];rfl)⟩ ω
   ·skip
    refine Kc EK (by decide) h73 rfl rfl rfl rfl υ52 (z:=.int .u8 0) (n:=8) κ (m:=(0:UInt8)) rfl rfl rfl (by decide) s15 fun _ g6 w21 h86 s22 _ _=>hK25 _ _ (s22.pk [1,2,4] rfl) fun hq7=>?_
    refine to_ 5 rfl (wn rfl) κ fun _ hK30=>Be h86 rfl rfl rfl (xs:=[.tmp 55,.const (ν 2),.tmp 57,.tmp 58]) rfl (cF func30) rfl (vs:=[π mx,ν 2,ν ((k2+1:Nat):Int),.slice pa_x155 AU.length pc_x156]) rfl (args:=#[π mx,ν 2,ν ((k2+1:Nat):Int),.slice pa_x155 AU.length pc_x156]) rfl (CP (kd:=2) (nm:=((k2+1:Nat):Int)) (xs:=AU) (s22.pk [1,2,3,0,4] rfl) hM Qx) fun _ v13 w22 r13 h87=>?_
    obtain ⟨tax348,tcx349,rfl,s23⟩:=r13
    refine hK30 _ _ (s23.pk [0,1,4] rfl) fun hq8=>?_
    have s24:Sep _ [Bm 0 5 1 (some ⟨g6,0,none⟩) ((List.replicate 8 (0:UInt8))).length 8 (((List.replicate 8 (0:UInt8))).map Ac),Bm 0 5 1 pa_x155 (AU).length pc_x156 ((AU).map Ac),Ab mx 99 [π K.tg],txP K tax348 tcx349 M (stP M (Dd M P k2) 2 ((k2+1:Nat):Int) AU),Ch.many R]:=EJ (s23.pk [3,0,1,2,4] rfl)
    refine to_ 10 rfl (wn rfl) κ fun _ hK31=>Be h87 rfl rfl rfl (xs:=[.tmp 60,.const (ν 6),.tmp 62,.tmp 63]) rfl (cF func30) rfl (vs:=[π mx,ν 6,ν ((k2+1:Nat):Int),.slice (some ⟨g6,0,none⟩) 8 8]) rfl (args:=#[π mx,ν 6,ν ((k2+1:Nat):Int),.slice (some ⟨g6,0,none⟩) 8 8]) rfl (CP (kd:=6) (nm:=((k2+1:Nat):Int)) (xs:=(List.replicate 8 (0:UInt8))) (s24.pk [0,2,3,1,4] rfl) hM (by simp)) fun _ v14 w23 r14 h88=>?_
    obtain ⟨tax359,tcx360,rfl,s25⟩:=r14
    refine hK31 _ _ (s25.pk [3,1,4] rfl) fun hq9=>?_
    refine to_ 11 rfl (wn rfl) κ fun _ hK32=>CB h88 rfl rfl rfl (E:=31) (xs:=[(0,.tmp 54),(1,.tmp 59),(2,.tmp 64)]) rfl (vs:=[(0,ν er247),(1,ν (stE M (Dd M P k2) 2 ((k2+1:Nat):Int) AU.length)),(2,ν (stE M (stP M (Dd M P k2) 2 ((k2+1:Nat):Int) AU) 6 ((k2+1:Nat):Int) (List.replicate 8 (0:UInt8)).length))]) rfl (z:=[ν er247,ν (stE M (Dd M P k2) 2 ((k2+1:Nat):Int) AU.length),ν (stE M (stP M (Dd M P k2) 2 ((k2+1:Nat):Int) AU) 6 ((k2+1:Nat):Int) (List.replicate 8 (0:UInt8)).length)]) (fun _=>κ) s25 fun _ g7 w24 h89 s26 _ _=>?_
    refine hK32 _ _ (s26.pk [4,2,5] rfl) fun hq10=>?_
    refine to_ 12 rfl (wn rfl) κ fun _ hK33=>Be h89 rfl rfl rfl (xs:=[.tmp 65]) rfl (cF func38) rfl (vs:=[.slice (some ⟨g7,0,none⟩) 3 3]) rfl (args:=#[.slice (some ⟨g7,0,none⟩) 3 3]) rfl (CI (L:=[er247,stE M (Dd M P k2) 2 ((k2+1:Nat):Int) AU.length,stE M (stP M (Dd M P k2) 2 ((k2+1:Nat):Int) AU) 6 ((k2+1:Nat):Int) (List.replicate 8 (0:UInt8)).length]) s26 (Nat.le_of_ble_eq_true rfl)) fun _ v15 w25 r15 h90=>?_
    obtain ⟨rfl,s27⟩:=r15
    refine hK33 _ _ (s27.pk [4,2,5] rfl) fun hq11=>h90.sk [66,65,64,59,63,62,61,60,58,57,56,55,54,9,51,8,7,6,5,13,2,0] rfl fun h91=>?_
    refine tv1 hq11 h91 13 rfl rfl (fun w1 _=>(BH h91 rfl rfl) w1) fun _ h92=>?_
    refine h92.sk [3,9,51,8,7,6,5,13,2,0] rfl fun h93=>?_
    refine wpAnyH_done κ ?_ _
    refine hK23 _ _ ?_
    refine wp_region_lit<|bv h93 (z:=ν ((k2+1:Nat):Int)) rfl (DE _ _ _ ω ω ω) fun _ h94=>h94.sk [67,3,9,8,7,6,5,13,2,0] rfl fun h95=>mv h95 rfl fun _ h96=>h96.sk [51,3,9,8,7,6,5,13,2,0] rfl fun h97=>wpList_nil ?_
    exact hK20 (k2+1) (AC [er247,stE M (Dd M P k2) 2 ((k2+1:Nat):Int) AU.length,stE M (stP M (Dd M P k2) 2 ((k2+1:Nat):Int) AU) 6 ((k2+1:Nat):Int) (List.replicate 8 (0:UInt8)).length]) tax359 tcx360 _ _ ⟨h97.subs rfl,(show Sep _ [Bm 0 5 1 pa_x155 (AU).length pc_x156 ((AU).map Ac),Ab mx 99 [π K.tg],txP K tax359 tcx360 M (Dd M P (k2+1)),Ch.many R] from (s27.pk [4,2,3,5] rfl)),ω,(by rw [he2245];rfl)⟩ ω
  ·skip
   have hp6:¬ ((k2:Int)<8):=(dF hc3)
   refine wcF h62 rfl hc3<|h62.sk [51,3,8,7,6,5,13,2,0] rfl fun h98=>wp_exit ?_
   refine hK18 _ _ ?_
   refine sqr fun _ hK34=>mv h98 rfl fun _ h99=>h99.sk [68,51,3,8,7,6,5,13,0] rfl fun h100=>mv h100 rfl fun _ h101=>h101.sn [2,51,3,8,7,6,5,13,0] rfl fun h102=>hK34 _ _<|wp_ret ?_
   try simp only [Exit.then,Exit.inBlock]
   refine By (v:=ν er247) (Cx h102 rfl rfl) h102.defs ?_
   obtain rfl:k2=8:=ω
   exact ⟨ta2248,tc2249,by rw [he2245],Sep.tail_un (xs:=[_,_]) (s14.pk [1,2,3] rfl)⟩
end
section
theorem PB {X:Λ} (h:(Fw X).isSome=true):(BK X).isSome=true:=by obtain ⟨A,x,e⟩:=IA h;rw [e];rfl
theorem Xm {X:Λ} {L:List ByteArray} (h:BK X=some L) (h2:(Fw X).isSome=true):0<L.length:=by
 obtain ⟨A,x,e⟩:=IA h2
 rw [h] at e;cases e;rw [List.length_append];show 0<_+1;omega
theorem NS {w:World} {R:List Ch} {mx:Nat} {K:VolK} {ta:Ω} {tc:Nat} {M:MemM} {P:List PtM} {X:Λ} {a b:Int}  (hS0:Sep w ([Ab mx 99 [π K.tg],txP K ta tc M P]++R)) (hM:M.V.length=23168) (hX:X.length≤1000) (h:AL M P X=(a,b)):CallsR prog 53 #[π mx,σ X] w (fun v w'=>v=.tuple #[ν a,ν b]∧Sep w' ([Ab mx 99 [π K.tg],txP K ta tc M P]++R)):=
 Calls.mono (VX hS0 hM hX) fun e w' z=>by rw [h] at z;exact z
theorem Tx {w:World} {R:List Ch} {mx:Nat} {K:VolK} {ta:Ω} {tc:Nat} {M:MemM} {P:List PtM} {X:Λ} {a b:Int} {x:InoT}  (hS0:Sep w ([Ab mx 99 [π K.tg],txP K ta tc M P]++R)) (hM:M.V.length=23168) (hX:X.length≤1000) (h:Ey M P X=(a,x,b)):CallsR prog 70 #[π mx,σ X] w (fun v w'=>v=.tuple #[ν a,.agg (Ak x).toArray,ν b]∧Sep w' ([Ab mx 99 [π K.tg],txP K ta tc M P]++R)):=
 Calls.mono (XL hS0 hM hX) fun e w' z=>by rw [h] at z;exact z
theorem LV {w:World} {R:List Ch} {mx:Nat} {K:VolK} {ta:Ω} {tc:Nat} {M:MemM} {P:List PtM} {X:Λ} {a b:Int} {x:ByteArray}  (hS0:Sep w ([Ab mx 99 [π K.tg],txP K ta tc M P]++R)) (hM:M.V.length=23168) (hX:X.length≤1000) (h:Eb M P X=(a,x,b)):CallsR prog 67 #[π mx,σ X] w (fun v w'=>v=.tuple #[ν a,.string x,ν b]∧Sep w' ([Ab mx 99 [π K.tg],txP K ta tc M P]++R)):=
 Calls.mono (Aaq hS0 hM hX) fun e w' z=>by rw [h] at z;exact z
theorem Fa {w:World} {R:List Ch} {mx:Nat} {K:VolK} {ta:Ω} {tc:Nat} {M:MemM} {P:List PtM} {i:Int} {x:InoT} {b:Int}  (hS0:Sep w ([Ab mx 99 [π K.tg],txP K ta tc M P]++R)) (hM:M.V.length=23168) (h:Al M P i=x∧AR M P i=b):CallsR prog 8 #[π mx,ν i] w (fun v w'=>v=.tuple #[.agg (Ak x).toArray,ν b]∧Sep w' ([Ab mx 99 [π K.tg],txP K ta tc M P]++R)):=
 Calls.mono (Fv hS0 hM) fun e w' z=>by rw [h.1,h.2] at z;exact z
theorem NX {w:World} {R:List Ch} {mx:Nat} {K:VolK} {ta:Ω} {tc:Nat} {M:MemM} {P:List PtM} {i:Int} {x:InoT} {t:List EntT} {b:Int}  (hS0:Sep w ([Ab mx 99 [π K.tg],txP K ta tc M P]++R)) (hM:M.V.length=23168) (h:Bl M P i=x∧GS M P i=t∧Pf M P i=b):CallsR prog 126 #[π mx,ν i] w (fun v w'=>v=.tuple #[.agg (Ak x).toArray,.agg (Am t).toArray,ν b]∧Sep w' ([Ab mx 99 [π K.tg],txP K ta tc M P]++R)):=
 Calls.mono (Kf hS0 hM) fun e w' z=>by rw [h.1,h.2.1,h.2.2] at z;exact z
theorem Abj {w:World} {R:List Ch} (hS:Sep w R) {t:List EntT} (ht:t.length=16) {k:Int} (hu:Gi t k=false):CallsR prog 156 #[.agg (Am t).toArray,ν k] w (fun v w'=>v=.bool false∧Sep w' R):=
 Calls.mono (NM t ht k w) fun e w' z=>⟨_,z.1,by rw [hu],hS.mono z.2⟩
theorem ZD {w:World} {R:List Ch} (hS:Sep w R) {t:List EntT} {s:ByteArray} {j:Nat} (ht:t.length=16) (hs:s.size≤1000) (hf:AQ t s=(j:Int)):CallsR prog 117 #[.agg (Am t).toArray,.string s] w (fun v w'=>v=ν (j:Int)∧Sep w' R):=
 Calls.mono (Hq t s ht hs w) fun e w' z=>⟨_,z.1,by rw [hf],hS.mono z.2⟩
def GR (x:InoT):InoT:={ x with s:=x.s-1 }
def Kw (x:InoT):InoT:={ x with l:=x.l-1 }
def Yl (M:MemM) (P:List PtM) (p:Int) (x:InoT) (j:Nat):Int:=AC [stE M P 3 0 16,BC M (stP M P 3 0 (CN (Ar M P) (x.blk (j / 4)))) p (x.setB (j / 4) 0)]
def Sm (M:MemM) (P:List PtM) (p:Int) (x:InoT) (j:Nat):List PtM:=BQ M (stP M P 3 0 (CN (Ar M P) (x.blk (j / 4)))) p (x.setB (j / 4) 0)
def GG (x:InoT):Bool:=decide (x.k=1)&&(decide (x.l=0)&&decide (Nw x=0))
def RZ (x:InoT):Prop:=(0≤x.b0∧x.b0≤1000)∧(0≤x.b1∧x.b1≤1000)∧(0≤x.b2∧x.b2≤1000)∧(0≤x.b3∧x.b3≤1000)
def woX (xs:Λ) (x:InoT):Nat→Λ
 | 0=>xs
 | k+1=>CN (woX xs x k) (x.blk k)
theorem Cf (xs:Λ) (x:InoT):∀ k,(woX xs x k).length=xs.length
 | 0=>rfl
 | k+1=>by unfold woX;rw [Ay,Cf]
theorem Abn {x:InoT} (h:RZ x) {k:Nat} (hk:k<4):-9223372036854775808≤x.blk k∧x.blk k≤9223372036854775807:=by
 obtain ⟨h0,h1,h2,h3⟩:=h
 rcases (ω:k=0∨k=1∨k=2∨k=3) with rfl | rfl | rfl | rfl
 ·show -9223372036854775808≤x.b0∧x.b0≤_;omega
 ·show -9223372036854775808≤x.b1∧x.b1≤_;omega
 ·show -9223372036854775808≤x.b2∧x.b2≤_;omega
 ·show -9223372036854775808≤x.b3∧x.b3≤_;omega
def Lt (M:MemM) (P:List PtM) (i:Int):Int:=AC [BC M P i AD,stE M (BQ M P i AD) 3 0 16]
def Pq (M:MemM) (P:List PtM) (i:Int) (x:InoT):List PtM:=stP M (BQ M P i AD) 3 0 (woX (Ar M (BQ M P i AD)) x 4)
theorem Nr {w:World} {R:List Ch} {X:Λ} (hS0:Sep w ([]++R)) (hX:X.length≤1000) (hr:(Fw X).isSome=true) :
  CallsR prog 66 #[σ X] w (fun v w'=>v=.bool false∧Sep w' ([]++R)):=by
 have hS:Sep w [Ch.many R]:=Sep.tail_many (xs:=[]) hS0;clear hS0
 have hps:=PB hr
 refine AG func66 rfl (N:=17) ntmps66 (by show 1≤17;decide) [(0,σ X)] rfl fun _ h1=>sqr fun _ hK3=>mv h1 rfl fun _ h4=>wpList_nil<|hK3 _ _<|sqr fun _ hK6=>mv h4 rfl fun _ h7=>?_
 obtain ⟨L9,hp1⟩:=Option.isSome_iff_exists.1 hps
 have hp10l:=LS hp1
 have hp10p:=Xm hp1 hr
 refine cl h7 rfl (cF func86) (LT hS X ω hp1) fun _ v1 w1 r1 h2=>?_
 obtain ⟨pa_x11,pc_x12,rfl,s1⟩:=r1
 refine mvs 5 h2 rfl fun _ h3=>h3.sn [4,3,2,0] rfl fun h5=>hK6 _ _<|sqr fun _ hK1=>mv h5 rfl fun _ h6=>bv h6 (z:=.bool true) rfl (cEq _ _ _ _ rfl) fun _ h8=>mv h8 rfl fun _ h9=>sv h9 (wT h9 (E:=true) rfl rfl rfl) rfl rfl rfl (v:=.slice pa_x11 L9.length pc_x12) (Au h9 rfl rfl) fun _ h10=>sv h10 (wT h10 (E:=true) rfl rfl rfl) rfl rfl rfl (v:=ν (L9.length:Int)) (Jq h10 rfl rfl υ60) fun _ h11=>sv h11 (wT h11 (E:=true) rfl rfl rfl) rfl rfl rfl (v:=.bool false) (BR h11 rfl rfl rfl (cEq _ _ _ _ (decide_eq_false ω))) fun _ h12=>?_
 refine sv1 h12 rfl (v:=.bool false) (BD h12 rfl rfl rfl) fun _ h13=>h13.sk [16,15,14,13,12,11,10,4,3,0] rfl fun h14=>mv h14 rfl fun _ h15=>h15.sn [2,4,3,0] rfl fun h16=>hK1 _ _<|wp_ret ?_
 try simp only [Exit.then,Exit.inBlock]
 refine By (v:=.bool false) (Cx h16 rfl rfl) h16.defs ?_
 exact ⟨congrArg Value.bool rfl,Sep.tail_un (xs:=[]) (s1.pk [1] rfl)⟩
theorem Aac {w:World} {R:List Ch} {mx:Nat} {K:VolK} {ta:Ω} {tc:Nat} {M:MemM} {P:List PtM} {p n E:Int} {X:Λ} {nm:ByteArray} {P2:List PtM} (hS0:Sep w ([Ab mx 99 [π K.tg],txP K ta tc M P]++R)) (hM:M.V.length=23168) (hX:X.length≤1000) (hr:(Fw X).isSome=true) (hw:AL M P X=(0,10)) (hpl:Eb M P X=(p,nm,0)) (hnn:Hb M P=(n,0)) (hadd:∀ {w:World} {R:List Ch} {ta:Ω} {tc:Nat},Sep w ([Ab mx 99 [π K.tg],txP K ta tc M (BQ M P n Ez)]++R)→CallsR prog 102 #[π mx,ν p,.string nm,ν n,ν 0] w (fun v w'=>∃ ta' tc',v=ν E∧Sep w' ([Ab mx 99 [π K.tg],txP K ta' tc' M P2]++R))) (hE:AC [BC M P n Ez,E]=0) :
  CallsR prog 33 #[π mx,σ X,ν 0] w (fun v w'=>∃ ta' tc',v=ν 0∧Sep w' ([Ab mx 99 [π K.tg],txP K ta' tc' M P2]++R)):=by
 have hS:Sep w [Ab mx 99 [π K.tg],txP K ta tc M P,Ch.many R]:=Sep.tail_many (xs:=[_,_]) hS0;clear hS0
 refine AG func33 rfl (N:=46) ntmps33 (by show 3≤46;decide) [(0,π mx),(1,σ X),(2,ν 0)] rfl fun _ h1=>sqr fun _ hK3=>mv h1 rfl fun _ h4=>wpList_nil<|hK3 _ _<|sq fun _ hK6=>sqr fun _ hK7=>mv h4 rfl fun _ h8=>cl h8 rfl (cF func66) (Nr hS hX hr) fun _ v1 w1 r1 h2=>?_
 obtain ⟨rfl,s1⟩:=r1
 refine h2.sn [13,6,0,1,2] rfl fun h3=>hK7 _ _<|wcF h3 rfl rfl<|h3.sk [6,0,1,2] rfl fun h5=>wp_skip<|hK6 _ _<|sq fun _ hK1=>sqr fun _ hK2=>mvs 2 h5 rfl fun _ h6=>cl h6 rfl (cF func53) (NS s1 hM hX hw) fun _ v2 w2 r2 h7=>?_
 obtain ⟨rfl,s2⟩:=r2
 refine mvs 5 h7 rfl fun _ h9=>h9.sn [8,6,0,1,2] rfl fun h10=>hK2 _ _<|sqr fun _ hK4=>mv h10 rfl fun _ h11=>wpList_nil<|hK4 _ _<|wp_block ?_
 refine sqr fun _ hK5=>bv h11 (z:=.bool false) rfl (cEq _ _ _ _ rfl) fun _ h12=>mv h12 rfl fun _ h13=>h13.sn [21,20,8,6,0,1,2] rfl fun h14=>hK5 _ _<|wcF h14 rfl rfl<|h14.sk [20,8,6,0,1,2] rfl fun h15=>sqr fun _ hK8=>bv h15 (z:=.bool false) rfl (cEq _ _ _ _ rfl) fun _ h16=>mv h16 rfl fun _ h17=>?_
 refine h17.sn [23,20,8,6,0,1,2] rfl fun h18=>hK8 _ _<|wcF h18 rfl rfl<|h18.sk [20,8,6,0,1,2] rfl fun h19=>wp_skip<|hK1 _ _<|sqr fun _ hK9=>mvs 2 h19 rfl fun _ h20=>cl h20 rfl (cF func67) (LV s2 hM hX hpl) fun _ v3 w3 r3 h21=>?_
 obtain ⟨rfl,s3⟩:=r3
 refine mvs 7 h21 rfl fun _ h22=>h22.sn [11,10,9,20,8,6,0,1,2] rfl fun h23=>hK9 _ _<|sq fun _ hK10=>sqr fun _ hK11=>mv h23 rfl fun _ h24=>bv h24 (z:=.bool false) rfl (cNe _ _ _ _ rfl) fun _ h25=>h25.sn [34,11,10,9,20,8,6,0,1,2] rfl fun h26=>hK11 _ _<|wcF h26 rfl rfl<|h26.sk [11,10,9,20,8,6,0,1,2] rfl fun h27=>?_
 refine wp_skip<|hK10 _ _<|sqr fun _ hK12=>mvs 3 h27 rfl fun _ h28=>bu h28 (v:=.agg (Ak (⟨2,1,0,0,0,0,0,0,0,0,0,0,0,0,0⟩:InoT)).toArray) rfl (fun w=>κ) fun _ h29=>mv h29 rfl fun _ h30=>cl h30 rfl (cF func68) (Nf (p:=p) (nm:=nm) (n:=n) (x:=Ez) (spare:=0) s3 hM hnn hadd hE) fun _ v4 w4 r4 h31=>?_
 obtain ⟨tax106,tcx107,rfl,s4⟩:=r4
 refine mvs 3 h31 rfl fun _ h32=>h32.sk [44,43,36,42,41,40,39,38,37,10,9,20,8,6,0,1,2] rfl fun h33=>mv h33 rfl fun _ h34=>h34.sn [11,10,9,20,8,6,0,1,2] rfl fun h35=>hK12 _ _<|sqr fun _ hK13=>mv h35 rfl fun _ h36=>h36.sk [45,11,10,9,20,8,0,1,2] rfl fun h37=>mv h37 rfl fun _ h38=>h38.sk [6,11,10,9,20,8,0,1,2] rfl fun h39=>?_
 refine wpList_nil<|hK13 _ _<|wp_ret ?_
 try simp only [Exit.then,Exit.inBlock]
 refine By (v:=ν 0) (Cx h39 rfl rfl) h39.defs ?_
 exact ⟨tax106,tcx107,rfl,Sep.tail_un (xs:=[_,_]) s4⟩
theorem Aal {w:World} {R:List Ch} {mx:Nat} {K:VolK} {ta:Ω} {tc:Nat} {M:MemM} {P:List PtM} {p n E:Int} {X:Λ} {nm:ByteArray} {P2:List PtM} (hS0:Sep w ([Ab mx 99 [π K.tg],txP K ta tc M P]++R)) (hM:M.V.length=23168) (hX:X.length≤1000) (hnd:Ey M P X=(0,AD,10)) (hpl:Eb M P X=(p,nm,0)) (hnn:Hb M P=(n,0)) (hadd:∀ {w:World} {R:List Ch} {ta:Ω} {tc:Nat},Sep w ([Ab mx 99 [π K.tg],txP K ta tc M (BQ M P n (⟨1,1,0,0,0,0,0,1,0,0,0,0,0,0,0⟩:InoT))]++R)→CallsR prog 102 #[π mx,ν p,.string nm,ν n,ν 0] w (fun v w'=>∃ ta' tc',v=ν E∧Sep w' ([Ab mx 99 [π K.tg],txP K ta' tc' M P2]++R))) (hE:AC [BC M P n (⟨1,1,0,0,0,0,0,1,0,0,0,0,0,0,0⟩:InoT),E]=0) :
  CallsR prog 34 #[π mx,ν 1,σ X,ν 1,.bool false,ν 0] w (fun v w'=>∃ ta' tc',v=.tuple #[ν n,ν 0]∧Sep w' ([Ab mx 99 [π K.tg],txP K ta' tc' M P2]++R)):=by
 have hS:Sep w [Ab mx 99 [π K.tg],txP K ta tc M P,Ch.many R]:=Sep.tail_many (xs:=[_,_]) hS0;clear hS0
 refine AG func34 rfl (N:=83) ntmps34 (by show 6≤83;decide) [(0,π mx),(1,ν 1),(2,σ X),(3,ν 1),(4,.bool false),(5,ν 0)] rfl fun _ h1=>sqr fun _ hK3=>mvs 2 h1 rfl fun _ h6=>wpList_nil<|hK3 _ _<|sq fun _ hK8=>sqr fun _ hK9=>mv h6 rfl fun _ h2=>cl h2 rfl (cF func69) (LC hS) fun _ v1 w1 r1 h3=>?_
 obtain ⟨rfl,s1⟩:=r1
 refine mv h3 rfl fun _ h4=>h4.sn [22,13,12,0,1,2,3,4,5] rfl fun h5=>hK9 _ _<|wcF h5 rfl rfl<|h5.sk [13,12,0,1,2,3,4,5] rfl fun h7=>wp_skip<|hK8 _ _<|sq fun _ hK1=>sqr fun _ hK2=>mv h7 rfl fun _ h8=>bv h8 (z:=.bool true) rfl (cNe _ _ _ _ rfl) fun _ h9=>mv h9 rfl fun _ h10=>?_
 refine sv h10 (wT h10 (E:=true) rfl rfl rfl) rfl rfl rfl (v:=ν 1) (Au h10 rfl rfl) fun _ h11=>sv h11 (wT h11 (E:=true) rfl rfl rfl) rfl rfl rfl (v:=.bool false) (BR h11 rfl rfl rfl (cNe _ _ _ _ rfl)) fun _ h12=>sv1 h12 rfl (v:=.bool false) (BD h12 rfl rfl rfl) fun _ h13=>mv h13 rfl fun _ h14=>su h14 (wT h14 (E:=false) rfl rfl rfl) rfl rfl rfl fun _ h15=>su h15 (wT h15 (E:=false) rfl rfl rfl) rfl rfl rfl fun _ h16=>sv1 h16 rfl (v:=.bool false) (BD h16 rfl rfl rfl) fun _ h17=>h17.sn [32,13,12,0,1,2,3,4,5] rfl fun h18=>hK2 _ _<|wcF h18 rfl rfl ?_
 refine h18.sk [13,12,0,1,2,3,4,5] rfl fun h19=>wp_skip<|hK1 _ _<|sqr fun _ hK4=>mvs 2 h19 rfl fun _ h20=>cl h20 rfl (cF func70) (UU (X:=X) s1 hM hX hnd) fun _ v2 w2 r2 h21=>?_
 obtain ⟨rfl,s2⟩:=r2
 refine mvs 4 h21 rfl fun _ h22=>so (wn rfl) fun _ hK5=>AH h22 rfl rfl rfl rfl (z:=[ν 0,ν 0,ν 0,ν 0,ν 0,ν 0,ν 0,ν 0,ν 0,ν 0,ν 0,ν 0,ν 0,ν 0,ν 0]) (fun _=>rfl) s2 fun _ g1 w3 h23 s3 _ _=>hK5 _ _ ?_
 refine mv h23 rfl fun _ h24=>stA h24 s3 0 rfl rfl rfl κ rfl rfl rfl rfl fun _ w4 h25 s4 _=>mv h25 rfl fun _ h26=>h26.sn [16,14,15,13,12,0,1,2,3,4,5] rfl fun h27=>hK4 _ _<|sq fun _ hK6=>sqr fun _ hK7=>mv h27 rfl fun _ h28=>bv h28 (z:=.bool false) rfl (cEq _ _ _ _ rfl) fun _ h29=>h29.sn [41,16,14,15,13,12,0,1,2,3,4,5] rfl fun h30=>hK7 _ _ ?_
 refine wcF h30 rfl rfl<|h30.sk [16,14,15,13,12,0,1,2,3,4,5] rfl fun h31=>wp_skip<|hK6 _ _<|sqr fun _ hK10=>mvs 2 h31 rfl fun _ h32=>cl h32 rfl (cF func67) (LV (s4.pk [1,2,0,3] rfl) hM hX hpl) fun _ v3 w5 r3 h33=>?_
 obtain ⟨rfl,s5⟩:=r3
 refine mvs 7 h33 rfl fun _ h34=>h34.sn [19,18,17,16,14,15,13,12,0,1,2,3,4,5] rfl fun h35=>hK10 _ _<|sq fun _ hK11=>sqr fun _ hK12=>mv h35 rfl fun _ h36=>bv h36 (z:=.bool false) rfl (cNe _ _ _ _ rfl) fun _ h37=>mv h37 rfl fun _ h38=>sv h38 (wF h38 (E:=false) rfl rfl rfl) rfl rfl rfl (v:=ν 0) (Au h38 rfl rfl) fun _ h39=>sv h39 (wF h39 (E:=false) rfl rfl rfl) rfl rfl rfl (v:=.bool false) (BR h39 rfl rfl rfl (cNe _ _ _ _ rfl)) fun _ h40=>sv1 h40 rfl (v:=.bool false) (BD h40 rfl rfl rfl) fun _ h41=>?_
 refine mv h41 rfl fun _ h42=>sv h42 (wF h42 (E:=false) rfl rfl rfl) rfl rfl rfl (v:=ν 1) (Au h42 rfl rfl) fun _ h43=>sv h43 (wF h43 (E:=false) rfl rfl rfl) rfl rfl rfl (v:=.bool false) (BR h43 rfl rfl rfl (cEq _ _ _ _ rfl)) fun _ h44=>sv1 h44 rfl (v:=.bool false) (BD h44 rfl rfl rfl) fun _ h45=>h45.sn [67,19,18,17,16,14,15,13,12,0,1,2,3,4,5] rfl fun h46=>hK12 _ _<|wcF h46 rfl rfl<|h46.sk [19,18,17,16,14,15,13,12,0,1,2,3,4,5] rfl fun h47=>wp_skip<|hK11 _ _<|sq fun _ hK13=>sq fun _ hK14=>wp_region_lit ?_
 refine mv h47 rfl fun _ h48=>wpList_nil<|hK14 _ _<|wcF h48 rfl rfl<|h48.sk [19,18,17,16,14,15,13,12,0,1,2,3,4,5] rfl fun h49=>wp_skip<|hK13 _ _<|sqr fun _ hK15=>bu h49 (v:=.agg (Ak (⟨1,1,0,0,0,0,0,0,0,0,0,0,0,0,0⟩:InoT)).toArray) rfl (fun w=>κ) fun _ h50=>stA h50 s5 2 rfl rfl rfl κ rfl rfl rfl rfl fun _ w6 h51 s6 _=>h51.sn [19,18,17,16,14,15,13,12,0,1,2,3,4,5] rfl fun h52=>hK15 _ _ ?_
 refine sqr fun _ hK16=>mv h52 rfl fun _ h53=>bv h53 (z:=ν 0) rfl (OP _ _ _ (by decide) (by decide) (by decide)) fun _ h54=>fav h54 rfl (fQ 7) fun _ h55=>sv1 h55 rfl (v:=.pointer (some ⟨g1,7,none⟩)) (Bq h55 rfl rfl rfl (fun w=>ZM g1 0 ω ω w)) fun _ h56=>st1 h56 s6 2 rfl rfl κ rfl rfl rfl rfl fun _ w7 h57 s7 _=>h57.sn [19,18,17,16,14,15,13,12,0,1,2,3,4,5] rfl fun h58=>hK16 _ _<|sqr fun _ hK17=>mvs 3 h58 rfl fun _ h59=>?_
 refine sw1 h59 rfl (v:=.agg (Ak (⟨1,1,0,0,0,0,0,1,0,0,0,0,0,0,0⟩:InoT)).toArray) (rld h59 rfl rfl (ldA υ25 rfl (n:=15) κ (s7.get 2 rfl:Blk _ _ _ _) rfl rfl)) fun _ h60=>mv h60 rfl fun _ h61=>cl h61 rfl (cF func68) (Nf (p:=p) (nm:=nm) (n:=n) (x:=(⟨1,1,0,0,0,0,0,1,0,0,0,0,0,0,0⟩:InoT)) (spare:=0) s7 hM hnn hadd hE) fun _ v4 w8 r4 h62=>?_
 obtain ⟨tax187,tcx188,rfl,s8⟩:=r4
 refine mvs 2 h62 rfl fun _ h63=>h63.sk [82,81,80,79,78,77,76,75,19,18,17,16,14,15,13,0,1,2,3,4,5] rfl fun h64=>mv h64 rfl fun _ h65=>h65.sk [12,82,81,80,79,78,77,76,75,19,18,17,16,14,15,0,1,2,3,4,5] rfl fun h66=>mv h66 rfl fun _ h67=>h67.sn [13,12,19,18,17,16,14,15,0,1,2,3,4,5] rfl fun h68=>hK17 _ _<|wp_ret ?_
 try simp only [Exit.then,Exit.inBlock]
 refine By (v:=.tuple #[ν n,ν 0]) (Gc h68 rfl rfl rfl) h68.defs ?_
 exact ⟨tax187,tcx188,rfl,Sep.tail_un (xs:=[_,_]) (s8.pk [0,1,3] rfl)⟩
theorem Adn {w:World} {R:List Ch} {mx:Nat} {K:VolK} {ta:Ω} {tc:Nat} {M:MemM} {P:List PtM} {i:Int} {x:InoT} {X:Λ} (hS0:Sep w ([Ab mx 99 [π K.tg],txP K ta tc M P]++R)) (hM:M.V.length=23168) (hX:X.length≤1000) (hnd:Ey M P X=(i,x,0)) :
  CallsR prog 35 #[π mx,σ X] w (fun v w'=>v=.tuple #[.agg #[ν x.k,ν x.l,ν x.s],ν 0]∧Sep w' ([Ab mx 99 [π K.tg],txP K ta tc M P]++R)):=by
 have hS:Sep w [Ab mx 99 [π K.tg],txP K ta tc M P,Ch.many R]:=Sep.tail_many (xs:=[_,_]) hS0;clear hS0
 refine AG func35 rfl (N:=27) ntmps35 (by show 2≤27;decide) [(0,π mx),(1,σ X)] rfl fun _ h1=>sqr fun _ hK3=>so (wn rfl) fun _ hK1=>AH h1 rfl rfl rfl rfl (z:=[ν 0,ν 0,ν 0]) (fun _=>rfl) hS fun _ g4 w7 h5 s8 _ _=>hK1 _ _ ?_
 refine mv h5 rfl fun _ h2=>wpList_nil<|hK3 _ _<|sqr fun _ hK2=>mvs 2 h2 rfl fun _ h3=>cl h3 rfl (cF func70) (Tx (s8.pk [1,2,0,3] rfl) hM hX hnd) fun _ v1 w1 r1 h4=>?_
 obtain ⟨rfl,s1⟩:=r1
 refine mvs 4 h4 rfl fun _ h6=>so (wn rfl) fun _ hK4=>AH h6 rfl rfl rfl rfl (z:=[ν 0,ν 0,ν 0,ν 0,ν 0,ν 0,ν 0,ν 0,ν 0,ν 0,ν 0,ν 0,ν 0,ν 0,ν 0]) (fun _=>rfl) s1 fun _ g1 w2 h7 s2 _ _=>hK4 _ _ ?_
 refine mv h7 rfl fun _ h8=>stA h8 s2 0 rfl rfl rfl κ rfl rfl rfl rfl fun _ w3 h9 s3 _=>mv h9 rfl fun _ h10=>h10.sn [8,7,5,4,0,1] rfl fun h11=>hK2 _ _<|sq fun _ hK5=>sqr fun _ hK6=>mv h11 rfl fun _ h12=>bv h12 (z:=.bool false) rfl (cNe _ _ _ _ rfl) fun _ h13=>h13.sn [17,8,7,5,4,0,1] rfl fun h14=>hK6 _ _ ?_
 refine wcF h14 rfl rfl<|h14.sk [8,7,5,4,0,1] rfl fun h15=>wp_skip<|hK5 _ _<|sqr fun _ hK7=>fav h15 rfl (fQ 0) fun _ h16=>ldv h16 s3 0 υ3 rfl rfl rfl rfl fun _ h17=>fav h17 rfl (fQ 1) fun _ h18=>ldv h18 s3 0 υ3 rfl rfl rfl rfl fun _ h19=>fav h19 rfl (fQ 2) fun _ h20=>ldv h20 s3 0 υ3 rfl rfl rfl rfl fun _ h21=>?_
 refine bu h21 (v:=.agg #[ν x.k,ν x.l,ν x.s]) rfl (fun w=>κ) fun _ h22=>stA h22 s3 3 rfl rfl rfl κ rfl rfl rfl rfl fun _ w4 h23 s4 _=>h23.sk [26,25,24,23,22,21,20,8,7,4,0,1] rfl fun h24=>mv h24 rfl fun _ h25=>h25.sn [5,8,7,4,0,1] rfl fun h26=>hK7 _ _<|wp_ret ?_
 try simp only [Exit.then,Exit.inBlock]
 refine rCt h26 s4 3 υ76 rfl rfl rfl rfl rfl ?_
 exact ⟨rfl,Sep.tail_un (xs:=[_,_]) (s4.pk [1,2,4] rfl)⟩
theorem Qr {w:World} {R:List Ch} {mx:Nat} {K:VolK} {ta:Ω} {tc:Nat} {M:MemM} {P:List PtM} {p:Int} {x:InoT} {t:List EntT} {j:Nat} (hS0:Sep w ([Ab mx 99 [π K.tg],txP K ta tc M P]++R)) (hM:M.V.length=23168) (ht:t.length=16) (hj:j<16) (hbk:0≤x.blk (j / 4)∧x.blk (j / 4)≤1000) (hu:Gi (Ev t (j:Int) ⟨⟨#[]⟩,0⟩) (((j / 4:Nat):Nat):Int)=false) :
  CallsR prog 128 #[π mx,ν p,.agg (Ak x).toArray,.agg ((Am t).toArray),ν (j:Int),.agg #[.string ⟨#[]⟩,ν 0]] w (fun v w'=>∃ ta' tc',v=ν (Yl M P p x j)∧Sep w' ([Ab mx 99 [π K.tg],txP K ta' tc' M (Sm M P p x j)]++R)):=by
 have hS:Sep w [Ab mx 99 [π K.tg],txP K ta tc M P,Ch.many R]:=Sep.tail_many (xs:=[_,_]) hS0;clear hS0
 refine AG func128 rfl (N:=66) ntmps128 (by show 6≤66;decide) [(0,π mx),(1,ν p),(2,.agg (Ak x).toArray),(3,.agg ((Am t).toArray)),(4,ν (j:Int)),(5,.agg #[.string ⟨#[]⟩,ν 0])] rfl fun _ h1=>sqr fun _ hK3=>so (wn rfl) fun _ hK1=>Gk h1 rfl rfl rfl rfl rfl (z:=(Ak x)) rfl hS fun _ g4 w7 h5 s8 _ _=>hK1 _ _ ?_
 refine so (wn rfl) fun _ hK2=>Gk h5 rfl rfl rfl rfl rfl (z:=Am t) rfl s8 fun _ g1 w2 h2 s1 _ _=>hK2 _ _ ?_
 refine so (wn rfl) fun _ hK4=>Gk h2 rfl rfl rfl rfl rfl (z:=[.string ⟨#[]⟩,ν 0]) rfl s1 fun _ g2 w3 h3 s2 _ _=>hK4 _ _ ?_
 refine mv h3 rfl fun _ h4=>wpList_nil<|hK3 _ _<|sqr fun _ hK5=>sw1 h4 rfl (v:=.agg ((Am t).toArray)) (rld h4 rfl rfl (Fb υ111 (s2.get 1 rfl:Blk _ _ _ _) ht)) fun _ h6=>mv h6 rfl fun _ h7=>sw1 h7 rfl (v:=.agg #[.string ⟨#[]⟩,ν 0]) (rld h7 rfl rfl (ldA υ109 rfl (n:=2) κ (s2.get 0 rfl:Blk _ _ _ _) rfl rfl)) fun _ h8=>cl h8 rfl (cF func155) (AS s2 (Mv t (j:Int) ⟨#[]⟩ 0 ht _)) fun _ v1 w4 r1 h9=>?_
 obtain ⟨rfl,s3⟩:=r1
 refine mv h9 rfl fun _ h10=>bv h10 (z:=ν ((j / 4:Nat):Int)) rfl (Ab9 _ _ _ (by decide) (YR _) ω ω) fun _ h11=>so (wn rfl) fun _ hK6=>Fj h11 rfl rfl s3 1 rfl ht (by rw [Az];exact ht) rfl rfl (cs':=[Ab g2 109 [.string ⟨#[]⟩,ν 0],Ab g1 111 (Am (Ev t (j:Int) ⟨⟨#[]⟩,0⟩)),Ab g4 25 (Ak x),Ab mx 99 [π K.tg],txP K ta tc M P,Ch.many R]) rfl fun _ w5 h12 s4 _=>hK6 _ _ ?_
 refine mv h12 rfl fun _ h13=>h13.sn [13,12,11,9,8,0,1,2,3,4,5] rfl fun h14=>hK5 _ _<|sq fun _ hK7=>sqr fun _ hK8=>sw1 h14 rfl (v:=.agg ((Am (Ev t (j:Int) ⟨⟨#[]⟩,0⟩)).toArray)) (rld h14 rfl rfl (Fb υ111 (s4.get 1 rfl:Blk _ _ _ _) (by rw [Az];exact ht))) fun _ h15=>mv h15 rfl fun _ h16=>cl h16 rfl (cF func156) (Abj s4 (by rw [Az];exact ht) hu) fun _ v2 w6 r2 h17=>?_
 obtain ⟨rfl,s5⟩:=r2
 refine mv h17 rfl fun _ h18=>h18.sn [26,13,12,11,9,8,0,1,2,3,4,5] rfl fun h19=>hK8 _ _<|wcT h19 rfl rfl<|h19.sk [13,12,11,9,8,0,1,2,3,4,5] rfl fun h20=>sq fun _ hK9=>?_
 have s6:=s5.drew
 refine wp_region_held_drew (S:=fun w'=>Sep w' [Ab g2 109 [.string ⟨#[]⟩,ν 0],Ab g1 111 (Am (Ev t (j:Int) ⟨⟨#[]⟩,0⟩)),Ab g4 25 (Ak x),Ab mx 99 [π K.tg],Ch.many R]) κ (s6.pk [0,1,2,3,5] rfl) (fun hq1=>?_)
 refine tv1 hq1 h20 0 rfl rfl (v:=π mx) (fun w1 _=>(Au h20 rfl rfl) w1) fun _ h21=>?_
 refine tv1 hq1 h21 1 rfl rfl (v:=π mx) (fun w1 _=>(Au h21 rfl rfl) w1) fun _ h22=>?_
 refine tv1 hq1 h22 3 rfl rfl (v:=ν ((j / 4:Nat):Int)) (fun w1 _=>(Au h22 rfl rfl) w1) fun _ h23=>?_
 refine tv1 hq1 h23 4 rfl rfl (v:=.pointer (some ⟨g4,3,none⟩)) (fun w1 _=>(rfa h23 rfl rfl (fQ 3)) w1) fun _ h24=>?_
 refine tv1 hq1 h24 5 rfl rfl (v:=.pointer (some ⟨g4,3+(j / 4),none⟩)) (fun w1 _=>(Bq h24 rfl rfl rfl (fun w=>Oj g4 (j / 4) ω ω w)) w1) fun _ h25=>?_
 refine tv1 hq1 h25 6 rfl rfl (v:=ν (x.blk (j / 4))) (fun w1 hSw=>(rld h25 rfl rfl (ldB υ3 rfl (hSw.get 2 rfl:Blk _ _ _ _) (EW x ω)))) fun _ h26=>?_
 refine to_ 2 rfl (wn rfl) κ fun _ hK10=>Be h26 rfl rfl rfl (xs:=[.tmp 28]) rfl (cF func11) rfl (vs:=[π mx]) rfl (args:=#[π mx]) rfl (Tu (s6.pk [3,4,0,1,2,5] rfl) hM) fun _ v3 w8 r3 h27=>?_
 obtain ⟨rfl,s7⟩:=r3
 refine hK10 _ _ (s7.pk [2,3,4,0,5] rfl) fun hq2=>?_
 refine to_ 7 rfl (wn rfl) κ fun _ hK11=>Be h27 rfl rfl rfl (xs:=[.tmp 29,.tmp 33]) rfl (cF func157) rfl (vs:=[.agg (Ai (Ar M P)),ν (x.blk (j / 4))]) rfl (args:=#[.agg (Ai (Ar M P)),ν (x.blk (j / 4))]) rfl (AS s7 (Pu (Ar M P) (x.blk (j / 4)) _ (Ca _ (by first | rfl | simp only [AT,Ay,Ar,AJ])) ω)) fun _ v4 w9 r4 h28=>?_
 obtain ⟨rfl,s9⟩:=r4
 refine hK11 _ _ (s9.pk [2,3,4,0,5] rfl) fun hq3=>?_
 refine to_ 8 rfl (wn rfl) κ fun _ hK12=>Be h28 rfl rfl rfl (xs:=[.tmp 27,.tmp 34]) rfl (cF func10) rfl (vs:=[π mx,.agg (Ai (CN (Ar M P) (x.blk (j / 4))))]) rfl (args:=#[π mx,.agg (Ai (CN (Ar M P) (x.blk (j / 4))))]) rfl (Gg (xs:=(CN (Ar M P) (x.blk (j / 4)))) s9 hM (Ca _ (by first | rfl | simp only [AT,Ay,Ar,AJ]))) fun _ v5 w10 r5 h29=>?_
 obtain ⟨tax106,tcx107,rfl,s10⟩:=r5
 refine hK12 _ _ (s10.pk [2,3,4,0,5] rfl) fun hq4=>?_
 refine tv1 hq4 h29 9 rfl rfl (v:=ν (stE M P 3 0 16)) (fun w1 _=>(BH h29 rfl rfl) w1) fun _ h30=>?_
 refine h30.sk [14,13,12,11,9,8,0,1,2,3,4,5] rfl fun h31=>?_
 refine wpAnyH_done κ ?_ _
 refine hK9 _ _ ?_
 refine sqr fun _ hK13=>mv h31 rfl fun _ h32=>fav h32 rfl (fQ 3) fun _ h33=>sv1 h33 rfl (v:=.pointer (some ⟨g4,3+(j / 4),none⟩)) (Bq h33 rfl rfl rfl (fun w=>Oj g4 (j / 4) ω ω w)) fun _ h34=>so (wn rfl) fun _ hK14=>FN h34 rfl rfl s10 4 rfl rfl rfl [ν 0] rfl κ rfl (by show 3+(j / 4)+1≤15;omega) (L':=Ak (x.setB (j / 4) 0)) (Np x ω) (cs':=[Ab mx 99 [π K.tg],txP K tax106 tcx107 M (stP M P 3 0 (CN (Ar M P) (x.blk (j / 4)))),Ab g2 109 [.string ⟨#[]⟩,ν 0],Ab g1 111 (Am (Ev t (j:Int) ⟨⟨#[]⟩,0⟩)),Ab g4 25 (Ak (x.setB (j / 4) 0)),Ch.many R]) rfl fun _ w11 h35 s11 _=>hK14 _ _ ?_
 refine h35.sn [14,13,12,11,9,8,0,1,2,3,4,5] rfl fun h36=>hK13 _ _<|sqr fun _ hK15=>mvs 3 h36 rfl fun _ h37=>sw1 h37 rfl (v:=.agg (Ak (x.setB (j / 4) 0)).toArray) (rld h37 rfl rfl (ldA υ25 rfl (n:=15) κ (s11.get 4 rfl:Blk _ _ _ _) rfl rfl)) fun _ h38=>cl h38 rfl (cF func9) (Dp (i:=p) (x:=(x.setB (j / 4) 0)) s11 hM) fun _ v6 w12 r6 h39=>?_
 obtain ⟨tax141,tcx142,rfl,s12⟩:=r6
 refine so (wn rfl) fun _ hK16=>CB h39 rfl rfl rfl (E:=31) (xs:=[(0,.tmp 39),(1,.tmp 43)]) rfl (vs:=[(0,ν (stE M P 3 0 16)),(1,ν (BC M (stP M P 3 0 (CN (Ar M P) (x.blk (j / 4)))) p (x.setB (j / 4) 0)))]) rfl (z:=[ν (stE M P 3 0 16),ν (BC M (stP M P 3 0 (CN (Ar M P) (x.blk (j / 4)))) p (x.setB (j / 4) 0))]) (fun _=>κ) s12 fun _ g3 w13 h40 s13 _ _=>hK16 _ _ ?_
 refine cl h40 rfl (cF func38) (CI (L:=[stE M P 3 0 16,BC M (stP M P 3 0 (CN (Ar M P) (x.blk (j / 4)))) p (x.setB (j / 4) 0)]) s13 (Nat.le_of_ble_eq_true rfl)) fun _ v7 w14 r7 h41=>?_
 obtain ⟨rfl,s14⟩:=r7
 refine h41.sk [45,44,43,42,41,40,39,14,13,11,9,8,0,1,2,3,4,5] rfl fun h42=>mv h42 rfl fun _ h43=>h43.sn [12,14,13,11,9,8,0,1,2,3,4,5] rfl fun h44=>hK15 _ _<|wp_ret ?_
 try simp only [Exit.then,Exit.inBlock]
 refine By (v:=ν (AC [stE M P 3 0 16,BC M (stP M P 3 0 (CN (Ar M P) (x.blk (j / 4)))) p (x.setB (j / 4) 0)])) (Cx h44 rfl rfl) h44.defs ?_
 exact ⟨tax141,tcx142,rfl,Sep.tail_un (xs:=[_,_]) (s14.pk [1,2,6] rfl)⟩
theorem Ym {w:World} {R:List Ch} {mx:Nat} {K:VolK} {ta:Ω} {tc:Nat} {M:MemM} {P:List PtM} {p:Int} {x:InoT} {t:List EntT} {j:Nat} {nm:ByteArray} (hS0:Sep w ([Ab mx 99 [π K.tg],txP K ta tc M P]++R)) (hM:M.V.length=23168) (hs:nm.size≤1000) (hd:Bl M P p=x∧GS M P p=t∧Pf M P p=0) (ht:t.length=16) (hj:j<16) (hx:0≤x.s∧x.s≤1000) (hf:AQ t nm=(j:Int)) (hbk:0≤(GR x).blk (j / 4)∧(GR x).blk (j / 4)≤1000) (hu:Gi (Ev t (j:Int) ⟨⟨#[]⟩,0⟩) (((j / 4:Nat):Nat):Int)=false) :
  CallsR prog 103 #[π mx,ν p,.string nm] w (fun v w'=>∃ ta' tc',v=ν (Yl M P p (GR x) j)∧Sep w' ([Ab mx 99 [π K.tg],txP K ta' tc' M (Sm M P p (GR x) j)]++R)):=by
 have hS:Sep w [Ab mx 99 [π K.tg],txP K ta tc M P,Ch.many R]:=Sep.tail_many (xs:=[_,_]) hS0;clear hS0
 refine AG func103 rfl (N:=37) ntmps103 (by show 3≤37;decide) [(0,π mx),(1,ν p),(2,.string nm)] rfl fun _ h1=>sqr fun _ hK3=>mv h1 rfl fun _ h4=>wpList_nil<|hK3 _ _<|sqr fun _ hK6=>mvs 2 h4 rfl fun _ h9=>cl h9 rfl (cF func126) (NX hS hM hd) fun _ v1 w1 r1 h2=>?_
 obtain ⟨rfl,s1⟩:=r1
 refine mvs 4 h2 rfl fun _ h3=>so (wn rfl) fun _ hK1=>AH h3 rfl rfl rfl rfl (z:=[ν 0,ν 0,ν 0,ν 0,ν 0,ν 0,ν 0,ν 0,ν 0,ν 0,ν 0,ν 0,ν 0,ν 0,ν 0]) (fun _=>rfl) s1 fun _ g1 w2 h5 s2 _ _=>hK1 _ _ ?_
 refine so (wn rfl) fun _ hK2=>AH h5 rfl rfl rfl rfl (z:=Am AB) (fun _=>rfl) s2 fun _ g2 w3 h6 s3 _ _=>hK2 _ _ ?_
 refine stA h6 s3 1 rfl rfl rfl κ rfl rfl rfl rfl fun _ w4 h7 s4 _=>so (wn rfl) fun _ hK4=>Fj h7 rfl rfl s4 0 rfl Aq ht rfl rfl (cs':=[Ab g2 111 (Am t),Ab g1 25 (Ak x),Ab mx 99 [π K.tg],txP K ta tc M P,Ch.many R]) rfl fun _ w5 h8 s5 _=>hK4 _ _ ?_
 refine mv h8 rfl fun _ h10=>h10.sn [9,8,7,6,0,1,2] rfl fun h11=>hK6 _ _<|sq fun _ hK5=>sqr fun _ hK7=>mv h11 rfl fun _ h12=>bv h12 (z:=.bool false) rfl (cNe _ _ _ _ rfl) fun _ h13=>h13.sn [19,9,8,7,6,0,1,2] rfl fun h14=>hK7 _ _<|wcF h14 rfl rfl<|h14.sk [9,8,7,6,0,1,2] rfl fun h15=>?_
 refine wp_skip<|hK5 _ _<|sqr fun _ hK8=>sw1 h15 rfl (v:=.agg ((Am t).toArray)) (rld h15 rfl rfl (Fb υ111 (s5.get 0 rfl:Blk _ _ _ _) ht)) fun _ h16=>mv h16 rfl fun _ h17=>cl h17 rfl (cF func117) (ZD s5 ht hs hf) fun _ v2 w6 r2 h18=>?_
 obtain ⟨rfl,s6⟩:=r2
 refine mv h18 rfl fun _ h19=>h19.sn [10,9,8,7,6,0,1,2] rfl fun h20=>hK8 _ _<|sq fun _ hK9=>sqr fun _ hK10=>mv h20 rfl fun _ h21=>bv h21 (z:=.bool false) rfl (cLt _ _ _ _ (decide_eq_false ω)) fun _ h22=>h22.sn [25,10,9,8,7,6,0,1,2] rfl fun h23=>hK10 _ _<|wcF h23 rfl rfl<|h23.sk [10,9,8,7,6,0,1,2] rfl fun h24=>?_
 refine wp_skip<|hK9 _ _<|sqr fun _ hK11=>fav h24 rfl (fQ 2) fun _ h25=>ldv h25 s6 1 υ3 rfl rfl rfl rfl fun _ h26=>bv h26 (z:=ν (x.s-1)) rfl (OP _ _ _ ω ω ω) fun _ h27=>fav h27 rfl (fQ 2) fun _ h28=>st1 h28 s6 1 rfl rfl κ rfl rfl rfl rfl fun _ w7 h29 s7 _=>h29.sn [10,9,8,7,6,0,1,2] rfl fun h30=>hK11 _ _<|sq fun _ hK12=>wp_region_lit ?_
 refine mvs 2 h30 rfl fun _ h31=>sw1 h31 rfl (v:=.agg (Ak (⟨x.k,x.l,x.s-1,x.b0,x.b1,x.b2,x.b3,x.o0,x.o1,x.o2,x.o3,x.o4,x.o5,x.o6,x.o7⟩:InoT)).toArray) (rld h31 rfl rfl (ldA υ25 rfl (n:=15) κ (s7.get 1 rfl:Blk _ _ _ _) rfl rfl)) fun _ h32=>sw1 h32 rfl (v:=.agg ((Am t).toArray)) (rld h32 rfl rfl (Fb υ111 (s7.get 0 rfl:Blk _ _ _ _) ht)) fun _ h33=>mv h33 rfl fun _ h34=>bu h34 (v:=.agg #[σ [],ν 0]) rfl (fun w=>κ) fun _ h35=>cl h35 rfl (cF func128) (Qr (p:=p) (x:=GR x) (t:=t) (j:=j) (s7.pk [2,3,0,1,4] rfl) hM ht hj hbk hu) fun _ v3 w8 r3 h36=>?_
 obtain ⟨tax117,tcx118,rfl,s8⟩:=r3
 refine h36.sk [36,35,34,33,32,31,30,10,9,8,7,0,1,2] rfl fun h37=>mv h37 rfl fun _ h38=>h38.sn [6,10,9,8,7,0,1,2] rfl fun h39=>hK12 _ _<|wp_ret ?_
 try simp only [Exit.then,Exit.inBlock]
 refine By (v:=ν (Yl M P p (GR x) j)) (Cx h39 rfl rfl) h39.defs ?_
 exact ⟨tax117,tcx118,rfl,Sep.tail_un (xs:=[_,_]) (s8.pk [0,1,4] rfl)⟩
theorem YU {w:World} {R:List Ch} {mx:Nat} {K:VolK} {ta:Ω} {tc:Nat} {M:MemM} {P:List PtM} {i p E1 E2:Int} {X:Λ} {nm:ByteArray} {P1 P2:List PtM} (hS0:Sep w ([Ab mx 99 [π K.tg],txP K ta tc M P]++R)) (hM:M.V.length=23168) (hX:X.length≤1000) (hw:AL M P X=(i,0)) (hpl:Eb M P X=(p,nm,0)) (hrem:∀ {w:World} {R:List Ch} {ta:Ω} {tc:Nat},Sep w ([Ab mx 99 [π K.tg],txP K ta tc M P]++R)→CallsR prog 103 #[π mx,ν p,.string nm] w (fun v w'=>∃ ta' tc',v=ν E1∧Sep w' ([Ab mx 99 [π K.tg],txP K ta' tc' M P1]++R))) (hlos:∀ {w:World} {R:List Ch} {ta:Ω} {tc:Nat},Sep w ([Ab mx 99 [π K.tg],txP K ta tc M P1]++R)→CallsR prog 73 #[π mx,ν i] w (fun v w'=>∃ ta' tc',v=ν E2∧Sep w' ([Ab mx 99 [π K.tg],txP K ta' tc' M P2]++R)))  :
  CallsR prog 72 #[π mx,σ X,.func (.func 73) #[π mx] #[]] w (fun v w'=>∃ ta' tc',v=ν (AC [E1,E2])∧Sep w' ([Ab mx 99 [π K.tg],txP K ta' tc' M P2]++R)):=by
 have hS:Sep w [Ab mx 99 [π K.tg],txP K ta tc M P,Ch.many R]:=Sep.tail_many (xs:=[_,_]) hS0;clear hS0
 refine AG func72 rfl (N:=39) ntmps72 (by show 3≤39;decide) [(0,π mx),(1,σ X),(2,.func (.func 73) #[π mx] #[])] rfl fun _ h1=>sqr fun _ hK3=>mv h1 rfl fun _ h4=>wpList_nil<|hK3 _ _<|sqr fun _ hK6=>mvs 2 h4 rfl fun _ h9=>cl h9 rfl (cF func53) (NS hS hM hX hw) fun _ v1 w1 r1 h2=>?_
 obtain ⟨rfl,s1⟩:=r1
 refine mvs 5 h2 rfl fun _ h3=>h3.sn [8,7,6,0,1,2] rfl fun h5=>hK6 _ _<|sq fun _ hK1=>sqr fun _ hK2=>mv h5 rfl fun _ h6=>bv h6 (z:=.bool false) rfl (cNe _ _ _ _ rfl) fun _ h7=>h7.sn [18,8,7,6,0,1,2] rfl fun h8=>hK2 _ _<|wcF h8 rfl rfl<|h8.sk [8,7,6,0,1,2] rfl fun h10=>?_
 refine wp_skip<|hK1 _ _<|sqr fun _ hK4=>mvs 2 h10 rfl fun _ h11=>cl h11 rfl (cF func67) (LV s1 hM hX hpl) fun _ v2 w2 r2 h12=>?_
 obtain ⟨rfl,s2⟩:=r2
 refine mvs 6 h12 rfl fun _ h13=>h13.sk [10,9,26,25,24,20,23,22,21,7,6,0,1,2] rfl fun h14=>mv h14 rfl fun _ h15=>h15.sn [8,10,9,7,6,0,1,2] rfl fun h16=>hK4 _ _<|sq fun _ hK5=>sqr fun _ hK7=>mv h16 rfl fun _ h17=>bv h17 (z:=.bool false) rfl (cNe _ _ _ _ rfl) fun _ h18=>h18.sn [28,8,10,9,7,6,0,1,2] rfl fun h19=>hK7 _ _ ?_
 refine wcF h19 rfl rfl<|h19.sk [8,10,9,7,6,0,1,2] rfl fun h20=>wp_skip<|hK5 _ _<|sqr fun _ hK8=>mvs 3 h20 rfl fun _ h21=>cl h21 rfl (cF func103) (hrem s2) fun _ v3 w3 r3 h22=>?_
 obtain ⟨tax80,tcx81,rfl,s3⟩:=r3
 refine mvs 2 h22 rfl fun _ h23=>cl h23 rfl (cF func73) (hlos s3) fun _ v4 w4 r4 h24=>?_
 obtain ⟨tax93,tcx94,rfl,s4⟩:=r4
 refine so (wn rfl) fun _ hK9=>CB h24 rfl rfl rfl (E:=31) (xs:=[(0,.tmp 33),(1,.tmp 36)]) rfl (vs:=[(0,ν E1),(1,ν E2)]) rfl (z:=[ν E1,ν E2]) (fun _=>κ) s4 fun _ g1 w5 h25 s5 _ _=>hK9 _ _ ?_
 refine cl h25 rfl (cF func38) (CI (L:=[E1,E2]) s5 (Nat.le_of_ble_eq_true rfl)) fun _ v5 w6 r5 h26=>?_
 obtain ⟨rfl,s6⟩:=r5
 refine h26.sk [38,37,36,35,34,33,32,31,30,8,10,9,7,0,1,2] rfl fun h27=>mv h27 rfl fun _ h28=>h28.sn [6,8,10,9,7,0,1,2] rfl fun h29=>hK8 _ _<|wp_ret ?_
 try simp only [Exit.then,Exit.inBlock]
 refine By (v:=ν (AC [E1,E2])) (Cx h29 rfl rfl) h29.defs ?_
 exact ⟨tax93,tcx94,rfl,Sep.tail_un (xs:=[_,_]) (s6.pk [1,2,3] rfl)⟩
theorem YT {w:World} {R:List Ch} {mx:Nat} {K:VolK} {ta:Ω} {tc:Nat} {M:MemM} {P:List PtM} {i p E1 E2:Int} {x:InoT} {X:Λ} {nm:ByteArray} {P1 P2:List PtM} (hS0:Sep w ([Ab mx 99 [π K.tg],txP K ta tc M P]++R)) (hM:M.V.length=23168) (hX:X.length≤1000) (hr:(Fw X).isSome=true) (hnd:Ey M P X=(i,x,0)) (hxk:x.k=1) (hw:AL M P X=(i,0)) (hpl:Eb M P X=(p,nm,0)) (hrem:∀ {w:World} {R:List Ch} {ta:Ω} {tc:Nat},Sep w ([Ab mx 99 [π K.tg],txP K ta tc M P]++R)→CallsR prog 103 #[π mx,ν p,.string nm] w (fun v w'=>∃ ta' tc',v=ν E1∧Sep w' ([Ab mx 99 [π K.tg],txP K ta' tc' M P1]++R))) (hlos:∀ {w:World} {R:List Ch} {ta:Ω} {tc:Nat},Sep w ([Ab mx 99 [π K.tg],txP K ta tc M P1]++R)→CallsR prog 73 #[π mx,ν i] w (fun v w'=>∃ ta' tc',v=ν E2∧Sep w' ([Ab mx 99 [π K.tg],txP K ta' tc' M P2]++R)))  :
  CallsR prog 36 #[π mx,σ X] w (fun v w'=>∃ ta' tc',v=ν (AC [E1,E2])∧Sep w' ([Ab mx 99 [π K.tg],txP K ta' tc' M P2]++R)):=by
 have hS:Sep w [Ab mx 99 [π K.tg],txP K ta tc M P,Ch.many R]:=Sep.tail_many (xs:=[_,_]) hS0;clear hS0
 refine AG func36 rfl (N:=28) ntmps36 (by show 2≤28;decide) [(0,π mx),(1,σ X)] rfl fun _ h1=>sqr fun _ hK3=>mv h1 rfl fun _ h4=>wpList_nil<|hK3 _ _<|sq fun _ hK6=>sqr fun _ hK7=>mv h4 rfl fun _ h8=>cl h8 rfl (cF func66) (Nr hS hX hr) fun _ v1 w1 r1 h2=>?_
 obtain ⟨rfl,s1⟩:=r1
 refine h2.sn [9,4,0,1] rfl fun h3=>hK7 _ _<|wcF h3 rfl rfl<|h3.sk [4,0,1] rfl fun h5=>wp_skip<|hK6 _ _<|sqr fun _ hK1=>mvs 2 h5 rfl fun _ h6=>cl h6 rfl (cF func70) (Tx s1 hM hX hnd) fun _ v2 w2 r2 h7=>?_
 obtain ⟨rfl,s2⟩:=r2
 refine mvs 4 h7 rfl fun _ h9=>so (wn rfl) fun _ hK2=>AH h9 rfl rfl rfl rfl (z:=[ν 0,ν 0,ν 0,ν 0,ν 0,ν 0,ν 0,ν 0,ν 0,ν 0,ν 0,ν 0,ν 0,ν 0,ν 0]) (fun _=>rfl) s2 fun _ g1 w3 h10 s3 _ _=>hK2 _ _ ?_
 refine mv h10 rfl fun _ h11=>stA h11 s3 0 rfl rfl rfl κ rfl rfl rfl rfl fun _ w4 h12 s4 _=>mv h12 rfl fun _ h13=>h13.sn [7,6,4,0,1] rfl fun h14=>hK1 _ _<|sq fun _ hK4=>sqr fun _ hK5=>mv h14 rfl fun _ h15=>bv h15 (z:=.bool false) rfl (cNe _ _ _ _ rfl) fun _ h16=>h16.sn [18,7,6,4,0,1] rfl fun h17=>hK5 _ _ ?_
 refine wcF h17 rfl rfl<|h17.sk [7,6,4,0,1] rfl fun h18=>wp_skip<|hK4 _ _<|sq fun _ hK8=>sqr fun _ hK9=>fav h18 rfl (fQ 0) fun _ h19=>ldv h19 s4 0 υ3 rfl rfl rfl rfl fun _ h20=>bv h20 (z:=.bool false) rfl (cEq _ _ _ _ (decide_eq_false ω)) fun _ h21=>h21.sn [22,7,6,4,0,1] rfl fun h22=>hK9 _ _<|wcF h22 rfl rfl ?_
 refine h22.sk [7,6,4,0,1] rfl fun h23=>wp_skip<|hK8 _ _<|sqr fun _ hK10=>mvs 3 h23 rfl fun _ h24=>sv1 h24 rfl (v:=.func (.func 73) #[π mx] #[]) (Aey h24 (xs:=[.tmp 25]) (ys:=[]) rfl (vs:=[π mx]) (us:=[]) rfl rfl) fun _ h25=>cl h25 rfl (cF func72) (YU (s4.pk [1,2,0,3] rfl) hM hX hw hpl hrem hlos) fun _ v3 w5 r3 h26=>?_
 obtain ⟨tax85,tcx86,rfl,s5⟩:=r3
 refine h26.sk [27,26,25,24,23,7,6,0,1] rfl fun h27=>mv h27 rfl fun _ h28=>h28.sn [4,7,6,0,1] rfl fun h29=>hK10 _ _<|wp_ret ?_
 try simp only [Exit.then,Exit.inBlock]
 refine By (v:=ν (AC [E1,E2])) (Cx h29 rfl rfl) h29.defs ?_
 exact ⟨tax85,tcx86,rfl,Sep.tail_un (xs:=[_,_]) (s5.pk [0,1,3] rfl)⟩
theorem Xj {w:World} {R:List Ch} {x:InoT} (hS0:Sep w ([]++R)) :
  CallsR prog 104 #[.agg (Ak x).toArray] w (fun v w'=>v=.bool (GG x)∧Sep w' ([]++R)):=by
 have hS:Sep w [Ch.many R]:=Sep.tail_many (xs:=[]) hS0;clear hS0
 refine AG func104 rfl (N:=16) ntmps104 (by show 1≤16;decide) [(0,.agg (Ak x).toArray)] rfl fun _ h1=>sqr fun _ hK3=>so (wn rfl) fun _ hK1=>Gk h1 rfl rfl rfl rfl rfl (z:=(Ak x)) rfl hS fun _ g4 w7 h5 s8 _ _=>hK1 _ _ ?_
 refine mv h5 rfl fun _ h2=>wpList_nil<|hK3 _ _<|sqr fun _ hK2=>fav h2 rfl (fQ 0) fun _ h3=>ldv h3 s8 0 υ3 rfl rfl rfl rfl fun _ h4=>bv h4 (z:=.bool (decide (x.k=1))) rfl (cEq _ _ _ _ rfl) fun _ h6=>mv h6 rfl fun _ h7=>sg h7 (wT h7 rfl rfl rfl) rfl rfl rfl (v:=.pointer (some ⟨g4,1,none⟩)) (fun hC1=>by have hq:=(dT hC1);exact rfa h7 rfl rfl (fQ 1) _) fun _ h8=>sg h8 (wT h8 rfl rfl rfl) rfl rfl rfl (v:=ν x.l) (fun hC2=>by have hq:=(dT hC2);exact (rld h8 rfl (opg rfl hC2) (ldB υ3 rfl (s8.get 0 rfl:Blk _ _ _ _) rfl))) fun _ h9=>sg h9 (wT h9 rfl rfl rfl) rfl rfl rfl (v:=.bool (decide (x.l=0))) (fun hC3=>by have hq:=(dT hC3);exact BR h9 rfl (opg rfl hC3) rfl (cEq _ _ _ _ rfl) _) fun _ h10=>?_
 refine sv1 h10 rfl (v:=.bool ((decide (x.k=1))&&(decide (x.l=0)))) (OE h10 rfl (E:=(decide (x.k=1))) (F:=(decide (x.l=0))) rfl rfl rfl (fun e=>if_pos (by rw [e];try rfl))) fun _ h11=>mv h11 rfl fun _ h12=>sg h12 (wT h12 rfl rfl rfl) rfl rfl rfl (v:=.agg (Ak x).toArray) (fun hC4=>by have hq:=(And.intro (dT (ON hC4).1) (dT (ON hC4).2));exact (rld h12 rfl rfl (ldA υ25 rfl (n:=15) κ (s8.get 0 rfl:Blk _ _ _ _) rfl rfl))) fun _ h13=>?_
 rcases bC ((decide (x.k=1))&&(decide (x.l=0))) with hc1 | hc1
 ·skip
  have hp1:(x.k=1)∧(x.l=0):=(And.intro (dT (ON hc1).1) (dT (ON hc1).2))
  refine so ((wT h13 rfl rfl rfl).trans hc1) fun _ hK4=>Be h13 rfl rfl rfl (xs:=[.tmp 12]) rfl (cF func56) rfl (vs:=[.agg (Ak x).toArray]) (Abv (opg rfl hc1) rfl) (args:=#[.agg (Ak x).toArray]) rfl (AS s8 (XQ x _)) fun _ v1 w1 r1 h14=>hK4 _ _ ?_
  obtain ⟨rfl,s1⟩:=r1
  refine sv h14 ((wT h14 rfl rfl rfl).trans hc1) rfl rfl rfl (v:=.bool (decide (Nw x=0))) (BR h14 rfl rfl rfl (cEq _ _ _ _ rfl)) fun _ h15=>sv1 h15 rfl (v:=.bool (decide (Nw x=0))) (Mm h15 rfl (E:=((decide (x.k=1))&&(decide (x.l=0)))) (b:=true) rfl hc1 rfl) fun _ h16=>h16.sk [15,14,13,12,11,10,9,8,7,6,5,4,3,1,0] rfl fun h17=>mv h17 rfl fun _ h18=>h18.sn [2,1,0] rfl fun h19=>hK2 _ _<|wp_ret ?_
  try simp only [Exit.then,Exit.inBlock]
  refine By (v:=.bool (decide (Nw x=0))) (Cx h19 rfl rfl) h19.defs ?_
  exact ⟨by first | rfl | (unfold GG;rfl) | (unfold GG;simp_all),Sep.tail_un (xs:=[]) (s1.pk [1] rfl)⟩
 ·skip
  have hp2:(¬ (x.k=1))∨(¬ (x.l=0)):=((Ab5 hc1).imp (fun q=>(dF q)) (fun q=>(dF q)))
  refine su h13 ((wT h13 rfl rfl rfl).trans hc1) rfl rfl rfl fun _ h20=>su h20 ((wT h20 rfl rfl rfl).trans hc1) rfl rfl rfl fun _ h21=>sv1 h21 rfl (v:=.bool false) (Mm h21 rfl (E:=((decide (x.k=1))&&(decide (x.l=0)))) (b:=false) rfl hc1 rfl) fun _ h22=>h22.sk [15,14,13,12,11,10,9,8,7,6,5,4,3,1,0] rfl fun h23=>mv h23 rfl fun _ h24=>h24.sn [2,1,0] rfl fun h25=>hK2 _ _<|wp_ret ?_
  try simp only [Exit.then,Exit.inBlock]
  refine By (v:=.bool false) (Cx h25 rfl rfl) h25.defs ?_
  exact ⟨by first | rfl | (unfold GG;rfl) | (unfold GG;simp_all),Sep.tail_un (xs:=[]) (s8.pk [1] rfl)⟩
theorem Tp {w:World} {R:List Ch} (hS:Sep w R) {x:InoT} {b:Bool} (h:GG x=b):CallsR prog 104 #[.agg (Ak x).toArray] w (fun v w'=>v=.bool b∧Sep w' R):=by
 rw [← h];exact Xj (R:=R) hS
theorem VP {w:World} {R:List Ch} {xs:Λ} {x:InoT} (hS0:Sep w ([]++R)) (h2:xs.length=16) (hb:RZ x) :
  CallsR prog 129 #[.agg (Ai xs),.agg (Ak x).toArray] w (fun v w'=>v=.agg (Ai (woX xs x 4))∧Sep w' ([]++R)):=by
 have hS:Sep w [Ch.many R]:=Sep.tail_many (xs:=[]) hS0;clear hS0
 obtain ⟨⟨hb0,hb0'⟩,⟨hb1,hb1'⟩,⟨hb2,hb2'⟩,⟨hb3,hb3'⟩⟩:=id hb
 refine AG func129 rfl (N:=17) ntmps129 (by show 2≤17;decide) [(0,.agg (Ai xs)),(1,.agg (Ak x).toArray)] rfl fun _ h1=>sqr fun _ hK3=>so (wn rfl) fun _ hK1=>Gk h1 rfl rfl rfl rfl rfl (z:=(xs).map Ac) rfl hS fun _ g4 w7 h5 s8 _ _=>hK1 _ _ ?_
 refine so (wn rfl) fun _ hK2=>Gk h5 rfl rfl rfl rfl rfl (z:=(Ak x)) rfl s8 fun _ g1 w1 h3 s1 _ _=>hK2 _ _ ?_
 refine so (wn rfl) fun _ hK4=>AH h3 rfl rfl rfl rfl (z:=(Aj).map Ac) (fun _=>rfl) s1 fun _ g2 w2 h4 s2 _ _=>hK4 _ _ ?_
 refine wpList_nil<|hK3 _ _<|sq fun _ hK5=>sqr fun _ hK6=>fav h4 rfl (fQ 3) fun _ h6=>sw1 h6 rfl (v:=.agg #[ν x.b0,ν x.b1,ν x.b2,ν x.b3]) (rld h6 rfl rfl (ldA υ22 rfl (n:=4) κ (s2.get 1 rfl:Blk _ _ _ _) rfl rfl)) fun _ h7=>mv h7 rfl fun _ h8=>h8.sn [9,8,4,3,2,0,1] rfl fun h9=>hK6 _ _<|wp_block ?_
 refine CF (fun (k:Nat) a' w'=>Kn 17 [(9,ν (k:Int)),(8,.agg #[ν x.b0,ν x.b1,ν x.b2,ν x.b3]),(4,π g2),(3,π g1),(2,π g4),(0,.agg (Ai xs)),(1,.agg (Ak x).toArray)] a'∧Sep w' [Ab g2 27 ((Aj).map Ac),Ab g1 25 (Ak x),Ab g4 27 ((woX xs x k).map Ac),Ch.many R]∧(k≤4)) (fun (k:Nat)=>4-k) 0 ⟨h9.subs rfl,s2,Nat.zero_le _⟩ ?_
 rintro k1 a1 w3 ⟨h10,s3,hk42⟩ K1 hK7
 refine sqr fun _ hK8=>bv h10 (z:=.bool (decide ((k1:Int)<4))) rfl (cLt _ _ _ _ rfl) fun _ h11=>wpList_nil<|hK8 _ _<|sq fun _ hK9=>?_
 rcases bC (decide ((k1:Int)<4)) with hc1 | hc1
 ·skip
  have hp1:(k1:Int)<4:=(dT hc1)
  refine wcT h11 rfl hc1<|h11.sk [9,8,4,3,2,0,1] rfl fun h12=>wp_skip<|hK9 _ _<|sq fun _ hK10=>wp_block ?_
  refine sqr fun _ hK11=>sv1 h12 rfl (v:=ν (x.blk k1)) (Jp h12 rfl rfl rfl (xs:=[x.b0,x.b1,x.b2,x.b3]) rfl υ22 rfl rfl rfl (by show _<4;omega)) fun _ h13=>mv h13 rfl fun _ h14=>h14.sn [6,9,8,4,3,2,0,1] rfl fun h15=>hK11 _ _<|wp_region_lit<|sw1 h15 rfl (v:=.agg (Ai (woX xs x k1))) (rld h15 rfl rfl (Il υ27 (s3.get 2 rfl:Blk _ _ _ _) (Ca _ (by first | exact h2 | rfl | (rw [Cf];exact h2) | (rw [Ay,Cf];exact h2))))) fun _ h16=>mv h16 rfl fun _ h17=>cl h17 rfl (cF func157) (AS s3 (Pu (woX xs x k1) (x.blk k1) _ (Ca _ (by first | exact h2 | rfl | (rw [Cf];exact h2) | (rw [Ay,Cf];exact h2))) (Abn hb ω))) fun _ v1 w4 r1 h18=>?_
  obtain ⟨rfl,s4⟩:=r1
  refine so (wn rfl) fun _ hK12=>Mz h18 rfl rfl s4 2 rfl (Ca _ (by first | exact h2 | rfl | (rw [Cf];exact h2) | (rw [Ay,Cf];exact h2))) (Ca _ (by first | exact h2 | rfl | (rw [Cf];exact h2) | (rw [Ay,Cf];exact h2))) rfl rfl (cs':=[Ab g2 27 ((Aj).map Ac),Ab g1 25 (Ak x),Ab g4 27 (((CN (woX xs x k1) (x.blk k1))).map Ac),Ch.many R]) rfl fun _ w5 h19 s5 _=>hK12 _ _ ?_
  refine h19.sn [6,9,8,4,3,2,0,1] rfl fun h20=>hK10 _ _<|wp_region_lit<|bv h20 (z:=ν ((k1+1:Nat):Int)) rfl (DE _ _ _ ω ω ω) fun _ h21=>h21.sk [15,6,8,4,3,2,0,1] rfl fun h22=>mv h22 rfl fun _ h23=>h23.sk [9,6,8,4,3,2,0,1] rfl fun h24=>wpList_nil ?_
  exact hK7 (k1+1) _ _ ⟨h24.subs rfl,(show Sep _ [Ab g2 27 ((Aj).map Ac),Ab g1 25 (Ak x),Ab g4 27 ((woX xs x (k1+1)).map Ac),Ch.many R] from s5),ω⟩ ω
 ·skip
  have hp2:¬ ((k1:Int)<4):=(dF hc1)
  refine wcF h11 rfl hc1<|h11.sk [9,8,4,3,2,0,1] rfl fun h25=>wp_exit ?_
  refine hK5 _ _ ?_
  refine sqr fun _ hK13=>sw1 h25 rfl (v:=.agg (Ai (woX xs x k1))) (rld h25 rfl rfl (Il υ27 (s3.get 2 rfl:Blk _ _ _ _) (Ca _ (by first | exact h2 | rfl | (rw [Cf];exact h2) | (rw [Ay,Cf];exact h2))))) fun _ h26=>so (wn rfl) fun _ hK14=>Mz h26 rfl rfl s3 0 rfl (Ca _ (by first | exact h2 | rfl | (rw [Cf];exact h2) | (rw [Ay,Cf];exact h2))) (Ca _ (by first | exact h2 | rfl | (rw [Cf];exact h2) | (rw [Ay,Cf];exact h2))) rfl rfl (cs':=[Ab g2 27 (((woX xs x k1)).map Ac),Ab g1 25 (Ak x),Ab g4 27 ((woX xs x k1).map Ac),Ch.many R]) rfl fun _ w6 h27 s6 _=>hK14 _ _ ?_
  refine h27.sn [9,8,4,3,2,0,1] rfl fun h28=>hK13 _ _<|wp_ret ?_
  try simp only [Exit.then,Exit.inBlock]
  refine GI (v:=.agg (Ai (woX xs x k1))) (Yo h28 rfl rfl (s6.get 0 rfl:Blk _ _ _ _) υ27 (Ca _ (by first | exact h2 | rfl | (rw [Cf];exact h2) | (rw [Ay,Cf];exact h2)))) h28.defs ?_
  obtain rfl:k1=4:=ω
  exact ⟨rfl,Sep.tail_un (xs:=[]) (s6.pk [3] rfl)⟩
theorem Aci {w:World} {R:List Ch} {mx:Nat} {K:VolK} {ta:Ω} {tc:Nat} {M:MemM} {P:List PtM} {i:Int} {x:InoT} (hS0:Sep w ([Ab mx 99 [π K.tg],txP K ta tc M P]++R)) (hM:M.V.length=23168) (hi:Al M P i=x∧AR M P i=0) (hb:RZ x) :
  CallsR prog 105 #[π mx,ν i] w (fun v w'=>∃ ta' tc',v=ν (Lt M P i)∧Sep w' ([Ab mx 99 [π K.tg],txP K ta' tc' M (Pq M P i x)]++R)):=by
 have hS:Sep w [Ab mx 99 [π K.tg],txP K ta tc M P,Ch.many R]:=Sep.tail_many (xs:=[_,_]) hS0;clear hS0
 refine AG func105 rfl (N:=28) ntmps105 (by show 2≤28;decide) [(0,π mx),(1,ν i)] rfl fun _ h1=>sqr fun _ hK3=>mv h1 rfl fun _ h4=>wpList_nil<|hK3 _ _<|sqr fun _ hK6=>mvs 2 h4 rfl fun _ h9=>cl h9 rfl (cF func8) (Fa hS hM hi) fun _ v1 w2 r1 h2=>?_
 obtain ⟨rfl,s1⟩:=r1
 refine mvs 3 h2 rfl fun _ h3=>so (wn rfl) fun _ hK1=>AH h3 rfl rfl rfl rfl (z:=[ν 0,ν 0,ν 0,ν 0,ν 0,ν 0,ν 0,ν 0,ν 0,ν 0,ν 0,ν 0,ν 0,ν 0,ν 0]) (fun _=>rfl) s1 fun _ g1 w3 h5 s2 _ _=>hK1 _ _ ?_
 refine stA h5 s2 0 rfl rfl rfl κ rfl rfl rfl rfl fun _ w4 h6 s3 _=>mv h6 rfl fun _ h7=>h7.sn [6,5,4,0,1] rfl fun h8=>hK6 _ _<|sq fun _ hK2=>sqr fun _ hK4=>mv h8 rfl fun _ h10=>bv h10 (z:=.bool false) rfl (cNe _ _ _ _ rfl) fun _ h11=>h11.sn [14,6,5,4,0,1] rfl fun h12=>hK4 _ _<|wcF h12 rfl rfl ?_
 refine h12.sk [6,5,4,0,1] rfl fun h13=>wp_skip<|hK2 _ _<|sq fun _ hK5=>?_
 have s4:=s3.drew
 refine wp_region_held_drew (S:=fun w'=>Sep w' [Ab g1 25 (Ak x),Ab mx 99 [π K.tg],Ch.many R]) κ (s4.pk [0,1,3] rfl) (fun hq1=>?_)
 refine tv1 hq1 h13 0 rfl rfl (v:=π mx) (fun w1 _=>(Au h13 rfl rfl) w1) fun _ h14=>?_
 refine tv1 hq1 h14 1 rfl rfl (v:=ν i) (fun w1 _=>(Au h14 rfl rfl) w1) fun _ h15=>?_
 refine tv1 hq1 h15 2 rfl rfl (v:=.agg (Ak AD).toArray) (fun w1 _=>(Sl h15 (xs:=[]) rfl (vs:=[]) rfl (fun w=>κ)) w1) fun _ h16=>?_
 refine tv1 hq1 h16 4 rfl rfl (v:=π mx) (fun w1 _=>(Au h16 rfl rfl) w1) fun _ h17=>?_
 refine tv1 hq1 h17 5 rfl rfl (v:=π mx) (fun w1 _=>(Au h17 rfl rfl) w1) fun _ h18=>?_
 refine tv1 hq1 h18 7 rfl rfl (v:=.agg (Ak x).toArray) (fun w1 hSw=>(rld h18 rfl rfl (ldA υ25 rfl (n:=15) κ (hSw.get 0 rfl:Blk _ _ _ _) rfl rfl))) fun _ h19=>?_
 refine to_ 3 rfl (wn rfl) κ fun _ hK7=>Be h19 rfl rfl rfl (xs:=[.tmp 16,.tmp 17,.tmp 18]) rfl (cF func9) rfl (vs:=[π mx,ν i,.agg (Ak AD).toArray]) rfl (args:=#[π mx,ν i,.agg (Ak AD).toArray]) rfl (Dp (i:=i) (x:=AD) (s4.pk [1,2,0,3] rfl) hM) fun _ v2 w5 r2 h20=>?_
 obtain ⟨tax65,tcx66,rfl,s5⟩:=r2
 refine hK7 _ _ (s5.pk [2,0,3] rfl) fun hq2=>?_
 refine to_ 6 rfl (wn rfl) κ fun _ hK8=>Be h20 rfl rfl rfl (xs:=[.tmp 21]) rfl (cF func11) rfl (vs:=[π mx]) rfl (args:=#[π mx]) rfl (Tu s5 hM) fun _ v3 w6 r3 h21=>?_
 obtain ⟨rfl,s6⟩:=r3
 refine hK8 _ _ (s6.pk [2,0,3] rfl) fun hq3=>?_
 refine to_ 8 rfl (wn rfl) κ fun _ hK9=>Be h21 rfl rfl rfl (xs:=[.tmp 22,.tmp 23]) rfl (cF func129) rfl (vs:=[.agg (Ai (Ar M (BQ M P i AD))),.agg (Ak x).toArray]) rfl (args:=#[.agg (Ai (Ar M (BQ M P i AD))),.agg (Ak x).toArray]) rfl (VP (xs:=(Ar M (BQ M P i AD))) (x:=x) s6 (AJ _) hb) fun _ v4 w7 r4 h22=>?_
 obtain ⟨rfl,s7⟩:=r4
 refine hK9 _ _ (s7.pk [2,0,3] rfl) fun hq4=>?_
 refine to_ 9 rfl (wn rfl) κ fun _ hK10=>Be h22 rfl rfl rfl (xs:=[.tmp 20,.tmp 24]) rfl (cF func10) rfl (vs:=[π mx,.agg (Ai (woX (Ar M (BQ M P i AD)) x 4))]) rfl (args:=#[π mx,.agg (Ai (woX (Ar M (BQ M P i AD)) x 4))]) rfl (Gg (xs:=(woX (Ar M (BQ M P i AD)) x 4)) s7 hM (Ca _ (by rw [Cf];exact AJ _))) fun _ v5 w8 r5 h23=>?_
 obtain ⟨tax91,tcx92,rfl,s8⟩:=r5
 refine hK10 _ _ (s8.pk [2,0,3] rfl) fun hq5=>?_
 refine to_ 10 rfl (wn rfl) κ fun _ hK11=>CB h23 rfl rfl rfl (E:=31) (xs:=[(0,.tmp 19),(1,.tmp 25)]) rfl (vs:=[(0,ν (BC M P i AD)),(1,ν (stE M (BQ M P i AD) 3 0 16))]) rfl (z:=[ν (BC M P i AD),ν (stE M (BQ M P i AD) 3 0 16)]) (fun _=>κ) s8 fun _ g2 w9 h24 s9 _ _=>?_
 refine hK11 _ _ (s9.pk [3,1,4] rfl) fun hq6=>?_
 refine to_ 11 rfl (wn rfl) κ fun _ hK12=>Be h24 rfl rfl rfl (xs:=[.tmp 26]) rfl (cF func38) rfl (vs:=[.slice (some ⟨g2,0,none⟩) 2 2]) rfl (args:=#[.slice (some ⟨g2,0,none⟩) 2 2]) rfl (CI (L:=[BC M P i AD,stE M (BQ M P i AD) 3 0 16]) s9 (Nat.le_of_ble_eq_true rfl)) fun _ v6 w10 r6 h25=>?_
 obtain ⟨rfl,s10⟩:=r6
 refine hK12 _ _ (s10.pk [3,1,4] rfl) fun hq7=>h25.sk [27,26,25,24,22,19,23,21,20,18,17,16,6,5,0,1] rfl fun h26=>?_
 refine tv1 hq7 h26 12 rfl rfl (v:=ν (AC [BC M P i AD,stE M (BQ M P i AD) 3 0 16])) (fun w1 _=>(BH h26 rfl rfl) w1) fun _ h27=>?_
 refine h27.sk [4,6,5,0,1] rfl fun h28=>?_
 refine wpAnyH_done κ ?_ _
 refine hK5 _ _ ?_
 refine wp_ret ?_
 try simp only [Exit.then,Exit.inBlock]
 refine By (v:=ν (AC [BC M P i AD,stE M (BQ M P i AD) 3 0 16])) (Cx h28 rfl rfl) h28.defs ?_
 exact ⟨tax91,tcx92,rfl,Sep.tail_un (xs:=[_,_]) (s10.pk [1,2,4] rfl)⟩
theorem Vx {w:World} {R:List Ch} {mx:Nat} {K:VolK} {ta:Ω} {tc:Nat} {M:MemM} {P:List PtM} {i:Int} {x:InoT} (hS0:Sep w ([Ab mx 99 [π K.tg],txP K ta tc M P]++R)) (hM:M.V.length=23168) (hg:GG x=false) :
  CallsR prog 74 #[π mx,ν i,.agg (Ak x).toArray] w (fun v w'=>∃ ta' tc',v=ν (BC M P i x)∧Sep w' ([Ab mx 99 [π K.tg],txP K ta' tc' M (BQ M P i x)]++R)):=by
 have hS:Sep w [Ab mx 99 [π K.tg],txP K ta tc M P,Ch.many R]:=Sep.tail_many (xs:=[_,_]) hS0;clear hS0
 refine AG func74 rfl (N:=16) ntmps74 (by show 3≤16;decide) [(0,π mx),(1,ν i),(2,.agg (Ak x).toArray)] rfl fun _ h1=>sqr fun _ hK3=>so (wn rfl) fun _ hK1=>Gk h1 rfl rfl rfl rfl rfl (z:=(Ak x)) rfl hS fun _ g4 w7 h5 s8 _ _=>hK1 _ _ ?_
 refine mv h5 rfl fun _ h2=>wpList_nil<|hK3 _ _<|sq fun _ hK2=>sqr fun _ hK4=>sw1 h2 rfl (v:=.agg (Ak x).toArray) (rld h2 rfl rfl (ldA υ25 rfl (n:=15) κ (s8.get 0 rfl:Blk _ _ _ _) rfl rfl)) fun _ h3=>cl h3 rfl (cF func104) (Tp s8 hg) fun _ v1 w1 r1 h4=>?_
 obtain ⟨rfl,s1⟩:=r1
 refine h4.sn [8,6,5,0,1,2] rfl fun h6=>hK4 _ _<|wcF h6 rfl rfl<|h6.sk [6,5,0,1,2] rfl fun h7=>wp_skip<|hK2 _ _<|sqr fun _ hK5=>mvs 2 h7 rfl fun _ h8=>sw1 h8 rfl (v:=.agg (Ak x).toArray) (rld h8 rfl rfl (ldA υ25 rfl (n:=15) κ (s1.get 0 rfl:Blk _ _ _ _) rfl rfl)) fun _ h9=>cl h9 rfl (cF func9) (Dp (i:=i) (x:=x) (s1.pk [1,2,0,3] rfl) hM) fun _ v2 w2 r2 h10=>?_
 obtain ⟨tax34,tcx35,rfl,s2⟩:=r2
 refine h10.sk [15,14,13,12,5,0,1,2] rfl fun h11=>mv h11 rfl fun _ h12=>h12.sn [6,5,0,1,2] rfl fun h13=>hK5 _ _<|wp_ret ?_
 try simp only [Exit.then,Exit.inBlock]
 refine By (v:=ν (BC M P i x)) (Cx h13 rfl rfl) h13.defs ?_
 exact ⟨tax34,tcx35,rfl,Sep.tail_un (xs:=[_,_]) (s2.pk [0,1,3] rfl)⟩
theorem Vw {w:World} {R:List Ch} {mx:Nat} {K:VolK} {ta:Ω} {tc:Nat} {M:MemM} {P:List PtM} {i:Int} {x y:InoT} (hS0:Sep w ([Ab mx 99 [π K.tg],txP K ta tc M P]++R)) (hM:M.V.length=23168) (hg:GG x=true) (hi:Al M P i=y∧AR M P i=0) (hb:RZ y) :
  CallsR prog 74 #[π mx,ν i,.agg (Ak x).toArray] w (fun v w'=>∃ ta' tc',v=ν (Lt M P i)∧Sep w' ([Ab mx 99 [π K.tg],txP K ta' tc' M (Pq M P i y)]++R)):=by
 have hS:Sep w [Ab mx 99 [π K.tg],txP K ta tc M P,Ch.many R]:=Sep.tail_many (xs:=[_,_]) hS0;clear hS0
 refine AG func74 rfl (N:=16) ntmps74 (by show 3≤16;decide) [(0,π mx),(1,ν i),(2,.agg (Ak x).toArray)] rfl fun _ h1=>sqr fun _ hK3=>so (wn rfl) fun _ hK1=>Gk h1 rfl rfl rfl rfl rfl (z:=(Ak x)) rfl hS fun _ g4 w7 h5 s8 _ _=>hK1 _ _ ?_
 refine mv h5 rfl fun _ h2=>wpList_nil<|hK3 _ _<|sq fun _ hK2=>sqr fun _ hK4=>sw1 h2 rfl (v:=.agg (Ak x).toArray) (rld h2 rfl rfl (ldA υ25 rfl (n:=15) κ (s8.get 0 rfl:Blk _ _ _ _) rfl rfl)) fun _ h3=>cl h3 rfl (cF func104) (Tp s8 hg) fun _ v1 w1 r1 h4=>?_
 obtain ⟨rfl,s1⟩:=r1
 refine h4.sn [8,6,5,0,1,2] rfl fun h6=>hK4 _ _<|wcT h6 rfl rfl<|h6.sk [6,5,0,1,2] rfl fun h7=>sqr fun _ hK5=>mvs 2 h7 rfl fun _ h8=>cl h8 rfl (cF func105) (Aci (s1.pk [1,2,0,3] rfl) hM hi hb) fun _ v2 w2 r2 h9=>?_
 obtain ⟨tax32,tcx33,rfl,s2⟩:=r2
 refine h9.sk [11,10,9,5,0,1,2] rfl fun h10=>mv h10 rfl fun _ h11=>h11.sn [6,5,0,1,2] rfl fun h12=>hK5 _ _<|wp_ret ?_
 try simp only [Exit.then,Exit.inBlock]
 refine By (v:=ν (Lt M P i)) (Cx h12 rfl rfl) h12.defs ?_
 exact ⟨tax32,tcx33,rfl,Sep.tail_un (xs:=[_,_]) (s2.pk [0,1,3] rfl)⟩
theorem Acx {w:World} {R:List Ch} {mx:Nat} {K:VolK} {ta:Ω} {tc:Nat} {M:MemM} {P:List PtM} {i:Int} {x:InoT} (hS0:Sep w ([Ab mx 99 [π K.tg],txP K ta tc M P]++R)) (hM:M.V.length=23168) (hi:Al M P i=x∧AR M P i=0) (hl:0≤x.l∧x.l≤1000) (hg:GG (Kw x)=false) :
  CallsR prog 73 #[π mx,ν i] w (fun v w'=>∃ ta' tc',v=ν (BC M P i (Kw x))∧Sep w' ([Ab mx 99 [π K.tg],txP K ta' tc' M (BQ M P i (Kw x))]++R)):=by
 have hS:Sep w [Ab mx 99 [π K.tg],txP K ta tc M P,Ch.many R]:=Sep.tail_many (xs:=[_,_]) hS0;clear hS0
 refine AG func73 rfl (N:=24) ntmps73 (by show 2≤24;decide) [(0,π mx),(1,ν i)] rfl fun _ h1=>sqr fun _ hK3=>mv h1 rfl fun _ h4=>wpList_nil<|hK3 _ _<|sqr fun _ hK6=>mvs 2 h4 rfl fun _ h9=>cl h9 rfl (cF func8) (Fa hS hM hi) fun _ v1 w1 r1 h2=>?_
 obtain ⟨rfl,s1⟩:=r1
 refine mvs 3 h2 rfl fun _ h3=>so (wn rfl) fun _ hK1=>AH h3 rfl rfl rfl rfl (z:=[ν 0,ν 0,ν 0,ν 0,ν 0,ν 0,ν 0,ν 0,ν 0,ν 0,ν 0,ν 0,ν 0,ν 0,ν 0]) (fun _=>rfl) s1 fun _ g1 w2 h5 s2 _ _=>hK1 _ _ ?_
 refine stA h5 s2 0 rfl rfl rfl κ rfl rfl rfl rfl fun _ w3 h6 s3 _=>mv h6 rfl fun _ h7=>h7.sn [6,5,4,0,1] rfl fun h8=>hK6 _ _<|sq fun _ hK2=>sqr fun _ hK4=>mv h8 rfl fun _ h10=>bv h10 (z:=.bool false) rfl (cNe _ _ _ _ rfl) fun _ h11=>h11.sn [14,6,5,4,0,1] rfl fun h12=>hK4 _ _<|wcF h12 rfl rfl ?_
 refine h12.sk [6,5,4,0,1] rfl fun h13=>wp_skip<|hK2 _ _<|sqr fun _ hK5=>fav h13 rfl (fQ 1) fun _ h14=>ldv h14 s3 0 υ3 rfl rfl rfl rfl fun _ h15=>bv h15 (z:=ν (x.l-1)) rfl (OP _ _ _ ω ω ω) fun _ h16=>fav h16 rfl (fQ 1) fun _ h17=>st1 h17 s3 0 rfl rfl κ rfl rfl rfl rfl fun _ w4 h18 s4 _=>h18.sn [6,5,4,0,1] rfl fun h19=>hK5 _ _ ?_
 refine sqr fun _ hK7=>mvs 2 h19 rfl fun _ h20=>sw1 h20 rfl (v:=.agg (Ak (⟨x.k,x.l-1,x.s,x.b0,x.b1,x.b2,x.b3,x.o0,x.o1,x.o2,x.o3,x.o4,x.o5,x.o6,x.o7⟩:InoT)).toArray) (rld h20 rfl rfl (ldA υ25 rfl (n:=15) κ (s4.get 0 rfl:Blk _ _ _ _) rfl rfl)) fun _ h21=>cl h21 rfl (cF func74) (Vx (x:=Kw x) (s4.pk [1,2,0,3] rfl) hM hg) fun _ v2 w5 r2 h22=>?_
 obtain ⟨tax72,tcx73,rfl,s5⟩:=r2
 refine h22.sk [23,22,21,20,6,5,0,1] rfl fun h23=>mv h23 rfl fun _ h24=>h24.sn [4,6,5,0,1] rfl fun h25=>hK7 _ _<|wp_ret ?_
 try simp only [Exit.then,Exit.inBlock]
 refine By (v:=ν (BC M P i (Kw x))) (Cx h25 rfl rfl) h25.defs ?_
 exact ⟨tax72,tcx73,rfl,Sep.tail_un (xs:=[_,_]) (s5.pk [0,1,3] rfl)⟩
theorem Zq {w:World} {R:List Ch} {mx:Nat} {K:VolK} {ta:Ω} {tc:Nat} {M:MemM} {P:List PtM} {i:Int} {x:InoT} (hS0:Sep w ([Ab mx 99 [π K.tg],txP K ta tc M P]++R)) (hM:M.V.length=23168) (hi:Al M P i=x∧AR M P i=0) (ho:x.o0=1) (hg:GG (x.setO 0 (x.o0-1))=true) (hb:RZ x) :
  CallsR prog 37 #[π mx,ν 1,ν i] w (fun v w'=>∃ ta' tc',v=ν (Lt M P i)∧Sep w' ([Ab mx 99 [π K.tg],txP K ta' tc' M (Pq M P i x)]++R)):=by
 have hS:Sep w [Ab mx 99 [π K.tg],txP K ta tc M P,Ch.many R]:=Sep.tail_many (xs:=[_,_]) hS0;clear hS0
 refine AG func37 rfl (N:=42) ntmps37 (by show 3≤42;decide) [(0,π mx),(1,ν 1),(2,ν i)] rfl fun _ h1=>sqr fun _ hK3=>mv h1 rfl fun _ h4=>wpList_nil<|hK3 _ _<|sqr fun _ hK6=>mvs 2 h4 rfl fun _ h9=>cl h9 rfl (cF func8) (Fa hS hM hi) fun _ v1 w1 r1 h2=>?_
 obtain ⟨rfl,s1⟩:=r1
 refine mvs 3 h2 rfl fun _ h3=>so (wn rfl) fun _ hK1=>AH h3 rfl rfl rfl rfl (z:=[ν 0,ν 0,ν 0,ν 0,ν 0,ν 0,ν 0,ν 0,ν 0,ν 0,ν 0,ν 0,ν 0,ν 0,ν 0]) (fun _=>rfl) s1 fun _ g1 w2 h5 s2 _ _=>hK1 _ _ ?_
 refine stA h5 s2 0 rfl rfl rfl κ rfl rfl rfl rfl fun _ w3 h6 s3 _=>mv h6 rfl fun _ h7=>h7.sn [8,7,6,0,1,2] rfl fun h8=>hK6 _ _<|sq fun _ hK2=>sqr fun _ hK4=>mv h8 rfl fun _ h10=>bv h10 (z:=.bool false) rfl (cNe _ _ _ _ rfl) fun _ h11=>mv h11 rfl fun _ h12=>sv h12 (wF h12 (E:=false) rfl rfl rfl) rfl rfl rfl (v:=ν 1) (Au h12 rfl rfl) fun _ h13=>so (wF h13 (E:=false) rfl rfl rfl) fun _ hK5=>Be h13 rfl rfl rfl (xs:=[.tmp 18]) rfl (cF func69) rfl (vs:=[ν 1]) rfl (args:=#[ν 1]) rfl (LC s3) fun _ v2 w4 r2 h14=>hK5 _ _ ?_
 obtain ⟨rfl,s4⟩:=r2
 refine sv h14 (wF h14 (E:=false) rfl rfl rfl) rfl rfl rfl (v:=.bool false) (Aa3 h14 rfl (b:=true) rfl) fun _ h15=>sv1 h15 rfl (v:=.bool false) (BD h15 rfl rfl rfl) fun _ h16=>mv h16 rfl fun _ h17=>sv h17 (wF h17 (E:=false) rfl rfl rfl) rfl rfl rfl (v:=ν 1) (Au h17 rfl rfl) fun _ h18=>sv h18 (wF h18 (E:=false) rfl rfl rfl) rfl rfl rfl (v:=ν 0) (BR h18 rfl rfl rfl (OP _ _ _ (by decide) (by decide) (by decide))) fun _ h19=>sv h19 (wF h19 (E:=false) rfl rfl rfl) rfl rfl rfl (v:=.pointer (some ⟨g1,7,none⟩)) (rfa h19 rfl rfl (fQ 7)) fun _ h20=>sv h20 (wF h20 (E:=false) rfl rfl rfl) rfl rfl rfl (v:=.pointer (some ⟨g1,7,none⟩)) (Bq h20 rfl rfl rfl (fun w=>ZM g1 0 ω ω w)) fun _ h21=>sw h21 (wF h21 (E:=false) rfl rfl rfl) rfl rfl rfl (v:=ν x.o0) (rld h21 rfl rfl (ldB υ3 rfl (s4.get 0 rfl:Blk _ _ _ _) rfl)) fun _ h22=>sv h22 (wF h22 (E:=false) rfl rfl rfl) rfl rfl rfl (v:=.bool false) (BR h22 rfl rfl rfl (cEq _ _ _ _ (decide_eq_false ω))) fun _ h23=>sv1 h23 rfl (v:=.bool false) (BD h23 rfl rfl rfl) fun _ h24=>?_
 refine h24.sn [29,8,7,6,0,1,2] rfl fun h25=>hK4 _ _<|wcF h25 rfl rfl<|h25.sk [8,7,6,0,1,2] rfl fun h26=>wp_skip<|hK2 _ _<|sqr fun _ hK7=>mv h26 rfl fun _ h27=>bv h27 (z:=ν 0) rfl (OP _ _ _ (by decide) (by decide) (by decide)) fun _ h28=>fav h28 rfl (fQ 7) fun _ h29=>sv1 h29 rfl (v:=.pointer (some ⟨g1,7,none⟩)) (Bq h29 rfl rfl rfl (fun w=>ZM g1 0 ω ω w)) fun _ h30=>?_
 refine ldv h30 s4 0 υ3 rfl rfl rfl rfl fun _ h31=>bv h31 (z:=ν (x.o0-1)) rfl (OP _ _ _ ω ω ω) fun _ h32=>fav h32 rfl (fQ 7) fun _ h33=>sv1 h33 rfl (v:=.pointer (some ⟨g1,7,none⟩)) (Bq h33 rfl rfl rfl (fun w=>ZM g1 0 ω ω w)) fun _ h34=>st1 h34 s4 0 rfl rfl κ rfl rfl rfl rfl fun _ w5 h35 s5 _=>h35.sn [8,7,6,0,1,2] rfl fun h36=>hK7 _ _<|sqr fun _ hK8=>mvs 2 h36 rfl fun _ h37=>sw1 h37 rfl (v:=.agg (Ak (⟨x.k,x.l,x.s,x.b0,x.b1,x.b2,x.b3,x.o0-1,x.o1,x.o2,x.o3,x.o4,x.o5,x.o6,x.o7⟩:InoT)).toArray) (rld h37 rfl rfl (ldA υ25 rfl (n:=15) κ (s5.get 0 rfl:Blk _ _ _ _) rfl rfl)) fun _ h38=>?_
 refine cl h38 rfl (cF func74) (Vw (x:=x.setO 0 (x.o0-1)) (s5.pk [1,2,0,3] rfl) hM hg hi hb) fun _ v3 w6 r3 h39=>?_
 obtain ⟨tax111,tcx112,rfl,s6⟩:=r3
 refine h39.sk [41,40,39,38,8,7,0,1,2] rfl fun h40=>mv h40 rfl fun _ h41=>h41.sn [6,8,7,0,1,2] rfl fun h42=>hK8 _ _<|wp_ret ?_
 try simp only [Exit.then,Exit.inBlock]
 refine By (v:=ν (Lt M P i)) (Cx h42 rfl rfl) h42.defs ?_
 exact ⟨tax111,tcx112,rfl,Sep.tail_un (xs:=[_,_]) (s6.pk [0,1,3] rfl)⟩
end
section
def Wc (x y:PartT):Bool:=(decide (x.k=y.k)&&decide (x.n=y.n))||decide (x.a+x.s≤y.a)||decide (y.a+y.s≤x.a)
theorem Ow:(Bw.all fun x=>Bw.all fun y=>Wc x y)=true:=by decide +kernel
theorem Sj:(Bw.all fun x=>decide (x.k=5)||decide (x.k=6)||decide (x.s=64))=true:=by decide +kernel
theorem Vc:(Bw.all fun x=>decide (x.k=5)||decide (x.a+x.s≤2688)||decide (6784≤x.a))=true:=by decide +kernel
theorem Lo {kd nm:Int} {q:PartT} (h:BF kd nm=some q):q∈Bw∧q.k=kd∧q.n=nm:=by
  have h2:=List.find?_some h
  unfold Acm at h2
  refine ⟨List.mem_of_find?_eq_some h,?_⟩
  simpa using h2
theorem Rn {kd nm kd' nm':Int} {q q':PartT} (h:BF kd nm=some q) (h':BF kd' nm'=some q') (hne:¬ (kd=kd'∧nm=nm')):q.a+q.s≤q'.a∨q'.a+q'.s≤q.a:=by
  have k:=Lo h
  have k':=Lo h'
  have z:=List.all_eq_true.1 (List.all_eq_true.1 Ow q k.1) q' k'.1
  unfold Wc at z
  simp only [Bool.or_eq_true,Bool.and_eq_true,decide_eq_true_eq] at z
  rcases z with (z | z) | z
  · exact absurd ⟨k.2.1.symm.trans (z.1.trans k'.2.1),k.2.2.symm.trans (z.2.trans k'.2.2)⟩ hne
  · exact .inl z
  · exact .inr z
theorem Oc {kd nm:Int} {q:PartT} (h:BF kd nm=some q) (h5:kd≠5) (h6:kd≠6):q.s=64:=by
  have k:=Lo h
  have z:=List.all_eq_true.1 Sj q k.1
  simp only [Bool.or_eq_true,decide_eq_true_eq,k.2.1,h5,h6,false_or] at z
  exact z
theorem WP {kd nm:Int} {q:PartT} (h:BF kd nm=some q) (h5:kd≠5):q.a+q.s≤2688∨6784≤q.a:=by
  have k:=Lo h
  have z:=List.all_eq_true.1 Vc q k.1
  simp only [Bool.or_eq_true,decide_eq_true_eq,k.2.1,h5,false_or] at z
  exact z
theorem Gu {at_:Int} {b:Λ} {p:PtM} (h:p.at_+p.d.length≤at_∨at_+b.length≤p.at_):Jj at_ b p=b:=by
  refine CH (CQ _ _ _) fun i hi=>?_
  rw [Hc hi,if_neg ω]
theorem Sa {at_:Int} {b xs:Λ} (h:xs.length≤b.length):Jj at_ b ⟨at_,xs⟩=xs++b.drop xs.length:=by
  refine CH (by rw [CQ,List.length_append,List.length_drop];omega) fun i hi=>?_
  rw [List.length_append,List.length_drop] at hi
  have hi:i<b.length:=ω
  rw [Hc hi]
  dsimp only
  simp only [List.getD_eq_getElem?_getD]
  by_cases hc:i<xs.length
  · rw [if_pos ω,List.getElem?_append_left hc,show (at_+(i:Int)-at_).toNat=i by omega]
  · rw [if_neg ω,List.getElem?_append_right ω,List.getElem?_drop,show xs.length+(i-xs.length)=i by omega]
abbrev Lf (V:Λ) (at_ n:Int):Λ:=(V.drop at_.toNat).take n.toNat
theorem Lg {V:Λ} {at_ n:Int} (h:0≤at_∧0≤n∧at_+n≤V.length):((Lf V at_ n).length:Int)=n:=by rw [List.length_take,List.length_drop];omega
theorem KF {V:Λ} {p:PtM} {at_ n:Int} (hp:0≤p.at_∧p.at_+p.d.length≤V.length) (h:0≤at_∧0≤n∧at_+n≤V.length):Lf (stV V p) at_ n=Jj at_ (Lf V at_ n) p:=by
  have l1:=Lg h
  have l2:((Lf (stV V p) at_ n).length:Int)=n:=Lg (by rw [CL];exact h)
  refine CH (by rw [CQ];omega) fun i hi=>?_
  rw [CQ] at hi
  rw [Hc hi]
  have e1:(Lf (stV V p) at_ n).getD i 0=(stV V p).getD (at_.toNat+i) 0:=by
    simp only [List.getD_eq_getElem?_getD,List.getElem?_take,List.getElem?_drop];rw [if_pos ω]
  have e2:(Lf V at_ n).getD i 0=V.getD (at_.toNat+i) 0:=by
    simp only [List.getD_eq_getElem?_getD,List.getElem?_take,List.getElem?_drop];rw [if_pos ω]
  rw [e1,e2]
  unfold stV
  rw [if_pos hp,Fu _ _ _ ω]
  by_cases hc:p.at_≤at_+(i:Int)∧at_+(i:Int)<p.at_+p.d.length
  · rw [if_pos ω,if_pos hc,show (at_+(i:Int)-p.at_).toNat=at_.toNat+i-p.at_.toNat by omega]
  · rw [if_neg ω,if_neg hc]
theorem Pd:∀ {P:List PtM} {V:Λ} {at_ n:Int} (_:∀ p∈P,0≤p.at_∧p.at_+p.d.length≤V.length) (_:0≤at_∧0≤n∧at_+n≤V.length),Lf (P.foldl stV V) at_ n=ovl at_ (Lf V at_ n) P
  | [],_,_,_,_,_=>rfl
  | p::P,V,at_,n,hp,h=>by
    rw [List.foldl_cons,Pd (fun q hq=>by rw [CL];exact hp q (List.mem_cons_of_mem _ hq)) (by rw [CL];exact h),KF (hp p List.mem_cons_self) h]
    rfl
theorem Tc:∀ (L:List PtM) (b:Λ),(∀ p∈L,p.d.length≤64)→(L.foldl Ex b).length≤b.length+70*L.length
  | [],b,_=>by simp
  | p::L,b,h=>by
    have ih:=Tc L (Ex b p) (fun q hq=>h q (List.mem_cons_of_mem _ hq))
    have h1:(Av (Av b p.at_ 4) p.d.length 2).length≤(Av b p.at_ 4).length+2:=BW _ _ 2
    have h2:(Av b p.at_ 4).length≤b.length+4:=BW _ _ 4
    have h3:=h p List.mem_cons_self
    have h4:(Ex b p).length≤b.length+70:=by unfold Ex;rw [List.length_append];omega
    rw [List.foldl_cons,List.length_cons]
    omega
theorem Zu {L:List PtM} (h:∀ p∈L,p.d.length≤64):(Cj L).length≤70*L.length+13:=by
  unfold Cj;split
  · unfold TG
    have h1:=Tc L (Av [] L.length 2) h
    have h2:(Av [] L.length 2).length≤0+2:=BW _ _ 2
    have h4:Bo (Mp (DB L)).length≤7:=by unfold Bo;omega
    have h5:(Mp (DB L)).length≤(DB L).length+4:=BW _ _ 4
    have h6:(DB L).length≤2+70*L.length:=by unfold DB;omega
    rw [List.length_append,List.length_replicate];omega
  · simp
theorem Aaj {p:PtM} (h:0≤p.at_∧p.at_≤23168) (hd:p.d.length≤256):Gt p=true:=by
  have hf:BA p.at_ 4=true:=by
    unfold BA
    rw [if_neg (by decide),if_neg (by decide),if_pos rfl,decide_eq_true ω,decide_eq_true ω];rfl
  unfold Gt
  rw [hf,decide_eq_true hd];rfl
def MH (M:MemM) (P:List PtM) (kd nm:Int):Λ:=if kd=3∨kd=4∨kd=7 then Br M P kd nm else []
structure Vol (M:MemM) (P:List PtM) (s:Int→Int→Λ) (n:Nat):Prop where
  m:M.V.length=23168
  r:Cp M.V 2688 4096=([],0)
  k:∀ p∈P,0≤p.at_∧p.at_+p.d.length≤23168
  l:P.length=n
  d:∀ p∈P,p.d.length≤64
  s:MH M P=s
def Bc (s:Int→Int→Λ) (kd nm:Int) (xs:Λ):Int→Int→Λ:=fun a b=>if a=kd∧b=nm then xs++(s kd nm).drop xs.length else s a b
section
variable {M:MemM} {P:List PtM} {s:Int→Int→Λ} {n:Nat}
theorem YJ {kd nm:Int} {q:PartT} {xs:Λ} (hm:M.V.length=23168) (h:BF kd nm=some q) (hx:(xs.length:Int)≤q.s) (h64:xs.length≤64) (hn:P.length<64):stE M P kd nm xs.length=0∧stP M P kd nm xs=P++[⟨q.a,xs⟩]:=by
  have hi:=EC h
  have ho:okT M P q.a xs.length=true:=by unfold okT;rw [decide_eq_true_iff];omega
  unfold stE stP;rw [h];dsimp only
  unfold Oa Mb;rw [if_pos ho,if_pos ho];exact ⟨rfl,rfl⟩
theorem TH {kd nm kd' nm':Int} {q:PartT} {xs:Λ} (hm:M.V.length=23168) (h:BF kd nm=some q) (hx:(xs.length:Int)≤q.s):Br M (P++[⟨q.a,xs⟩]) kd' nm'=if kd'=kd∧nm'=nm then xs++(Br M P kd nm).drop xs.length else Br M P kd' nm':=by
  cases h':BF kd' nm' with
  | none=>
    rw [CS h',CS h']
    split
    · next e=>rw [e.1,e.2,h] at h';cases h'
    · rfl
  | some q'=>
    have l:=Mq (P:=P) (Ly hm h')
    have hi:=EC h'
    rw [Cz h',Cz h',Cz h]
    show ovl _ _ (P++_)=_
    rw [PV]
    split
    · next e=>
      rw [e.1,e.2,h] at h'
      cases h'
      exact Sa (by show xs.length≤(Fi M P q.a q.s).length;omega)
    · next e=>
      have z:=Rn h h' (fun e'=>e ⟨e'.1.symm,e'.2.symm⟩)
      exact Gu (by show q.a+(xs.length:Int)≤_∨q'.a+((Fi M P q'.a q'.s).length:Int)≤q.a;omega)
theorem Vol.put (V:Vol M P s n) {kd nm:Int} {q:PartT} {xs:Λ} (h:BF kd nm=some q) (hk:kd=3∨kd=4∨kd=7) (hx:xs.length≤64) (hn:n<64):stE M P kd nm xs.length=0∧Vol M (stP M P kd nm xs) (Bc s kd nm xs) (n+1):=by
  have h64:=Oc h ω ω
  have hi:=EC h
  have z:=YJ V.m h (xs:=xs) (P:=P) ω hx (by have:=V.l;omega)
  refine ⟨z.1,?_⟩
  rw [z.2]
  refine ⟨V.m,V.r,fun p hp=>?_,by rw [List.length_append,V.l];rfl,fun p hp=>?_,?_⟩
  · rcases List.mem_append.1 hp with hp | hp
    · exact V.k p hp
    · rw [List.mem_singleton.1 hp];dsimp only;omega
  · rcases List.mem_append.1 hp with hp | hp
    · exact V.d p hp
    · rw [List.mem_singleton.1 hp];exact hx
  · rw [← V.s]
    funext a b
    unfold MH Bc
    dsimp only
    by_cases ha:a=3∨a=4∨a=7
    · rw [if_pos ha,TH V.m h ω,if_pos ha,if_pos hk]
    · rw [if_neg ha,if_neg ha,if_neg (fun (e:a=kd∧b=nm)=>ha (e.1 ▸ hk))]
theorem Vol.put2 (V:Vol M P s n) {kd nm:Int} {q:PartT} {xs:Λ} (h:BF kd nm=some q) (hk:¬ (kd=3∨kd=4∨kd=7)) (hx:(xs.length:Int)≤q.s) (hx2:xs.length≤64) (hn:n<64):stE M P kd nm xs.length=0∧Vol M (stP M P kd nm xs) s (n+1):=by
  have hi:=EC h
  have z:=YJ V.m h (xs:=xs) (P:=P) ω hx2 (by have:=V.l;omega)
  refine ⟨z.1,?_⟩
  rw [z.2]
  refine ⟨V.m,V.r,fun p hp=>?_,by rw [List.length_append,V.l];rfl,fun p hp=>?_,?_⟩
  · rcases List.mem_append.1 hp with hp | hp
    · exact V.k p hp
    · rw [List.mem_singleton.1 hp];dsimp only;omega
  · rcases List.mem_append.1 hp with hp | hp
    · exact V.d p hp
    · rw [List.mem_singleton.1 hp];exact hx2
  · rw [← V.s]
    funext a b
    unfold MH
    by_cases ha:a=3∨a=4∨a=7
    · rw [if_pos ha,TH V.m h hx,if_neg (fun (e:a=kd∧b=nm)=>hk (e.1 ▸ ha)),if_pos ha]
    · rw [if_neg ha,if_neg ha]
theorem Vol.com (V:Vol M P s n) (hn:n≤50):cmE M P=0∧cmP M P=[]∧Vol (cmM M P) [] s 0:=by
  by_cases h0:P=[]
  · subst h0
    refine ⟨rfl,rfl,?_⟩
    have e:cmM M []=M:=rfl
    rw [e]
    exact ⟨V.m,V.r,V.k,rfl,V.d,V.s⟩
  · have ok:LogOk 2688 4096 M:=⟨ω,ω,by have:=V.m;omega,by have:=V.m;omega⟩
    have hl:=Zu V.d
    have hE:Db P=true:=by
      unfold Db
      rw [decide_eq_true (by have:=V.l;omega),List.all_eq_true.2 fun p hp=>Aaj (by have:=V.k p hp;omega) (by have:=V.d p hp;omega)];rfl
    have eE:Ig P=0:=by unfold Ig;rw [if_pos hE]
    have hP:=V.l
    have ap:DW M 2688 4096 P=0:=by unfold DW;rw [if_pos eE,V.r];exact if_neg (by show ¬ (4096-8<0+_);omega)
    have eM:cmM M P=Fg (DA M 2688 4096 P) 2688 4096:=by unfold cmM;rw [if_neg h0,if_pos ap]
    have lR:Cp (DA M 2688 4096 P).V 2688 4096=([P],0+(Cj P).length):=by
      rw [Xs ok,if_pos ap,V.r];rfl
    have okA:=Nt ok P
    refine ⟨by unfold cmE;rw [if_neg h0,ap],by unfold cmP;rw [if_neg h0,if_pos ap],?_⟩
    rw [eM]
    refine ⟨by rw [JX,IO];exact V.m,UH okA,fun p hp=>(by cases hp),rfl,fun p hp=>(by cases hp),?_⟩
    rw [← V.s]
    funext a b
    unfold MH
    split
    · next ha=>
      cases hf:BF a b with
      | none=>rw [CS hf,CS hf]
      | some q=>
        have hi:=EC hf
        have hg:=WP hf ω
        have hA:DA M 2688 4096 P=Gf (CU M [⟨((2688+8+0:Nat):Int),Cj P⟩]) 2688 ((0+(Cj P).length:Nat):Int):=by
          unfold DA;rw [if_pos ⟨eE,by rw [V.r];show ¬ (4096-8<0+_);omega⟩,V.r]
        have l8:∀ z:Int,(Av [] z 8).length≤8:=fun z=>Nat.le_trans (BW [] z 8) (by simp)
        rw [Cz hf,Cz hf]
        show Lf (Fg (DA M 2688 4096 P) 2688 4096).V q.a q.s=ovl q.a (Lf M.V q.a q.s) P
        have eV:(Fg (DA M 2688 4096 P) 2688 4096).V=stV (P.foldl stV (stV (stV M.V ⟨((2688+8+0:Nat):Int),Cj P⟩) ⟨((2688:Nat):Int),Av [] ((0+(Cj P).length:Nat):Int) 8⟩)) ⟨((2688:Nat):Int),Av [] 0 8⟩:=by
          unfold Fg;rw [lR];unfold Gf;rw [Fp,Fp,hA];unfold Gf;rw [Fp,Fp]
          simp
        have m:=V.m
        have b1:=l8 ((0+(Cj P).length:Nat):Int)
        have b2:=l8 0
        rw [eV,KF (by rw [JN,CL,CL,m];dsimp only;omega) (by rw [JN,CL,CL,m];omega),
          Pd (by rw [CL,CL,m];exact V.k) (by rw [CL,CL,m];omega),
          KF (by rw [CL,m];dsimp only;omega) (by rw [CL,m];omega),KF (by rw [m];dsimp only;omega) (by rw [m];omega)]
        have lc:((Lf M.V q.a q.s).length:Int)=q.s:=Lg (by rw [m];omega)
        rw [Gu (p:=⟨((2688:Nat):Int),Av [] 0 8⟩) (by rw [Gv,CQ,CQ];dsimp only;omega)]
        rw [Gu (p:=⟨((2688:Nat):Int),Av [] ((0+(Cj P).length:Nat):Int) 8⟩) (by rw [CQ];dsimp only;omega)]
        rw [Gu (p:=⟨((2688+8+0:Nat):Int),Cj P⟩) (by dsimp only;omega)]
    · rfl
end
end
section
abbrev Cg:=Int→Int→Λ
def CK (s:Cg) (i:Int):InoT:=rdI (s 4 i)
def CO (s:Cg) (i:Int):Int:=if DI 4 i then (if rdE (s 4 i)=0 then 0 else 36) else 1
def JQ (s:Cg):Λ:=Fe (s 3 0)
def EH (s:Cg) (x:InoT):Nat→List EntT×Int
  | 0=>(AB,0)
  | k+1=>if (EH s x k).2=0 then (if x.blk k=0 then EH s x k else Ff (EH s x k).1 k (s 7 (x.blk k))) else EH s x k
def Do (s:Cg) (i:Int):List EntT:=
  if CO s i≠0 then AB else if (CK s i).k≠2 then AB else if (EH s (CK s i) 4).2=0 then (EH s (CK s i) 4).1 else AB
def Gz (s:Cg) (i:Int):Int:=
  if CO s i≠0 then CO s i else if (CK s i).k≠2 then 12 else if (EH s (CK s i) 4).2=0 then 0 else 36
section
variable {M:MemM} {P:List PtM} {s:Cg} {n:Nat}
theorem DZ (V:Vol M P s n) (i:Int):Al M P i=CK s i:=by rw [← V.s];rfl
theorem DK (V:Vol M P s n) (i:Int):AR M P i=CO s i:=by rw [← V.s];rfl
theorem LG (V:Vol M P s n):Ar M P=JQ s:=by rw [← V.s];rfl
theorem MA (V:Vol M P s n) (x:InoT):∀ k,Bz M P x k=EH s x k
  | 0=>rfl
  | k+1=>by
    have e:Br M P 7 (x.blk k)=s 7 (x.blk k):=by rw [← V.s];rfl
    unfold Bz EH;rw [MA V x k,e]
theorem QG (V:Vol M P s n) (i:Int):An M P i=Do s i:=by unfold An Do;rw [DK V,DZ V,MA V]
theorem QF (V:Vol M P s n) (i:Int):Bp M P i=Gz s i:=by unfold Bp Gz;rw [DK V,DZ V,MA V]
theorem DP (V:Vol M P s n) {i:Int} {q:PartT} {x:InoT} {ob:Λ} (hq:BF 4 i=some q) (hE:DU x=0) (hL:Dg x=ob) (hl:ob.length≤64) (hn:n<64):BC M P i x=0∧Vol M (BQ M P i x) (Bc s 4 i ob) (n+1):=by
  unfold BC BQ
  rw [if_pos hE,if_pos hE,hL]
  exact V.put hq (.inr (.inl rfl)) hl hn
theorem XB:BF 3 0=some ⟨3,0,576,64⟩:=κ
theorem Hi (V:Vol M P s n) {xs:Λ} (hl:xs.length=16) (hn:n<64):stE M P 3 0 16=0∧Vol M (stP M P 3 0 xs) (Bc s 3 0 xs) (n+1):=by
  have z:=V.put (xs:=xs) XB (.inl rfl) ω hn
  rw [hl] at z;exact z
theorem Ud (V:Vol M P s n) {ms:Λ} {b sp:Int} {q:PartT} (hm:JQ s=ms) (hf:As ms 1=b) (hr:¬ 128-((DD ms 128).length:Int)≤max sp 0) (hq:BF 7 b=some q) (hn:n<63) :
    bN M P sp=b∧bE M P sp=0∧Vol M (bP M P sp) (Bc (Bc s 3 0 (AZ ms b)) 7 b (List.replicate 64 0)) (n+2):=by
  have em:Ar M P=ms:=(LG V).trans hm
  have hr':¬ De M P sp:=by unfold De;rw [em];exact hr
  have eb:OQ M P=b:=by unfold OQ;rw [em];exact hf
  have z:=Hi V (xs:=AZ ms b) (by rw [AT,← em];exact AJ _) ω
  have e1:Nb M P=stP M P 3 0 (AZ ms b):=by unfold Nb;rw [em,eb]
  have z2:=z.2.put (xs:=List.replicate 64 0) hq (.inr (.inr rfl)) (by simp) ω
  have eE:Ub M P=0:=by unfold Ub;rw [e1,eb,z.1,show 64=(List.replicate 64 (0:UInt8)).length from rfl,z2.1];rfl
  refine ⟨by unfold bN;rw [if_neg hr',if_pos eE,eb],by unfold bE;rw [if_neg hr',eE],?_⟩
  have e2:bP M P sp=stP M (stP M P 3 0 (AZ ms b)) 7 b (List.replicate 64 0):=by unfold bP;rw [if_neg hr'];unfold Ady;rw [e1,eb]
  rw [e2];exact z2.2
theorem Zw (V:Vol M P s n) {p:Int} {x:InoT} {j:Nat} {bs rb:Λ} {q q2:PartT} (hq:BF 7 (x.blk (j / 4))=some q) (hb:bs.length≤64) (hq2:BF 4 p=some q2) (hE:DU x=0) (hL:Dg x=rb) (hl:rb.length≤64) (hn:n<63) :
    Up M P p x j bs=0∧Vol M (WG M P p x j bs) (Bc (Bc s 7 (x.blk (j / 4)) bs) 4 p rb) (n+2):=by
  have z:=V.put hq (.inr (.inr rfl)) hb ω
  have z2:=DP z.2 hq2 hE hL hl ω
  exact ⟨by unfold Up;rw [z.1,z2.1];rfl,z2.2⟩
end
def OL (s:Cg):List ByteArray→Int→Int×Int
  | [],i=>(i,0)
  | x::L,i=>
    if Gz s i≠0 then (0,Gz s i)
    else if AQ (Do s i) x<0 then (0,10)
    else
      if CO s ((Do s i).getD (AQ (Do s i) x).toNat Bv).ino≠0∨(CK s ((Do s i).getD (AQ (Do s i) x).toNat Bv).ino).k=0 then (0,36)
      else OL s L ((Do s i).getD (AQ (Do s i) x).toNat Bv).ino
def FM (s:Cg) (L:List ByteArray):Int×Int:=if CO s 1≠0 then (0,CO s 1) else OL s L 1
section
variable {M:MemM} {P:List PtM} {s:Cg} {n:Nat}
theorem TO (V:Vol M P s n):∀ (L:List ByteArray) (i:Int),DT M P L i=OL s L i
  | [],i=>rfl
  | x::L,i=>by unfold DT OL;rw [QF V,QG V,DK V,DZ V,TO V L]
theorem TP (V:Vol M P s n) (L:List ByteArray):AV M P L=FM s L:=by unfold AV FM;rw [DK V,TO V]
theorem XO (V:Vol M P s n) {k:Nat} (hk:k<32) (h:∀ j:Nat,j<k→¬ (CO s ((j:Int)+1)=0∧(CK s ((j:Int)+1)).k=0)) (ok:CO s ((k:Int)+1)=0∧(CK s ((k:Int)+1)).k=0):Hb M P=((k:Int)+1,0):=
  Nv hk (fun j hj=>by rw [DK V,DZ V];exact h j hj) (by rw [DK V,DZ V];exact ok)
theorem Abq (V:Vol M P s n) {i:Int} {x:InoT} {t:List EntT} (h1:Gz s i=0) (h2:CO s i=0) (hx:CK s i=x) (ht:Do s i=t):Pf M P i=0∧Bl M P i=x∧GS M P i=t:=by
  have hn:¬ Bp M P i≠0:=by rw [QF V,h1];decide
  refine ⟨?_,?_,?_⟩
  · unfold Pf;rw [if_neg hn,DK V,h2]
  · unfold Bl;rw [if_neg hn,DZ V,hx]
  · unfold GS;rw [if_neg hn,QG V,ht]
end
end
end Go.Proofs.YthiplgahhejmcaaGreatDoor
