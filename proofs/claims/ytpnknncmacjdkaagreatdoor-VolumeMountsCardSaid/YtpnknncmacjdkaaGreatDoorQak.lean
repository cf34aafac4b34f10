/- Parts of the proof. -/
import Derived.Lib.SmallJoins
import Derived.Laws.Rows
import Derived.Test.YtpnknncmacjdkaaGreatDoorQaj
namespace Go.Proofs.YtpnknncmacjdkaaGreatDoor
open Go.RowKit
open _root_.Go.Proofs.Tryz
set_option linter.unusedSimpArgs false
set_option linter.unusedVariables false
set_option linter.unusedSectionVars false
set_option maxRecDepth 100000
set_option maxHeartbeats 8000000
section
theorem Sw {w:World} {R:List Ch} {mx:Nat} {K:VolK} {ta:Ω} {tc:Nat} {M:MemM} {P:List PtM} {n:Int} (hS0:Sep w ([Ab mx 125 [π K.tg],txP K ta tc M P]++R)) (hM:M.V.length=23168) (h:GH M P=(n,0)):CallsR prog 93 #[π mx] w (fun v w'=>v=.tuple #[ν n,ν 0]∧Sep w' ([Ab mx 125 [π K.tg],txP K ta tc M P]++R)):=
 Calls.mono (Adv hS0 hM) fun e w' z=>by rw [h] at z;exact z
theorem VB {w:World} {R:List Ch} {mx:Nat} {K:VolK} {ta:Ω} {tc:Nat} {M:MemM} {P:List PtM} {X:Λ} (hS0:Sep w ([Ab mx 125 [π K.tg],txP K ta tc M P]++R)) (hM:M.V.length=23168) (hX:X.length≤1000) (h:GG M P X=(0,BS,10)):CallsR prog 58 #[π mx,σ X] w (fun v w'=>v=.tuple #[ν 0,.agg (AE BS).toArray,ν 10]∧Sep w' ([Ab mx 125 [π K.tg],txP K ta tc M P]++R)):=
 Calls.mono (Adu hS0 hM hX) fun e w' z=>by rw [h] at z;exact z
theorem SM {w:World} {R:List Ch} {mx:Nat} {K:VolK} {ta:Ω} {tc:Nat} {M:MemM} {P:List PtM} {X:Λ} {nm:ByteArray} (hS0:Sep w ([Ab mx 125 [π K.tg],txP K ta tc M P]++R)) (hM:M.V.length=23168) (hX:X.length≤1000) (h:EL M P X=(1,nm,0)):CallsR prog 60 #[π mx,σ X] w (fun v w'=>v=.tuple #[ν 1,.string nm,ν 0]∧Sep w' ([Ab mx 125 [π K.tg],txP K ta tc M P]++R)):=
 Calls.mono (Aa8 hS0 hM hX) fun e w' z=>by rw [h] at z;exact z
theorem KA {w:World} {R:List Ch} (hS:Sep w R) {t:List EntT} {s:ByteArray} (ht:t.length=16) (hs:s.size≤1000) {j:Nat} (hp:Ek t s=(j:Int)):CallsR prog 117 #[.agg (Ao t).toArray,.string s] w (fun v w'=>v=ν (j:Int)∧Sep w' R):=
 Calls.mono (IE t s ht hs w) fun e w' z=>⟨_,z.1,by rw [hp],hS.mono z.2⟩
theorem CK (M:MemM) (P:List PtM) (i:Int):(Eb M P i).length=16:=by
 unfold Eb;split
 ·exact Ap
 ·exact Ah _ _ _
theorem Tp {w:World} {R:List Ch} (hS:Sep w R) {t:List EntT} (ht:t.length=16) {k:Int} (hu:GM t k=true):CallsR prog 145 #[.agg (Ao t).toArray,ν k] w (fun v w'=>v=.bool true∧Sep w' R):=
 Calls.mono (Wu t ht k w) fun e w' z=>⟨_,z.1,by rw [hu],hS.mono z.2⟩
theorem Pm {w:World} {R:List Ch} (hS:Sep w R) {t:List EntT} (ht:t.length=16) {k:Int} {bs:Λ} (hb:FK t k=some bs):CallsR prog 147 #[.agg (Ao t).toArray,ν k] w (fun v w'=>∃ a c,v=.tuple #[.slice a bs.length c,ν 0]∧Sep w' (AG 0 5 1 a bs.length c (bs.map Ad)::R)):=
 Calls.mono (Tm t ht k w) fun e w' z=>by
  rw [hb] at z
  obtain ⟨a,c,e1,o,b⟩:=z
  exact ⟨_,e1,a,c,rfl,hS.push b (c:=AG 0 5 1 a _ c _) (Own.low o (Nat.zero_le _)) fun k hk=>(World.ownsRow.lt o k hk).1⟩
def RM (M:MemM) (P:List PtM) (p:Int) (x:InoT) (j:Nat) (bs:Λ):Int:=AJ [0,stE M P 7 (x.blk (j / 4)) bs.length,CD M (stP M P 7 (x.blk (j / 4)) bs) p x]
def PE (M:MemM) (P:List PtM) (p:Int) (x:InoT) (j:Nat) (bs:Λ):List PtM:=BC M (stP M P 7 (x.blk (j / 4)) bs) p x
def Vk (x:InoT):InoT:={ x with s:=x.s+1 }
def Pq (M:MemM) (P:List PtM) (p:Int) (j:Nat) (bs:Λ):Int:=RM M P p (Vk (Az M P p)) j bs
def Tz (M:MemM) (P:List PtM) (p:Int) (j:Nat) (bs:Λ):List PtM:=PE M P p (Vk (Az M P p)) j bs
def Pp (M:MemM) (P:List PtM) (p spare:Int) (j:Nat) (bs:Λ):Int:=RM M (bP M P spare) p (Vk ((Az M P p).setB (j / 4) (bN M P spare))) j bs
def Ty (M:MemM) (P:List PtM) (p spare:Int) (j:Nat) (bs:Λ):List PtM:=PE M (bP M P spare) p (Vk ((Az M P p).setB (j / 4) (bN M P spare))) j bs
theorem Aef (x:InoT) (k:Nat) (n:Int):(x.setB k n).s=x.s:=by unfold InoT.setB;split<;>rfl
theorem Zi (j:Nat):(j:Int).tdiv 4=((j / 4:Nat):Int):=rfl
theorem ME {w:World} {R:List Ch} {mx:Nat} {K:VolK} {ta:Ω} {tc:Nat} {M:MemM} {P:List PtM} {p n:Int} {x:InoT} {t:List EntT} {j:Nat} {nm:ByteArray} {bs:Λ} (hS0:Sep w ([Ab mx 125 [π K.tg],txP K ta tc M P]++R)) (hM:M.V.length=23168) (ht:t.length=16) (hj:j<16) (hu:GM (EC t (j:Int) ⟨nm,n⟩) (((j / 4:Nat):Nat):Int)=true) (hb:FK (EC t (j:Int) ⟨nm,n⟩) ((j / 4:Nat):Int)=some bs) (hbl:bs.length≤64) :
  CallsR prog 119 #[π mx,ν p,.agg (AE x).toArray,.agg ((Ao t).toArray),ν (j:Int),.agg #[.string nm,ν n]] w (fun v w'=>∃ ta' tc',v=ν (RM M P p x j bs)∧Sep w' ([Ab mx 125 [π K.tg],txP K ta' tc' M (PE M P p x j bs)]++R)):=by
 have hS:Sep w [Ab mx 125 [π K.tg],txP K ta tc M P,Ch.many R]:=Sep.tail_many (xs:=[_,_]) hS0;clear hS0
 refine AB func119 rfl (N:=66) ntmps119 (by show 6≤66;decide) [(0,π mx),(1,ν p),(2,.agg (AE x).toArray),(3,.agg ((Ao t).toArray)),(4,ν (j:Int)),(5,.agg #[.string nm,ν n])] rfl fun _ h1=>sqr fun _ hK3=>so (wn rfl) fun _ hK1=>JE h1 rfl rfl rfl rfl rfl (z:=(AE x)) rfl hS fun _ g4 w7 h5 s8 _ _=>hK1 _ _ ?_
 refine so (wn rfl) fun _ hK2=>JE h5 rfl rfl rfl rfl rfl (z:=Ao t) rfl s8 fun _ g1 w2 h2 s1 _ _=>hK2 _ _ ?_
 refine so (wn rfl) fun _ hK4=>JE h2 rfl rfl rfl rfl rfl (z:=[.string nm,ν n]) rfl s1 fun _ g2 w3 h3 s2 _ _=>hK4 _ _ ?_
 refine mv h3 rfl fun _ h4=>wpList_nil<|hK3 _ _<|sqr fun _ hK5=>sw1 h4 rfl (v:=.agg ((Ao t).toArray)) (rld h4 rfl rfl (Hd υ179 (s2.get 1 rfl:Blk _ _ _ _) ht)) fun _ h6=>mv h6 rfl fun _ h7=>sw1 h7 rfl (v:=.agg #[.string nm,ν n]) (rld h7 rfl rfl (ldA υ177 rfl (n:=2) κ (s2.get 0 rfl:Blk _ _ _ _) rfl rfl)) fun _ h8=>cl h8 rfl (cF func144) (AQ s2 (QS t (j:Int) nm n ht _)) fun _ v1 w4 r1 h9=>?_
 obtain ⟨rfl,s3⟩:=r1
 refine mv h9 rfl fun _ h10=>bv h10 (z:=ν ((j / 4:Nat):Int)) rfl (Acw _ _ _ (by decide) (Zi _) ω ω) fun _ h11=>so (wn rfl) fun _ hK6=>GL h11 rfl rfl s3 1 rfl ht (by rw [AD];exact ht) rfl rfl (cs':=[Ab g2 177 [.string nm,ν n],Ab g1 179 (Ao (EC t (j:Int) ⟨nm,n⟩)),Ab g4 40 (AE x),Ab mx 125 [π K.tg],txP K ta tc M P,Ch.many R]) rfl fun _ w5 h12 s4 _=>hK6 _ _ ?_
 refine mv h12 rfl fun _ h13=>h13.sn [13,12,11,9,8,0,1,2,3,4,5] rfl fun h14=>hK5 _ _<|sq fun _ hK7=>sqr fun _ hK8=>sw1 h14 rfl (v:=.agg ((Ao (EC t (j:Int) ⟨nm,n⟩)).toArray)) (rld h14 rfl rfl (Hd υ179 (s4.get 1 rfl:Blk _ _ _ _) (by rw [AD];exact ht))) fun _ h15=>mv h15 rfl fun _ h16=>cl h16 rfl (cF func145) (Tp s4 (by rw [AD];exact ht) hu) fun _ v2 w6 r2 h17=>?_
 obtain ⟨rfl,s5⟩:=r2
 refine mv h17 rfl fun _ h18=>h18.sn [26,13,12,11,9,8,0,1,2,3,4,5] rfl fun h19=>hK8 _ _<|wcF h19 rfl rfl<|h19.sk [13,12,11,9,8,0,1,2,3,4,5] rfl fun h20=>wp_skip<|hK7 _ _<|sqr fun _ hK9=>sw1 h20 rfl (v:=.agg ((Ao (EC t (j:Int) ⟨nm,n⟩)).toArray)) (rld h20 rfl rfl (Hd υ179 (s5.get 1 rfl:Blk _ _ _ _) (by rw [AD];exact ht))) fun _ h21=>mv h21 rfl fun _ h22=>cl h22 rfl (cF func147) (Pm s5 (by rw [AD];exact ht) hb) fun _ v3 w8 r3 h23=>?_
 obtain ⟨pa_x79,pc_x80,rfl,s6⟩:=r3
 refine mvs 5 h23 rfl fun _ h24=>h24.sn [16,15,13,12,11,9,8,0,1,2,3,4,5] rfl fun h25=>hK9 _ _<|sq fun _ hK10=>?_
 have s7:=s6.drew
 refine wp_region_held_drew (S:=fun w'=>Sep w' [AG 0 5 1 pa_x79 (bs).length pc_x80 ((bs).map Ad),Ab g2 177 [.string nm,ν n],Ab g1 179 (Ao (EC t (j:Int) ⟨nm,n⟩)),Ab g4 40 (AE x),Ab mx 125 [π K.tg],Ch.many R]) κ (s7.pk [0,1,2,3,4,6] rfl) (fun hq1=>?_)
 refine tv1 hq1 h25 0 rfl rfl (v:=ν 0) (fun w1 _=>(Au h25 rfl rfl) w1) fun _ h26=>?_
 refine tv1 hq1 h26 1 rfl rfl (v:=π mx) (fun w1 _=>(Au h26 rfl rfl) w1) fun _ h27=>?_
 refine tv1 hq1 h27 2 rfl rfl (v:=ν ((j / 4:Nat):Int)) (fun w1 _=>(Au h27 rfl rfl) w1) fun _ h28=>?_
 refine tv1 hq1 h28 3 rfl rfl (v:=.pointer (some ⟨g4,3,none⟩)) (fun w1 _=>(rfa h28 rfl rfl (fQ 3)) w1) fun _ h29=>?_
 refine tv1 hq1 h29 4 rfl rfl (v:=.pointer (some ⟨g4,3+(j / 4),none⟩)) (fun w1 _=>(Eo h29 rfl rfl rfl (fun w=>Aaf g4 (j / 4) ω ω w)) w1) fun _ h30=>?_
 refine tv1 hq1 h30 5 rfl rfl (v:=ν (x.blk (j / 4))) (fun w1 hSw=>(rld h30 rfl rfl (ldB υ3 rfl (hSw.get 3 rfl:Blk _ _ _ _) (LL x ω)))) fun _ h31=>?_
 refine tv1 hq1 h31 6 rfl rfl (v:=.slice pa_x79 bs.length pc_x80) (fun w1 _=>(Au h31 rfl rfl) w1) fun _ h32=>?_
 refine tv1 hq1 h32 8 rfl rfl (v:=π mx) (fun w1 _=>(Au h32 rfl rfl) w1) fun _ h33=>?_
 refine tv1 hq1 h33 9 rfl rfl (v:=ν p) (fun w1 _=>(Au h33 rfl rfl) w1) fun _ h34=>?_
 refine tv1 hq1 h34 10 rfl rfl (v:=.agg (AE x).toArray) (fun w1 hSw=>(rld h34 rfl rfl (ldA υ40 rfl (n:=15) κ (hSw.get 3 rfl:Blk _ _ _ _) rfl rfl))) fun _ h35=>?_
 refine to_ 7 rfl (wn rfl) κ fun _ hK11=>BD h35 rfl rfl rfl (xs:=[.tmp 53,.const (ν 7),.tmp 57,.tmp 58]) rfl (cF func54) rfl (vs:=[π mx,ν 7,ν (x.blk (j / 4)),.slice pa_x79 bs.length pc_x80]) rfl (args:=#[π mx,ν 7,ν (x.blk (j / 4)),.slice pa_x79 bs.length pc_x80]) rfl (CW (kd:=7) (nm:=x.blk (j / 4)) (xs:=bs) (s7.pk [0,4,5,1,2,3,6] rfl) hM ω) fun _ v4 w9 r4 h36=>?_
 obtain ⟨tax123,tcx124,rfl,s9⟩:=r4
 refine hK11 _ _ (s9.pk [0,3,4,5,1,6] rfl) fun hq2=>?_
 refine to_ 11 rfl (wn rfl) κ fun _ hK12=>BD h36 rfl rfl rfl (xs:=[.tmp 60,.tmp 61,.tmp 62]) rfl (cF func49) rfl (vs:=[π mx,ν p,.agg (AE x).toArray]) rfl (args:=#[π mx,ν p,.agg (AE x).toArray]) rfl (Gz (i:=p) (x:=x) (s9.pk [1,2,0,3,4,5,6] rfl) hM) fun _ v5 w10 r5 h37=>?_
 obtain ⟨tax133,tcx134,rfl,s10⟩:=r5
 refine hK12 _ _ (s10.pk [2,3,4,5,0,6] rfl) fun hq3=>?_
 refine to_ 12 rfl (wn rfl) κ fun _ hK13=>Cw h37 rfl rfl rfl (E:=26) (xs:=[(0,.tmp 52),(1,.tmp 59),(2,.tmp 63)]) rfl (vs:=[(0,ν 0),(1,ν (stE M P 7 (x.blk (j / 4)) bs.length)),(2,ν (CD M (stP M P 7 (x.blk (j / 4)) bs) p x))]) rfl (z:=[ν 0,ν (stE M P 7 (x.blk (j / 4)) bs.length),ν (CD M (stP M P 7 (x.blk (j / 4)) bs) p x)]) (fun _=>κ) s10 fun _ g3 w11 h38 s11 _ _=>?_
 refine hK13 _ _ (s11.pk [3,4,5,6,1,7] rfl) fun hq4=>?_
 refine to_ 13 rfl (wn rfl) κ fun _ hK14=>BD h38 rfl rfl rfl (xs:=[.tmp 64]) rfl (cF func50) rfl (vs:=[.slice (some ⟨g3,0,none⟩) 3 3]) rfl (args:=#[.slice (some ⟨g3,0,none⟩) 3 3]) rfl (DO (L:=[0,stE M P 7 (x.blk (j / 4)) bs.length,CD M (stP M P 7 (x.blk (j / 4)) bs) p x]) s11 (Nat.le_of_ble_eq_true rfl)) fun _ v6 w12 r6 h39=>?_
 obtain ⟨rfl,s12⟩:=r6
 refine hK14 _ _ (s12.pk [3,4,5,6,1,7] rfl) fun hq5=>h39.sk [65,64,63,59,62,61,60,58,57,56,55,54,53,52,16,15,13,11,9,8,0,1,2,3,4,5] rfl fun h40=>?_
 refine tv1 hq5 h40 14 rfl rfl (v:=ν (AJ [0,stE M P 7 (x.blk (j / 4)) bs.length,CD M (stP M P 7 (x.blk (j / 4)) bs) p x])) (fun w1 _=>(Bv h40 rfl rfl) w1) fun _ h41=>?_
 refine h41.sk [12,16,15,13,11,9,8,0,1,2,3,4,5] rfl fun h42=>?_
 refine wpAnyH_done κ ?_ _
 refine hK10 _ _ ?_
 refine wp_ret ?_
 try simp only [Exit.then,Exit.inBlock]
 refine AW (v:=ν (AJ [0,stE M P 7 (x.blk (j / 4)) bs.length,CD M (stP M P 7 (x.blk (j / 4)) bs) p x])) (Cz h42 rfl rfl) h42.defs ?_
 exact ⟨tax133,tcx134,rfl,Sep.tail_un (xs:=[_,_]) (s12.pk [1,2,7] rfl)⟩
theorem Acq {w:World} {R:List Ch} {mx:Nat} {K:VolK} {ta:Ω} {tc:Nat} {M:MemM} {P:List PtM} {p n spare:Int} {j:Nat} {nm:ByteArray} {bs:Λ} (hS0:Sep w ([Ab mx 125 [π K.tg],txP K ta tc M P]++R)) (hM:M.V.length=23168) (hs:nm.size≤1000) (hsp:-9223372036854775808≤spare∧spare≤9223372036854775807) (hj:j<16) (hd:Ot M P p=0) (hx:0≤(Az M P p).s∧(Az M P p).s≤1000) (hp:Ek (Eb M P p) nm=(j:Int)) (hk:(Az M P p).blk (j / 4)=0) (hbe:bE M P spare=0) (hu:GM (EC (Eb M P p) (j:Int) ⟨nm,n⟩) ((j / 4:Nat):Int)=true) (hb:FK (EC (Eb M P p) (j:Int) ⟨nm,n⟩) ((j / 4:Nat):Int)=some bs) (hbl:bs.length≤64) :
  CallsR prog 94 #[π mx,ν p,.string nm,ν n,ν spare] w (fun v w'=>∃ ta' tc',v=ν (Pp M P p spare j bs)∧Sep w' ([Ab mx 125 [π K.tg],txP K ta' tc' M (Ty M P p spare j bs)]++R)):=by
 have hS:Sep w [Ab mx 125 [π K.tg],txP K ta tc M P,Ch.many R]:=Sep.tail_many (xs:=[_,_]) hS0;clear hS0
 have hss:((Az M P p).setB (j / 4) (bN M P spare)).s=(Az M P p).s:=Aef _ _ _
 refine AB func94 rfl (N:=63) ntmps94 (by show 5≤63;decide) [(0,π mx),(1,ν p),(2,.string nm),(3,ν n),(4,ν spare)] rfl fun _ h1=>sqr fun _ hK3=>mv h1 rfl fun _ h4=>wpList_nil<|hK3 _ _<|sqr fun _ hK6=>mvs 2 h4 rfl fun _ h9=>cl h9 rfl (cF func116) (Kq (i:=p) hS hM) fun _ v1 w1 r1 h2=>?_
 obtain ⟨rfl,s1⟩:=r1
 refine mvs 4 h2 rfl fun _ h3=>so (wn rfl) fun _ hK1=>AO h3 rfl rfl rfl rfl (z:=[ν 0,ν 0,ν 0,ν 0,ν 0,ν 0,ν 0,ν 0,ν 0,ν 0,ν 0,ν 0,ν 0,ν 0,ν 0]) (fun _=>rfl) s1 fun _ g1 w2 h5 s2 _ _=>hK1 _ _ ?_
 refine so (wn rfl) fun _ hK2=>AO h5 rfl rfl rfl rfl (z:=Ao Bd) (fun _=>rfl) s2 fun _ g2 w3 h6 s3 _ _=>hK2 _ _ ?_
 refine stA h6 s3 1 rfl rfl rfl κ rfl rfl rfl rfl fun _ w4 h7 s4 _=>so (wn rfl) fun _ hK4=>GL h7 rfl rfl s4 0 rfl (by first | exact CK _ _ _ | exact Ap) (by first | exact CK _ _ _ | exact Ap) rfl rfl (cs':=[Ab g2 179 (Ao (Eb M P p)),Ab g1 40 (AE (Az M P p)),Ab mx 125 [π K.tg],txP K ta tc M P,Ch.many R]) rfl fun _ w5 h8 s5 _=>hK4 _ _ ?_
 refine mv h8 rfl fun _ h10=>h10.sn [13,12,11,10,0,1,2,3,4] rfl fun h11=>hK6 _ _<|sq fun _ hK5=>sqr fun _ hK7=>mv h11 rfl fun _ h12=>bv h12 (z:=.bool false) rfl (cNe _ _ _ _ (decide_eq_false ω)) fun _ h13=>h13.sn [24,13,12,11,10,0,1,2,3,4] rfl fun h14=>hK7 _ _<|wcF h14 rfl rfl<|h14.sk [13,12,11,10,0,1,2,3,4] rfl fun h15=>?_
 refine wp_skip<|hK5 _ _<|sqr fun _ hK8=>sw1 h15 rfl (v:=.agg ((Ao (Eb M P p)).toArray)) (rld h15 rfl rfl (Hd υ179 (s5.get 0 rfl:Blk _ _ _ _) (by first | exact CK _ _ _ | exact Ap))) fun _ h16=>mv h16 rfl fun _ h17=>cl h17 rfl (cF func117) (KA s5 (by first | exact CK _ _ _ | exact Ap) hs hp) fun _ v2 w6 r2 h18=>?_
 obtain ⟨rfl,s6⟩:=r2
 refine mv h18 rfl fun _ h19=>h19.sn [14,13,12,11,10,0,1,2,3,4] rfl fun h20=>hK8 _ _<|sq fun _ hK9=>sqr fun _ hK10=>mv h20 rfl fun _ h21=>bv h21 (z:=.bool false) rfl (cLt _ _ _ _ (decide_eq_false ω)) fun _ h22=>h22.sn [30,14,13,12,11,10,0,1,2,3,4] rfl fun h23=>hK10 _ _<|wcF h23 rfl rfl<|h23.sk [14,13,12,11,10,0,1,2,3,4] rfl fun h24=>?_
 refine wp_skip<|hK9 _ _<|sq fun _ hK11=>sqr fun _ hK12=>mv h24 rfl fun _ h25=>bv h25 (z:=ν ((j / 4:Nat):Int)) rfl (Acw _ _ _ (by decide) (Zi _) ω ω) fun _ h26=>mv h26 rfl fun _ h27=>h27.sn [15,14,13,12,11,10,0,1,2,3,4] rfl fun h28=>hK12 _ _<|sqr fun _ hK13=>mv h28 rfl fun _ h29=>fav h29 rfl (fQ 3) fun _ h30=>?_
 refine sv1 h30 rfl (v:=.pointer (some ⟨g1,3+(j / 4),none⟩)) (Eo h30 rfl rfl rfl (fun w=>Aaf g1 (j / 4) ω ω w)) fun _ h31=>sw1 h31 rfl (v:=ν ((Az M P p).blk (j / 4))) (rld h31 rfl rfl (ldB υ3 rfl (s6.get 1 rfl:Blk _ _ _ _) (LL (Az M P p) ω))) fun _ h32=>bv h32 (z:=.bool true) rfl (cEq _ _ _ _ (decide_eq_true ω)) fun _ h33=>h33.sn [37,15,14,13,12,11,10,0,1,2,3,4] rfl fun h34=>hK13 _ _<|wcT h34 rfl rfl<|h34.sk [15,14,13,12,11,10,0,1,2,3,4] rfl fun h35=>sqr fun _ hK14=>mvs 3 h35 rfl fun _ h36=>cl h36 rfl (cF func118) (ZC (spare:=spare) (s6.pk [2,3,0,1,4] rfl) hM ω) fun _ v3 w7 r3 h37=>?_
 obtain ⟨tax117,tcx118,rfl,s7⟩:=r3
 refine mvs 3 h37 rfl fun _ h38=>fav h38 rfl (fQ 3) fun _ h39=>sv1 h39 rfl (v:=.pointer (some ⟨g1,3+(j / 4),none⟩)) (Eo h39 rfl rfl rfl (fun w=>Aaf g1 (j / 4) ω ω w)) fun _ h40=>so (wn rfl) fun _ hK15=>FS h40 rfl rfl s7 3 rfl rfl rfl [ν (bN M P spare)] rfl κ rfl (by show 3+(j / 4)+1≤15;omega) (L':=AE ((Az M P p).setB (j / 4) (bN M P spare))) (Vl (Az M P p) ω) (cs':=[Ab mx 125 [π K.tg],txP K tax117 tcx118 M (bP M P spare),Ab g2 179 (Ao (Eb M P p)),Ab g1 40 (AE ((Az M P p).setB (j / 4) (bN M P spare))),Ch.many R]) rfl fun _ w8 h41 s8 _=>hK15 _ _ ?_
 refine h41.sk [46,45,44,43,38,42,41,40,39,15,14,12,11,10,0,1,2,3,4] rfl fun h42=>mv h42 rfl fun _ h43=>h43.sn [13,15,14,12,11,10,0,1,2,3,4] rfl fun h44=>hK14 _ _<|sqr fun _ hK16=>mv h44 rfl fun _ h45=>bv h45 (z:=.bool false) rfl (cNe _ _ _ _ (decide_eq_false ω)) fun _ h46=>h46.sn [48,13,15,14,12,11,10,0,1,2,3,4] rfl fun h47=>hK16 _ _<|wcF h47 rfl rfl ?_
 refine h47.sk [13,15,14,12,11,10,0,1,2,3,4] rfl fun h48=>wp_skip<|hK11 _ _<|sqr fun _ hK17=>fav h48 rfl (fQ 2) fun _ h49=>ldv h49 s8 3 υ3 rfl rfl rfl rfl fun _ h50=>bv h50 (z:=ν (((Az M P p).setB (j / 4) (bN M P spare)).s+1)) rfl (CT _ _ _ ω ω ω) fun _ h51=>fav h51 rfl (fQ 2) fun _ h52=>st1 h52 s8 3 rfl rfl κ rfl rfl rfl rfl fun _ w9 h53 s9 _=>h53.sn [13,15,14,12,11,10,0,1,2,3,4] rfl fun h54=>hK17 _ _ ?_
 refine sqr fun _ hK18=>mvs 2 h54 rfl fun _ h55=>sw1 h55 rfl (v:=.agg (AE (⟨((Az M P p).setB (j / 4) (bN M P spare)).k,((Az M P p).setB (j / 4) (bN M P spare)).l,((Az M P p).setB (j / 4) (bN M P spare)).s+1,((Az M P p).setB (j / 4) (bN M P spare)).b0,((Az M P p).setB (j / 4) (bN M P spare)).b1,((Az M P p).setB (j / 4) (bN M P spare)).b2,((Az M P p).setB (j / 4) (bN M P spare)).b3,((Az M P p).setB (j / 4) (bN M P spare)).o0,((Az M P p).setB (j / 4) (bN M P spare)).o1,((Az M P p).setB (j / 4) (bN M P spare)).o2,((Az M P p).setB (j / 4) (bN M P spare)).o3,((Az M P p).setB (j / 4) (bN M P spare)).o4,((Az M P p).setB (j / 4) (bN M P spare)).o5,((Az M P p).setB (j / 4) (bN M P spare)).o6,((Az M P p).setB (j / 4) (bN M P spare)).o7⟩:InoT)).toArray) (rld h55 rfl rfl (ldA υ40 rfl (n:=15) κ (s9.get 3 rfl:Blk _ _ _ _) rfl rfl)) fun _ h56=>sw1 h56 rfl (v:=.agg ((Ao (Eb M P p)).toArray)) (rld h56 rfl rfl (Hd υ179 (s9.get 2 rfl:Blk _ _ _ _) (by first | exact CK _ _ _ | exact Ap))) fun _ h57=>mvs 3 h57 rfl fun _ h58=>bu h58 (v:=.agg #[.string nm,ν n]) rfl (fun w=>κ) fun _ h59=>cl h59 rfl (cF func119) (ME (x:=(⟨((Az M P p).setB (j / 4) (bN M P spare)).k,((Az M P p).setB (j / 4) (bN M P spare)).l,((Az M P p).setB (j / 4) (bN M P spare)).s+1,((Az M P p).setB (j / 4) (bN M P spare)).b0,((Az M P p).setB (j / 4) (bN M P spare)).b1,((Az M P p).setB (j / 4) (bN M P spare)).b2,((Az M P p).setB (j / 4) (bN M P spare)).b3,((Az M P p).setB (j / 4) (bN M P spare)).o0,((Az M P p).setB (j / 4) (bN M P spare)).o1,((Az M P p).setB (j / 4) (bN M P spare)).o2,((Az M P p).setB (j / 4) (bN M P spare)).o3,((Az M P p).setB (j / 4) (bN M P spare)).o4,((Az M P p).setB (j / 4) (bN M P spare)).o5,((Az M P p).setB (j / 4) (bN M P spare)).o6,((Az M P p).setB (j / 4) (bN M P spare)).o7⟩:InoT)) (t:=(Eb M P p)) (nm:=nm) (n:=n) s9 hM (by first | exact CK _ _ _ | exact Ap) hj hu hb hbl) fun _ v4 w10 r4 h60=>?_
 obtain ⟨tax186,tcx187,rfl,s10⟩:=r4
 refine h60.sk [62,61,60,59,58,57,56,55,54,13,15,14,12,11,0,1,2,3,4] rfl fun h61=>mv h61 rfl fun _ h62=>h62.sn [10,13,15,14,12,11,0,1,2,3,4] rfl fun h63=>hK18 _ _<|wp_ret ?_
 try simp only [Exit.then,Exit.inBlock]
 refine AW (v:=ν (RM M (bP M P spare) p (⟨((Az M P p).setB (j / 4) (bN M P spare)).k,((Az M P p).setB (j / 4) (bN M P spare)).l,((Az M P p).setB (j / 4) (bN M P spare)).s+1,((Az M P p).setB (j / 4) (bN M P spare)).b0,((Az M P p).setB (j / 4) (bN M P spare)).b1,((Az M P p).setB (j / 4) (bN M P spare)).b2,((Az M P p).setB (j / 4) (bN M P spare)).b3,((Az M P p).setB (j / 4) (bN M P spare)).o0,((Az M P p).setB (j / 4) (bN M P spare)).o1,((Az M P p).setB (j / 4) (bN M P spare)).o2,((Az M P p).setB (j / 4) (bN M P spare)).o3,((Az M P p).setB (j / 4) (bN M P spare)).o4,((Az M P p).setB (j / 4) (bN M P spare)).o5,((Az M P p).setB (j / 4) (bN M P spare)).o6,((Az M P p).setB (j / 4) (bN M P spare)).o7⟩:InoT) j bs)) (Cz h63 rfl rfl) h63.defs ?_
 exact ⟨tax186,tcx187,rfl,Sep.tail_un (xs:=[_,_]) (s10.pk [0,1,4] rfl)⟩
theorem Acr {w:World} {R:List Ch} {mx:Nat} {K:VolK} {ta:Ω} {tc:Nat} {M:MemM} {P:List PtM} {p n spare:Int} {j:Nat} {nm:ByteArray} {bs:Λ} (hS0:Sep w ([Ab mx 125 [π K.tg],txP K ta tc M P]++R)) (hM:M.V.length=23168) (hs:nm.size≤1000) (hsp:-9223372036854775808≤spare∧spare≤9223372036854775807) (hj:j<16) (hd:Ot M P p=0) (hx:0≤(Az M P p).s∧(Az M P p).s≤1000) (hp:Ek (Eb M P p) nm=(j:Int)) (hk:(Az M P p).blk (j / 4)≠0) (hu:GM (EC (Eb M P p) (j:Int) ⟨nm,n⟩) ((j / 4:Nat):Int)=true) (hb:FK (EC (Eb M P p) (j:Int) ⟨nm,n⟩) ((j / 4:Nat):Int)=some bs) (hbl:bs.length≤64) :
  CallsR prog 94 #[π mx,ν p,.string nm,ν n,ν spare] w (fun v w'=>∃ ta' tc',v=ν (Pq M P p j bs)∧Sep w' ([Ab mx 125 [π K.tg],txP K ta' tc' M (Tz M P p j bs)]++R)):=by
 have hS:Sep w [Ab mx 125 [π K.tg],txP K ta tc M P,Ch.many R]:=Sep.tail_many (xs:=[_,_]) hS0;clear hS0
 refine AB func94 rfl (N:=63) ntmps94 (by show 5≤63;decide) [(0,π mx),(1,ν p),(2,.string nm),(3,ν n),(4,ν spare)] rfl fun _ h1=>sqr fun _ hK3=>mv h1 rfl fun _ h4=>wpList_nil<|hK3 _ _<|sqr fun _ hK6=>mvs 2 h4 rfl fun _ h9=>cl h9 rfl (cF func116) (Kq (i:=p) hS hM) fun _ v1 w1 r1 h2=>?_
 obtain ⟨rfl,s1⟩:=r1
 refine mvs 4 h2 rfl fun _ h3=>so (wn rfl) fun _ hK1=>AO h3 rfl rfl rfl rfl (z:=[ν 0,ν 0,ν 0,ν 0,ν 0,ν 0,ν 0,ν 0,ν 0,ν 0,ν 0,ν 0,ν 0,ν 0,ν 0]) (fun _=>rfl) s1 fun _ g1 w2 h5 s2 _ _=>hK1 _ _ ?_
 refine so (wn rfl) fun _ hK2=>AO h5 rfl rfl rfl rfl (z:=Ao Bd) (fun _=>rfl) s2 fun _ g2 w3 h6 s3 _ _=>hK2 _ _ ?_
 refine stA h6 s3 1 rfl rfl rfl κ rfl rfl rfl rfl fun _ w4 h7 s4 _=>so (wn rfl) fun _ hK4=>GL h7 rfl rfl s4 0 rfl (by first | exact CK _ _ _ | exact Ap) (by first | exact CK _ _ _ | exact Ap) rfl rfl (cs':=[Ab g2 179 (Ao (Eb M P p)),Ab g1 40 (AE (Az M P p)),Ab mx 125 [π K.tg],txP K ta tc M P,Ch.many R]) rfl fun _ w5 h8 s5 _=>hK4 _ _ ?_
 refine mv h8 rfl fun _ h10=>h10.sn [13,12,11,10,0,1,2,3,4] rfl fun h11=>hK6 _ _<|sq fun _ hK5=>sqr fun _ hK7=>mv h11 rfl fun _ h12=>bv h12 (z:=.bool false) rfl (cNe _ _ _ _ (decide_eq_false ω)) fun _ h13=>h13.sn [24,13,12,11,10,0,1,2,3,4] rfl fun h14=>hK7 _ _<|wcF h14 rfl rfl<|h14.sk [13,12,11,10,0,1,2,3,4] rfl fun h15=>?_
 refine wp_skip<|hK5 _ _<|sqr fun _ hK8=>sw1 h15 rfl (v:=.agg ((Ao (Eb M P p)).toArray)) (rld h15 rfl rfl (Hd υ179 (s5.get 0 rfl:Blk _ _ _ _) (by first | exact CK _ _ _ | exact Ap))) fun _ h16=>mv h16 rfl fun _ h17=>cl h17 rfl (cF func117) (KA s5 (by first | exact CK _ _ _ | exact Ap) hs hp) fun _ v2 w6 r2 h18=>?_
 obtain ⟨rfl,s6⟩:=r2
 refine mv h18 rfl fun _ h19=>h19.sn [14,13,12,11,10,0,1,2,3,4] rfl fun h20=>hK8 _ _<|sq fun _ hK9=>sqr fun _ hK10=>mv h20 rfl fun _ h21=>bv h21 (z:=.bool false) rfl (cLt _ _ _ _ (decide_eq_false ω)) fun _ h22=>h22.sn [30,14,13,12,11,10,0,1,2,3,4] rfl fun h23=>hK10 _ _<|wcF h23 rfl rfl<|h23.sk [14,13,12,11,10,0,1,2,3,4] rfl fun h24=>?_
 refine wp_skip<|hK9 _ _<|sq fun _ hK11=>sqr fun _ hK12=>mv h24 rfl fun _ h25=>bv h25 (z:=ν ((j / 4:Nat):Int)) rfl (Acw _ _ _ (by decide) (Zi _) ω ω) fun _ h26=>mv h26 rfl fun _ h27=>h27.sn [15,14,13,12,11,10,0,1,2,3,4] rfl fun h28=>hK12 _ _<|sqr fun _ hK13=>mv h28 rfl fun _ h29=>fav h29 rfl (fQ 3) fun _ h30=>?_
 refine sv1 h30 rfl (v:=.pointer (some ⟨g1,3+(j / 4),none⟩)) (Eo h30 rfl rfl rfl (fun w=>Aaf g1 (j / 4) ω ω w)) fun _ h31=>sw1 h31 rfl (v:=ν ((Az M P p).blk (j / 4))) (rld h31 rfl rfl (ldB υ3 rfl (s6.get 1 rfl:Blk _ _ _ _) (LL (Az M P p) ω))) fun _ h32=>bv h32 (z:=.bool false) rfl (cEq _ _ _ _ (decide_eq_false ω)) fun _ h33=>h33.sn [37,15,14,13,12,11,10,0,1,2,3,4] rfl fun h34=>hK13 _ _<|wcF h34 rfl rfl<|h34.sk [15,14,13,12,11,10,0,1,2,3,4] rfl fun h35=>wp_skip<|hK11 _ _<|sqr fun _ hK14=>fav h35 rfl (fQ 2) fun _ h36=>?_
 refine ldv h36 s6 1 υ3 rfl rfl rfl rfl fun _ h37=>bv h37 (z:=ν ((Az M P p).s+1)) rfl (CT _ _ _ ω ω ω) fun _ h38=>fav h38 rfl (fQ 2) fun _ h39=>st1 h39 s6 1 rfl rfl κ rfl rfl rfl rfl fun _ w7 h40 s7 _=>h40.sn [15,14,13,12,11,10,0,1,2,3,4] rfl fun h41=>hK14 _ _<|sqr fun _ hK15=>mvs 2 h41 rfl fun _ h42=>sw1 h42 rfl (v:=.agg (AE (⟨(Az M P p).k,(Az M P p).l,(Az M P p).s+1,(Az M P p).b0,(Az M P p).b1,(Az M P p).b2,(Az M P p).b3,(Az M P p).o0,(Az M P p).o1,(Az M P p).o2,(Az M P p).o3,(Az M P p).o4,(Az M P p).o5,(Az M P p).o6,(Az M P p).o7⟩:InoT)).toArray) (rld h42 rfl rfl (ldA υ40 rfl (n:=15) κ (s7.get 1 rfl:Blk _ _ _ _) rfl rfl)) fun _ h43=>sw1 h43 rfl (v:=.agg ((Ao (Eb M P p)).toArray)) (rld h43 rfl rfl (Hd υ179 (s7.get 0 rfl:Blk _ _ _ _) (by first | exact CK _ _ _ | exact Ap))) fun _ h44=>?_
 refine mvs 3 h44 rfl fun _ h45=>bu h45 (v:=.agg #[.string nm,ν n]) rfl (fun w=>κ) fun _ h46=>cl h46 rfl (cF func119) (ME (x:=(⟨(Az M P p).k,(Az M P p).l,(Az M P p).s+1,(Az M P p).b0,(Az M P p).b1,(Az M P p).b2,(Az M P p).b3,(Az M P p).o0,(Az M P p).o1,(Az M P p).o2,(Az M P p).o3,(Az M P p).o4,(Az M P p).o5,(Az M P p).o6,(Az M P p).o7⟩:InoT)) (t:=(Eb M P p)) (nm:=nm) (n:=n) (s7.pk [2,3,0,1,4] rfl) hM (by first | exact CK _ _ _ | exact Ap) hj hu hb hbl) fun _ v3 w8 r3 h47=>?_
 obtain ⟨tax143,tcx144,rfl,s8⟩:=r3
 refine h47.sk [62,61,60,59,58,57,56,55,54,15,14,13,12,11,0,1,2,3,4] rfl fun h48=>mv h48 rfl fun _ h49=>h49.sn [10,15,14,13,12,11,0,1,2,3,4] rfl fun h50=>hK15 _ _<|wp_ret ?_
 try simp only [Exit.then,Exit.inBlock]
 refine AW (v:=ν (RM M P p (⟨(Az M P p).k,(Az M P p).l,(Az M P p).s+1,(Az M P p).b0,(Az M P p).b1,(Az M P p).b2,(Az M P p).b3,(Az M P p).o0,(Az M P p).o1,(Az M P p).o2,(Az M P p).o3,(Az M P p).o4,(Az M P p).o5,(Az M P p).o6,(Az M P p).o7⟩:InoT) j bs)) (Cz h50 rfl rfl) h50.defs ?_
 exact ⟨tax143,tcx144,rfl,Sep.tail_un (xs:=[_,_]) (s8.pk [0,1,4] rfl)⟩
theorem UR {w:World} {R:List Ch} {mx:Nat} {K:VolK} {ta:Ω} {tc:Nat} {M:MemM} {P:List PtM} {p n spare E:Int} {x:InoT} {nm:ByteArray} {P2:List PtM} (hS0:Sep w ([Ab mx 125 [π K.tg],txP K ta tc M P]++R)) (hM:M.V.length=23168) (hnn:GH M P=(n,0)) (hadd:∀ {w:World} {R:List Ch} {ta:Ω} {tc:Nat},Sep w ([Ab mx 125 [π K.tg],txP K ta tc M (BC M P n x)]++R)→CallsR prog 94 #[π mx,ν p,.string nm,ν n,ν spare] w (fun v w'=>∃ ta' tc',v=ν E∧Sep w' ([Ab mx 125 [π K.tg],txP K ta' tc' M P2]++R))) (hE:AJ [CD M P n x,E]=0) :
  CallsR prog 61 #[π mx,ν p,.string nm,.agg (AE x).toArray,ν spare] w (fun v w'=>∃ ta' tc',v=.tuple #[ν n,ν 0]∧Sep w' ([Ab mx 125 [π K.tg],txP K ta' tc' M P2]++R)):=by
 have hS:Sep w [Ab mx 125 [π K.tg],txP K ta tc M P,Ch.many R]:=Sep.tail_many (xs:=[_,_]) hS0;clear hS0
 refine AB func61 rfl (N:=39) ntmps61 (by show 5≤39;decide) [(0,π mx),(1,ν p),(2,.string nm),(3,.agg (AE x).toArray),(4,ν spare)] rfl fun _ h1=>sqr fun _ hK3=>so (wn rfl) fun _ hK1=>JE h1 rfl rfl rfl rfl rfl (z:=(AE x)) rfl hS fun _ g4 w7 h5 s8 _ _=>hK1 _ _ ?_
 refine mvs 2 h5 rfl fun _ h2=>wpList_nil<|hK3 _ _<|sqr fun _ hK2=>mv h2 rfl fun _ h3=>cl h3 rfl (cF func93) (Sw (s8.pk [1,2,0,3] rfl) hM hnn) fun _ v1 w1 r1 h4=>?_
 obtain ⟨rfl,s1⟩:=r1
 refine mvs 5 h4 rfl fun _ h6=>h6.sn [13,12,11,10,8,0,1,2,3,4] rfl fun h7=>hK2 _ _<|sq fun _ hK4=>sqr fun _ hK5=>mv h7 rfl fun _ h8=>bv h8 (z:=.bool false) rfl (cNe _ _ _ _ rfl) fun _ h9=>h9.sn [21,13,12,11,10,8,0,1,2,3,4] rfl fun h10=>hK5 _ _<|wcF h10 rfl rfl<|h10.sk [13,12,11,10,8,0,1,2,3,4] rfl fun h11=>?_
 refine wp_skip<|hK4 _ _<|sq fun _ hK6=>sqr fun _ hK7=>mvs 2 h11 rfl fun _ h12=>sw1 h12 rfl (v:=.agg (AE x).toArray) (rld h12 rfl rfl (ldA υ40 rfl (n:=15) κ (s1.get 2 rfl:Blk _ _ _ _) rfl rfl)) fun _ h13=>cl h13 rfl (cF func49) (Gz (i:=n) (x:=x) s1 hM) fun _ v2 w2 r2 h14=>?_
 obtain ⟨tax53,tcx54,rfl,s2⟩:=r2
 refine mvs 5 h14 rfl fun _ h15=>cl h15 rfl (cF func94) (hadd s2) fun _ v3 w3 r3 h16=>?_
 obtain ⟨tax72,tcx73,rfl,s3⟩:=r3
 refine so (wn rfl) fun _ hK8=>Cw h16 rfl rfl rfl (E:=26) (xs:=[(0,.tmp 26),(1,.tmp 32)]) rfl (vs:=[(0,ν (CD M P n x)),(1,ν E)]) rfl (z:=[ν (CD M P n x),ν E]) (fun _=>κ) s3 fun _ g1 w4 h17 s4 _ _=>hK8 _ _ ?_
 refine cl h17 rfl (cF func50) (DO (L:=[CD M P n x,E]) s4 (Nat.le_of_ble_eq_true rfl)) fun _ v4 w5 r4 h18=>?_
 obtain ⟨rfl,s5⟩:=r4
 refine mv h18 rfl fun _ h19=>h19.sn [14,13,12,11,10,8,0,1,2,3,4] rfl fun h20=>hK7 _ _<|sqr fun _ hK9=>mv h20 rfl fun _ h21=>bv h21 (z:=.bool false) rfl (cNe _ _ _ _ (decide_eq_false ω)) fun _ h22=>h22.sn [36,14,13,12,11,10,8,0,1,2,3,4] rfl fun h23=>hK9 _ _<|wcF h23 rfl rfl<|h23.sk [14,13,12,11,10,8,0,1,2,3,4] rfl fun h24=>?_
 refine wp_skip<|hK6 _ _<|sqr fun _ hK10=>mv h24 rfl fun _ h25=>h25.sk [38,14,13,12,11,8,0,1,2,3,4] rfl fun h26=>mv h26 rfl fun _ h27=>h27.sk [10,38,14,13,12,8,0,1,2,3,4] rfl fun h28=>mv h28 rfl fun _ h29=>h29.sn [11,10,14,13,12,8,0,1,2,3,4] rfl fun h30=>hK10 _ _<|wp_ret ?_
 try simp only [Exit.then,Exit.inBlock]
 refine AW (v:=.tuple #[ν n,ν 0]) (DK h30 rfl rfl rfl) h30.defs ?_
 exact ⟨tax72,tcx73,rfl,Sep.tail_un (xs:=[_,_]) (s5.pk [1,2,4] rfl)⟩
theorem Uh {w:World} {R:List Ch} {mx:Nat} {K:VolK} {ta:Ω} {tc:Nat} {M:MemM} {P:List PtM} {n E:Int} {X:Λ} {nm:ByteArray} {P2:List PtM} (hS0:Sep w ([Ab mx 125 [π K.tg],txP K ta tc M P]++R)) (hM:M.V.length=23168) (hX:X.length≤1000) (hnd:GG M P X=(0,BS,10)) (hpl:EL M P X=(1,nm,0)) (hnn:GH M P=(n,0)) (hadd:∀ {w:World} {R:List Ch} {ta:Ω} {tc:Nat},Sep w ([Ab mx 125 [π K.tg],txP K ta tc M (BC M P n (⟨1,1,0,0,0,0,0,1,0,0,0,0,0,0,0⟩:InoT))]++R)→CallsR prog 94 #[π mx,ν 1,.string nm,ν n,ν 0] w (fun v w'=>∃ ta' tc',v=ν E∧Sep w' ([Ab mx 125 [π K.tg],txP K ta' tc' M P2]++R))) (hE:AJ [CD M P n (⟨1,1,0,0,0,0,0,1,0,0,0,0,0,0,0⟩:InoT),E]=0) :
  CallsR prog 23 #[π mx,ν 1,σ X,ν 1,.bool false,ν 0] w (fun v w'=>∃ ta' tc',v=.tuple #[ν n,ν 0]∧Sep w' ([Ab mx 125 [π K.tg],txP K ta' tc' M P2]++R)):=by
 have hS:Sep w [Ab mx 125 [π K.tg],txP K ta tc M P,Ch.many R]:=Sep.tail_many (xs:=[_,_]) hS0;clear hS0
 refine AB func23 rfl (N:=83) ntmps23 (by show 6≤83;decide) [(0,π mx),(1,ν 1),(2,σ X),(3,ν 1),(4,.bool false),(5,ν 0)] rfl fun _ h1=>sqr fun _ hK3=>mvs 2 h1 rfl fun _ h6=>wpList_nil<|hK3 _ _<|sq fun _ hK8=>sqr fun _ hK9=>mv h6 rfl fun _ h2=>cl h2 rfl (cF func57) (Sj hS) fun _ v1 w1 r1 h3=>?_
 obtain ⟨rfl,s1⟩:=r1
 refine mv h3 rfl fun _ h4=>h4.sn [22,13,12,0,1,2,3,4,5] rfl fun h5=>hK9 _ _<|wcF h5 rfl rfl<|h5.sk [13,12,0,1,2,3,4,5] rfl fun h7=>wp_skip<|hK8 _ _<|sq fun _ hK1=>sqr fun _ hK2=>mv h7 rfl fun _ h8=>bv h8 (z:=.bool true) rfl (cNe _ _ _ _ rfl) fun _ h9=>mv h9 rfl fun _ h10=>?_
 refine sv h10 (wT h10 (E:=true) rfl rfl rfl) rfl rfl rfl (v:=ν 1) (Au h10 rfl rfl) fun _ h11=>sv h11 (wT h11 (E:=true) rfl rfl rfl) rfl rfl rfl (v:=.bool false) (Co h11 rfl rfl rfl (cNe _ _ _ _ rfl)) fun _ h12=>sv1 h12 rfl (v:=.bool false) (BA h12 rfl rfl rfl) fun _ h13=>mv h13 rfl fun _ h14=>su h14 (wT h14 (E:=false) rfl rfl rfl) rfl rfl rfl fun _ h15=>su h15 (wT h15 (E:=false) rfl rfl rfl) rfl rfl rfl fun _ h16=>sv1 h16 rfl (v:=.bool false) (BA h16 rfl rfl rfl) fun _ h17=>h17.sn [32,13,12,0,1,2,3,4,5] rfl fun h18=>hK2 _ _<|wcF h18 rfl rfl ?_
 refine h18.sk [13,12,0,1,2,3,4,5] rfl fun h19=>wp_skip<|hK1 _ _<|sqr fun _ hK4=>mvs 2 h19 rfl fun _ h20=>cl h20 rfl (cF func58) (VB (X:=X) s1 hM hX hnd) fun _ v2 w2 r2 h21=>?_
 obtain ⟨rfl,s2⟩:=r2
 refine mvs 4 h21 rfl fun _ h22=>so (wn rfl) fun _ hK5=>AO h22 rfl rfl rfl rfl (z:=[ν 0,ν 0,ν 0,ν 0,ν 0,ν 0,ν 0,ν 0,ν 0,ν 0,ν 0,ν 0,ν 0,ν 0,ν 0]) (fun _=>rfl) s2 fun _ g1 w3 h23 s3 _ _=>hK5 _ _ ?_
 refine mv h23 rfl fun _ h24=>stA h24 s3 0 rfl rfl rfl κ rfl rfl rfl rfl fun _ w4 h25 s4 _=>mv h25 rfl fun _ h26=>h26.sn [16,14,15,13,12,0,1,2,3,4,5] rfl fun h27=>hK4 _ _<|sq fun _ hK6=>sqr fun _ hK7=>mv h27 rfl fun _ h28=>bv h28 (z:=.bool false) rfl (cEq _ _ _ _ rfl) fun _ h29=>h29.sn [41,16,14,15,13,12,0,1,2,3,4,5] rfl fun h30=>hK7 _ _ ?_
 refine wcF h30 rfl rfl<|h30.sk [16,14,15,13,12,0,1,2,3,4,5] rfl fun h31=>wp_skip<|hK6 _ _<|sqr fun _ hK10=>mvs 2 h31 rfl fun _ h32=>cl h32 rfl (cF func60) (SM (X:=X) (s4.pk [1,2,0,3] rfl) hM hX hpl) fun _ v3 w5 r3 h33=>?_
 obtain ⟨rfl,s5⟩:=r3
 refine mvs 7 h33 rfl fun _ h34=>h34.sn [19,18,17,16,14,15,13,12,0,1,2,3,4,5] rfl fun h35=>hK10 _ _<|sq fun _ hK11=>sqr fun _ hK12=>mv h35 rfl fun _ h36=>bv h36 (z:=.bool false) rfl (cNe _ _ _ _ rfl) fun _ h37=>mv h37 rfl fun _ h38=>sv h38 (wF h38 (E:=false) rfl rfl rfl) rfl rfl rfl (v:=ν 0) (Au h38 rfl rfl) fun _ h39=>sv h39 (wF h39 (E:=false) rfl rfl rfl) rfl rfl rfl (v:=.bool false) (Co h39 rfl rfl rfl (cNe _ _ _ _ rfl)) fun _ h40=>sv1 h40 rfl (v:=.bool false) (BA h40 rfl rfl rfl) fun _ h41=>?_
 refine mv h41 rfl fun _ h42=>sv h42 (wF h42 (E:=false) rfl rfl rfl) rfl rfl rfl (v:=ν 1) (Au h42 rfl rfl) fun _ h43=>sv h43 (wF h43 (E:=false) rfl rfl rfl) rfl rfl rfl (v:=.bool false) (Co h43 rfl rfl rfl (cEq _ _ _ _ rfl)) fun _ h44=>sv1 h44 rfl (v:=.bool false) (BA h44 rfl rfl rfl) fun _ h45=>h45.sn [67,19,18,17,16,14,15,13,12,0,1,2,3,4,5] rfl fun h46=>hK12 _ _<|wcF h46 rfl rfl<|h46.sk [19,18,17,16,14,15,13,12,0,1,2,3,4,5] rfl fun h47=>wp_skip<|hK11 _ _<|sq fun _ hK13=>sq fun _ hK14=>wp_region_lit ?_
 refine mv h47 rfl fun _ h48=>wpList_nil<|hK14 _ _<|wcF h48 rfl rfl<|h48.sk [19,18,17,16,14,15,13,12,0,1,2,3,4,5] rfl fun h49=>wp_skip<|hK13 _ _<|sqr fun _ hK15=>bu h49 (v:=.agg (AE (⟨1,1,0,0,0,0,0,0,0,0,0,0,0,0,0⟩:InoT)).toArray) rfl (fun w=>κ) fun _ h50=>stA h50 s5 2 rfl rfl rfl κ rfl rfl rfl rfl fun _ w6 h51 s6 _=>h51.sn [19,18,17,16,14,15,13,12,0,1,2,3,4,5] rfl fun h52=>hK15 _ _ ?_
 refine sqr fun _ hK16=>mv h52 rfl fun _ h53=>bv h53 (z:=ν 0) rfl (Acx _ _ _ (by decide) (by decide) (by decide)) fun _ h54=>fav h54 rfl (fQ 7) fun _ h55=>sv1 h55 rfl (v:=.pointer (some ⟨g1,7,none⟩)) (Eo h55 rfl rfl rfl (fun w=>Agw g1 0 ω ω w)) fun _ h56=>st1 h56 s6 2 rfl rfl κ rfl rfl rfl rfl fun _ w7 h57 s7 _=>h57.sn [19,18,17,16,14,15,13,12,0,1,2,3,4,5] rfl fun h58=>hK16 _ _<|sqr fun _ hK17=>mvs 3 h58 rfl fun _ h59=>?_
 refine sw1 h59 rfl (v:=.agg (AE (⟨1,1,0,0,0,0,0,1,0,0,0,0,0,0,0⟩:InoT)).toArray) (rld h59 rfl rfl (ldA υ40 rfl (n:=15) κ (s7.get 2 rfl:Blk _ _ _ _) rfl rfl)) fun _ h60=>mv h60 rfl fun _ h61=>cl h61 rfl (cF func61) (UR (p:=1) (nm:=nm) (n:=n) (x:=(⟨1,1,0,0,0,0,0,1,0,0,0,0,0,0,0⟩:InoT)) (spare:=0) s7 hM hnn hadd hE) fun _ v4 w8 r4 h62=>?_
 obtain ⟨tax187,tcx188,rfl,s8⟩:=r4
 refine mvs 2 h62 rfl fun _ h63=>h63.sk [82,81,80,79,78,77,76,75,19,18,17,16,14,15,13,0,1,2,3,4,5] rfl fun h64=>mv h64 rfl fun _ h65=>h65.sk [12,82,81,80,79,78,77,76,75,19,18,17,16,14,15,0,1,2,3,4,5] rfl fun h66=>mv h66 rfl fun _ h67=>h67.sn [13,12,19,18,17,16,14,15,0,1,2,3,4,5] rfl fun h68=>hK17 _ _<|wp_ret ?_
 try simp only [Exit.then,Exit.inBlock]
 refine AW (v:=.tuple #[ν n,ν 0]) (DK h68 rfl rfl rfl) h68.defs ?_
 exact ⟨tax187,tcx188,rfl,Sep.tail_un (xs:=[_,_]) (s8.pk [0,1,3] rfl)⟩
theorem Aa1 {w:World} {R:List Ch} {mx:Nat} {K:VolK} {ta:Ω} {tc:Nat} {M:MemM} {P:List PtM}  {n:Int} {X:Λ} {j:Nat} {nm:ByteArray} {bs:Λ} (hS0:Sep w ([Ab mx 125 [π K.tg],txP K ta tc M P]++R)) (hM:M.V.length=23168)  (hX:X.length≤1000) (hnd:GG M P X=(0,BS,10)) (hpl:EL M P X=(1,nm,0)) (hnn:GH M P=(n,0)) (hs:nm.size≤1000) (hj:j<16) (hd:Ot M (BC M P n (⟨1,1,0,0,0,0,0,1,0,0,0,0,0,0,0⟩:InoT)) 1=0) (hx:0≤(Az M (BC M P n (⟨1,1,0,0,0,0,0,1,0,0,0,0,0,0,0⟩:InoT)) 1).s∧(Az M (BC M P n (⟨1,1,0,0,0,0,0,1,0,0,0,0,0,0,0⟩:InoT)) 1).s≤1000) (hp:Ek (Eb M (BC M P n (⟨1,1,0,0,0,0,0,1,0,0,0,0,0,0,0⟩:InoT)) 1) nm=(j:Int)) (hk:(Az M (BC M P n (⟨1,1,0,0,0,0,0,1,0,0,0,0,0,0,0⟩:InoT)) 1).blk (j / 4)=0) (hbe:bE M (BC M P n (⟨1,1,0,0,0,0,0,1,0,0,0,0,0,0,0⟩:InoT)) 0=0) (hu:GM (EC (Eb M (BC M P n (⟨1,1,0,0,0,0,0,1,0,0,0,0,0,0,0⟩:InoT)) 1) (j:Int) ⟨nm,n⟩) ((j / 4:Nat):Int)=true) (hb:FK (EC (Eb M (BC M P n (⟨1,1,0,0,0,0,0,1,0,0,0,0,0,0,0⟩:InoT)) 1) (j:Int) ⟨nm,n⟩) ((j / 4:Nat):Int)=some bs) (hbl:bs.length≤64) (hE:AJ [CD M P n (⟨1,1,0,0,0,0,0,1,0,0,0,0,0,0,0⟩:InoT),Pp M (BC M P n (⟨1,1,0,0,0,0,0,1,0,0,0,0,0,0,0⟩:InoT)) 1 0 j bs]=0):CallsR prog 23 #[π mx,ν 1,σ X,ν 1,.bool false,ν 0] w (fun v w'=>∃ ta' tc',v=.tuple #[ν n,ν 0]∧Sep w' ([Ab mx 125 [π K.tg],txP K ta' tc' M (Ty M (BC M P n (⟨1,1,0,0,0,0,0,1,0,0,0,0,0,0,0⟩:InoT)) 1 0 j bs)]++R)):=
 Uh hS0 hM hX hnd hpl hnn (fun h=>Acq h hM hs (by decide) hj hd hx hp hk hbe hu hb hbl) hE
theorem Aa2 {w:World} {R:List Ch} {mx:Nat} {K:VolK} {ta:Ω} {tc:Nat} {M:MemM} {P:List PtM}  {n:Int} {X:Λ} {j:Nat} {nm:ByteArray} {bs:Λ} (hS0:Sep w ([Ab mx 125 [π K.tg],txP K ta tc M P]++R)) (hM:M.V.length=23168)  (hX:X.length≤1000) (hnd:GG M P X=(0,BS,10)) (hpl:EL M P X=(1,nm,0)) (hnn:GH M P=(n,0)) (hs:nm.size≤1000) (hj:j<16) (hd:Ot M (BC M P n (⟨1,1,0,0,0,0,0,1,0,0,0,0,0,0,0⟩:InoT)) 1=0) (hx:0≤(Az M (BC M P n (⟨1,1,0,0,0,0,0,1,0,0,0,0,0,0,0⟩:InoT)) 1).s∧(Az M (BC M P n (⟨1,1,0,0,0,0,0,1,0,0,0,0,0,0,0⟩:InoT)) 1).s≤1000) (hp:Ek (Eb M (BC M P n (⟨1,1,0,0,0,0,0,1,0,0,0,0,0,0,0⟩:InoT)) 1) nm=(j:Int)) (hk:(Az M (BC M P n (⟨1,1,0,0,0,0,0,1,0,0,0,0,0,0,0⟩:InoT)) 1).blk (j / 4)≠0) (hu:GM (EC (Eb M (BC M P n (⟨1,1,0,0,0,0,0,1,0,0,0,0,0,0,0⟩:InoT)) 1) (j:Int) ⟨nm,n⟩) ((j / 4:Nat):Int)=true) (hb:FK (EC (Eb M (BC M P n (⟨1,1,0,0,0,0,0,1,0,0,0,0,0,0,0⟩:InoT)) 1) (j:Int) ⟨nm,n⟩) ((j / 4:Nat):Int)=some bs) (hbl:bs.length≤64) (hE:AJ [CD M P n (⟨1,1,0,0,0,0,0,1,0,0,0,0,0,0,0⟩:InoT),Pq M (BC M P n (⟨1,1,0,0,0,0,0,1,0,0,0,0,0,0,0⟩:InoT)) 1 j bs]=0):CallsR prog 23 #[π mx,ν 1,σ X,ν 1,.bool false,ν 0] w (fun v w'=>∃ ta' tc',v=.tuple #[ν n,ν 0]∧Sep w' ([Ab mx 125 [π K.tg],txP K ta' tc' M (Tz M (BC M P n (⟨1,1,0,0,0,0,0,1,0,0,0,0,0,0,0⟩:InoT)) 1 j bs)]++R)):=
 Uh hS0 hM hX hnd hpl hnn (fun h=>Acr h hM hs (by decide) hj hd hx hp hk hu hb hbl) hE
end
section
abbrev BW:=Int→Int→Λ
def DA (s:BW) (i:Int):InoT:=rdI (s 4 i)
def Dz (s:BW) (i:Int):Int:=if DI 4 i then (if rdE (s 4 i)=0 then 0 else 36) else 1
def Adn (s:BW):Λ:=GI (s 3 0)
def EY (s:BW) (x:InoT):Nat→List EntT×Int
  | 0=>(Bd,0)
  | k+1=>if (EY s x k).2=0 then (if x.blk k=0 then EY s x k else Fp (EY s x k).1 k (s 7 (x.blk k))) else EY s x k
def DX (s:BW) (i:Int):List EntT:=
  if Dz s i≠0 then Bd else if (DA s i).k≠2 then Bd else if (EY s (DA s i) 4).2=0 then (EY s (DA s i) 4).1 else Bd
def Ik (s:BW) (i:Int):Int:=
  if Dz s i≠0 then Dz s i else if (DA s i).k≠2 then 12 else if (EY s (DA s i) 4).2=0 then 0 else 36
section
variable {M:MemM} {P:List PtM} {s:BW} {n:Nat}
theorem Hb (V:Vol M P s n) (i:Int):Aj M P i=DA s i:=by rw [← V.s];rfl
theorem Gt (V:Vol M P s n) (i:Int):AU M P i=Dz s i:=by rw [← V.s];rfl
theorem Adm (V:Vol M P s n):Aw M P=Adn s:=by rw [← V.s];rfl
theorem ML (V:Vol M P s n) (x:InoT):∀ k,Bu M P x k=EY s x k
  | 0=>rfl
  | k+1=>by
    have e:As M P 7 (x.blk k)=s 7 (x.blk k):=by rw [← V.s];rfl
    unfold Bu EY;rw [ML V x k,e]
theorem Rf (V:Vol M P s n) (i:Int):An M P i=DX s i:=by unfold An DX;rw [Gt V,Hb V,ML V]
theorem Re (V:Vol M P s n) (i:Int):BH M P i=Ik s i:=by unfold BH Ik;rw [Gt V,Hb V,ML V]
theorem Ho (V:Vol M P s n) {i:Int} {q:PartT} {x:InoT} {ob:Λ} (hq:AT 4 i=some q) (hE:Ew x=0) (hL:Db x=ob) (hl:ob.length≤64) (hn:n<64):CD M P i x=0∧Vol M (BC M P i x) (CE s 4 i ob) (n+1):=by
  unfold CD BC
  rw [if_pos hE,if_pos hE,hL]
  exact V.put hq (.inr (.inl rfl)) hl hn
theorem XZ:AT 3 0=some ⟨3,0,576,64⟩:=κ
theorem MI (V:Vol M P s n) {xs:Λ} (hl:xs.length=16) (hn:n<64):stE M P 3 0 16=0∧Vol M (stP M P 3 0 xs) (CE s 3 0 xs) (n+1):=by
  have z:=V.put (xs:=xs) XZ (.inl rfl) ω hn
  rw [hl] at z;exact z
theorem UL (V:Vol M P s n) {ms:Λ} {b sp:Int} {q:PartT} (hm:Adn s=ms) (hf:Aq ms 1=b) (hr:¬ 128-((Ep ms 128).length:Int)≤max sp 0) (hq:AT 7 b=some q) (hn:n<63) :
    bN M P sp=b∧bE M P sp=0∧Vol M (bP M P sp) (CE (CE s 3 0 (Bm ms b)) 7 b (List.replicate 64 0)) (n+2):=by
  have em:Aw M P=ms:=(Adm V).trans hm
  have hr':¬ Dg M P sp:=by unfold Dg;rw [em];exact hr
  have eb:Ps M P=b:=by unfold Ps;rw [em];exact hf
  have z:=MI V (xs:=Bm ms b) (by rw [AX,← em];exact AZ _) ω
  have e1:Ll M P=stP M P 3 0 (Bm ms b):=by unfold Ll;rw [em,eb]
  have z2:=z.2.put (xs:=List.replicate 64 0) hq (.inr (.inr rfl)) (by simp) ω
  have eE:UJ M P=0:=by unfold UJ;rw [e1,eb,z.1,show 64=(List.replicate 64 (0:UInt8)).length from rfl,z2.1];rfl
  refine ⟨by unfold bN;rw [if_neg hr',if_pos eE,eb],by unfold bE;rw [if_neg hr',eE],?_⟩
  have e2:bP M P sp=stP M (stP M P 3 0 (Bm ms b)) 7 b (List.replicate 64 0):=by unfold bP;rw [if_neg hr'];unfold Acy;rw [e1,eb]
  rw [e2];exact z2.2
theorem TP (V:Vol M P s n) {p:Int} {x:InoT} {j:Nat} {bs rb:Λ} {q q2:PartT} (hq:AT 7 (x.blk (j / 4))=some q) (hb:bs.length≤64) (hq2:AT 4 p=some q2) (hE:Ew x=0) (hL:Db x=rb) (hl:rb.length≤64) (hn:n<63) :
    RM M P p x j bs=0∧Vol M (PE M P p x j bs) (CE (CE s 7 (x.blk (j / 4)) bs) 4 p rb) (n+2):=by
  have z:=V.put hq (.inr (.inr rfl)) hb ω
  have z2:=Ho z.2 hq2 hE hL hl ω
  exact ⟨by unfold RM;rw [z.1,z2.1];rfl,z2.2⟩
end
def Pn (s:BW):List ByteArray→Int→Int×Int
  | [],i=>(i,0)
  | x::L,i=>
    if Ik s i≠0 then (0,Ik s i)
    else if AV (DX s i) x<0 then (0,10)
    else
      if Dz s ((DX s i).getD (AV (DX s i) x).toNat BM).ino≠0∨(DA s ((DX s i).getD (AV (DX s i) x).toNat BM).ino).k=0 then (0,36)
      else Pn s L ((DX s i).getD (AV (DX s i) x).toNat BM).ino
def MS (s:BW) (L:List ByteArray):Int×Int:=if Dz s 1≠0 then (0,Dz s 1) else Pn s L 1
section
variable {M:MemM} {P:List PtM} {s:BW} {n:Nat}
theorem Ux (V:Vol M P s n):∀ (L:List ByteArray) (i:Int),DY M P L i=Pn s L i
  | [],i=>rfl
  | x::L,i=>by unfold DY Pn;rw [Re V,Rf V,Gt V,Hb V,Ux V L]
theorem Uy (V:Vol M P s n) (L:List ByteArray):AY M P L=MS s L:=by unfold AY MS;rw [Gt V,Ux V]
theorem Yj (V:Vol M P s n) {X:Λ} {nm:ByteArray} (hp:Cj X=some [nm]) (hw:MS s [nm]=(0,10)):GG M P X=(0,BS,10):=by
  have e:AP M P X=(0,10):=by unfold AP;rw [hp];exact (Uy V _).trans hw
  unfold GG;rw [e];rfl
theorem Uj (V:Vol M P s n) {X:Λ} {nm:ByteArray} (hp:Cj X=some [nm]) (h1:Dz s 1=0) (h2:(DA s 1).k=2):EL M P X=(1,nm,0):=by
  have e:AY M P []=(1,0):=by rw [Uy V];unfold MS;rw [if_neg (by rw [h1];decide)];rfl
  have hp':Cj X=some ([]++[nm]):=hp
  rw [FA hp',e,if_neg (by decide),if_neg (by show ¬ AU M P 1≠0;rw [Gt V,h1];decide),if_neg (by show ¬ (Aj M P 1).k≠2;rw [Hb V,h2];decide)]
theorem Yl (V:Vol M P s n) {k:Nat} (hk:k<32) (h:∀ j:Nat,j<k→¬ (Dz s ((j:Int)+1)=0∧(DA s ((j:Int)+1)).k=0)) (ok:Dz s ((k:Int)+1)=0∧(DA s ((k:Int)+1)).k=0):GH M P=((k:Int)+1,0):=
  NF hk (fun j hj=>by rw [Gt V,Hb V];exact h j hj) (by rw [Gt V,Hb V];exact ok)
theorem Ab6 (V:Vol M P s n) {i:Int} {x:InoT} {t:List EntT} (h1:Ik s i=0) (h2:Dz s i=0) (hx:DA s i=x) (ht:DX s i=t):Ot M P i=0∧Az M P i=x∧Eb M P i=t:=by
  have hn:¬ BH M P i≠0:=by rw [Re V,h1];decide
  refine ⟨?_,?_,?_⟩
  · unfold Ot;rw [if_neg hn,Gt V,h2]
  · unfold Az;rw [if_neg hn,Hb V,hx]
  · unfold Eb;rw [if_neg hn,Rf V,ht]
end
end
section
theorem Aae {M:MemM} (h:M.V.length=23168):inM M 0 23168=true:=by unfold inM;rw [decide_eq_true_iff];omega
theorem XO {M:MemM} (h:M.V.length=23168):inM M 23168 1=false:=by unfold inM;rw [decide_eq_false_iff_not];omega
def AK:Λ:=GK 0 0 0 0 0 0
def Ed:Λ:=Bz 0
theorem QV:AK.length≤1000000:=by decide +kernel
theorem XH:Ed.length≤1000000:=by decide +kernel
theorem Yy {w:World} {R:List Ch} (hS:Sep w R):CallsR prog 52 #[.agg #[ν 0,ν 0,ν 0,ν 0,ν 0,ν 0]] w (fun v w'=>∃ a c,v=.tuple #[.slice a AK.length c,ν 0]∧Sep w' (AG 0 5 1 a AK.length c (AK.map Ad)::R)):=
 Calls.mono (Mo 0 0 0 0 0 0 w) fun e w' ⟨a,c,e1,o,b⟩=>⟨_,e1,a,c,rfl,hS.push b (c:=AG 0 5 1 a AK.length c (AK.map Ad)) (Own.low o (Nat.zero_le _)) fun k hk=>(World.ownsRow.lt o k hk).1⟩
theorem XK {w:World} {R:List Ch} (hS:Sep w R):CallsR prog 53 #[ν 0] w (fun v w'=>∃ a c,v=.tuple #[.slice a Ed.length c,ν 0]∧Sep w' (AG 0 5 1 a Ed.length c (Ed.map Ad)::R)):=
 Calls.mono (FB 0 w ω) fun e w' ⟨a,c,e1,o,b⟩=>⟨_,e1,a,c,rfl,hS.push b (c:=AG 0 5 1 a Ed.length c (Ed.map Ad)) (Own.low o (Nat.zero_le _)) fun k hk=>(World.ownsRow.lt o k hk).1⟩
def QJ:InoT:=⟨2,1,0,0,0,0,0,0,0,0,0,0,0,0,0⟩
def DH (M:MemM) (P:List PtM):Nat→List PtM
 | 0=>BC M P 1 QJ
 | k+1=>if k=0 then DH M P k else BC M (DH M P k) ((k+1:Nat):Int) BS
def Oy (M:MemM) (P:List PtM):Nat→Int
 | 0=>CD M P 1 QJ
 | k+1=>if k=0 then Oy M P k else AJ [Oy M P k,CD M (DH M P k) ((k+1:Nat):Int) BS]
theorem Xv {M:MemM} {P:List PtM} {k:Nat} (h:k=0):DH M P (k+1)=DH M P k∧Oy M P (k+1)=Oy M P k:=⟨if_pos h,if_pos h⟩
theorem Xw {M:MemM} {P:List PtM} {k:Nat} (h:k≠0):DH M P (k+1)=BC M (DH M P k) ((k+1:Nat):Int) BS∧Oy M P (k+1)=AJ [Oy M P k,CD M (DH M P k) ((k+1:Nat):Int) BS]:=⟨if_neg h,if_neg h⟩
def Afl (M:MemM) (P:List PtM):List PtM:=stP M (DH M P 32) 3 0 AM
def CV (M:MemM) (P:List PtM):Nat→List PtM
 | 0=>stP M (Afl M P) 1 0 Ed
 | k+1=>stP M (stP M (CV M P k) 2 ((k+1:Nat):Int) AK) 6 ((k+1:Nat):Int) (List.replicate 8 0)
theorem Ae9 {M:MemM} {P:List PtM} {k:Nat} (h:k=32):stP M (stP M (DH M P k) 3 0 AM) 1 0 Ed=CV M P 0:=by subst h;rfl
def Qa (M:MemM) (P:List PtM):Nat→Int
 | 0=>AJ [AJ [Oy M P 32,stE M (DH M P 32) 3 0 16],0,0,stE M (Afl M P) 1 0 Ed.length]
 | k+1=>AJ [Qa M P k,stE M (CV M P k) 2 ((k+1:Nat):Int) AK.length,stE M (stP M (CV M P k) 2 ((k+1:Nat):Int) AK) 6 ((k+1:Nat):Int) (List.replicate 8 (0:UInt8)).length]
theorem Vw {w:World} {R:List Ch} {K:VolK} {ta:Ω} {tc:Nat} {M:MemM} {P:List PtM} (hS0:Sep w ([txP K ta tc M P]++R)) (hM:M.V.length=23168)  :
  CallsR prog 45 #[π K.tg] w (fun v w'=>∃ mx,v=π mx∧Sep w' ([Ab mx 125 [π K.tg],txP K ta tc M P]++R)):=by
 have hS:Sep w [txP K ta tc M P,Ch.many R]:=Sep.tail_many (xs:=[_]) hS0;clear hS0
 refine AB func45 rfl (N:=30) ntmps45 (by show 1≤30;decide) [(0,π K.tg)] rfl fun _ h1=>sqr fun _ hK3=>mv h1 rfl fun _ h4=>wpList_nil<|hK3 _ _<|sq fun _ hK6=>sqr fun _ hK7=>mv h4 rfl fun _ h8=>bv h8 (z:=.bool false) rfl (IO _ υ63 _ _ _) fun _ h2=>h2.sn [8,2,0] rfl fun h3=>hK7 _ _<|wcF h3 rfl rfl ?_
 refine h3.sk [2,0] rfl fun h5=>wp_skip<|hK6 _ _<|sqr fun _ hK1=>mv h5 rfl fun _ h6=>cl h6 rfl (cF func39) (AQ hS (Ii _)) fun _ v1 w1 r1 h7=>?_
 obtain ⟨rfl,s1⟩:=r1
 refine cl h7 rfl (cF func71) (Sn (at_:=0) (n:=23168) s1 (Aae hM) (by unfold Ec;omega) (by unfold Ec;omega)) fun _ v2 w2 r2 h9=>?_
 obtain ⟨ra_x24,rc_x25,rfl,s2⟩:=r2
 refine mvs 5 h9 rfl fun _ h10=>h10.sn [4,2,0] rfl fun h11=>hK1 _ _<|sqr fun _ hK2=>mv h11 rfl fun _ h12=>cl h12 rfl (cF func39) (AQ s2 (Ii _)) fun _ v3 w3 r3 h13=>?_
 obtain ⟨rfl,s3⟩:=r3
 refine cl h13 rfl (cF func71) (XV (at_:=23168) (n:=1) (s3.pk [1,0,2] rfl) (XO hM) (by unfold Ec;omega) (by unfold Ec;omega)) fun _ v4 w4 r4 h14=>?_
 obtain ⟨rfl,s4⟩:=r4
 refine mvs 5 h14 rfl fun _ h15=>h15.sn [6,4,2,0] rfl fun h16=>hK2 _ _<|sq fun _ hK4=>sqr fun _ hK5=>mv h16 rfl fun _ h17=>bv h17 (z:=.bool false) rfl (cNe _ _ _ _ rfl) fun _ h18=>mv h18 rfl fun _ h19=>sv h19 (wF h19 (E:=false) rfl rfl rfl) rfl rfl rfl (Au h19 rfl rfl) fun _ h20=>sv h20 (wF h20 (E:=false) rfl rfl rfl) rfl rfl rfl (Co h20 rfl rfl rfl (cEq _ _ _ _ rfl)) fun _ h21=>sv1 h21 rfl (BA h21 rfl rfl rfl) fun _ h22=>?_
 refine h22.sn [26,6,4,2,0] rfl fun h23=>hK5 _ _<|wcF h23 rfl rfl<|h23.sk [6,4,2,0] rfl fun h24=>wp_skip<|hK4 _ _<|sqr fun _ hK8=>mv h24 rfl fun _ h25=>bu h25 (v:=.agg #[π K.tg]) rfl (fun w=>κ) fun _ h26=>so (wn rfl) fun _ hK9=>JE h26 rfl rfl rfl rfl rfl (z:=[π K.tg]) rfl s4 fun _ g1 w5 h27 s5 _ _=>hK9 _ _ ?_
 refine h27.sk [29,28,27,6,4,0] rfl fun h28=>mv h28 rfl fun _ h29=>h29.sn [2,6,4,0] rfl fun h30=>hK8 _ _<|wp_ret ?_
 try simp only [Exit.then,Exit.inBlock]
 refine AW (v:=π g1) (Cz h30 rfl rfl) h30.defs ?_
 exact ⟨g1,rfl,Sep.tail_un (xs:=[_,_]) (s5.pk [0,1,3] rfl)⟩
theorem Xy {w:World} {R:List Ch} {mx:Nat} {K:VolK} {ta:Ω} {tc:Nat} {M:MemM} {P:List PtM} (hS0:Sep w ([Ab mx 125 [π K.tg],txP K ta tc M P]++R)) (hM:M.V.length=23168)  :
  CallsR prog 20 #[π mx] w (fun v w'=>∃ ta' tc',v=ν (Qa M P 8)∧Sep w' ([Ab mx 125 [π K.tg],txP K ta' tc' M (CV M P 8)]++R)):=by
 have hS:Sep w [Ab mx 125 [π K.tg],txP K ta tc M P,Ch.many R]:=Sep.tail_many (xs:=[_,_]) hS0;clear hS0
 refine AB func20 rfl (N:=69) ntmps20 (by show 1≤69;decide) [(0,π mx)] rfl fun _ h1=>sqr fun _ hK3=>mv h1 rfl fun _ h4=>wpList_nil<|hK3 _ _<|sqr fun _ hK6=>mv h4 rfl fun _ h7=>bu h7 (v:=.agg (AE (⟨2,1,0,0,0,0,0,0,0,0,0,0,0,0,0⟩:InoT)).toArray) rfl (fun w=>κ) fun _ h9=>cl h9 rfl (cF func49) (Gz (i:=1) (x:=(⟨2,1,0,0,0,0,0,0,0,0,0,0,0,0,0⟩:InoT)) hS hM) fun _ v1 w2 r1 h2=>?_
 obtain ⟨tax11,tcx12,rfl,s1⟩:=r1
 refine mv h2 rfl fun _ h3=>h3.sn [3,2,0] rfl fun h5=>hK6 _ _<|sq fun _ hK1=>sqr fun _ hK2=>mv h5 rfl fun _ h6=>wpList_nil<|hK2 _ _<|wp_block ?_
 refine JB (fun (k:Nat) (er:Int) (ta2:Ω) (tc2:Nat) a' w'=>Kn 69 [(13,ν (k:Int)),(3,ν er),(2,ν 0),(0,π mx)] a'∧Sep w' [Ab mx 125 [π K.tg],txP K ta2 tc2 M (DH M P k),Ch.many R]∧(k≤32)∧(er=Oy M P k)) (fun (k:Nat) (er:Int) (ta2:Ω) (tc2:Nat)=>32-k) 0 (CD M P 1 (⟨2,1,0,0,0,0,0,0,0,0,0,0,0,0,0⟩:InoT)) tax11 tcx12 ⟨h6.subs rfl,(show Sep _ [Ab mx 125 [π K.tg],txP K tax11 tcx12 M (DH M P 0),Ch.many R] from s1),Nat.zero_le _,rfl⟩ ?_
 rintro k1 er35 ta236 tc237 a1 w3 ⟨h8,s2,hk32,he33⟩ K1 hK4
 refine sqr fun _ hK5=>bv h8 (z:=.bool (decide ((k1:Int)<32))) rfl (cLt _ _ _ _ rfl) fun _ h10=>wpList_nil<|hK5 _ _<|sq fun _ hK7=>?_
 rcases bC (decide ((k1:Int)<32)) with hc1 | hc1
 ·skip
  have hp1:(k1:Int)<32:=(dT hc1)
  refine wcT h10 rfl hc1<|h10.sk [13,3,2,0] rfl fun h11=>wp_skip<|hK7 _ _<|sq fun _ hK8=>wp_block ?_
  refine sqr fun _ hK9=>mvs 2 h11 rfl fun _ h12=>h12.sn [4,13,3,2,0] rfl fun h13=>hK9 _ _<|sqr fun _ hK10=>mv h13 rfl fun _ h14=>bv h14 (z:=ν ((k1+1:Nat):Int)) rfl (CT _ _ _ ω ω ω) fun _ h15=>bv h15 (z:=.bool (decide (((k1+1:Nat):Int)≠1))) rfl (cNe _ _ _ _ rfl) fun _ h16=>h16.sn [18,4,13,3,2,0] rfl fun h17=>hK10 _ _ ?_
  rcases bC (decide (((k1+1:Nat):Int)≠1)) with hc2 | hc2
  ·skip
   have hp2:((k1+1:Nat):Int)≠1:=(dT hc2)
   refine wcT h17 rfl hc2<|h17.sk [4,13,3,2,0] rfl fun h18=>wp_region_lit<|mvs 3 h18 rfl fun _ h19=>bv h19 (z:=ν ((k1+1:Nat):Int)) rfl (CT _ _ _ ω ω ω) fun _ h20=>bu h20 (v:=.agg (AE BS).toArray) rfl (fun w=>κ) fun _ h21=>cl h21 rfl (cF func49) (Gz (i:=((k1+1:Nat):Int)) (x:=BS) s2 hM) fun _ v2 w4 r2 h22=>?_
   obtain ⟨tax73,tcx74,rfl,s3⟩:=r2
   refine so (wn rfl) fun _ hK11=>Cw h22 rfl rfl rfl (E:=26) (xs:=[(0,.tmp 19),(1,.tmp 24)]) rfl (vs:=[(0,ν er35),(1,ν (CD M (DH M P k1) ((k1+1:Nat):Int) BS))]) rfl (z:=[ν er35,ν (CD M (DH M P k1) ((k1+1:Nat):Int) BS)]) (fun _=>κ) s3 fun _ g1 w5 h23 s4 _ _=>hK11 _ _ ?_
   refine cl h23 rfl (cF func50) (DO (L:=[er35,CD M (DH M P k1) ((k1+1:Nat):Int) BS]) s4 (Nat.le_of_ble_eq_true rfl)) fun _ v3 w6 r3 h24=>?_
   obtain ⟨rfl,s5⟩:=r3
   refine h24.sk [26,25,24,23,22,21,20,19,4,13,2,0] rfl fun h25=>mv h25 rfl fun _ h26=>h26.sn [3,4,13,2,0] rfl fun h27=>hK8 _ _<|wp_region_lit<|bv h27 (z:=ν ((k1+1:Nat):Int)) rfl (CT _ _ _ ω ω ω) fun _ h28=>h28.sk [27,3,4,2,0] rfl fun h29=>mv h29 rfl fun _ h30=>h30.sk [13,3,4,2,0] rfl fun h31=>wpList_nil ?_
   have hf9:=Xw (M:=M) (P:=P) (k:=k1) ω
   exact hK4 (k1+1) (AJ [er35,CD M (DH M P k1) ((k1+1:Nat):Int) BS]) tax73 tcx74 _ _ ⟨h31.subs rfl,(by rw [hf9.1];exact (s5.pk [1,2,3] rfl)),ω,(by rw [hf9.2,he33])⟩ ω
  ·skip
   have hp3:¬ (((k1+1:Nat):Int)≠1):=(dF hc2)
   refine wcF h17 rfl hc2<|h17.sk [4,13,3,2,0] rfl fun h32=>wp_skip<|hK8 _ _<|wp_region_lit<|bv h32 (z:=ν ((k1+1:Nat):Int)) rfl (CT _ _ _ ω ω ω) fun _ h33=>h33.sk [27,4,3,2,0] rfl fun h34=>mv h34 rfl fun _ h35=>h35.sk [13,4,3,2,0] rfl fun h36=>wpList_nil ?_
   have hf9:=Xv (M:=M) (P:=P) (k:=k1) ω
   exact hK4 (k1+1) er35 ta236 tc237 _ _ ⟨h36.subs rfl,(by rw [hf9.1];exact s2),ω,(by rw [hf9.2,he33])⟩ ω
 ·skip
  have hp4:¬ ((k1:Int)<32):=(dF hc1)
  refine wcF h10 rfl hc1<|h10.sk [13,3,2,0] rfl fun h37=>wp_exit ?_
  refine hK1 _ _ ?_
  refine sqr fun _ hK12=>mvs 2 h37 rfl fun _ h38=>bu h38 (v:=.agg (Al AM)) rfl (fun w=>κ) fun _ h39=>cl h39 rfl (cF func51) (Ju (xs:=AM) s2 hM (Gb _ (by first | rfl | decide))) fun _ v4 w7 r4 h40=>?_
  obtain ⟨tax124,tcx125,rfl,s6⟩:=r4
  refine so (wn rfl) fun _ hK13=>Cw h40 rfl rfl rfl (E:=26) (xs:=[(0,.tmp 28),(1,.tmp 31)]) rfl (vs:=[(0,ν er35),(1,ν (stE M (DH M P k1) 3 0 16))]) rfl (z:=[ν er35,ν (stE M (DH M P k1) 3 0 16)]) (fun _=>κ) s6 fun _ g2 w8 h41 s7 _ _=>hK13 _ _ ?_
  refine cl h41 rfl (cF func50) (DO (L:=[er35,stE M (DH M P k1) 3 0 16]) s7 (Nat.le_of_ble_eq_true rfl)) fun _ v5 w9 r5 h42=>?_
  obtain ⟨rfl,s8⟩:=r5
  refine h42.sk [33,32,31,30,29,28,13,2,0] rfl fun h43=>mv h43 rfl fun _ h44=>h44.sn [3,13,2,0] rfl fun h45=>hK12 _ _<|sqr fun _ hK14=>bu h45 (v:=.agg #[ν 0,ν 0,ν 0,ν 0,ν 0,ν 0]) rfl (fun w=>κ) fun _ h46=>cl h46 rfl (cF func52) (Yy s8) fun _ v6 w10 r6 h47=>?_
  obtain ⟨pa_x155,pc_x156,rfl,s9⟩:=r6
  refine mvs 5 h47 rfl fun _ h48=>h48.sn [6,5,3,13,2,0] rfl fun h49=>hK14 _ _<|sqr fun _ hK15=>cl h49 rfl (cF func53) (XK s9) fun _ v7 w11 r7 h50=>?_
  obtain ⟨pa_x176,pc_x177,rfl,s10⟩:=r7
  refine mvs 5 h50 rfl fun _ h51=>h51.sn [8,7,6,5,3,13,2,0] rfl fun h52=>hK15 _ _<|sqr fun _ hK16=>mvs 5 h52 rfl fun _ h53=>cl h53 rfl (cF func54) (CW (kd:=1) (nm:=0) (xs:=Ed) (s10.pk [0,3,4,1,2,5] rfl) hM XH) fun _ v8 w12 r8 h54=>?_
  obtain ⟨tax207,tcx208,rfl,s11⟩:=r8
  refine so (wn rfl) fun _ hK17=>Cw h54 rfl rfl rfl (E:=26) (xs:=[(0,.tmp 43),(1,.tmp 44),(2,.tmp 45),(3,.tmp 48)]) rfl (vs:=[(0,ν (AJ [er35,stE M (DH M P k1) 3 0 16])),(1,ν 0),(2,ν 0),(3,ν (stE M (stP M (DH M P k1) 3 0 AM) 1 0 Ed.length))]) rfl (z:=[ν (AJ [er35,stE M (DH M P k1) 3 0 16]),ν 0,ν 0,ν (stE M (stP M (DH M P k1) 3 0 AM) 1 0 Ed.length)]) (fun _=>κ) s11 fun _ g3 w13 h55 s12 _ _=>hK17 _ _ ?_
  refine cl h55 rfl (cF func50) (DO (L:=[AJ [er35,stE M (DH M P k1) 3 0 16],0,0,stE M (stP M (DH M P k1) 3 0 AM) 1 0 Ed.length]) s12 (Nat.le_of_ble_eq_true rfl)) fun _ v9 w14 r9 h56=>?_
  obtain ⟨rfl,s13⟩:=r9
  refine h56.sk [50,49,48,47,46,45,44,43,8,7,6,5,13,2,0] rfl fun h57=>mv h57 rfl fun _ h58=>h58.sn [3,8,7,6,5,13,2,0] rfl fun h59=>hK16 _ _<|sq fun _ hK18=>sqr fun _ hK19=>mv h59 rfl fun _ h60=>wpList_nil<|hK19 _ _<|wp_block ?_
  have hk9:k1=32:=ω
  refine JB (fun (k:Nat) (er:Int) (ta2:Ω) (tc2:Nat) a' w'=>Kn 69 [(51,ν (k:Int)),(3,ν er),(8,ν 0),(7,.slice pa_x176 Ed.length pc_x177),(6,ν 0),(5,.slice pa_x155 AK.length pc_x156),(13,ν (k1:Int)),(2,ν 0),(0,π mx)] a'∧Sep w' [AG 0 5 1 pa_x155 (AK).length pc_x156 ((AK).map Ad),Ab mx 125 [π K.tg],txP K ta2 tc2 M (CV M P k),Ch.many R]∧(k≤8)∧(er=Qa M P k)) (fun (k:Nat) (er:Int) (ta2:Ω) (tc2:Nat)=>8-k) 0 (AJ [AJ [er35,stE M (DH M P k1) 3 0 16],0,0,stE M (stP M (DH M P k1) 3 0 AM) 1 0 Ed.length]) tax207 tcx208 ⟨h60.subs rfl,(show Sep _ [AG 0 5 1 pa_x155 (AK).length pc_x156 ((AK).map Ad),Ab mx 125 [π K.tg],txP K tax207 tcx208 M (CV M P 0),Ch.many R] from by have z9:=(s13.pk [4,2,3,6] rfl);rw [Ae9 hk9] at z9;exact z9),Nat.zero_le _,(by rw [he33,hk9];rfl)⟩ ?_
  rintro k2 er247 ta2248 tc2249 a2 w15 ⟨h61,s14,hk244,he2245⟩ K2 hK20
  refine sqr fun _ hK21=>bv h61 (z:=.bool (decide ((k2:Int)<8))) rfl (cLt _ _ _ _ rfl) fun _ h62=>wpList_nil<|hK21 _ _<|sq fun _ hK22=>?_
  rcases bC (decide ((k2:Int)<8)) with hc3 | hc3
  ·skip
   have hp5:(k2:Int)<8:=(dT hc3)
   refine wcT h62 rfl hc3<|h62.sk [51,3,8,7,6,5,13,2,0] rfl fun h63=>wp_skip<|hK22 _ _<|sq fun _ hK23=>wp_block ?_
   refine sqr fun _ hK24=>mvs 2 h63 rfl fun _ h64=>h64.sn [9,51,3,8,7,6,5,13,2,0] rfl fun h65=>hK24 _ _ ?_
   have s15:=s14.drew
   refine wp_region_held_drew (S:=fun w'=>Sep w' [AG 0 5 1 pa_x155 (AK).length pc_x156 ((AK).map Ad),Ab mx 125 [π K.tg],Ch.many R]) κ (s15.pk [0,1,3] rfl) (fun hq1=>?_)
   refine tv1 hq1 h65 0 rfl rfl (fun w1 _=>(Au h65 rfl rfl) w1) fun _ h66=>?_
   refine tv1 hq1 h66 1 rfl rfl (fun w1 _=>(Au h66 rfl rfl) w1) fun _ h67=>?_
   refine tv1 hq1 h67 2 rfl rfl (fun w1 _=>(Au h67 rfl rfl) w1) fun _ h68=>?_
   refine tv1 hq1 h68 3 rfl rfl (v:=ν ((k2+1:Nat):Int)) (fun w1 _=>(Co h68 rfl rfl rfl (CT _ _ _ ω ω ω)) w1) fun _ h69=>?_
   refine tv1 hq1 h69 4 rfl rfl (fun w1 _=>(Au h69 rfl rfl) w1) fun _ h70=>?_
   refine tv1 hq1 h70 6 rfl rfl (fun w1 _=>(Au h70 rfl rfl) w1) fun _ h71=>?_
   refine tv1 hq1 h71 7 rfl rfl (fun w1 _=>(Au h71 rfl rfl) w1) fun _ h72=>?_
   refine tv1 hq1 h72 8 rfl rfl (v:=ν ((k2+1:Nat):Int)) (fun w1 _=>(Co h72 rfl rfl rfl (CT _ _ _ ω ω ω)) w1) fun _ h73=>?_
   refine wpAnyH_ready (rs:=[5,9]) κ (by simp) (toc rfl (wn rfl) (fun K3 hK25=>?_) (toc rfl (wn rfl) (fun K3 hK25=>?_) AllReadyH.nil))
   ·skip
    refine BD h73 rfl rfl rfl (xs:=[.tmp 55,.const (ν 2),.tmp 57,.tmp 58]) rfl (cF func54) rfl (vs:=[π mx,ν 2,ν ((k2+1:Nat):Int),.slice pa_x155 AK.length pc_x156]) rfl (args:=#[π mx,ν 2,ν ((k2+1:Nat):Int),.slice pa_x155 AK.length pc_x156]) rfl (CW (kd:=2) (nm:=((k2+1:Nat):Int)) (xs:=AK) s15 hM QV) fun _ v10 w16 r10 h74=>?_
    obtain ⟨tax284,tcx285,rfl,s16⟩:=r10
    refine hK25 _ _ (s16.pk [0,1,3] rfl) fun hq2=>?_
    refine to_ 9 rfl (wn rfl) κ fun _ hK26=>IN Eg (by decide) h74 rfl rfl rfl rfl υ22 (z:=.int .u8 0) (n:=8) κ (m:=(0:UInt8)) rfl rfl rfl (by decide) s16 fun _ g4 w17 h75 s17 _ _=>?_
    refine hK26 _ _ (s17.pk [1,2,4] rfl) fun hq3=>?_
    have s18:Sep _ [AG 0 5 1 (some ⟨g4,0,none⟩) ((List.replicate 8 (0:UInt8))).length 8 (((List.replicate 8 (0:UInt8))).map Ad),AG 0 5 1 pa_x155 (AK).length pc_x156 ((AK).map Ad),Ab mx 125 [π K.tg],txP K tax284 tcx285 M (stP M (CV M P k2) 2 ((k2+1:Nat):Int) AK),Ch.many R]:=FT s17
    refine to_ 10 rfl (wn rfl) κ fun _ hK27=>BD h75 rfl rfl rfl (xs:=[.tmp 60,.const (ν 6),.tmp 62,.tmp 63]) rfl (cF func54) rfl (vs:=[π mx,ν 6,ν ((k2+1:Nat):Int),.slice (some ⟨g4,0,none⟩) 8 8]) rfl (args:=#[π mx,ν 6,ν ((k2+1:Nat):Int),.slice (some ⟨g4,0,none⟩) 8 8]) rfl (CW (kd:=6) (nm:=((k2+1:Nat):Int)) (xs:=(List.replicate 8 (0:UInt8))) (s18.pk [0,2,3,1,4] rfl) hM (by simp)) fun _ v11 w18 r11 h76=>?_
    obtain ⟨tax303,tcx304,rfl,s19⟩:=r11
    refine hK27 _ _ (s19.pk [3,1,4] rfl) fun hq4=>?_
    refine to_ 11 rfl (wn rfl) κ fun _ hK28=>Cw h76 rfl rfl rfl (E:=26) (xs:=[(0,.tmp 54),(1,.tmp 59),(2,.tmp 64)]) rfl (vs:=[(0,ν er247),(1,ν (stE M (CV M P k2) 2 ((k2+1:Nat):Int) AK.length)),(2,ν (stE M (stP M (CV M P k2) 2 ((k2+1:Nat):Int) AK) 6 ((k2+1:Nat):Int) (List.replicate 8 (0:UInt8)).length))]) rfl (z:=[ν er247,ν (stE M (CV M P k2) 2 ((k2+1:Nat):Int) AK.length),ν (stE M (stP M (CV M P k2) 2 ((k2+1:Nat):Int) AK) 6 ((k2+1:Nat):Int) (List.replicate 8 (0:UInt8)).length)]) (fun _=>κ) s19 fun _ g5 w19 h77 s20 _ _=>?_
    refine hK28 _ _ (s20.pk [4,2,5] rfl) fun hq5=>?_
    refine to_ 12 rfl (wn rfl) κ fun _ hK29=>BD h77 rfl rfl rfl (xs:=[.tmp 65]) rfl (cF func50) rfl (vs:=[.slice (some ⟨g5,0,none⟩) 3 3]) rfl (args:=#[.slice (some ⟨g5,0,none⟩) 3 3]) rfl (DO (L:=[er247,stE M (CV M P k2) 2 ((k2+1:Nat):Int) AK.length,stE M (stP M (CV M P k2) 2 ((k2+1:Nat):Int) AK) 6 ((k2+1:Nat):Int) (List.replicate 8 (0:UInt8)).length]) s20 (Nat.le_of_ble_eq_true rfl)) fun _ v12 w20 r12 h78=>?_
    obtain ⟨rfl,s21⟩:=r12
    refine hK29 _ _ (s21.pk [4,2,5] rfl) fun hq6=>h78.sk [66,65,64,63,59,62,61,60,58,57,56,55,54,9,51,8,7,6,5,13,2,0] rfl fun h79=>?_
    refine tv1 hq6 h79 13 rfl rfl (fun w1 _=>(Bv h79 rfl rfl) w1) fun _ h80=>?_
    refine h80.sk [3,9,51,8,7,6,5,13,2,0] rfl fun h81=>?_
    refine wpAnyH_done κ ?_ _
    refine hK23 _ _ ?_
    refine wp_region_lit<|bv h81 (z:=ν ((k2+1:Nat):Int)) rfl (CT _ _ _ ω ω ω) fun _ h82=>h82.sk [67,3,9,8,7,6,5,13,2,0] rfl fun h83=>mv h83 rfl fun _ h84=>h84.sk [51,3,9,8,7,6,5,13,2,0] rfl fun h85=>wpList_nil ?_
    exact hK20 (k2+1) (AJ [er247,stE M (CV M P k2) 2 ((k2+1:Nat):Int) AK.length,stE M (stP M (CV M P k2) 2 ((k2+1:Nat):Int) AK) 6 ((k2+1:Nat):Int) (List.replicate 8 (0:UInt8)).length]) tax303 tcx304 _ _ ⟨h85.subs rfl,(show Sep _ [AG 0 5 1 pa_x155 (AK).length pc_x156 ((AK).map Ad),Ab mx 125 [π K.tg],txP K tax303 tcx304 M (CV M P (k2+1)),Ch.many R] from (s21.pk [4,2,3,5] rfl)),ω,(by rw [he2245];rfl)⟩ ω
   ·skip
    refine IN Eg (by decide) h73 rfl rfl rfl rfl υ22 (z:=.int .u8 0) (n:=8) κ (m:=(0:UInt8)) rfl rfl rfl (by decide) s15 fun _ g6 w21 h86 s22 _ _=>hK25 _ _ (s22.pk [1,2,4] rfl) fun hq7=>?_
    refine to_ 5 rfl (wn rfl) κ fun _ hK30=>BD h86 rfl rfl rfl (xs:=[.tmp 55,.const (ν 2),.tmp 57,.tmp 58]) rfl (cF func54) rfl (vs:=[π mx,ν 2,ν ((k2+1:Nat):Int),.slice pa_x155 AK.length pc_x156]) rfl (args:=#[π mx,ν 2,ν ((k2+1:Nat):Int),.slice pa_x155 AK.length pc_x156]) rfl (CW (kd:=2) (nm:=((k2+1:Nat):Int)) (xs:=AK) (s22.pk [1,2,3,0,4] rfl) hM QV) fun _ v13 w22 r13 h87=>?_
    obtain ⟨tax348,tcx349,rfl,s23⟩:=r13
    refine hK30 _ _ (s23.pk [0,1,4] rfl) fun hq8=>?_
    have s24:Sep _ [AG 0 5 1 (some ⟨g6,0,none⟩) ((List.replicate 8 (0:UInt8))).length 8 (((List.replicate 8 (0:UInt8))).map Ad),AG 0 5 1 pa_x155 (AK).length pc_x156 ((AK).map Ad),Ab mx 125 [π K.tg],txP K tax348 tcx349 M (stP M (CV M P k2) 2 ((k2+1:Nat):Int) AK),Ch.many R]:=FT (s23.pk [3,0,1,2,4] rfl)
    refine to_ 10 rfl (wn rfl) κ fun _ hK31=>BD h87 rfl rfl rfl (xs:=[.tmp 60,.const (ν 6),.tmp 62,.tmp 63]) rfl (cF func54) rfl (vs:=[π mx,ν 6,ν ((k2+1:Nat):Int),.slice (some ⟨g6,0,none⟩) 8 8]) rfl (args:=#[π mx,ν 6,ν ((k2+1:Nat):Int),.slice (some ⟨g6,0,none⟩) 8 8]) rfl (CW (kd:=6) (nm:=((k2+1:Nat):Int)) (xs:=(List.replicate 8 (0:UInt8))) (s24.pk [0,2,3,1,4] rfl) hM (by simp)) fun _ v14 w23 r14 h88=>?_
    obtain ⟨tax359,tcx360,rfl,s25⟩:=r14
    refine hK31 _ _ (s25.pk [3,1,4] rfl) fun hq9=>?_
    refine to_ 11 rfl (wn rfl) κ fun _ hK32=>Cw h88 rfl rfl rfl (E:=26) (xs:=[(0,.tmp 54),(1,.tmp 59),(2,.tmp 64)]) rfl (vs:=[(0,ν er247),(1,ν (stE M (CV M P k2) 2 ((k2+1:Nat):Int) AK.length)),(2,ν (stE M (stP M (CV M P k2) 2 ((k2+1:Nat):Int) AK) 6 ((k2+1:Nat):Int) (List.replicate 8 (0:UInt8)).length))]) rfl (z:=[ν er247,ν (stE M (CV M P k2) 2 ((k2+1:Nat):Int) AK.length),ν (stE M (stP M (CV M P k2) 2 ((k2+1:Nat):Int) AK) 6 ((k2+1:Nat):Int) (List.replicate 8 (0:UInt8)).length)]) (fun _=>κ) s25 fun _ g7 w24 h89 s26 _ _=>?_
    refine hK32 _ _ (s26.pk [4,2,5] rfl) fun hq10=>?_
    refine to_ 12 rfl (wn rfl) κ fun _ hK33=>BD h89 rfl rfl rfl (xs:=[.tmp 65]) rfl (cF func50) rfl (vs:=[.slice (some ⟨g7,0,none⟩) 3 3]) rfl (args:=#[.slice (some ⟨g7,0,none⟩) 3 3]) rfl (DO (L:=[er247,stE M (CV M P k2) 2 ((k2+1:Nat):Int) AK.length,stE M (stP M (CV M P k2) 2 ((k2+1:Nat):Int) AK) 6 ((k2+1:Nat):Int) (List.replicate 8 (0:UInt8)).length]) s26 (Nat.le_of_ble_eq_true rfl)) fun _ v15 w25 r15 h90=>?_
    obtain ⟨rfl,s27⟩:=r15
    refine hK33 _ _ (s27.pk [4,2,5] rfl) fun hq11=>h90.sk [66,65,64,59,63,62,61,60,58,57,56,55,54,9,51,8,7,6,5,13,2,0] rfl fun h91=>?_
    refine tv1 hq11 h91 13 rfl rfl (fun w1 _=>(Bv h91 rfl rfl) w1) fun _ h92=>?_
    refine h92.sk [3,9,51,8,7,6,5,13,2,0] rfl fun h93=>?_
    refine wpAnyH_done κ ?_ _
    refine hK23 _ _ ?_
    refine wp_region_lit<|bv h93 (z:=ν ((k2+1:Nat):Int)) rfl (CT _ _ _ ω ω ω) fun _ h94=>h94.sk [67,3,9,8,7,6,5,13,2,0] rfl fun h95=>mv h95 rfl fun _ h96=>h96.sk [51,3,9,8,7,6,5,13,2,0] rfl fun h97=>wpList_nil ?_
    exact hK20 (k2+1) (AJ [er247,stE M (CV M P k2) 2 ((k2+1:Nat):Int) AK.length,stE M (stP M (CV M P k2) 2 ((k2+1:Nat):Int) AK) 6 ((k2+1:Nat):Int) (List.replicate 8 (0:UInt8)).length]) tax359 tcx360 _ _ ⟨h97.subs rfl,(show Sep _ [AG 0 5 1 pa_x155 (AK).length pc_x156 ((AK).map Ad),Ab mx 125 [π K.tg],txP K tax359 tcx360 M (CV M P (k2+1)),Ch.many R] from (s27.pk [4,2,3,5] rfl)),ω,(by rw [he2245];rfl)⟩ ω
  ·skip
   have hp6:¬ ((k2:Int)<8):=(dF hc3)
   refine wcF h62 rfl hc3<|h62.sk [51,3,8,7,6,5,13,2,0] rfl fun h98=>wp_exit ?_
   refine hK18 _ _ ?_
   refine sqr fun _ hK34=>mv h98 rfl fun _ h99=>h99.sk [68,51,3,8,7,6,5,13,0] rfl fun h100=>mv h100 rfl fun _ h101=>h101.sn [2,51,3,8,7,6,5,13,0] rfl fun h102=>hK34 _ _<|wp_ret ?_
   try simp only [Exit.then,Exit.inBlock]
   refine AW (v:=ν er247) (Cz h102 rfl rfl) h102.defs ?_
   obtain rfl:k2=8:=ω
   exact ⟨ta2248,tc2249,by rw [he2245],Sep.tail_un (xs:=[_,_]) (s14.pk [1,2,3] rfl)⟩
end
section
def s0S:BW:=fun kd nm=>if (kd=3∨kd=4∨kd=7)∧DI kd nm=true then Fu else []
theorem ON:(EV 23168).V=List.replicate 23168 0:=rfl
theorem LU:(EV 23168).V.length=23168:=by rw [ON,List.length_replicate]
theorem Xk:GU (EV 23168).V 2688 4096=0:=by
  refine TO (n:=0) ?_ (Nat.zero_le _) ω
  rw [ON,List.drop_replicate,List.take_replicate];rfl
theorem Ahj:Vol (EV 23168) [] s0S 0:=by
  refine ⟨LU,?_,fun p hp=>(by cases hp),rfl,fun p hp=>(by cases hp),?_⟩
  · unfold Cn Ff
    rw [Xk,List.take_zero,NO]
  · funext a b
    unfold Od s0S
    by_cases ha:a=3∨a=4∨a=7
    · rw [if_pos ha]
      cases hf:AT a b with
      | none=>rw [Cc hf,if_neg (fun e=>by unfold DI at e;rw [hf] at e;cases e.2)]
      | some q=>
        have hi:=Dq hf
        have h64:=Ja hf ω ω
        rw [BV hf,if_pos ⟨ha,by unfold DI;rw [hf];rfl⟩]
        show ((EV 23168).V.drop _).take _=_
        rw [ON,List.drop_replicate,List.take_replicate,h64]
        unfold Fu;congr 1;show min (64:Int).toNat _=64
        have:(64:Int).toNat=64:=rfl
        omega
    · rw [if_neg ha,if_neg (fun e=>ha e.1)]
theorem Oc {s:BW} {kd nm:Int} {xs:Λ} (h:xs++(s kd nm).drop xs.length=s kd nm):CE s kd nm xs=s:=by
  funext a b
  unfold CE
  split
  · next e=>rw [e.1,e.2];exact h
  · rfl
def Ach:Λ:=2::1::(List.replicate 58 0++[166,151,136,35])
def sAS:BW:=CE s0S 4 1 Ach
theorem QK:Ew QJ=0∧Db QJ=Ach:=⟨by decide +kernel,by decide +kernel⟩
theorem Aad:∀ j:Fin 32,DI 4 (((j.val+1:Nat)):Int)=true:=by decide +kernel
theorem Ac8:∀ j:Fin 8,DI 2 (((j.val+1:Nat)):Int)=true∧DI 6 (((j.val+1:Nat)):Int)=true:=by decide +kernel
theorem Ahb:∀ j:Fin 31,sAS 4 ((((j.val+1)+1:Nat)):Int)=Fu:=by decide +kernel
theorem Ahg:(Bq.all fun x=>!decide (x.k=2∨x.k=6∨x.k=1)||decide (64≤x.s))=true:=by decide +kernel
theorem KW {kd nm:Int} {q:PartT} (h:AT kd nm=some q) (hk:kd=2∨kd=6∨kd=1):64≤q.s:=by
  have k:=LD h
  have z:=List.all_eq_true.1 Ahg q k.1
  rw [decide_eq_true (by rw [k.2.1];exact hk)] at z
  exact of_decide_eq_true (by simpa using z)
section
variable {M:MemM}
theorem Oz (V:Vol M [] s0S 0):∀ k,k≤31→Oy M [] (k+1)=0∧Vol M (DH M [] (k+1)) sAS (k+1)
  | 0,_=>by
    obtain ⟨q,hq⟩:=BJ (Aad 0)
    rw [(Xv rfl).1,(Xv rfl).2]
    exact Ho V hq QK.1 QK.2 (by decide) ω
  | k+1,hk=>by
    have ih:=Oz V k ω
    obtain ⟨q,hq⟩:=BJ (Aad ⟨k+1,ω⟩)
    have z:=Ho ih.2 hq Ace Afq (by decide) ω
    rw [(Xw ω).1,(Xw ω).2,ih.1]
    refine ⟨by rw [z.1];rfl,?_⟩
    have e:CE sAS 4 ((k+1+1:Nat):Int) Fu=sAS:=Oc (by rw [Ahb ⟨k,ω⟩];decide)
    rw [← e];exact z.2
theorem Ki:AK.length=64:=by decide +kernel
theorem JX:Ed.length=64:=by decide +kernel
theorem OG (V:Vol M [] s0S 0):∀ k,k≤8→Qa M [] k=0∧Vol M (CV M [] k) sAS (34+2*k)
  | 0,_=>by
    have z:=Oz V 31 (Nat.le_refl _)
    have z2:=MI z.2 (xs:=AM) rfl ω
    have e:CE sAS 3 0 AM=sAS:=Oc (by decide +kernel)
    rw [e] at z2
    obtain ⟨q,hq⟩:=BJ (show DI 1 0=true by decide +kernel)
    have z3:=z2.2.put2 (xs:=Ed) hq (by decide) (by rw [JX];have:=KW hq (by decide);omega) (by rw [JX];omega) ω
    refine ⟨?_,z3.2⟩
    unfold Qa;rw [z.1,z2.1]
    show AJ [AJ [0,0],0,0,stE M (stP M (DH M [] 32) 3 0 AM) 1 0 Ed.length]=0
    rw [z3.1];rfl
  | k+1,hk=>by
    have ih:=OG V k ω
    obtain ⟨h2,h6⟩:=Ac8 ⟨k,ω⟩
    obtain ⟨q,hq⟩:=BJ h2
    obtain ⟨q6,hq6⟩:=BJ h6
    have z:=ih.2.put2 (xs:=AK) hq (by decide) (by rw [Ki];have:=KW hq (by decide);omega) (by rw [Ki];omega) ω
    have z2:=z.2.put2 (xs:=List.replicate 8 0) hq6 (by decide) (by have:=KW hq6 (by decide);simp;omega) (by simp) ω
    refine ⟨?_,z2.2⟩
    unfold Qa;rw [ih.1,z.1,z2.1];rfl
end
end
section
abbrev mtC (mx:Nat) (K:VolK):Ch:=Ab mx 125 [π K.tg]
abbrev opX:InoT:=⟨1,1,0,0,0,0,0,1,0,0,0,0,0,0,0⟩
def opB:Λ:=[1,1,0,0,0,0,0,0,1]++(List.replicate 51 0++[123,254,65,206])
theorem Mb:Ew opX=0∧Db opX=opB:=⟨by decide +kernel,by decide +kernel⟩
section
variable {M:MemM} {P:List PtM} {s:BW} {c:Nat}
structure OpenS (s:BW) (X:Λ) (nm:ByteArray) (k j:Nat) (x:InoT) (t:List EntT) (bs rb:Λ) (y:InoT) (b:Int):Prop where
  hX:X.length≤1000
  hp:Cj X=some [nm]
  hw:MS s [nm]=(0,10)
  hi:Dz s 1=0∧(DA s 1).k=2
  h32:k<32
  kn:∀ j:Nat,j<k→¬ (Dz s ((j:Int)+1)=0∧(DA s ((j:Int)+1)).k=0)
  ko:Dz s ((k:Int)+1)=0∧(DA s ((k:Int)+1)).k=0
  hk:DI 4 ((k:Int)+1)=true
  hs:nm.size≤1000
  te:Ik (CE s 4 ((k:Int)+1) opB) 1=0
  ie:Dz (CE s 4 ((k:Int)+1) opB) 1=0
  ex:DA (CE s 4 ((k:Int)+1) opB) 1=x
  et:DX (CE s 4 ((k:Int)+1) opB) 1=t
  xs:0≤x.s∧x.s≤1000
  hj:j<16
  pl:Ek t nm=(j:Int)
  hu:GM (EC t (j:Int) ⟨nm,(k:Int)+1⟩) ((j / 4:Nat):Int)=true
  hbf:FK (EC t (j:Int) ⟨nm,(k:Int)+1⟩) ((j / 4:Nat):Int)=some bs
  bl:bs.length≤64
  hy:Ew y=0∧Db y=rb∧rb.length≤64
  hb:y.blk (j / 4)=b∧DI 7 b=true
variable {X:Λ} {nm:ByteArray} {k j:Nat} {x y:InoT} {t:List EntT} {bs rb ms:Λ} {b:Int}
end
def nmF (i:UInt8):ByteArray:=⟨#[i]⟩
def ZL (a b:UInt8) (n m:UInt8):Λ:=(n::1::a::List.replicate 13 0)++(m::(if b=0 then 0 else 1)::b::List.replicate 13 0)++List.replicate 32 0
def ZM (a b:UInt8) (n m:UInt8):Λ:=List.replicate 32 0++(n::1::a::List.replicate 13 0)++(m::(if b=0 then 0 else 1)::b::List.replicate 13 0)
def rtX (k:Int) (b0 b3:Int):InoT:=⟨2,1,k,b0,0,0,b3,0,0,0,0,0,0,0,0⟩
def rtB (k b0 b3:UInt8) (z:Λ):Λ:=[2,1,k,0,b0,0,0,b3]++(List.replicate 52 0++z)
def r1B:Λ:=rtB 1 0 1 [116,40,151,23]
def r2B:Λ:=rtB 2 0 1 [193,56,222,200]
def r3B:Λ:=rtB 3 2 1 [252,16,51,185]
def r4B:Λ:=rtB 4 2 1 [68,56,23,150]
def s1S:BW:=CE (CE (CE (CE (CE sAS 4 2 opB) 3 0 (Bm AM 1)) 7 1 (List.replicate 64 0)) 7 1 (ZM 97 0 2 0)) 4 1 r1B
def s2S:BW:=CE (CE (CE s1S 4 3 opB) 7 1 (ZM 97 98 2 3)) 4 1 r2B
def s3S:BW:=CE (CE (CE (CE (CE s2S 4 4 opB) 3 0 (Bm (Bm AM 1) 2)) 7 2 (List.replicate 64 0)) 7 2 (ZL 99 0 4 0)) 4 1 r3B
def s4S:BW:=CE (CE (CE s3S 4 5 opB) 7 2 (ZL 99 100 4 5)) 4 1 r4B
def Af7:List EntT:=EC Bd 14 ⟨nmF 97,2⟩
def Af8:List EntT:=EC Af7 15 ⟨nmF 98,3⟩
def Ahh:List EntT:=EC Af8 0 ⟨nmF 99,4⟩
theorem op1:OpenS sAS [47,97] (nmF 97) 1 14 QJ Bd (ZM 97 0 2 0) r1B (rtX 1 0 1) 1 where
  hX:=by decide
  hp:=κ
  hw:=by decide +kernel
  hi:=by decide +kernel
  h32:=by decide
  kn:=fun j hj=>(by decide +kernel:∀ j:Fin 1,¬ (Dz sAS ((j.val:Int)+1)=0∧(DA sAS ((j.val:Int)+1)).k=0)) ⟨j,hj⟩
  ko:=by decide +kernel
  hk:=by decide +kernel
  hs:=by decide
  te:=by decide +kernel
  ie:=by decide +kernel
  ex:=κ
  et:=κ
  xs:=by decide
  hj:=by decide
  pl:=by decide +kernel
  hu:=by decide +kernel
  hbf:=by decide +kernel
  bl:=by decide
  hy:=by decide +kernel
  hb:=by decide +kernel
theorem op2:OpenS s1S [47,98] (nmF 98) 2 15 (rtX 1 0 1) Af7 (ZM 97 98 2 3) r2B (rtX 2 0 1) 1 where
  hX:=by decide
  hp:=κ
  hw:=by decide +kernel
  hi:=by decide +kernel
  h32:=by decide
  kn:=fun j hj=>(by decide +kernel:∀ j:Fin 2,¬ (Dz s1S ((j.val:Int)+1)=0∧(DA s1S ((j.val:Int)+1)).k=0)) ⟨j,hj⟩
  ko:=by decide +kernel
  hk:=by decide +kernel
  hs:=by decide
  te:=by decide +kernel
  ie:=by decide +kernel
  ex:=κ
  et:=κ
  xs:=by decide
  hj:=by decide
  pl:=by decide +kernel
  hu:=by decide +kernel
  hbf:=by decide +kernel
  bl:=by decide
  hy:=by decide +kernel
  hb:=by decide +kernel
theorem op3:OpenS s2S [47,99] (nmF 99) 3 0 (rtX 2 0 1) Af8 (ZL 99 0 4 0) r3B (rtX 3 2 1) 2 where
  hX:=by decide
  hp:=κ
  hw:=by decide +kernel
  hi:=by decide +kernel
  h32:=by decide
  kn:=fun j hj=>(by decide +kernel:∀ j:Fin 3,¬ (Dz s2S ((j.val:Int)+1)=0∧(DA s2S ((j.val:Int)+1)).k=0)) ⟨j,hj⟩
  ko:=by decide +kernel
  hk:=by decide +kernel
  hs:=by decide
  te:=by decide +kernel
  ie:=by decide +kernel
  ex:=κ
  et:=κ
  xs:=by decide
  hj:=by decide
  pl:=by decide +kernel
  hu:=by decide +kernel
  hbf:=by decide +kernel
  bl:=by decide
  hy:=by decide +kernel
  hb:=by decide +kernel
theorem op4:OpenS s3S [47,100] (nmF 100) 4 1 (rtX 3 2 1) Ahh (ZL 99 100 4 5) r4B (rtX 4 2 1) 2 where
  hX:=by decide
  hp:=κ
  hw:=by decide +kernel
  hi:=by decide +kernel
  h32:=by decide
  kn:=fun j hj=>(by decide +kernel:∀ j:Fin 4,¬ (Dz s3S ((j.val:Int)+1)=0∧(DA s3S ((j.val:Int)+1)).k=0)) ⟨j,hj⟩
  ko:=by decide +kernel
  hk:=by decide +kernel
  hs:=by decide
  te:=by decide +kernel
  ie:=by decide +kernel
  ex:=κ
  et:=κ
  xs:=by decide
  hj:=by decide
  pl:=by decide +kernel
  hu:=by decide +kernel
  hbf:=by decide +kernel
  bl:=by decide
  hy:=by decide +kernel
  hb:=by decide +kernel
def Ad0 (k:Nat):Λ:=[47,UInt8.ofNat (97+k)]
def sKS:Nat→BW
  | 0=>sAS
  | 1=>s1S
  | 2=>s2S
  | 3=>s3S
  | _=>s4S
def cKS:Nat→Nat
  | 0=>0
  | 1=>5
  | 2=>8
  | 3=>13
  | _=>16
end
section
def Keep (M:MemM) (P:List PtM) (M':MemM) (P':List PtM):Prop:=∀ kd nm,(kd=1∨kd=2)→As M' P' kd nm=As M P kd nm
section
variable {M:MemM} {P:List PtM} {s:BW} {n:Nat}
theorem Keep.refl:Keep M P M P:=fun _ _ _=>rfl
theorem Keep.trans {M1 M2:MemM} {P1 P2:List PtM} (h:Keep M P M1 P1) (g:Keep M1 P1 M2 P2):Keep M P M2 P2:=fun kd nm hk=>(g kd nm hk).trans (h kd nm hk)
theorem KY (hm:M.V.length=23168) {kd nm:Int} {xs:Λ} (hk:kd=3∨kd=4∨kd=7) (hx:xs.length≤64):Keep M P M (stP M P kd nm xs):=fun kd' nm' hk'=>by
  unfold stP
  cases hf:AT kd nm with
  | none=>rfl
  | some q=>
    have h64:=Ja hf ω ω
    dsimp only
    unfold Kg
    split
    · rw [Ig hm hf ω,if_neg (fun e=>by have:=e.1;omega)]
    · rfl
theorem Ka (hm:M.V.length=23168) {i:Int} {x:InoT} (hl:(Db x).length≤64):Keep M P M (BC M P i x):=by
  unfold BC;split
  · exact KY hm (.inr (.inl rfl)) hl
  · exact Keep.refl
theorem Ade (hm:M.V.length=23168) {sp:Int}:Keep M P M (bP M P sp):=by
  unfold bP;split
  · exact Keep.refl
  · unfold Acy Ll
    exact (KY hm (.inl rfl) (by rw [AX];unfold Aw;rw [AZ];omega)).trans (KY hm (.inr (.inr rfl)) (by simp))
theorem PX (hm:M.V.length=23168) {p:Int} {x:InoT} {j:Nat} {bs:Λ} (hb:bs.length≤64) (hl:(Db x).length≤64):Keep M P M (PE M P p x j bs):=by
  unfold PE;exact (KY hm (.inr (.inr rfl)) hb).trans (Ka hm hl)
theorem ZG (V:Vol M P s n) (hn:n≤50) {a b:Int} (ha:a≠5):As (cmM M P) [] a b=As M P a b:=by
  by_cases h0:P=[]
  · subst h0;rfl
  · have ok:LogOk 2688 4096 M:=⟨ω,ω,by have:=V.m;omega,by have:=V.m;omega⟩
    have hl:=Ou V.d
    have hE:CG P=true:=by
      unfold CG
      rw [decide_eq_true (by have:=V.l;omega),List.all_eq_true.2 fun p hp=>OO (by have:=V.k p hp;omega) (by have:=V.d p hp;omega)];rfl
    have eE:FW P=0:=by unfold FW;rw [if_pos hE]
    have hP:=V.l
    have ap:Dt M 2688 4096 P=0:=by unfold Dt;rw [if_pos eE,V.r];exact if_neg (by show ¬ (4096-8<0+_);omega)
    have eM:cmM M P=AI (CR M 2688 4096 P) 2688 4096:=by unfold cmM;rw [if_neg h0,if_pos ap]
    have lR:Cn (CR M 2688 4096 P).V 2688 4096=([P],0+(BP P).length):=by
      rw [Qd ok,if_pos ap,V.r];rfl
    rw [eM]
    cases hf:AT a b with
    | none=>rw [Cc hf,Cc hf]
    | some q=>
      have hi:=Dq hf
      have hg:=PJ hf ha
      have hA:CR M 2688 4096 P=Dn (CC M [⟨((2688+8+0:Nat):Int),BP P⟩]) 2688 ((0+(BP P).length:Nat):Int):=by
        unfold CR;rw [if_pos ⟨eE,by rw [V.r];show ¬ (4096-8<0+_);omega⟩,V.r]
      have l8:∀ z:Int,(Ar [] z 8).length≤8:=fun z=>Nat.le_trans (BK [] z 8) (by simp)
      rw [BV hf,BV hf]
      show IR (AI (CR M 2688 4096 P) 2688 4096).V q.a q.s=ovl q.a (IR M.V q.a q.s) P
      have eV:(AI (CR M 2688 4096 P) 2688 4096).V=stV (P.foldl stV (stV (stV M.V ⟨((2688+8+0:Nat):Int),BP P⟩) ⟨((2688:Nat):Int),Ar [] ((0+(BP P).length:Nat):Int) 8⟩)) ⟨((2688:Nat):Int),Ar [] 0 8⟩:=by
        unfold AI;rw [lR];unfold Dn;rw [CM,CM,hA];unfold Dn;rw [CM,CM]
        simp
      have m:=V.m
      have b1:=l8 ((0+(BP P).length:Nat):Int)
      have b2:=l8 0
      rw [eV,Gq (by rw [Ga,Bw,Bw,m];dsimp only;omega) (by rw [Ga,Bw,Bw,m];omega),
        Lr (by rw [Bw,Bw,m];exact V.k) (by rw [Bw,Bw,m];omega),
        Gq (by rw [Bw,m];dsimp only;omega) (by rw [Bw,m];omega),Gq (by rw [m];dsimp only;omega) (by rw [m];omega)]
      have lc:((IR M.V q.a q.s).length:Int)=q.s:=IS (by rw [m];omega)
      rw [Dv (p:=⟨((2688:Nat):Int),Ar [] 0 8⟩) (by rw [Fz,Cu,Cu];dsimp only;omega)]
      rw [Dv (p:=⟨((2688:Nat):Int),Ar [] ((0+(BP P).length:Nat):Int) 8⟩) (by rw [Cu];dsimp only;omega)]
      rw [Dv (p:=⟨((2688+8+0:Nat):Int),BP P⟩) (by dsimp only;omega)]
theorem XR (V:Vol M P s n) (hn:n≤50):Keep M P (cmM M P) []:=fun kd nm hk=>ZG V hn ω
theorem YR {kd nm:Int} {q:PartT} (hm:M.V.length=23168) (h:AT kd nm=some q) (h5:kd≠5) (h6:kd≠6):(As M P kd nm).length=64:=by
  rw [BV h,MB (Je hm h),Ja h h5 h6];rfl
theorem Pf (V:Vol M P s n) {kd nm:Int} {q:PartT} {xs:Λ} (h:AT kd nm=some q) (hk:kd=1∨kd=2) (hx:xs.length=64) (hn:n<64) :
    stE M P kd nm 64=0∧Vol M (stP M P kd nm xs) s (n+1)∧As M (stP M P kd nm xs) kd nm=xs∧∀ kd' nm',¬ (kd'=kd∧nm'=nm)→As M (stP M P kd nm xs) kd' nm'=As M P kd' nm':=by
  have h64:=Ja h ω ω
  have hl:=V.l
  have z:=Tg V.m h (xs:=xs) (P:=P) ω ω ω
  have z2:=V.put2 h ω ω ω hn (xs:=xs)
  rw [hx] at z
  refine ⟨z.1,z2.2,?_,fun kd' nm' hne=>?_⟩
  · rw [z.2,Ig V.m h ω,if_pos ⟨rfl,rfl⟩,hx,← YR V.m h ω ω (P:=P),List.drop_length,List.append_nil]
  · rw [z.2,Ig V.m h ω,if_neg hne]
structure Vst (M:MemM) (P:List PtM) (s:BW) (n:Nat) (hd:Int) (sl:Int→Λ):Prop where
  v:Vol M P s n
  h:As M P 1 0=Bz hd
  s2:∀ c,1≤c→c≤8→As M P 2 c=sl c
variable {hd:Int} {sl:Int→Λ}
theorem Vst.keep (T:Vst M P s n hd sl) {M':MemM} {P':List PtM} {s':BW} {n':Nat} (V:Vol M' P' s' n') (K:Keep M P M' P'):Vst M' P' s' n' hd sl:=
  ⟨V,(K 1 0 (.inl rfl)).trans T.h,fun c h1 h2=>(K 2 c (.inr rfl)).trans (T.s2 c h1 h2)⟩
theorem Vst.com (T:Vst M P s n hd sl) (hn:n≤50):cmE M P=0∧cmP M P=[]∧Vst (cmM M P) [] s 0 hd sl:=
  have c:=T.v.com hn
  ⟨c.1,c.2.1,T.keep c.2.2 (XR T.v hn)⟩
theorem JY {k:Int} (h:btw k 1152921504606846976=true):(Bz k).length=64:=by
  have z:(BQ EK [(k,8)]).length≤EK.length+8:=BK EK k 8
  have z2:EK.length=8:=rfl
  unfold Bz;rw [if_pos h];unfold DW;simp [Fx,Ay];omega
theorem Aac:AT 1 0=some ⟨1,0,0,64⟩:=κ
theorem Vst.count (T:Vst M P s n hd sl) (h:btw (hd+1) 1152921504606846976=true) (hl:(Bz (hd+1)).length=64) (hn:n<64):stE M P 1 0 64=0∧Vst M (stP M P 1 0 (Bz (hd+1))) s (n+1) (hd+1) sl:=by
  have z:=Pf T.v Aac (.inl rfl) hl hn
  exact ⟨z.1,z.2.1,z.2.2.1,fun c h1 h2=>(z.2.2.2 2 c (fun e=>by have:=e.1;omega)).trans (T.s2 c h1 h2)⟩
theorem Vst.slot (T:Vst M P s n hd sl) {c:Int} {q:PartT} {xs:Λ} (h:AT 2 c=some q) (hx:xs.length=64) (hn:n<64):stE M P 2 c 64=0∧Vst M (stP M P 2 c xs) s (n+1) hd (fun d=>if d=c then xs else sl d):=by
  have z:=Pf T.v h (.inr rfl) hx hn
  refine ⟨z.1,z.2.1,(z.2.2.2 1 0 (fun e=>by have:=e.1;omega)).trans T.h,fun d h1 h2=>?_⟩
  by_cases e:d=c
  · subst e;rw [if_pos rfl];exact z.2.2.1
  · rw [if_neg e];exact (z.2.2.2 2 d (fun g=>e g.2)).trans (T.s2 d h1 h2)
end
end
section
section
variable {M:MemM} {P:List PtM} {s:BW} {n c:Nat}
theorem Wc (hm:M.V.length=23168) {kd nm kd' nm':Int} {xs:Λ} (hx:∀ q,AT kd nm=some q→(xs.length:Int)≤q.s) (hne:¬ (kd'=kd∧nm'=nm)):As M (stP M P kd nm xs) kd' nm'=As M P kd' nm':=by
  unfold stP
  cases hf:AT kd nm with
  | none=>rfl
  | some q=>
    dsimp only;unfold Kg
    split
    · rw [Ig hm hf (hx q hf),if_neg hne]
    · rfl
theorem TZ (V:Vol M [] s0S 0):∀ k,k≤8→As M (CV M [] k) 1 0=Bz 0∧∀ c:Nat,1≤c→c≤k→As M (CV M [] k) 2 (c:Int)=AK
  | 0,_=>by
    have z:=Oz V 31 (Nat.le_refl _)
    have z2:=MI z.2 (xs:=AM) rfl ω
    exact ⟨(Pf z2.2 Aac (.inl rfl) JX ω).2.2.1,fun c h1 h2=>ω⟩
  | k+1,hk=>by
    have ih:=TZ V k ω
    have V':=(OG V k ω).2
    obtain ⟨h2,h6⟩:=Ac8 ⟨k,ω⟩
    obtain ⟨q,hq⟩:=BJ h2
    obtain ⟨q6,hq6⟩:=BJ h6
    have z:=Pf V' hq (.inr rfl) Ki ω
    have o:∀ kd' nm',¬ (kd'=6∧nm'=((k+1:Nat):Int))→As M (CV M [] (k+1)) kd' nm'=As M (stP M (CV M [] k) 2 ((k+1:Nat):Int) AK) kd' nm':=fun kd' nm' hne=>
      Wc V.m (fun q h=>by have:=KW h (by decide);simp;omega) hne
    refine ⟨(o 1 0 (fun e=>by have:=e.1;omega)).trans ((z.2.2.2 1 0 (fun e=>by have:=e.1;omega)).trans ih.1),fun c h1 h2=>?_⟩
    rw [o 2 (c:Int) (fun e=>by have:=e.1;omega)]
    by_cases hc:c=k+1
    · subst hc;exact z.2.2.1
    · exact (z.2.2.2 2 (c:Int) (fun e=>by have e2:(c:Int)=((k+1:Nat):Int):=e.2;omega)).trans (ih.2 c h1 ω)
theorem KX (V:Vol M [] s0S 0):Qa M [] 8=0∧Vst M (CV M [] 8) sAS 50 0 (fun _=>AK):=by
  have z:=OG V 8 (Nat.le_refl _)
  have l:=TZ V 8 (Nat.le_refl _)
  refine ⟨z.1,z.2,l.1,fun c h1 h2=>?_⟩
  have e:=l.2 c.toNat ω ω
  rwa [show ((c.toNat:Nat):Int)=c by omega] at e
theorem Acj {M':MemM} (V:Vol M [] s 0) (h:M'.V=M.V):Vol M' [] s 0:=by
  refine ⟨by rw [h];exact V.m,by rw [h];exact V.r,fun p hp=>(by cases hp),rfl,fun p hp=>(by cases hp),?_⟩
  rw [← V.s]
  funext a b
  unfold Od As Dj
  rw [h]
theorem Wf {M:MemM} (hm:M.V.length=23168) (h:(M.V.drop 2688).take 8=List.replicate 8 0):(Dn M 2688 0).V=M.V:=by
  have e:(Dn M 2688 ((0:Nat):Int)).V=splice M.V 2688 (le 8 0):=MH ω
  have e:(Dn M 2688 0).V=splice M.V 2688 (le 8 0):=e
  rw [e,show le 8 0=List.replicate 8 0 by decide,← h]
  unfold splice
  have l:((M.V.drop 2688).take 8).length=8:=by rw [h];rfl
  rw [l]
  rw [show M.V.drop (2688+8)=(M.V.drop 2688).drop 8 by rw [List.drop_drop],List.take_append_drop,List.take_append_drop]
theorem Oe:Vol (Dn (EV 23168) 2688 0) [] s0S 0:=Acj Ahj (Wf LU (by rw [ON,List.drop_replicate,List.take_replicate];rfl))
variable {X:Λ} {nm:ByteArray} {k j:Nat} {x y:InoT} {t:List EntT} {bs rb ms:Λ} {b:Int}
theorem Yn:(Db opX).length≤64:=by rw [Mb.2];decide
theorem NH (V:Vol M P s c) (hc:c≤50) (H:OpenS s X nm k j x t bs rb y b) (hk:x.blk (j / 4)≠0) (hy:Vk x=y) :
    ∃ P',Vol M P' (CE (CE (CE s 4 ((k:Int)+1) opB) 7 b bs) 4 1 rb) (c+3)∧Keep M P M P'∧∀ {w:World} {R:List Ch} {mx:Nat} {K:VolK} {ta:Ω} {tc:Nat} (_:Sep w ([mtC mx K,txP K ta tc M P]++R)),
      CallsR prog 23 #[π mx,ν 1,σ X,ν 1,.bool false,ν 0] w fun v w'=>∃ ta' tc',v=.tuple #[ν ((k:Int)+1),ν 0]∧Sep w' ([mtC mx K,txP K ta' tc' M P']++R):=by
  obtain ⟨q,hq⟩:=BJ H.hk
  obtain ⟨q7,hq7⟩:=BJ H.hb.2
  obtain ⟨q1,hq1⟩:=BJ (Aad 0)
  have z:=Ho V hq Mb.1 Mb.2 (by decide) ω
  have d:=Ab6 z.2 H.te H.ie H.ex H.et
  have hb7:AT 7 (y.blk (j / 4))=some q7:=by rw [H.hb.1];exact hq7
  have z2:=TP z.2 (p:=1) hb7 H.bl hq1 H.hy.1 H.hy.2.1 H.hy.2.2 ω
  rw [H.hb.1] at z2
  have eA:Tz M (BC M P ((k:Int)+1) opX) 1 j bs=PE M (BC M P ((k:Int)+1) opX) 1 y j bs:=by unfold Tz;rw [d.2.1,hy]
  have eB:Pq M (BC M P ((k:Int)+1) opX) 1 j bs=0:=by unfold Pq;rw [d.2.1,hy];exact z2.1
  refine ⟨_,z2.2,(Ka V.m Yn).trans (PX V.m H.bl (by rw [H.hy.2.1];exact H.hy.2.2)),fun hS=>?_⟩
  rw [← eA]
  exact Aa2 hS V.m H.hX (Yj V H.hp H.hw) (Uj V H.hp H.hi.1 H.hi.2) (Yl V H.h32 H.kn H.ko) H.hs H.hj d.1 (by rw [d.2.1];exact H.xs) (by rw [d.2.2];exact H.pl) (by rw [d.2.1];exact hk) (by rw [d.2.2];exact H.hu) (by rw [d.2.2];exact H.hbf) H.bl
    (by show AJ [CD M P _ opX,Pq M (BC M P _ opX) 1 j bs]=0;rw [z.1,eB];rfl)
theorem NG (V:Vol M P s c) (hc:c≤50) (H:OpenS s X nm k j x t bs rb y b) (hk:x.blk (j / 4)=0) (hy:Vk (x.setB (j / 4) b)=y) (hm:Adn (CE s 4 ((k:Int)+1) opB)=ms) (hf:Aq ms 1=b) (hr:¬ 128-((Ep ms 128).length:Int)≤max 0 0) :
    ∃ P',Vol M P' (CE (CE (CE (CE (CE s 4 ((k:Int)+1) opB) 3 0 (Bm ms b)) 7 b (List.replicate 64 0)) 7 b bs) 4 1 rb) (c+5)∧Keep M P M P'∧∀ {w:World} {R:List Ch} {mx:Nat} {K:VolK} {ta:Ω} {tc:Nat} (_:Sep w ([mtC mx K,txP K ta tc M P]++R)),
      CallsR prog 23 #[π mx,ν 1,σ X,ν 1,.bool false,ν 0] w fun v w'=>∃ ta' tc',v=.tuple #[ν ((k:Int)+1),ν 0]∧Sep w' ([mtC mx K,txP K ta' tc' M P']++R):=by
  obtain ⟨q,hq⟩:=BJ H.hk
  obtain ⟨q7,hq7⟩:=BJ H.hb.2
  obtain ⟨q1,hq1⟩:=BJ (Aad 0)
  have z:=Ho V hq Mb.1 Mb.2 (by decide) ω
  have d:=Ab6 z.2 H.te H.ie H.ex H.et
  have zb:=UL z.2 (sp:=0) hm hf hr hq7 ω
  have hb7:AT 7 (y.blk (j / 4))=some q7:=by rw [H.hb.1];exact hq7
  have z2:=TP zb.2.2 (p:=1) hb7 H.bl hq1 H.hy.1 H.hy.2.1 H.hy.2.2 ω
  rw [H.hb.1] at z2
  have eA:Ty M (BC M P ((k:Int)+1) opX) 1 0 j bs=PE M (bP M (BC M P ((k:Int)+1) opX) 0) 1 y j bs:=by unfold Ty;rw [d.2.1,zb.1,hy]
  have eB:Pp M (BC M P ((k:Int)+1) opX) 1 0 j bs=0:=by unfold Pp;rw [d.2.1,zb.1,hy];exact z2.1
  refine ⟨_,z2.2,((Ka V.m Yn).trans (Ade V.m)).trans (PX V.m H.bl (by rw [H.hy.2.1];exact H.hy.2.2)),fun hS=>?_⟩
  rw [← eA]
  exact Aa1 hS V.m H.hX (Yj V H.hp H.hw) (Uj V H.hp H.hi.1 H.hi.2) (Yl V H.h32 H.kn H.ko) H.hs H.hj d.1 (by rw [d.2.1];exact H.xs) (by rw [d.2.2];exact H.pl) (by rw [d.2.1];exact hk) zb.2.1 (by rw [d.2.2];exact H.hu) (by rw [d.2.2];exact H.hbf) H.bl
    (by show AJ [CD M P _ opX,Pp M (BC M P _ opX) 1 0 j bs]=0;rw [z.1,eB];rfl)
theorem Aa3 (hk:k<4) {hd:Int} {sl:Int→Λ} (T:Vst M [] (sKS k) 0 hd sl) :
    ∃ P' c',Vst M P' (sKS (k+1)) c' hd sl∧1≤c'∧c'≤5∧∀ {w:World} {R:List Ch} {mx:Nat} {K:VolK} {ta:Ω} {tc:Nat} (_:Sep w ([mtC mx K,txP K ta tc M []]++R)),
      CallsR prog 23 #[π mx,ν 1,σ (Ad0 k),ν 1,.bool false,ν 0] w fun v w'=>∃ ta' tc',v=.tuple #[ν ((k:Int)+2),ν 0]∧Sep w' ([mtC mx K,txP K ta' tc' M P']++R):=by
  rcases (ω:k=0∨k=1∨k=2∨k=3) with rfl | rfl | rfl | rfl
  · obtain ⟨P',V',K',h⟩:=NG (ms:=AM) T.v (by decide) op1 (by decide) κ (by decide +kernel) (by decide +kernel) (by decide +kernel)
    exact ⟨P',_,T.keep V' K',ω,ω,h⟩
  · obtain ⟨P',V',K',h⟩:=NH T.v (by decide) op2 (by decide) κ
    exact ⟨P',_,T.keep V' K',ω,ω,h⟩
  · obtain ⟨P',V',K',h⟩:=NG (ms:=Bm AM 1) T.v (by decide) op3 (by decide) κ (by decide +kernel) (by decide +kernel) (by decide +kernel)
    exact ⟨P',_,T.keep V' K',ω,ω,h⟩
  · obtain ⟨P',V',K',h⟩:=NH T.v (by decide) op4 (by decide) κ
    exact ⟨P',_,T.keep V' K',ω,ω,h⟩
end
end
section
def DR (lg g v d p:Nat) (M:MemM):Ch where
 F b:=b=lg∨b=g∨b=v∨b=d∨b=p
 P w:=LogP w lg g v d p 2688 4096 M∧g<lg∧v<lg∧d<lg∧p<lg
 keep h t:=⟨Fj h.1 t (fun q=>q (.inl rfl)) (fun q=>q (.inr (.inl rfl))) (fun q=>q (.inr (.inr (.inl rfl)))) (fun q=>q (.inr (.inr (.inr (.inl rfl))))) (fun q=>q (.inr (.inr (.inr (.inr rfl))))),h.2⟩
 lt h b hb:=by
  obtain ⟨h1,h2,h3,h4,h5⟩:=h.1.lt
  rcases hb with e | e | e | e | e<;>omega
theorem Yf {w:World} {R:List Ch} (hS:Sep w R):CallsR prog 4 #[ν 23168] w (fun v w'=>∃ g v1 d p,v=π g∧Sep w' (Ca g v1 d p (EV 23168)::R)):=
 Calls.mono (LT 23168 w ω) fun e w' z=>by
  unfold Po at z
  rw [if_pos (by decide)] at z
  obtain ⟨g,v,d,p,e1,m,⟨h1,h2,h3,h4⟩,b⟩:=z
  exact ⟨_,e1,g,v,d,p,rfl,hS.push b (c:=Ca g v d p (EV 23168)) m fun k hk=>by rcases hk with e | e | e | e<;>omega⟩
theorem Adr {w:World} {R:List Ch} {g v1 d p:Nat} {M:MemM} (hS:Sep w (Ca g v1 d p M::R)) (hM:M.V.length=23168):CallsR prog 41 #[π g,ν 2688,ν 4096] w (fun v w'=>∃ lg,v=π lg∧Sep w' (DR lg g v1 d p M::R)):=by
 have h:MemP w g v1 d p M:=hS.get 0 rfl
 refine Calls.mono (Ye h 2688 4096 (by unfold ER;omega) (by unfold ER;omega) ω) fun e w' z=>?_
 unfold Nf at z
 rw [if_pos (by unfold Ji;omega)] at z
 obtain ⟨lg,e1,hb,hl,b⟩:=z
 obtain ⟨_,_,_,_,_,_,h1,h2,h3,h4⟩:=CQ h
 refine ⟨_,e1,lg,rfl,hS.head (Turns.of_below (X:=fun _=>False) b) (fun k hk (q:False)=>q.elim) (c':=DR lg g v1 d p M) ⟨⟨hb,h.mono b⟩,ω⟩ fun k q=>?_⟩
 rcases q with q | q | q | q | q
 ·right;omega
 ·exact .inl (.inl q)
 ·exact .inl (.inr (.inl q))
 ·exact .inl (.inr (.inr (.inl q)))
 ·exact .inl (.inr (.inr (.inr q)))
theorem Ko {w:World} {R:List Ch} {K:VolK} {ta:Ω} {tc:Nat} {M M':MemM} {P:List PtM} (hS:Sep w (txP K ta tc M P::R)) (h1:cmE M P=0) (h2:cmP M P=[]) (h3:M'=cmM M P):CallsR prog 21 #[pG K.tg] w (fun x w'=>∃ ta' tc',x=ν 0∧Sep w' (txP K ta' tc' M' []::R)):=
 Calls.mono (WX hS) fun e w' z=>by rw [h1,h2,← h3] at z;exact z
theorem Ad1 {k:Nat} (hk:k<4):([.string ⟨#[47,97]⟩,.string ⟨#[47,98]⟩,.string ⟨#[47,99]⟩,.string ⟨#[47,100]⟩]:List Value)[0+k]? = some (σ (Ad0 k)):=by
 rcases (ω:k=0∨k=1∨k=2∨k=3) with rfl | rfl | rfl | rfl<;>rfl
theorem RP {w:World} {R:List Ch} {tg mx:Nat} (hS0:Sep w ([]++R)) :
  CallsR prog 46 #[π tg,π mx] w (fun v w'=>∃ fx,v=π fx∧Sep w' ([Ab fx 143 [π tg,π mx]]++R)):=by
 have hS:Sep w [Ch.many R]:=Sep.tail_many (xs:=[]) hS0;clear hS0
 refine AB func46 rfl (N:=15) ntmps46 (by show 2≤15;decide) [(0,π tg),(1,π mx)] rfl fun _ h1=>sqr fun _ hK3=>mv h1 rfl fun _ h4=>wpList_nil<|hK3 _ _<|sq fun _ hK6=>sqr fun _ hK7=>mv h4 rfl fun _ h8=>bv h8 (z:=.bool false) rfl (IO _ υ63 _ _ _) fun _ h2=>mv h2 rfl fun _ h3=>sv h3 (wF h3 (E:=false) rfl rfl rfl) rfl rfl rfl (v:=π mx) (Au h3 rfl rfl) fun _ h5=>sv h5 (wF h5 (E:=false) rfl rfl rfl) rfl rfl rfl (v:=.bool false) (Co h5 rfl rfl rfl (IO _ υ42 _ _ _)) fun _ h6=>?_
 refine sv1 h6 rfl (v:=.bool false) (BA h6 rfl rfl rfl) fun _ h7=>h7.sn [10,4,0,1] rfl fun h9=>hK7 _ _<|wcF h9 rfl rfl<|h9.sk [4,0,1] rfl fun h10=>wp_skip<|hK6 _ _<|sqr fun _ hK1=>mvs 2 h10 rfl fun _ h11=>bu h11 (v:=.agg #[π tg,π mx]) rfl (fun w=>κ) fun _ h12=>so (wn rfl) fun _ hK2=>JE h12 rfl rfl rfl rfl rfl (z:=[π tg,π mx]) rfl hS fun _ g1 w1 h13 s1 _ _=>hK2 _ _ ?_
 refine h13.sk [14,13,12,11,0,1] rfl fun h14=>mv h14 rfl fun _ h15=>h15.sn [4,0,1] rfl fun h16=>hK1 _ _<|wp_ret ?_
 try simp only [Exit.then,Exit.inBlock]
 refine AW (v:=π g1) (Cz h16 rfl rfl) h16.defs ?_
 exact ⟨g1,rfl,Sep.tail_un (xs:=[_]) s1⟩
end
section
theorem Gs {n:Int} (h:btw n 1152921504606846976=true):(Bz n).length=64:=by
  unfold Bz;rw [if_pos h,EX (by have:=EJ h;omega)]
theorem Qj (a:Ω) (c:Nat) (xs:Λ) (P k Bb Ba:Nat) (w:World) (ha:RowB w a c xs) (hb:Blk w Bb 22 [.slice a xs.length c]) (hp:Blk w Ba 3 [ν (P:Nat)]) (hs:P≤1000∧k≤1000) :
    Calls prog 104 #[ν k,π Bb,π Ba] w fun e w'=>e=.returned (ν ((AC xs P k).getD 0:Nat))∧w'=w.setCell ⟨Ba,0,none⟩ (ν ((P+k:Nat):Int)):=by
  have hl:=Ce ha
  have c0:=Blk.cell hb (i:=0) (by simp)
  have c1:=Blk.cell hp (i:=0) (by simp)
  have f1:=Blk.frozen hp 0
  simp only [List.getElem_cons_zero] at c0 c1
  have hg:=DP a c xs P k w ha hl
  simp only [KN] at hg
  have HG:=hid hg;clear hg
  have hsum:((P+k:Nat):Int)=(P:Int)+(k:Int):=ω
  rw [hsum]
  clear hb hp hsum
  go_enter func104,ntmps104
  go_wp2_with fail
  refine HG.out.mono ?_
  rintro e w1 ⟨rfl,rfl⟩
  generalize (AC xs P k).isSome=ok
  generalize hv:(AC xs P k).getD 0=v at *
  have HV:=hid hv;clear hv
  go_wp2_with fail
  go_ret
  exact ⟨FE (by rw [HV.out]),rfl⟩
theorem Mr (a:Ω) (c n:Nat) (P:Int) (w:World) :
    Calls prog 78 #[.slice a n c,ν P] w fun e w'=>e=.returned (.func (.func 104) #[] #[π w.heap.size,π (w.heap.size+1)])∧w'=(w.alloc (.cells #[.slice a n c] 22)).alloc (.cells #[ν P] 3):=by
  have hmf:∀ (fn:Fn) (first cap:Array Value) (w:World),(Instr.makeFunc fn first cap).run prog w=.ok (.func fn first cap) w:=fun _ _ _ _=>rfl
  go_enter func78,ntmps78
  go_wp2_with fail
  clear hmf
  go_ret
  exact ⟨by simp,rfl⟩
def nH (xs:Λ):Nat:=(AC xs 8 8).getD 0
def FN (xs:Λ):Bool:=btw (nH xs) 1152921504606846976&&decide (xs.take 64=Bz (nH xs))
def rhN (xs:Λ):Int:=if chk xs=0 then (if FN xs then (nH xs:Int) else 0) else 0
def rhE (xs:Λ):Int:=if chk xs=0 then (if FN xs then 0 else 2) else chk xs
theorem TF {xs:Λ} (h:chk xs=0):64≤xs.length:=by
  unfold chk at h;split at h
  · assumption
  · simp at h
theorem Afm (xs:Λ):nH xs≤9223372036854775807:=by
  unfold nH AC;split
  · split
    · simpa
    · simp
  · simp
theorem OV (a:Ω) (c:Nat) (xs:Λ) (w:World) (ha:RowB w a c xs) :
    Calls prog 83 #[.slice a xs.length c] w fun e w'=>e=.returned (.tuple #[ν (rhN xs),ν (rhE xs)])∧Below w.heap.size w w':=by
  by_cases hc:chk xs=0
  · have h64:=TF hc
    have hN:=Afm xs
    have hR:rhN xs=if FN xs then (nH xs:Int) else 0:=by unfold rhN;rw [if_pos hc]
    have hE:rhE xs=if FN xs then 0 else 2:=by unfold rhE;rw [if_pos hc]
    have hck:=Hu a c xs w ha
    rw [hc] at hck
    have HC:=hid hck
    have pre:∀ (G:Bool),FN xs=G→Calls prog 83 #[.slice a xs.length c] w fun e w'=>e=.returned (.tuple #[ν (if G then (nH xs:Int) else 0),ν (if G then 0 else 2)])∧Below w.heap.size w w':=by
      intro G hG
      have HG:=hid hG
      clear hc hR hE hck hG
      have hg1:∀ w1,RowB w1 a c xs→Calls prog 104 #[ν 8,π w1.heap.size,π (w1.heap.size+1)] ((w1.alloc (.cells #[.slice a xs.length c] 22)).alloc (.cells #[ν 8] 3)) fun e w'=>e=.returned (ν (nH xs:Nat))∧Below w1.heap.size w1 w':=by
        intro w1 r1
        have k0:Blk ((w1.alloc (.cells #[.slice a xs.length c] 22)).alloc (.cells #[ν 8] 3)) w1.heap.size 22 [.slice a xs.length c]:=
          Blk.mono (w:=w1.alloc (.cells #[.slice a xs.length c] 22)) (heap_alloc_new w1 _) ((Below.refl _ _).alloc (Nat.le_refl _) _)
        have k1:Blk ((w1.alloc (.cells #[.slice a xs.length c] 22)).alloc (.cells #[ν 8] 3)) (w1.heap.size+1) 3 [ν 8]:=by
          have:=heap_alloc_new (w1.alloc (.cells #[.slice a xs.length c] 22)) (.cells #[ν 8] 3)
          rw [show (w1.alloc (.cells #[.slice a xs.length c] 22)).heap.size=w1.heap.size+1 from by simp] at this
          exact this
        refine (Qj a c xs 8 8 _ _ _ ((r1.alloc _).alloc _) k0 k1 ω).mono ?_
        rintro e w2 ⟨rfl,rfl⟩
        refine ⟨rfl,?_⟩
        have b:=(((Below.refl w1.heap.size w1).alloc (Nat.le_refl _) (.cells #[.slice a xs.length c] 22)).alloc (by simp) (.cells #[ν 8] 3))
        exact b.setCell (by simp) _
      have HG1:=hid hg1;clear hg1
      go_enter func83,ntmps83
      go_wp2_with fail
      refine HC.out.mono ?_
      rintro e w1 ⟨rfl,b1⟩
      have r1:=ha.mono b1
      go_wp2_with fail
      refine (Mr a c xs.length 8 w1).mono ?_
      rintro e w2 ⟨rfl,rfl⟩
      go_wp2_with (go_at_call 104;refine (HG1.out _ r1).mono ?_;rintro e w3 ⟨rfl,b3⟩;have _b:=Av b1 b3 b1.size)
      by_cases hbt:btw (nH xs) 1152921504606846976=true
      · have hq:=Gs hbt
        have hG:=HG.out
        unfold FN at hG
        rw [hbt] at hG
        have hph:=FB (nH xs) w3 ω
        rw [hq] at hph
        have hpf:=fun (a2:Ω) (c2:Nat) (w4:World) (h1:RowB w4 a c xs) (h2:RowB w4 a2 c2 (Bz (nH xs)))=>Iq a a2 c c2 xs (Bz (nH xs)) w4 h1 h2
        rw [hq,decide_eq_true h64] at hpf
        simp only [Bool.true_and] at hG hpf
        rw [hG,hbt] at *
        have HPH:=hid hph;have HPF:=hid hpf
        clear hph hpf hG hq hbt
        refine HPH.out.mono ?_
        rintro e w4 ⟨a4,c4,rfl,o4,b4⟩
        have r4:=(ha.mono _b).mono b4
        have _c:=Av _b b4 _b.size
        go_wp2_with fail
        refine (HPF.out a4 c4 w4 r4 o4.row).mono ?_
        rintro e w5 ⟨rfl,rfl⟩
        cases G
        · go_wp2_with fail
          go_ret2
          exact ⟨rfl,_c⟩
        · go_wp2_with fail
          go_ret2
          exact ⟨rfl,_c⟩
      · have hbt':btw (nH xs) 1152921504606846976=false:=by simpa using hbt
        have hG:=HG.out
        unfold FN at hG
        rw [hbt'] at hG
        simp only [Bool.false_and] at hG
        subst hG
        have hph:=FB (nH xs) w3 ω
        rw [hbt'] at hph
        have HPH:=hid hph
        clear hph hbt hbt'
        refine HPH.out.mono ?_
        rintro e w4 ⟨a4,c4,rfl,o4,b4⟩
        have _c:=Av _b b4 _b.size
        go_wp2_with fail
        go_ret2
        exact ⟨rfl,_c⟩
    cases hG:FN xs with
    | true=>rw [hR,hE,hG];exact pre true hG
    | false=>rw [hR,hE,hG];exact pre false hG
  · have hR:rhN xs=0:=by unfold rhN;rw [if_neg hc]
    have hE:rhE xs=chk xs:=by unfold rhE;rw [if_neg hc]
    rw [hR,hE]
    have HC:=hid (Hu a c xs w ha)
    clear hR hE
    generalize chk xs=q at *
    go_enter func83,ntmps83
    go_wp2_with fail
    refine HC.out.mono ?_
    rintro e w1 ⟨rfl,b1⟩
    go_wp2_with fail
    go_ret2
    exact ⟨rfl,b1⟩
end
section
theorem LY (k n:Nat) (h:n<256 ^ k):BL (le k n)=n:=by
  induction k generalizing n with
  | zero=>simp [le,BL] at *;omega
  | succ k ih=>
    have h2:n / 256<256 ^ k:=by
      rw [Nat.div_lt_iff_lt_mul ω];rwa [Nat.pow_succ] at h
    simp [le,BL,ih _ h2]
    omega
theorem Om {n m:Int}:btw n m=true↔0≤n∧n≤m:=by simp [btw]
theorem XI {n:Int} (h:btw n 1152921504606846976=true):BQ EK [(n,8)]=EK++le 8 n.toNat:=by
  have h':=(Om.1 h).1
  simp [BQ,Ar,Bp,h']
theorem Sc {n:Int} (h:btw n 1152921504606846976=true):AC (Bz n) 8 8=some n.toNat:=by
  have hl:=Gs h
  have h':=Om.1 h
  have hs:((Bz n).drop (8:Int).toNat).take (8:Int).toNat=le 8 n.toNat:=by
    unfold Bz;rw [if_pos h,XI h]
    simp [DW,Fx,EK,Ay,List.take_append]
  unfold AC
  rw [if_pos ⟨rfl,ω,ω⟩,hs,LY 8 n.toNat ω,if_pos ω]
end
section
end
section
open Go.RowKit Go.ChangeShapes Go.WideShapes Go.Joins
end
section
end
section
end
section
theorem EW {fn:Func} {c u:Tmp} (h:fn.results=#[.cell c 48,.tmp u]) {tmps:Array Value} {w:World} {g:Nat} {L:List Value} (hc:tmps.getD c undef=π g) (hb:Blk w g 48 L) (hl:L.length=6) :
    (results fn tmps).run prog w=.ok (.tuple #[.agg L.toArray,tmps.getD u undef]) w:=by
  have hv:=run_loadVar_row (P:=prog) w g 48 48 L.toArray (0,0) _ hb υ48 rfl (by
    have:(prog.info? 48).map (·.size)=some 6:=κ
    rw [this];simp [hl])
  have hc':tmps[c]?.getD undef=π g:=by simpa using hc
  simp [results,h,hc',asAddr,hv]
def gN (xs:Λ) (at_ k:Nat):Nat:=(AC xs at_ k).getD 0
def rsM (xs:Λ):Bool:=Kc (gN xs 0 4) (gN xs 4 4) (gN xs 8 8) (gN xs 16 1) (gN xs 17 1) (gN xs 18 8)
def rsL (xs:Λ):Λ:=GK (gN xs 0 4) (gN xs 4 4) (gN xs 8 8) (gN xs 16 1) (gN xs 17 1) (gN xs 18 8)
def Gx (xs:Λ):Bool:=rsM xs&&decide (xs.take 64=rsL xs)
def Ro:Value:=NW 0 0 0 0 0 0
def rsS (xs:Λ):Value:=NW (gN xs 0 4) (gN xs 4 4) (gN xs 8 8) (gN xs 16 1) (gN xs 17 1) (gN xs 18 8)
def rsV (xs:Λ):Value:=if chk xs=0 then (if Gx xs then rsS xs else Ro) else Ro
def rsE (xs:Λ):Int:=if chk xs=0 then (if Gx xs then 0 else 2) else chk xs
theorem Pg {e h r er i wr:Int} (hm:Kc e h r er i wr=true):(GK e h r er i wr).length=64:=by
  unfold GK;rw [if_pos hm]
  have:=Dr [] (ED e h r er i wr)
  exact EX (by simp [ED] at this ⊢;omega)
theorem Abr {w:World} {g:Nat} {L:List Value} (h:Blk w g 48 L) (hl:L.length=6) (v0 v1 v2 v3 v4 v5:Value) :
    Blk ((((((w.setCell ⟨g,0,none⟩ v0).setCell ⟨g,1,none⟩ v1).setCell ⟨g,2,none⟩ v2).setCell ⟨g,3,none⟩ v3).setCell ⟨g,4,none⟩ v4).setCell ⟨g,5,none⟩ v5) g 48 [v0,v1,v2,v3,v4,v5]:=by
  match L,hl with
  | [a,b,c,d,e,f],_=>exact (((((h.set 0 v0).set 1 v1).set 2 v2).set 3 v3).set 4 v4).set 5 v5
theorem ZB {w0 w:World} {B g:Nat} (h:Below B w0 w) (hg:B≤g) (v0 v1 v2 v3 v4 v5:Value) :
    Below B w0 ((((((w.setCell ⟨g,0,none⟩ v0).setCell ⟨g,1,none⟩ v1).setCell ⟨g,2,none⟩ v2).setCell ⟨g,3,none⟩ v3).setCell ⟨g,4,none⟩ v4).setCell ⟨g,5,none⟩ v5):=
  (((((h.setCell hg v0).setCell hg v1).setCell hg v2).setCell hg v3).setCell hg v4).setCell hg v5
theorem Blk.grown {w w':World} {g k:Nat} {e:TypeId} {L:List Value} (h:Blk w g e L) (G:w.grownBy w' (some k)) (hne:g≠k):Blk w' g e L:=(G.block g h.lt (by simpa using hne)).trans h
theorem Blk.setOther {w:World} {g k:Nat} {e:TypeId} {L:List Value} (h:Blk w g e L) (hne:g≠k) (i:Nat) (v:Value):Blk (w.setCell ⟨k,i,none⟩ v) g e L:=h.grown (CO (Fi w (some k)) i v) hne
structure RdInv (w0:World) (a:Ω) (c:Nat) (xs:Λ) (Bb Ba P:Nat) (w:World):Prop where
  b:Blk w Bb 22 [.slice a xs.length c]
  p:Blk w Ba 3 [ν (P:Nat)]
  z:Blk w w0.heap.size 48 [ν 0,ν 0,ν 0,ν 0,ν 0,ν 0]
  bel:Below w0.heap.size w0 w
  ne:Bb≠Ba
  lt:w0.heap.size<Ba
theorem RdInv.alloc {w0:World} {a:Ω} {c:Nat} {xs:Λ} {Bb Ba P:Nat} {w:World} (h:RdInv w0 a c xs Bb Ba P w) (o:Obj):RdInv w0 a c xs Bb Ba P (w.alloc o):=by
  have k:=(Below.refl w.heap.size w).alloc (Nat.le_refl _) o
  exact ⟨h.b.mono k,h.p.mono k,h.z.mono k,h.bel.alloc h.bel.size o,h.ne,h.lt⟩
theorem RdInv.set {w0:World} {a:Ω} {c:Nat} {xs:Λ} {Bb Ba P:Nat} {w:World} (h:RdInv w0 a c xs Bb Ba P w) {S:Nat} (h1:Bb<S) (h2:Ba<S) (i:Nat) (v:Value):RdInv w0 a c xs Bb Ba P (w.setCell ⟨S,i,none⟩ v):=by
  have:=h.lt
  exact ⟨h.b.setOther ω i v,h.p.setOther ω i v,h.z.setOther ω i v,h.bel.setCell (ω:w0.heap.size≤S) _,h.ne,h.lt⟩
theorem Gd (w0:World) (a:Ω) (c:Nat) (xs:Λ) (P k Bb Ba:Nat) (w:World) (ha:RowB w0 a c xs) (h:RdInv w0 a c xs Bb Ba P w) (hs:P≤1000∧k≤1000) :
    Calls prog 104 #[ν k,π Bb,π Ba] w fun e w'=>e=.returned (ν (gN xs P k:Nat))∧RdInv w0 a c xs Bb Ba (P+k) w'∧w.grownBy w' (some Ba):=by
  refine (Qj a c xs P k Bb Ba w (ha.mono h.bel) h.b h.p hs).mono ?_
  rintro e w' ⟨rfl,rfl⟩
  have hl:=h.lt
  refine ⟨rfl,⟨h.b.setOther h.ne _ _,Blk.set h.p 0 _,h.z.setOther ω _ _,h.bel.setCell (Nat.le_of_lt hl) _,h.ne,hl⟩,CO (Fi w _) _ _⟩
theorem VU (a:Ω) (c:Nat) (xs:Λ) (w:World) (ha:RowB w a c xs) :
    Calls prog 35 #[.slice a xs.length c] w fun e w'=>e=.returned (.tuple #[rsV xs,ν (rsE xs)])∧Below w.heap.size w w':=by
  by_cases hc:chk xs=0
  · have h64:=TF hc
    have hV:rsV xs=if Gx xs then rsS xs else Ro:=by unfold rsV;rw [if_pos hc]
    have hE:rsE xs=if Gx xs then 0 else 2:=by unfold rsE;rw [if_pos hc]
    have hck:=fun w1 (r1:RowB w1 a c xs)=>Hu a c xs w1 r1
    rw [hc] at hck
    have HC:=hid hck
    have hl:=Ce ha
    clear hck hc
    have go:∀ (G:Bool),Gx xs=G→Calls prog 35 #[.slice a xs.length c] w fun e w'=>e=.returned (.tuple #[if G then rsS xs else Ro,ν (if G then 0 else 2)])∧Below w.heap.size w w':=by
      intro G hG0
      have HG:=hid hG0
      clear hG0 hV hE
      go_enter func35,ntmps35
      go_wp2_with fail
      have r0:RowB (w.alloc (.cells #[ν 0,ν 0,ν 0,ν 0,ν 0,ν 0] 48)) a c xs:=Row.alloc ha _
      refine (HC.out _ r0).mono ?_
      rintro e w1 ⟨rfl,b1⟩
      have H0:Blk (w.alloc (.cells #[ν 0,ν 0,ν 0,ν 0,ν 0,ν 0] 48)) w.heap.size 48 [ν 0,ν 0,ν 0,ν 0,ν 0,ν 0]:=heap_alloc_new w _
      have Z1:=Blk.mono H0 b1
      have B1:=Av ((Below.refl _ w).alloc (Nat.le_refl _) _) b1 (by simp)
      have hB1:w.heap.size+1≤w1.heap.size:=Nat.le_trans (by simp) b1.size
      clear H0 b1 r0
      go_wp2_with fail
      refine (Mr a c xs.length 0 w1).mono ?_
      rintro e w2 ⟨rfl,hw2⟩
      have hb2:Blk w2 w1.heap.size 22 [.slice a xs.length c]:=by
        rw [hw2];exact Blk.mono (w:=w1.alloc (.cells #[.slice a xs.length c] 22)) (heap_alloc_new w1 _) ((Below.refl _ _).alloc (Nat.le_refl _) _)
      have hp2:Blk w2 (w1.heap.size+1) 3 [ν ((0:Nat):Int)]:=by
        have:=heap_alloc_new (w1.alloc (.cells #[.slice a xs.length c] 22)) (.cells #[ν 0] 3)
        rw [show (w1.alloc (.cells #[.slice a xs.length c] 22)).heap.size=w1.heap.size+1 from by simp] at this
        rw [hw2];exact this
      have b12:Below w1.heap.size w1 w2:=by
        rw [hw2];exact ((Below.refl w1.heap.size w1).alloc (Nat.le_refl _) (.cells #[.slice a xs.length c] 22)).alloc (by simp) (.cells #[ν 0] 3)
      have I2:RdInv w a c xs w1.heap.size (w1.heap.size+1) 0 w2:=⟨hb2,hp2,Blk.mono Z1 b12,Av B1 b12 B1.size,ω,ω⟩
      clear Z1 B1 b12 hw2 hb2 hp2
      generalize w1.heap.size=Bb at *
      generalize Bb+1=Ba at *
      go_wp2_with (go_at_call 104;refine (Gd w a c xs 0 4 Bb Ba w2 ha I2 ω).mono ?_;rintro e w3 ⟨rfl,I3,_⟩;clear I2)
      go_wp2_with (go_at_call 104;refine (Gd w a c xs 4 4 Bb Ba w3 ha I3 ω).mono ?_;rintro e w4 ⟨rfl,I4,_⟩;clear I3)
      go_wp2_with (go_at_call 104;refine (Gd w a c xs 8 8 Bb Ba w4 ha I4 ω).mono ?_;rintro e w5 ⟨rfl,I5,_⟩;clear I4)
      have hs5:=I5.b.lt
      have ht5:=I5.p.lt
      have S6:Blk (w5.alloc (.cells #[ν (gN xs 0 4:Nat),ν (gN xs 4 4:Nat),ν (gN xs 8 8:Nat),ν 0,ν 0,ν 0] 48)) w5.heap.size 48 [ν (gN xs 0 4:Nat),ν (gN xs 4 4:Nat),ν (gN xs 8 8:Nat),ν 0,ν 0,ν 0]:=heap_alloc_new w5 _
      have I6:=I5.alloc (.cells #[ν (gN xs 0 4:Nat),ν (gN xs 4 4:Nat),ν (gN xs 8 8:Nat),ν 0,ν 0,ν 0] 48)
      clear I5
      generalize w5.alloc _=w6 at *
      generalize w5.heap.size=S at *
      have hne:S≠Ba:=ω
      go_wp2_with (go_at_call 104;refine (Gd w a c xs 16 1 Bb Ba w6 ha I6 ω).mono ?_;rintro e w7 ⟨rfl,I7,G7⟩;have _S7:=Blk.grown S6 G7 hne;clear I6 S6 G7)
      go_wp2_with (go_at_call 104;refine (Gd w a c xs 17 1 Bb Ba w7 ha I7 ω).mono ?_;rintro e w8 ⟨rfl,I8,G8⟩;have _S8:=Blk.grown _S7 G8 hne;have _k3:w8.cell? ⟨S,3,none⟩=some (ν 0):=Blk.cell _S8 (i:=3) (by simp);have _k4:w8.cell? ⟨S,4,none⟩=some (ν 0):=Blk.cell _S8 (i:=4) (by simp);have _f3:=Blk.frozen _S8 3;have _f4:=Blk.frozen _S8 4;clear I7 _S7 G8)
      have S9:Blk ((w8.setCell ⟨S,3,none⟩ (ν (gN xs 16 1:Nat))).setCell ⟨S,4,none⟩ (ν (gN xs 17 1:Nat))) S 48 [ν (gN xs 0 4:Nat),ν (gN xs 4 4:Nat),ν (gN xs 8 8:Nat),ν (gN xs 16 1:Nat),ν (gN xs 17 1:Nat),ν 0]:=(_S8.set 3 _).set 4 _
      have I9:=(I8.set hs5 ht5 3 (ν (gN xs 16 1:Nat))).set hs5 ht5 4 (ν (gN xs 17 1:Nat))
      clear _k3 _k4 _f3 _f4 I8 _S8
      generalize World.setCell _ _ _=w9 at *
      refine (Gd w a c xs 18 8 Bb Ba w9 ha I9 ω).mono ?_
      rintro e w10 ⟨rfl,I10,G10⟩
      have S10:=Blk.grown S9 G10 hne
      clear I9 S9 G10
      have sk0:w10.cell? ⟨S,0,none⟩=some (ν (gN xs 0 4:Nat)):=Blk.cell S10 (i:=0) (by simp)
      have sk1:w10.cell? ⟨S,1,none⟩=some (ν (gN xs 4 4:Nat)):=Blk.cell S10 (i:=1) (by simp)
      have sk2:w10.cell? ⟨S,2,none⟩=some (ν (gN xs 8 8:Nat)):=Blk.cell S10 (i:=2) (by simp)
      have sk3:w10.cell? ⟨S,3,none⟩=some (ν (gN xs 16 1:Nat)):=Blk.cell S10 (i:=3) (by simp)
      have sk4:w10.cell? ⟨S,4,none⟩=some (ν (gN xs 17 1:Nat)):=Blk.cell S10 (i:=4) (by simp)
      have sk5:w10.cell? ⟨S,5,none⟩=some (ν 0):=Blk.cell S10 (i:=5) (by simp)
      have f5:=Blk.frozen S10 5
      have S11:Blk (w10.setCell ⟨S,5,none⟩ (ν (gN xs 18 8:Nat))) S 48 [ν (gN xs 0 4:Nat),ν (gN xs 4 4:Nat),ν (gN xs 8 8:Nat),ν (gN xs 16 1:Nat),ν (gN xs 17 1:Nat),ν (gN xs 18 8:Nat)]:=S10.set 5 _
      have I11:=I10.set hs5 ht5 5 (ν (gN xs 18 8:Nat))
      have HS11:=hid S11;have HI11:=hid I11
      clear S10 I10 S11 I11
      go_wp2_with fail
      clear sk0 sk1 sk2 sk3 sk4 sk5 f5
      generalize World.setCell _ _ _=w11 at *
      have hp:Calls prog 52 #[.agg #[ν (gN xs 0 4:Nat),ν (gN xs 4 4:Nat),ν (gN xs 8 8:Nat),ν (gN xs 16 1:Nat),ν (gN xs 17 1:Nat),ν (gN xs 18 8:Nat)]] w11 fun en w'=>∃ a c,en=.returned (.tuple #[.slice a (rsL xs).length c,ν (if rsM xs then 0 else 1)])∧CF w' w11.heap.size a c (rsL xs)∧Below w11.heap.size w11 w':=Mo _ _ _ _ _ _ w11
      have HP:=hid hp;clear hp
      cases hM:rsM xs with
      | false=>
        have hG:G=false:=by rw [← HG.out];unfold Gx;rw [hM];rfl
        subst hG
        rw [hM] at HP
        clear hM
        refine HP.out.mono ?_
        rintro e w12 ⟨a12,c12,rfl,o12,b12⟩
        have Z12:=Blk.mono HI11.out.z b12
        have B12:=Av HI11.out.bel b12 HI11.out.bel.size
        have zk0:w12.cell? ⟨w.heap.size,0,none⟩=some (ν 0):=Blk.cell Z12 (i:=0) (by simp)
        have zk1:w12.cell? ⟨w.heap.size,1,none⟩=some (ν 0):=Blk.cell Z12 (i:=1) (by simp)
        have zk2:w12.cell? ⟨w.heap.size,2,none⟩=some (ν 0):=Blk.cell Z12 (i:=2) (by simp)
        have zk3:w12.cell? ⟨w.heap.size,3,none⟩=some (ν 0):=Blk.cell Z12 (i:=3) (by simp)
        have zk4:w12.cell? ⟨w.heap.size,4,none⟩=some (ν 0):=Blk.cell Z12 (i:=4) (by simp)
        have zk5:w12.cell? ⟨w.heap.size,5,none⟩=some (ν 0):=Blk.cell Z12 (i:=5) (by simp)
        have zf0:w12.frozen? ⟨w.heap.size,0,none⟩=false:=Blk.frozen Z12 0
        have zf1:w12.frozen? ⟨w.heap.size,1,none⟩=false:=Blk.frozen Z12 1
        have zf2:w12.frozen? ⟨w.heap.size,2,none⟩=false:=Blk.frozen Z12 2
        have zf3:w12.frozen? ⟨w.heap.size,3,none⟩=false:=Blk.frozen Z12 3
        have zf4:w12.frozen? ⟨w.heap.size,4,none⟩=false:=Blk.frozen Z12 4
        have zf5:w12.frozen? ⟨w.heap.size,5,none⟩=false:=Blk.frozen Z12 5
        have HZ:=hid Z12;have HB:=hid B12
        clear Z12 B12
        go_wp2_with fail
        refine bodyPost_ret (EW rfl rfl (Abr HZ.out rfl _ _ _ _ _ _) rfl) rfl ⟨rfl,ZB HB.out (Nat.le_refl _) _ _ _ _ _ _⟩
      | true=>
        have hq:(rsL xs).length=64:=Pg hM
        have hgd:Gx xs=decide (xs.take 64=rsL xs):=by unfold Gx;rw [hM];rfl
        rw [hM] at HP
        have hpf:=fun (a2:Ω) (c2:Nat) (w4:World) (h1:RowB w4 a c xs) (h2:RowB w4 a2 c2 (rsL xs))=>Iq a a2 c c2 xs (rsL xs) w4 h1 h2
        rw [hq] at HP
        simp only [hq,decide_eq_true h64] at hpf
        simp only [Bool.true_and] at hpf
        rw [← hgd,HG.out] at hpf
        have HPF:=hid hpf
        clear hM hgd hpf hq
        refine HP.out.mono ?_
        rintro e w12 ⟨a12,c12,rfl,o12,b12⟩
        have Z12:=Blk.mono HI11.out.z b12
        have S12:=Blk.mono HS11.out b12
        have B12:=Av HI11.out.bel b12 HI11.out.bel.size
        have r12:=ha.mono B12
        have o12':=o12.row
        have zk0:w12.cell? ⟨w.heap.size,0,none⟩=some (ν 0):=Blk.cell Z12 (i:=0) (by simp)
        have zk1:w12.cell? ⟨w.heap.size,1,none⟩=some (ν 0):=Blk.cell Z12 (i:=1) (by simp)
        have zk2:w12.cell? ⟨w.heap.size,2,none⟩=some (ν 0):=Blk.cell Z12 (i:=2) (by simp)
        have zk3:w12.cell? ⟨w.heap.size,3,none⟩=some (ν 0):=Blk.cell Z12 (i:=3) (by simp)
        have zk4:w12.cell? ⟨w.heap.size,4,none⟩=some (ν 0):=Blk.cell Z12 (i:=4) (by simp)
        have zk5:w12.cell? ⟨w.heap.size,5,none⟩=some (ν 0):=Blk.cell Z12 (i:=5) (by simp)
        have zf0:w12.frozen? ⟨w.heap.size,0,none⟩=false:=Blk.frozen Z12 0
        have zf1:w12.frozen? ⟨w.heap.size,1,none⟩=false:=Blk.frozen Z12 1
        have zf2:w12.frozen? ⟨w.heap.size,2,none⟩=false:=Blk.frozen Z12 2
        have zf3:w12.frozen? ⟨w.heap.size,3,none⟩=false:=Blk.frozen Z12 3
        have zf4:w12.frozen? ⟨w.heap.size,4,none⟩=false:=Blk.frozen Z12 4
        have zf5:w12.frozen? ⟨w.heap.size,5,none⟩=false:=Blk.frozen Z12 5
        have sk0:w12.cell? ⟨S,0,none⟩=some (ν (gN xs 0 4:Nat)):=Blk.cell S12 (i:=0) (by simp)
        have sk1:w12.cell? ⟨S,1,none⟩=some (ν (gN xs 4 4:Nat)):=Blk.cell S12 (i:=1) (by simp)
        have sk2:w12.cell? ⟨S,2,none⟩=some (ν (gN xs 8 8:Nat)):=Blk.cell S12 (i:=2) (by simp)
        have sk3:w12.cell? ⟨S,3,none⟩=some (ν (gN xs 16 1:Nat)):=Blk.cell S12 (i:=3) (by simp)
        have sk4:w12.cell? ⟨S,4,none⟩=some (ν (gN xs 17 1:Nat)):=Blk.cell S12 (i:=4) (by simp)
        have sk5:w12.cell? ⟨S,5,none⟩=some (ν (gN xs 18 8:Nat)):=Blk.cell S12 (i:=5) (by simp)
        have HZ:=hid Z12;have HB:=hid B12
        clear Z12 B12 S12 o12 b12
        go_wp2_with fail
        refine (HPF.out a12 c12 w12 r12 o12').mono ?_
        rintro e w13 ⟨rfl,rfl⟩
        cases G with
        | false=>
          go_wp2_with fail
          refine bodyPost_ret (EW rfl rfl (Abr HZ.out rfl _ _ _ _ _ _) rfl) rfl ⟨rfl,ZB HB.out (Nat.le_refl _) _ _ _ _ _ _⟩
        | true=>
          go_wp2_with fail
          refine bodyPost_ret (EW rfl rfl (Abr HZ.out rfl _ _ _ _ _ _) rfl) rfl ⟨rfl,ZB HB.out (Nat.le_refl _) _ _ _ _ _ _⟩
    rw [hV,hE];exact go _ rfl
  · have hV:rsV xs=Ro:=by unfold rsV;rw [if_neg hc]
    have hE:rsE xs=chk xs:=by unfold rsE;rw [if_neg hc]
    rw [hV,hE]
    have HC:=hid (fun w1 (r1:RowB w1 a c xs)=>Hu a c xs w1 r1)
    clear hV hE
    generalize chk xs=q at *
    go_enter func35,ntmps35
    go_wp2_with fail
    refine (HC.out _ (Row.alloc ha _)).mono ?_
    rintro e w1 ⟨rfl,b1⟩
    have H0:Blk (w.alloc (.cells #[ν 0,ν 0,ν 0,ν 0,ν 0,ν 0] 48)) w.heap.size 48 [ν 0,ν 0,ν 0,ν 0,ν 0,ν 0]:=heap_alloc_new w _
    have H1:=Blk.mono H0 b1
    have B1:=Av ((Below.refl _ w).alloc (Nat.le_refl _) _) b1 (by simp)
    have k0:=Blk.cell H1 (i:=0) (by simp)
    have k1:=Blk.cell H1 (i:=1) (by simp)
    have k2:=Blk.cell H1 (i:=2) (by simp)
    have k3:=Blk.cell H1 (i:=3) (by simp)
    have k4:=Blk.cell H1 (i:=4) (by simp)
    have k5:=Blk.cell H1 (i:=5) (by simp)
    simp only [List.getElem_cons_zero,List.getElem_cons_succ] at k0 k1 k2 k3 k4 k5
    have f0:=Blk.frozen H1 0
    have f1:=Blk.frozen H1 1
    have f2:=Blk.frozen H1 2
    have f3:=Blk.frozen H1 3
    have f4:=Blk.frozen H1 4
    have f5:=Blk.frozen H1 5
    have H1':=hid H1;have B1':=hid B1
    clear H0 H1 B1 b1
    go_wp2_with fail
    refine bodyPost_ret (EW rfl rfl (Abr H1'.out rfl _ _ _ _ _ _) rfl) rfl ⟨rfl,ZB B1'.out (Nat.le_refl _) _ _ _ _ _ _⟩
end
section
def sl (xs:Λ) (a k:Nat):Λ:=(xs.drop a).take k
theorem Aab {xs:Λ} {a k:Nat} (h:a+k≤xs.length) (hk:EM k=true) (hv:BL (sl xs a k)≤9223372036854775807):AC xs a k=some (BL (sl xs a k)):=by
  unfold AC
  rw [if_pos ⟨hk,ω,ω⟩]
  simp only [Int.toNat_natCast]
  exact if_pos hv
def Agk (e h r er i wr:Nat):Λ:=le 4 e++le 4 h++le 8 r++le 1 er++le 1 i++le 8 wr
end
section
structure RfInv (w0:World) (S:Nat) (L:List Value) (w:World):Prop where
  z:Blk w w0.heap.size 48 [ν 0,ν 0,ν 0,ν 0,ν 0,ν 0]
  s:Blk w S 48 L
  bel:Below w0.heap.size w0 w
  lt:w0.heap.size<S
theorem RfInv.set {w0:World} {S:Nat} {L:List Value} {w:World} (h:RfInv w0 S L w) (i:Nat) (v:Value):RfInv w0 S (L.set i v) (w.setCell ⟨S,i,none⟩ v):=by
  have:=h.lt
  exact ⟨h.z.setOther ω i v,h.s.set i v,h.bel.setCell (ω:w0.heap.size≤S) _,h.lt⟩
end
section
end
section
theorem Ta {l:Λ} (h:l.length≤60):(DW l).take 60=Fx l:=by
  unfold DW;rw [List.take_append_of_le_length (by rw [CH h];omega),List.take_of_length_le (by rw [CH h];omega)]
theorem Vi {l:Λ} (h:l.length≤60):AC (DW l) 60 4=some (Cb (Fx l)):=by
  have hs:sl (DW l) 60 4=le 4 (Cb (Fx l)):=by
    unfold DW sl
    rw [List.drop_append_of_le_length (by rw [CH h];omega),List.drop_eq_nil_of_le (by rw [CH h];omega)]
    simp [Ay,List.take_of_length_le]
  have hc:=DM (Fx l)
  have:=Aab (xs:=DW l) (a:=60) (k:=4) (by rw [EX h];omega) rfl (by rw [hs,LY 4 _ ω];omega)
  rw [hs,LY 4 _ ω] at this
  exact this
theorem WS {l:Λ} (h:l.length≤60):chk (DW l)=0:=by
  unfold chk
  rw [if_pos (by rw [EX h];omega),Vi h,Ta h,if_pos rfl]
theorem QW (e h r er i wr:Int):(BQ [] (ED e h r er i wr)).length≤60:=by
  have:=Dr [] (ED e h r er i wr)
  simp [ED] at this ⊢;omega
theorem VV {n:Int} (hb:btw n 1152921504606846976=true):rhN (Bz n)=n∧rhE (Bz n)=0:=by
  have hn:=Om.1 hb
  have hl:=Gs hb
  have hc:chk (Bz n)=0:=by
    unfold Bz;rw [if_pos hb];exact WS (by have:=EJ hb;omega)
  have hN:nH (Bz n)=n.toNat:=by unfold nH;rw [Sc hb];rfl
  have hi:((n.toNat:Nat):Int)=n:=Int.toNat_of_nonneg hn.1
  have hg:FN (Bz n)=true:=by
    unfold FN
    rw [hN,hi,hb,List.take_of_length_le ω]
    simp
  unfold rhN rhE
  rw [if_pos hc,if_pos hc,hg,if_pos rfl,if_pos rfl,hN,hi]
  exact ⟨rfl,rfl⟩
end
end Go.Proofs.YtpnknncmacjdkaaGreatDoor
