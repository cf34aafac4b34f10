/- Parts of the proof. -/
import Derived.Test.YthiplgahhejmcaaGreatDoorQak
namespace Go.Proofs.YthiplgahhejmcaaGreatDoor
open Go.RowKit
open _root_.Go.Proofs.Tryz
set_option linter.unusedSimpArgs false
set_option linter.unusedVariables false
set_option linter.unusedSectionVars false
set_option maxRecDepth 100000
set_option maxHeartbeats 8000000
section
theorem PP {X:Λ} (h:(FD X).isSome=true):(BX X).isSome=true:=by obtain ⟨A,x,e⟩:=IP h;rw [e];rfl
theorem XD {X:Λ} {L:List ByteArray} (h:BX X=some L) (h2:(FD X).isSome=true):0<L.length:=by
 obtain ⟨A,x,e⟩:=IP h2
 rw [h] at e;cases e;rw [List.length_append];show 0<_+1;omega
theorem Tk {w:World} {R:List Ch} {mx:Nat} {K:VolK} {ta:Ω} {tc:Nat} {M:MemM} {P:List PtM} {X:Λ} {a b:Int}  (hS0:Sep w ([Ab mx 99 [π K.tg],txP K ta tc M P]++R)) (hM:M.V.length=23168) (hX:X.length≤1000) (h:AO M P X=(a,b)):CallsR prog 53 #[π mx,σ X] w (fun v w'=>v=.tuple #[ν a,ν b]∧Sep w' ([Ab mx 99 [π K.tg],txP K ta tc M P]++R)):=
 Calls.mono (Wp hS0 hM hX) fun e w' z=>by rw [h] at z;exact z
theorem TP {w:World} {R:List Ch} {mx:Nat} {K:VolK} {ta:Ω} {tc:Nat} {M:MemM} {P:List PtM} {X:Λ} {a b:Int} {x:InoT}  (hS0:Sep w ([Ab mx 99 [π K.tg],txP K ta tc M P]++R)) (hM:M.V.length=23168) (hX:X.length≤1000) (h:ER M P X=(a,x,b)):CallsR prog 70 #[π mx,σ X] w (fun v w'=>v=.tuple #[ν a,.agg (Ah x).toArray,ν b]∧Sep w' ([Ab mx 99 [π K.tg],txP K ta tc M P]++R)):=
 Calls.mono (Ya hS0 hM hX) fun e w' z=>by rw [h] at z;exact z
theorem Mt {w:World} {R:List Ch} {mx:Nat} {K:VolK} {ta:Ω} {tc:Nat} {M:MemM} {P:List PtM} {X:Λ} {a b:Int} {x:ByteArray}  (hS0:Sep w ([Ab mx 99 [π K.tg],txP K ta tc M P]++R)) (hM:M.V.length=23168) (hX:X.length≤1000) (h:En M P X=(a,x,b)):CallsR prog 67 #[π mx,σ X] w (fun v w'=>v=.tuple #[ν a,.string x,ν b]∧Sep w' ([Ab mx 99 [π K.tg],txP K ta tc M P]++R)):=
 Calls.mono (Aaw hS0 hM hX) fun e w' z=>by rw [h] at z;exact z
theorem AY {w:World} {R:List Ch} {mx:Nat} {K:VolK} {ta:Ω} {tc:Nat} {M:MemM} {P:List PtM} {i:Int} {x:InoT} {b:Int}  (hS0:Sep w ([Ab mx 99 [π K.tg],txP K ta tc M P]++R)) (hM:M.V.length=23168) (h:Al M P i=x∧AX M P i=b):CallsR prog 8 #[π mx,ν i] w (fun v w'=>v=.tuple #[.agg (Ah x).toArray,ν b]∧Sep w' ([Ab mx 99 [π K.tg],txP K ta tc M P]++R)):=
 Calls.mono (FC hS0 hM) fun e w' z=>by rw [h.1,h.2] at z;exact z
theorem Ot {w:World} {R:List Ch} {mx:Nat} {K:VolK} {ta:Ω} {tc:Nat} {M:MemM} {P:List PtM} {i:Int} {x:InoT} {t:List EntT} {b:Int}  (hS0:Sep w ([Ab mx 99 [π K.tg],txP K ta tc M P]++R)) (hM:M.V.length=23168) (h:Bz M P i=x∧He M P i=t∧Pu M P i=b):CallsR prog 126 #[π mx,ν i] w (fun v w'=>v=.tuple #[.agg (Ah x).toArray,.agg (Aq t).toArray,ν b]∧Sep w' ([Ab mx 99 [π K.tg],txP K ta tc M P]++R)):=
 Calls.mono (KB hS0 hM) fun e w' z=>by rw [h.1,h.2.1,h.2.2] at z;exact z
theorem Abi {w:World} {R:List Ch} (hS:Sep w R) {t:List EntT} (ht:t.length=16) {k:Int} (hu:Gs t k=false):CallsR prog 156 #[.agg (Aq t).toArray,ν k] w (fun v w'=>v=.bool false∧Sep w' R):=
 Calls.mono (Og t ht k w) fun e w' z=>⟨_,z.1,by rw [hu],hS.mono z.2⟩
theorem ZL {w:World} {R:List Ch} (hS:Sep w R) {t:List EntT} {s:ByteArray} {j:Nat} (ht:t.length=16) (hs:s.size≤1000) (hf:AW t s=(j:Int)):CallsR prog 117 #[.agg (Aq t).toArray,.string s] w (fun v w'=>v=ν (j:Int)∧Sep w' R):=
 Calls.mono (Ii t s ht hs w) fun e w' z=>⟨_,z.1,by rw [hf],hS.mono z.2⟩
def Hd (x:InoT):InoT:={ x with s:=x.s-1 }
def KW (x:InoT):InoT:={ x with l:=x.l-1 }
def YA (M:MemM) (P:List PtM) (p:Int) (x:InoT) (j:Nat):Int:=AH [stE M P 3 0 16,Bj M (stP M P 3 0 (CU (As M P) (x.blk (j / 4)))) p (x.setB (j / 4) 0)]
def SA (M:MemM) (P:List PtM) (p:Int) (x:InoT) (j:Nat):List PtM:=Br M (stP M P 3 0 (CU (As M P) (x.blk (j / 4)))) p (x.setB (j / 4) 0)
def GS (x:InoT):Bool:=decide (x.k=1)&&(decide (x.l=0)&&decide (NO x=0))
def Sk (x:InoT):Prop:=(0≤x.b0∧x.b0≤1000)∧(0≤x.b1∧x.b1≤1000)∧(0≤x.b2∧x.b2≤1000)∧(0≤x.b3∧x.b3≤1000)
def woX (xs:Λ) (x:InoT):Nat→Λ
 | 0=>xs
 | k+1=>CU (woX xs x k) (x.blk k)
theorem Cp (xs:Λ) (x:InoT):∀ k,(woX xs x k).length=xs.length
 | 0=>rfl
 | k+1=>by unfold woX;rw [AA,Cp]
theorem Abl {x:InoT} (h:Sk x) {k:Nat} (hk:k<4):-9223372036854775808≤x.blk k∧x.blk k≤9223372036854775807:=by
 obtain ⟨h0,h1,h2,h3⟩:=h
 rcases (ω:k=0∨k=1∨k=2∨k=3) with rfl | rfl | rfl | rfl
 ·show -9223372036854775808≤x.b0∧x.b0≤_;omega
 ·show -9223372036854775808≤x.b1∧x.b1≤_;omega
 ·show -9223372036854775808≤x.b2∧x.b2≤_;omega
 ·show -9223372036854775808≤x.b3∧x.b3≤_;omega
def LQ (M:MemM) (P:List PtM) (i:Int):Int:=AH [Bj M P i AT,stE M (Br M P i AT) 3 0 16]
def PE (M:MemM) (P:List PtM) (i:Int) (x:InoT):List PtM:=stP M (Br M P i AT) 3 0 (woX (As M (Br M P i AT)) x 4)
theorem NJ {w:World} {R:List Ch} {X:Λ} (hS0:Sep w ([]++R)) (hX:X.length≤1000) (hr:(FD X).isSome=true) :
  CallsR prog 66 #[σ X] w (fun v w'=>v=.bool false∧Sep w' ([]++R)):=by
 have hS:Sep w [Ch.many R]:=Sep.tail_many (xs:=[]) hS0;clear hS0
 have hps:=PP hr
 refine AQ func66 rfl (N:=17) ntmps66 (by show 1≤17;decide) [(0,σ X)] rfl fun _ h1=>sqr fun _ hK3=>mv h1 rfl fun _ h4=>wpList_nil<|hK3 _ _<|sqr fun _ hK6=>mv h4 rfl fun _ h7=>?_
 obtain ⟨L9,hp1⟩:=Option.isSome_iff_exists.1 hps
 have hp10l:=Mq hp1
 have hp10p:=XD hp1 hr
 refine cl h7 rfl (cF func86) (Mr hS X ω hp1) fun _ v1 w1 r1 h2=>?_
 obtain ⟨pa_x11,pc_x12,rfl,s1⟩:=r1
 refine mvs 5 h2 rfl fun _ h3=>h3.sn [4,3,2,0] rfl fun h5=>hK6 _ _<|sqr fun _ hK1=>mv h5 rfl fun _ h6=>bv h6 (z:=.bool true) rfl (cEq _ _ _ _ rfl) fun _ h8=>mv h8 rfl fun _ h9=>sv h9 (wT h9 (E:=true) rfl rfl rfl) rfl rfl rfl (v:=.slice pa_x11 L9.length pc_x12) (Ad h9 rfl rfl) fun _ h10=>sv h10 (wT h10 (E:=true) rfl rfl rfl) rfl rfl rfl (v:=ν (L9.length:Int)) (MC h10 rfl rfl υ60) fun _ h11=>sv h11 (wT h11 (E:=true) rfl rfl rfl) rfl rfl rfl (v:=.bool false) (Aw h11 rfl rfl rfl (cEq _ _ _ _ (decide_eq_false ω))) fun _ h12=>?_
 refine sv1 h12 rfl (v:=.bool false) (Az h12 rfl rfl rfl) fun _ h13=>h13.sk [16,15,14,13,12,11,10,4,3,0] rfl fun h14=>mv h14 rfl fun _ h15=>h15.sn [2,4,3,0] rfl fun h16=>hK1 _ _<|wp_ret ?_
 try simp only [Exit.then,Exit.inBlock]
 refine Bg (v:=.bool false) (Cl h16 rfl rfl) h16.defs ?_
 exact ⟨congrArg Value.bool rfl,Sep.tail_un (xs:=[]) (s1.pk [1] rfl)⟩
theorem Aah {w:World} {R:List Ch} {mx:Nat} {K:VolK} {ta:Ω} {tc:Nat} {M:MemM} {P:List PtM} {p n E:Int} {X:Λ} {nm:ByteArray} {P2:List PtM} (hS0:Sep w ([Ab mx 99 [π K.tg],txP K ta tc M P]++R)) (hM:M.V.length=23168) (hX:X.length≤1000) (hr:(FD X).isSome=true) (hw:AO M P X=(0,10)) (hpl:En M P X=(p,nm,0)) (hnn:Hq M P=(n,0)) (hadd:∀ {w:World} {R:List Ch} {ta:Ω} {tc:Nat},Sep w ([Ab mx 99 [π K.tg],txP K ta tc M (Br M P n GW)]++R)→CallsR prog 102 #[π mx,ν p,.string nm,ν n,ν 0] w (fun v w'=>∃ ta' tc',v=ν E∧Sep w' ([Ab mx 99 [π K.tg],txP K ta' tc' M P2]++R))) (hE:AH [Bj M P n GW,E]=0) :
  CallsR prog 33 #[π mx,σ X,ν 0] w (fun v w'=>∃ ta' tc',v=ν 0∧Sep w' ([Ab mx 99 [π K.tg],txP K ta' tc' M P2]++R)):=by
 have hS:Sep w [Ab mx 99 [π K.tg],txP K ta tc M P,Ch.many R]:=Sep.tail_many (xs:=[_,_]) hS0;clear hS0
 refine AQ func33 rfl (N:=46) ntmps33 (by show 3≤46;decide) [(0,π mx),(1,σ X),(2,ν 0)] rfl fun _ h1=>sqr fun _ hK3=>mv h1 rfl fun _ h4=>wpList_nil<|hK3 _ _<|sq fun _ hK6=>sqr fun _ hK7=>mv h4 rfl fun _ h8=>cl h8 rfl (cF func66) (NJ hS hX hr) fun _ v1 w1 r1 h2=>?_
 obtain ⟨rfl,s1⟩:=r1
 refine h2.sn [13,6,0,1,2] rfl fun h3=>hK7 _ _<|wcF h3 rfl rfl<|h3.sk [6,0,1,2] rfl fun h5=>wp_skip<|hK6 _ _<|sq fun _ hK1=>sqr fun _ hK2=>mvs 2 h5 rfl fun _ h6=>cl h6 rfl (cF func53) (Tk s1 hM hX hw) fun _ v2 w2 r2 h7=>?_
 obtain ⟨rfl,s2⟩:=r2
 refine mvs 5 h7 rfl fun _ h9=>h9.sn [8,6,0,1,2] rfl fun h10=>hK2 _ _<|sqr fun _ hK4=>mv h10 rfl fun _ h11=>wpList_nil<|hK4 _ _<|wp_block ?_
 refine sqr fun _ hK5=>bv h11 (z:=.bool false) rfl (cEq _ _ _ _ rfl) fun _ h12=>mv h12 rfl fun _ h13=>h13.sn [21,20,8,6,0,1,2] rfl fun h14=>hK5 _ _<|wcF h14 rfl rfl<|h14.sk [20,8,6,0,1,2] rfl fun h15=>sqr fun _ hK8=>bv h15 (z:=.bool false) rfl (cEq _ _ _ _ rfl) fun _ h16=>mv h16 rfl fun _ h17=>?_
 refine h17.sn [23,20,8,6,0,1,2] rfl fun h18=>hK8 _ _<|wcF h18 rfl rfl<|h18.sk [20,8,6,0,1,2] rfl fun h19=>wp_skip<|hK1 _ _<|sqr fun _ hK9=>mvs 2 h19 rfl fun _ h20=>cl h20 rfl (cF func67) (Mt s2 hM hX hpl) fun _ v3 w3 r3 h21=>?_
 obtain ⟨rfl,s3⟩:=r3
 refine mvs 7 h21 rfl fun _ h22=>h22.sn [11,10,9,20,8,6,0,1,2] rfl fun h23=>hK9 _ _<|sq fun _ hK10=>sqr fun _ hK11=>mv h23 rfl fun _ h24=>bv h24 (z:=.bool false) rfl (cNe _ _ _ _ rfl) fun _ h25=>h25.sn [34,11,10,9,20,8,6,0,1,2] rfl fun h26=>hK11 _ _<|wcF h26 rfl rfl<|h26.sk [11,10,9,20,8,6,0,1,2] rfl fun h27=>?_
 refine wp_skip<|hK10 _ _<|sqr fun _ hK12=>mvs 3 h27 rfl fun _ h28=>bu h28 (v:=.agg (Ah (⟨2,1,0,0,0,0,0,0,0,0,0,0,0,0,0⟩:InoT)).toArray) rfl (fun w=>κ) fun _ h29=>mv h29 rfl fun _ h30=>cl h30 rfl (cF func68) (Nx (p:=p) (nm:=nm) (n:=n) (x:=GW) (spare:=0) s3 hM hnn hadd hE) fun _ v4 w4 r4 h31=>?_
 obtain ⟨tax106,tcx107,rfl,s4⟩:=r4
 refine mvs 3 h31 rfl fun _ h32=>h32.sk [44,43,36,42,41,40,39,38,37,10,9,20,8,6,0,1,2] rfl fun h33=>mv h33 rfl fun _ h34=>h34.sn [11,10,9,20,8,6,0,1,2] rfl fun h35=>hK12 _ _<|sqr fun _ hK13=>mv h35 rfl fun _ h36=>h36.sk [45,11,10,9,20,8,0,1,2] rfl fun h37=>mv h37 rfl fun _ h38=>h38.sk [6,11,10,9,20,8,0,1,2] rfl fun h39=>?_
 refine wpList_nil<|hK13 _ _<|wp_ret ?_
 try simp only [Exit.then,Exit.inBlock]
 refine Bg (v:=ν 0) (Cl h39 rfl rfl) h39.defs ?_
 exact ⟨tax106,tcx107,rfl,Sep.tail_un (xs:=[_,_]) s4⟩
theorem Aar {w:World} {R:List Ch} {mx:Nat} {K:VolK} {ta:Ω} {tc:Nat} {M:MemM} {P:List PtM} {p n E:Int} {X:Λ} {nm:ByteArray} {P2:List PtM} (hS0:Sep w ([Ab mx 99 [π K.tg],txP K ta tc M P]++R)) (hM:M.V.length=23168) (hX:X.length≤1000) (hnd:ER M P X=(0,AT,10)) (hpl:En M P X=(p,nm,0)) (hnn:Hq M P=(n,0)) (hadd:∀ {w:World} {R:List Ch} {ta:Ω} {tc:Nat},Sep w ([Ab mx 99 [π K.tg],txP K ta tc M (Br M P n (⟨1,1,0,0,0,0,0,1,0,0,0,0,0,0,0⟩:InoT))]++R)→CallsR prog 102 #[π mx,ν p,.string nm,ν n,ν 0] w (fun v w'=>∃ ta' tc',v=ν E∧Sep w' ([Ab mx 99 [π K.tg],txP K ta' tc' M P2]++R))) (hE:AH [Bj M P n (⟨1,1,0,0,0,0,0,1,0,0,0,0,0,0,0⟩:InoT),E]=0) :
  CallsR prog 34 #[π mx,ν 1,σ X,ν 1,.bool false,ν 0] w (fun v w'=>∃ ta' tc',v=.tuple #[ν n,ν 0]∧Sep w' ([Ab mx 99 [π K.tg],txP K ta' tc' M P2]++R)):=by
 have hS:Sep w [Ab mx 99 [π K.tg],txP K ta tc M P,Ch.many R]:=Sep.tail_many (xs:=[_,_]) hS0;clear hS0
 refine AQ func34 rfl (N:=83) ntmps34 (by show 6≤83;decide) [(0,π mx),(1,ν 1),(2,σ X),(3,ν 1),(4,.bool false),(5,ν 0)] rfl fun _ h1=>sqr fun _ hK3=>mvs 2 h1 rfl fun _ h6=>wpList_nil<|hK3 _ _<|sq fun _ hK8=>sqr fun _ hK9=>mv h6 rfl fun _ h2=>cl h2 rfl (cF func69) (LX hS) fun _ v1 w1 r1 h3=>?_
 obtain ⟨rfl,s1⟩:=r1
 refine mv h3 rfl fun _ h4=>h4.sn [22,13,12,0,1,2,3,4,5] rfl fun h5=>hK9 _ _<|wcF h5 rfl rfl<|h5.sk [13,12,0,1,2,3,4,5] rfl fun h7=>wp_skip<|hK8 _ _<|sq fun _ hK1=>sqr fun _ hK2=>mv h7 rfl fun _ h8=>bv h8 (z:=.bool true) rfl (cNe _ _ _ _ rfl) fun _ h9=>mv h9 rfl fun _ h10=>?_
 refine sv h10 (wT h10 (E:=true) rfl rfl rfl) rfl rfl rfl (v:=ν 1) (Ad h10 rfl rfl) fun _ h11=>sv h11 (wT h11 (E:=true) rfl rfl rfl) rfl rfl rfl (v:=.bool false) (Aw h11 rfl rfl rfl (cNe _ _ _ _ rfl)) fun _ h12=>sv1 h12 rfl (v:=.bool false) (Az h12 rfl rfl rfl) fun _ h13=>mv h13 rfl fun _ h14=>su h14 (wT h14 (E:=false) rfl rfl rfl) rfl rfl rfl fun _ h15=>su h15 (wT h15 (E:=false) rfl rfl rfl) rfl rfl rfl fun _ h16=>sv1 h16 rfl (v:=.bool false) (Az h16 rfl rfl rfl) fun _ h17=>h17.sn [32,13,12,0,1,2,3,4,5] rfl fun h18=>hK2 _ _<|wcF h18 rfl rfl ?_
 refine h18.sk [13,12,0,1,2,3,4,5] rfl fun h19=>wp_skip<|hK1 _ _<|sqr fun _ hK4=>mvs 2 h19 rfl fun _ h20=>cl h20 rfl (cF func70) (Vm (X:=X) s1 hM hX hnd) fun _ v2 w2 r2 h21=>?_
 obtain ⟨rfl,s2⟩:=r2
 refine mvs 4 h21 rfl fun _ h22=>so (wn rfl) fun _ hK5=>AB h22 rfl rfl rfl rfl (z:=[ν 0,ν 0,ν 0,ν 0,ν 0,ν 0,ν 0,ν 0,ν 0,ν 0,ν 0,ν 0,ν 0,ν 0,ν 0]) (fun _=>rfl) s2 fun _ g1 w3 h23 s3 _ _=>hK5 _ _ ?_
 refine mv h23 rfl fun _ h24=>stA h24 s3 0 rfl rfl rfl κ rfl rfl rfl rfl fun _ w4 h25 s4 _=>mv h25 rfl fun _ h26=>h26.sn [16,14,15,13,12,0,1,2,3,4,5] rfl fun h27=>hK4 _ _<|sq fun _ hK6=>sqr fun _ hK7=>mv h27 rfl fun _ h28=>bv h28 (z:=.bool false) rfl (cEq _ _ _ _ rfl) fun _ h29=>h29.sn [41,16,14,15,13,12,0,1,2,3,4,5] rfl fun h30=>hK7 _ _ ?_
 refine wcF h30 rfl rfl<|h30.sk [16,14,15,13,12,0,1,2,3,4,5] rfl fun h31=>wp_skip<|hK6 _ _<|sqr fun _ hK10=>mvs 2 h31 rfl fun _ h32=>cl h32 rfl (cF func67) (Mt (s4.pk [1,2,0,3] rfl) hM hX hpl) fun _ v3 w5 r3 h33=>?_
 obtain ⟨rfl,s5⟩:=r3
 refine mvs 7 h33 rfl fun _ h34=>h34.sn [19,18,17,16,14,15,13,12,0,1,2,3,4,5] rfl fun h35=>hK10 _ _<|sq fun _ hK11=>sqr fun _ hK12=>mv h35 rfl fun _ h36=>bv h36 (z:=.bool false) rfl (cNe _ _ _ _ rfl) fun _ h37=>mv h37 rfl fun _ h38=>sv h38 (wF h38 (E:=false) rfl rfl rfl) rfl rfl rfl (v:=ν 0) (Ad h38 rfl rfl) fun _ h39=>sv h39 (wF h39 (E:=false) rfl rfl rfl) rfl rfl rfl (v:=.bool false) (Aw h39 rfl rfl rfl (cNe _ _ _ _ rfl)) fun _ h40=>sv1 h40 rfl (v:=.bool false) (Az h40 rfl rfl rfl) fun _ h41=>?_
 refine mv h41 rfl fun _ h42=>sv h42 (wF h42 (E:=false) rfl rfl rfl) rfl rfl rfl (v:=ν 1) (Ad h42 rfl rfl) fun _ h43=>sv h43 (wF h43 (E:=false) rfl rfl rfl) rfl rfl rfl (v:=.bool false) (Aw h43 rfl rfl rfl (cEq _ _ _ _ rfl)) fun _ h44=>sv1 h44 rfl (v:=.bool false) (Az h44 rfl rfl rfl) fun _ h45=>h45.sn [67,19,18,17,16,14,15,13,12,0,1,2,3,4,5] rfl fun h46=>hK12 _ _<|wcF h46 rfl rfl<|h46.sk [19,18,17,16,14,15,13,12,0,1,2,3,4,5] rfl fun h47=>wp_skip<|hK11 _ _<|sq fun _ hK13=>sq fun _ hK14=>wp_region_lit ?_
 refine mv h47 rfl fun _ h48=>wpList_nil<|hK14 _ _<|wcF h48 rfl rfl<|h48.sk [19,18,17,16,14,15,13,12,0,1,2,3,4,5] rfl fun h49=>wp_skip<|hK13 _ _<|sqr fun _ hK15=>bu h49 (v:=.agg (Ah (⟨1,1,0,0,0,0,0,0,0,0,0,0,0,0,0⟩:InoT)).toArray) rfl (fun w=>κ) fun _ h50=>stA h50 s5 2 rfl rfl rfl κ rfl rfl rfl rfl fun _ w6 h51 s6 _=>h51.sn [19,18,17,16,14,15,13,12,0,1,2,3,4,5] rfl fun h52=>hK15 _ _ ?_
 refine sqr fun _ hK16=>mv h52 rfl fun _ h53=>bv h53 (z:=ν 0) rfl (Pf _ _ _ (by decide) (by decide) (by decide)) fun _ h54=>fav h54 rfl (fQ 7) fun _ h55=>sv1 h55 rfl (v:=.pointer (some ⟨g1,7,none⟩)) (BR h55 rfl rfl rfl (fun w=>RU g1 0 ω ω w)) fun _ h56=>st1 h56 s6 2 rfl rfl κ rfl rfl rfl rfl fun _ w7 h57 s7 _=>h57.sn [19,18,17,16,14,15,13,12,0,1,2,3,4,5] rfl fun h58=>hK16 _ _<|sqr fun _ hK17=>mvs 3 h58 rfl fun _ h59=>?_
 refine sw1 h59 rfl (v:=.agg (Ah (⟨1,1,0,0,0,0,0,1,0,0,0,0,0,0,0⟩:InoT)).toArray) (rld h59 rfl rfl (ldA υ25 rfl (n:=15) κ (s7.get 2 rfl:Blk _ _ _ _) rfl rfl)) fun _ h60=>mv h60 rfl fun _ h61=>cl h61 rfl (cF func68) (Nx (p:=p) (nm:=nm) (n:=n) (x:=(⟨1,1,0,0,0,0,0,1,0,0,0,0,0,0,0⟩:InoT)) (spare:=0) s7 hM hnn hadd hE) fun _ v4 w8 r4 h62=>?_
 obtain ⟨tax187,tcx188,rfl,s8⟩:=r4
 refine mvs 2 h62 rfl fun _ h63=>h63.sk [82,81,80,79,78,77,76,75,19,18,17,16,14,15,13,0,1,2,3,4,5] rfl fun h64=>mv h64 rfl fun _ h65=>h65.sk [12,82,81,80,79,78,77,76,75,19,18,17,16,14,15,0,1,2,3,4,5] rfl fun h66=>mv h66 rfl fun _ h67=>h67.sn [13,12,19,18,17,16,14,15,0,1,2,3,4,5] rfl fun h68=>hK17 _ _<|wp_ret ?_
 try simp only [Exit.then,Exit.inBlock]
 refine Bg (v:=.tuple #[ν n,ν 0]) (GI h68 rfl rfl rfl) h68.defs ?_
 exact ⟨tax187,tcx188,rfl,Sep.tail_un (xs:=[_,_]) (s8.pk [0,1,3] rfl)⟩
theorem Adm {w:World} {R:List Ch} {mx:Nat} {K:VolK} {ta:Ω} {tc:Nat} {M:MemM} {P:List PtM} {i:Int} {x:InoT} {X:Λ} (hS0:Sep w ([Ab mx 99 [π K.tg],txP K ta tc M P]++R)) (hM:M.V.length=23168) (hX:X.length≤1000) (hnd:ER M P X=(i,x,0)) :
  CallsR prog 35 #[π mx,σ X] w (fun v w'=>v=.tuple #[.agg #[ν x.k,ν x.l,ν x.s],ν 0]∧Sep w' ([Ab mx 99 [π K.tg],txP K ta tc M P]++R)):=by
 have hS:Sep w [Ab mx 99 [π K.tg],txP K ta tc M P,Ch.many R]:=Sep.tail_many (xs:=[_,_]) hS0;clear hS0
 refine AQ func35 rfl (N:=27) ntmps35 (by show 2≤27;decide) [(0,π mx),(1,σ X)] rfl fun _ h1=>sqr fun _ hK3=>so (wn rfl) fun _ hK1=>AB h1 rfl rfl rfl rfl (z:=[ν 0,ν 0,ν 0]) (fun _=>rfl) hS fun _ g4 w7 h5 s8 _ _=>hK1 _ _ ?_
 refine mv h5 rfl fun _ h2=>wpList_nil<|hK3 _ _<|sqr fun _ hK2=>mvs 2 h2 rfl fun _ h3=>cl h3 rfl (cF func70) (TP (s8.pk [1,2,0,3] rfl) hM hX hnd) fun _ v1 w1 r1 h4=>?_
 obtain ⟨rfl,s1⟩:=r1
 refine mvs 4 h4 rfl fun _ h6=>so (wn rfl) fun _ hK4=>AB h6 rfl rfl rfl rfl (z:=[ν 0,ν 0,ν 0,ν 0,ν 0,ν 0,ν 0,ν 0,ν 0,ν 0,ν 0,ν 0,ν 0,ν 0,ν 0]) (fun _=>rfl) s1 fun _ g1 w2 h7 s2 _ _=>hK4 _ _ ?_
 refine mv h7 rfl fun _ h8=>stA h8 s2 0 rfl rfl rfl κ rfl rfl rfl rfl fun _ w3 h9 s3 _=>mv h9 rfl fun _ h10=>h10.sn [8,7,5,4,0,1] rfl fun h11=>hK2 _ _<|sq fun _ hK5=>sqr fun _ hK6=>mv h11 rfl fun _ h12=>bv h12 (z:=.bool false) rfl (cNe _ _ _ _ rfl) fun _ h13=>h13.sn [17,8,7,5,4,0,1] rfl fun h14=>hK6 _ _ ?_
 refine wcF h14 rfl rfl<|h14.sk [8,7,5,4,0,1] rfl fun h15=>wp_skip<|hK5 _ _<|sqr fun _ hK7=>fav h15 rfl (fQ 0) fun _ h16=>ldv h16 s3 0 υ3 rfl rfl rfl rfl fun _ h17=>fav h17 rfl (fQ 1) fun _ h18=>ldv h18 s3 0 υ3 rfl rfl rfl rfl fun _ h19=>fav h19 rfl (fQ 2) fun _ h20=>ldv h20 s3 0 υ3 rfl rfl rfl rfl fun _ h21=>?_
 refine bu h21 (v:=.agg #[ν x.k,ν x.l,ν x.s]) rfl (fun w=>κ) fun _ h22=>stA h22 s3 3 rfl rfl rfl κ rfl rfl rfl rfl fun _ w4 h23 s4 _=>h23.sk [26,25,24,23,22,21,20,8,7,4,0,1] rfl fun h24=>mv h24 rfl fun _ h25=>h25.sn [5,8,7,4,0,1] rfl fun h26=>hK7 _ _<|wp_ret ?_
 try simp only [Exit.then,Exit.inBlock]
 refine rCt h26 s4 3 υ76 rfl rfl rfl rfl rfl ?_
 exact ⟨rfl,Sep.tail_un (xs:=[_,_]) (s4.pk [1,2,4] rfl)⟩
theorem Qz {w:World} {R:List Ch} {mx:Nat} {K:VolK} {ta:Ω} {tc:Nat} {M:MemM} {P:List PtM} {p:Int} {x:InoT} {t:List EntT} {j:Nat} (hS0:Sep w ([Ab mx 99 [π K.tg],txP K ta tc M P]++R)) (hM:M.V.length=23168) (ht:t.length=16) (hj:j<16) (hbk:0≤x.blk (j / 4)∧x.blk (j / 4)≤1000) (hu:Gs (EM t (j:Int) ⟨⟨#[]⟩,0⟩) (((j / 4:Nat):Nat):Int)=false) :
  CallsR prog 128 #[π mx,ν p,.agg (Ah x).toArray,.agg ((Aq t).toArray),ν (j:Int),.agg #[.string ⟨#[]⟩,ν 0]] w (fun v w'=>∃ ta' tc',v=ν (YA M P p x j)∧Sep w' ([Ab mx 99 [π K.tg],txP K ta' tc' M (SA M P p x j)]++R)):=by
 have hS:Sep w [Ab mx 99 [π K.tg],txP K ta tc M P,Ch.many R]:=Sep.tail_many (xs:=[_,_]) hS0;clear hS0
 refine AQ func128 rfl (N:=66) ntmps128 (by show 6≤66;decide) [(0,π mx),(1,ν p),(2,.agg (Ah x).toArray),(3,.agg ((Aq t).toArray)),(4,ν (j:Int)),(5,.agg #[.string ⟨#[]⟩,ν 0])] rfl fun _ h1=>sqr fun _ hK3=>so (wn rfl) fun _ hK1=>FV h1 rfl rfl rfl rfl rfl (z:=(Ah x)) rfl hS fun _ g4 w7 h5 s8 _ _=>hK1 _ _ ?_
 refine so (wn rfl) fun _ hK2=>FV h5 rfl rfl rfl rfl rfl (z:=Aq t) rfl s8 fun _ g1 w2 h2 s1 _ _=>hK2 _ _ ?_
 refine so (wn rfl) fun _ hK4=>FV h2 rfl rfl rfl rfl rfl (z:=[.string ⟨#[]⟩,ν 0]) rfl s1 fun _ g2 w3 h3 s2 _ _=>hK4 _ _ ?_
 refine mv h3 rfl fun _ h4=>wpList_nil<|hK3 _ _<|sqr fun _ hK5=>sw1 h4 rfl (v:=.agg ((Aq t).toArray)) (rld h4 rfl rfl (Gf υ111 (s2.get 1 rfl:Blk _ _ _ _) ht)) fun _ h6=>mv h6 rfl fun _ h7=>sw1 h7 rfl (v:=.agg #[.string ⟨#[]⟩,ν 0]) (rld h7 rfl rfl (ldA υ109 rfl (n:=2) κ (s2.get 0 rfl:Blk _ _ _ _) rfl rfl)) fun _ h8=>cl h8 rfl (cF func155) (Bh s2 (MQ t (j:Int) ⟨#[]⟩ 0 ht _)) fun _ v1 w4 r1 h9=>?_
 obtain ⟨rfl,s3⟩:=r1
 refine mv h9 rfl fun _ h10=>bv h10 (z:=ν ((j / 4:Nat):Int)) rfl (Ab2 _ _ _ (by decide) (YY _) ω ω) fun _ h11=>so (wn rfl) fun _ hK6=>Gq h11 rfl rfl s3 1 rfl ht (by rw [AC];exact ht) rfl rfl (cs':=[Ab g2 109 [.string ⟨#[]⟩,ν 0],Ab g1 111 (Aq (EM t (j:Int) ⟨⟨#[]⟩,0⟩)),Ab g4 25 (Ah x),Ab mx 99 [π K.tg],txP K ta tc M P,Ch.many R]) rfl fun _ w5 h12 s4 _=>hK6 _ _ ?_
 refine mv h12 rfl fun _ h13=>h13.sn [13,12,11,9,8,0,1,2,3,4,5] rfl fun h14=>hK5 _ _<|sq fun _ hK7=>sqr fun _ hK8=>sw1 h14 rfl (v:=.agg ((Aq (EM t (j:Int) ⟨⟨#[]⟩,0⟩)).toArray)) (rld h14 rfl rfl (Gf υ111 (s4.get 1 rfl:Blk _ _ _ _) (by rw [AC];exact ht))) fun _ h15=>mv h15 rfl fun _ h16=>cl h16 rfl (cF func156) (Abi s4 (by rw [AC];exact ht) hu) fun _ v2 w6 r2 h17=>?_
 obtain ⟨rfl,s5⟩:=r2
 refine mv h17 rfl fun _ h18=>h18.sn [26,13,12,11,9,8,0,1,2,3,4,5] rfl fun h19=>hK8 _ _<|wcT h19 rfl rfl<|h19.sk [13,12,11,9,8,0,1,2,3,4,5] rfl fun h20=>sq fun _ hK9=>?_
 have s6:=s5.drew
 refine wp_region_held_drew (S:=fun w'=>Sep w' [Ab g2 109 [.string ⟨#[]⟩,ν 0],Ab g1 111 (Aq (EM t (j:Int) ⟨⟨#[]⟩,0⟩)),Ab g4 25 (Ah x),Ab mx 99 [π K.tg],Ch.many R]) κ (s6.pk [0,1,2,3,5] rfl) (fun hq1=>?_)
 refine tv1 hq1 h20 0 rfl rfl (v:=π mx) (fun w1 _=>(Ad h20 rfl rfl) w1) fun _ h21=>?_
 refine tv1 hq1 h21 1 rfl rfl (v:=π mx) (fun w1 _=>(Ad h21 rfl rfl) w1) fun _ h22=>?_
 refine tv1 hq1 h22 3 rfl rfl (v:=ν ((j / 4:Nat):Int)) (fun w1 _=>(Ad h22 rfl rfl) w1) fun _ h23=>?_
 refine tv1 hq1 h23 4 rfl rfl (v:=.pointer (some ⟨g4,3,none⟩)) (fun w1 _=>(rfa h23 rfl rfl (fQ 3)) w1) fun _ h24=>?_
 refine tv1 hq1 h24 5 rfl rfl (v:=.pointer (some ⟨g4,3+(j / 4),none⟩)) (fun w1 _=>(BR h24 rfl rfl rfl (fun w=>LY g4 (j / 4) ω ω w)) w1) fun _ h25=>?_
 refine tv1 hq1 h25 6 rfl rfl (v:=ν (x.blk (j / 4))) (fun w1 hSw=>(rld h25 rfl rfl (ldB υ3 rfl (hSw.get 2 rfl:Blk _ _ _ _) (DY x ω)))) fun _ h26=>?_
 refine to_ 2 rfl (wn rfl) κ fun _ hK10=>AJ h26 rfl rfl rfl (xs:=[.tmp 28]) rfl (cF func11) rfl (vs:=[π mx]) rfl (args:=#[π mx]) rfl (TK (s6.pk [3,4,0,1,2,5] rfl) hM) fun _ v3 w8 r3 h27=>?_
 obtain ⟨rfl,s7⟩:=r3
 refine hK10 _ _ (s7.pk [2,3,4,0,5] rfl) fun hq2=>?_
 refine to_ 7 rfl (wn rfl) κ fun _ hK11=>AJ h27 rfl rfl rfl (xs:=[.tmp 29,.tmp 33]) rfl (cF func157) rfl (vs:=[.agg (Af (As M P)),ν (x.blk (j / 4))]) rfl (args:=#[.agg (Af (As M P)),ν (x.blk (j / 4))]) rfl (Bh s7 (PI (As M P) (x.blk (j / 4)) _ (AZ _ (by first | rfl | simp only [Am,AA,As,An])) ω)) fun _ v4 w9 r4 h28=>?_
 obtain ⟨rfl,s9⟩:=r4
 refine hK11 _ _ (s9.pk [2,3,4,0,5] rfl) fun hq3=>?_
 refine to_ 8 rfl (wn rfl) κ fun _ hK12=>AJ h28 rfl rfl rfl (xs:=[.tmp 27,.tmp 34]) rfl (cF func10) rfl (vs:=[π mx,.agg (Af (CU (As M P) (x.blk (j / 4))))]) rfl (args:=#[π mx,.agg (Af (CU (As M P) (x.blk (j / 4))))]) rfl (Fr (xs:=(CU (As M P) (x.blk (j / 4)))) s9 hM (AZ _ (by first | rfl | simp only [Am,AA,As,An]))) fun _ v5 w10 r5 h29=>?_
 obtain ⟨tax106,tcx107,rfl,s10⟩:=r5
 refine hK12 _ _ (s10.pk [2,3,4,0,5] rfl) fun hq4=>?_
 refine tv1 hq4 h29 9 rfl rfl (v:=ν (stE M P 3 0 16)) (fun w1 _=>(AP h29 rfl rfl) w1) fun _ h30=>?_
 refine h30.sk [14,13,12,11,9,8,0,1,2,3,4,5] rfl fun h31=>?_
 refine wpAnyH_done κ ?_ _
 refine hK9 _ _ ?_
 refine sqr fun _ hK13=>mv h31 rfl fun _ h32=>fav h32 rfl (fQ 3) fun _ h33=>sv1 h33 rfl (v:=.pointer (some ⟨g4,3+(j / 4),none⟩)) (BR h33 rfl rfl rfl (fun w=>LY g4 (j / 4) ω ω w)) fun _ h34=>so (wn rfl) fun _ hK14=>Id h34 rfl rfl s10 4 rfl rfl rfl [ν 0] rfl κ rfl (by show 3+(j / 4)+1≤15;omega) (L':=Ah (x.setB (j / 4) 0)) (NH x ω) (cs':=[Ab mx 99 [π K.tg],txP K tax106 tcx107 M (stP M P 3 0 (CU (As M P) (x.blk (j / 4)))),Ab g2 109 [.string ⟨#[]⟩,ν 0],Ab g1 111 (Aq (EM t (j:Int) ⟨⟨#[]⟩,0⟩)),Ab g4 25 (Ah (x.setB (j / 4) 0)),Ch.many R]) rfl fun _ w11 h35 s11 _=>hK14 _ _ ?_
 refine h35.sn [14,13,12,11,9,8,0,1,2,3,4,5] rfl fun h36=>hK13 _ _<|sqr fun _ hK15=>mvs 3 h36 rfl fun _ h37=>sw1 h37 rfl (v:=.agg (Ah (x.setB (j / 4) 0)).toArray) (rld h37 rfl rfl (ldA υ25 rfl (n:=15) κ (s11.get 4 rfl:Blk _ _ _ _) rfl rfl)) fun _ h38=>cl h38 rfl (cF func9) (CF (i:=p) (x:=(x.setB (j / 4) 0)) s11 hM) fun _ v6 w12 r6 h39=>?_
 obtain ⟨tax141,tcx142,rfl,s12⟩:=r6
 refine so (wn rfl) fun _ hK16=>CH h39 rfl rfl rfl (E:=31) (xs:=[(0,.tmp 39),(1,.tmp 43)]) rfl (vs:=[(0,ν (stE M P 3 0 16)),(1,ν (Bj M (stP M P 3 0 (CU (As M P) (x.blk (j / 4)))) p (x.setB (j / 4) 0)))]) rfl (z:=[ν (stE M P 3 0 16),ν (Bj M (stP M P 3 0 (CU (As M P) (x.blk (j / 4)))) p (x.setB (j / 4) 0))]) (fun _=>κ) s12 fun _ g3 w13 h40 s13 _ _=>hK16 _ _ ?_
 refine cl h40 rfl (cF func38) (CP (L:=[stE M P 3 0 16,Bj M (stP M P 3 0 (CU (As M P) (x.blk (j / 4)))) p (x.setB (j / 4) 0)]) s13 (Nat.le_of_ble_eq_true rfl)) fun _ v7 w14 r7 h41=>?_
 obtain ⟨rfl,s14⟩:=r7
 refine h41.sk [45,44,43,42,41,40,39,14,13,11,9,8,0,1,2,3,4,5] rfl fun h42=>mv h42 rfl fun _ h43=>h43.sn [12,14,13,11,9,8,0,1,2,3,4,5] rfl fun h44=>hK15 _ _<|wp_ret ?_
 try simp only [Exit.then,Exit.inBlock]
 refine Bg (v:=ν (AH [stE M P 3 0 16,Bj M (stP M P 3 0 (CU (As M P) (x.blk (j / 4)))) p (x.setB (j / 4) 0)])) (Cl h44 rfl rfl) h44.defs ?_
 exact ⟨tax141,tcx142,rfl,Sep.tail_un (xs:=[_,_]) (s14.pk [1,2,6] rfl)⟩
theorem YB {w:World} {R:List Ch} {mx:Nat} {K:VolK} {ta:Ω} {tc:Nat} {M:MemM} {P:List PtM} {p:Int} {x:InoT} {t:List EntT} {j:Nat} {nm:ByteArray} (hS0:Sep w ([Ab mx 99 [π K.tg],txP K ta tc M P]++R)) (hM:M.V.length=23168) (hs:nm.size≤1000) (hd:Bz M P p=x∧He M P p=t∧Pu M P p=0) (ht:t.length=16) (hj:j<16) (hx:0≤x.s∧x.s≤1000) (hf:AW t nm=(j:Int)) (hbk:0≤(Hd x).blk (j / 4)∧(Hd x).blk (j / 4)≤1000) (hu:Gs (EM t (j:Int) ⟨⟨#[]⟩,0⟩) (((j / 4:Nat):Nat):Int)=false) :
  CallsR prog 103 #[π mx,ν p,.string nm] w (fun v w'=>∃ ta' tc',v=ν (YA M P p (Hd x) j)∧Sep w' ([Ab mx 99 [π K.tg],txP K ta' tc' M (SA M P p (Hd x) j)]++R)):=by
 have hS:Sep w [Ab mx 99 [π K.tg],txP K ta tc M P,Ch.many R]:=Sep.tail_many (xs:=[_,_]) hS0;clear hS0
 refine AQ func103 rfl (N:=37) ntmps103 (by show 3≤37;decide) [(0,π mx),(1,ν p),(2,.string nm)] rfl fun _ h1=>sqr fun _ hK3=>mv h1 rfl fun _ h4=>wpList_nil<|hK3 _ _<|sqr fun _ hK6=>mvs 2 h4 rfl fun _ h9=>cl h9 rfl (cF func126) (Ot hS hM hd) fun _ v1 w1 r1 h2=>?_
 obtain ⟨rfl,s1⟩:=r1
 refine mvs 4 h2 rfl fun _ h3=>so (wn rfl) fun _ hK1=>AB h3 rfl rfl rfl rfl (z:=[ν 0,ν 0,ν 0,ν 0,ν 0,ν 0,ν 0,ν 0,ν 0,ν 0,ν 0,ν 0,ν 0,ν 0,ν 0]) (fun _=>rfl) s1 fun _ g1 w2 h5 s2 _ _=>hK1 _ _ ?_
 refine so (wn rfl) fun _ hK2=>AB h5 rfl rfl rfl rfl (z:=Aq Bf) (fun _=>rfl) s2 fun _ g2 w3 h6 s3 _ _=>hK2 _ _ ?_
 refine stA h6 s3 1 rfl rfl rfl κ rfl rfl rfl rfl fun _ w4 h7 s4 _=>so (wn rfl) fun _ hK4=>Gq h7 rfl rfl s4 0 rfl Ay ht rfl rfl (cs':=[Ab g2 111 (Aq t),Ab g1 25 (Ah x),Ab mx 99 [π K.tg],txP K ta tc M P,Ch.many R]) rfl fun _ w5 h8 s5 _=>hK4 _ _ ?_
 refine mv h8 rfl fun _ h10=>h10.sn [9,8,7,6,0,1,2] rfl fun h11=>hK6 _ _<|sq fun _ hK5=>sqr fun _ hK7=>mv h11 rfl fun _ h12=>bv h12 (z:=.bool false) rfl (cNe _ _ _ _ rfl) fun _ h13=>h13.sn [19,9,8,7,6,0,1,2] rfl fun h14=>hK7 _ _<|wcF h14 rfl rfl<|h14.sk [9,8,7,6,0,1,2] rfl fun h15=>?_
 refine wp_skip<|hK5 _ _<|sqr fun _ hK8=>sw1 h15 rfl (v:=.agg ((Aq t).toArray)) (rld h15 rfl rfl (Gf υ111 (s5.get 0 rfl:Blk _ _ _ _) ht)) fun _ h16=>mv h16 rfl fun _ h17=>cl h17 rfl (cF func117) (ZL s5 ht hs hf) fun _ v2 w6 r2 h18=>?_
 obtain ⟨rfl,s6⟩:=r2
 refine mv h18 rfl fun _ h19=>h19.sn [10,9,8,7,6,0,1,2] rfl fun h20=>hK8 _ _<|sq fun _ hK9=>sqr fun _ hK10=>mv h20 rfl fun _ h21=>bv h21 (z:=.bool false) rfl (cLt _ _ _ _ (decide_eq_false ω)) fun _ h22=>h22.sn [25,10,9,8,7,6,0,1,2] rfl fun h23=>hK10 _ _<|wcF h23 rfl rfl<|h23.sk [10,9,8,7,6,0,1,2] rfl fun h24=>?_
 refine wp_skip<|hK9 _ _<|sqr fun _ hK11=>fav h24 rfl (fQ 2) fun _ h25=>ldv h25 s6 1 υ3 rfl rfl rfl rfl fun _ h26=>bv h26 (z:=ν (x.s-1)) rfl (Pf _ _ _ ω ω ω) fun _ h27=>fav h27 rfl (fQ 2) fun _ h28=>st1 h28 s6 1 rfl rfl κ rfl rfl rfl rfl fun _ w7 h29 s7 _=>h29.sn [10,9,8,7,6,0,1,2] rfl fun h30=>hK11 _ _<|sq fun _ hK12=>wp_region_lit ?_
 refine mvs 2 h30 rfl fun _ h31=>sw1 h31 rfl (v:=.agg (Ah (⟨x.k,x.l,x.s-1,x.b0,x.b1,x.b2,x.b3,x.o0,x.o1,x.o2,x.o3,x.o4,x.o5,x.o6,x.o7⟩:InoT)).toArray) (rld h31 rfl rfl (ldA υ25 rfl (n:=15) κ (s7.get 1 rfl:Blk _ _ _ _) rfl rfl)) fun _ h32=>sw1 h32 rfl (v:=.agg ((Aq t).toArray)) (rld h32 rfl rfl (Gf υ111 (s7.get 0 rfl:Blk _ _ _ _) ht)) fun _ h33=>mv h33 rfl fun _ h34=>bu h34 (v:=.agg #[σ [],ν 0]) rfl (fun w=>κ) fun _ h35=>cl h35 rfl (cF func128) (Qz (p:=p) (x:=Hd x) (t:=t) (j:=j) (s7.pk [2,3,0,1,4] rfl) hM ht hj hbk hu) fun _ v3 w8 r3 h36=>?_
 obtain ⟨tax117,tcx118,rfl,s8⟩:=r3
 refine h36.sk [36,35,34,33,32,31,30,10,9,8,7,0,1,2] rfl fun h37=>mv h37 rfl fun _ h38=>h38.sn [6,10,9,8,7,0,1,2] rfl fun h39=>hK12 _ _<|wp_ret ?_
 try simp only [Exit.then,Exit.inBlock]
 refine Bg (v:=ν (YA M P p (Hd x) j)) (Cl h39 rfl rfl) h39.defs ?_
 exact ⟨tax117,tcx118,rfl,Sep.tail_un (xs:=[_,_]) (s8.pk [0,1,4] rfl)⟩
theorem Zb {w:World} {R:List Ch} {mx:Nat} {K:VolK} {ta:Ω} {tc:Nat} {M:MemM} {P:List PtM} {i p E1 E2:Int} {X:Λ} {nm:ByteArray} {P1 P2:List PtM} (hS0:Sep w ([Ab mx 99 [π K.tg],txP K ta tc M P]++R)) (hM:M.V.length=23168) (hX:X.length≤1000) (hw:AO M P X=(i,0)) (hpl:En M P X=(p,nm,0)) (hrem:∀ {w:World} {R:List Ch} {ta:Ω} {tc:Nat},Sep w ([Ab mx 99 [π K.tg],txP K ta tc M P]++R)→CallsR prog 103 #[π mx,ν p,.string nm] w (fun v w'=>∃ ta' tc',v=ν E1∧Sep w' ([Ab mx 99 [π K.tg],txP K ta' tc' M P1]++R))) (hlos:∀ {w:World} {R:List Ch} {ta:Ω} {tc:Nat},Sep w ([Ab mx 99 [π K.tg],txP K ta tc M P1]++R)→CallsR prog 73 #[π mx,ν i] w (fun v w'=>∃ ta' tc',v=ν E2∧Sep w' ([Ab mx 99 [π K.tg],txP K ta' tc' M P2]++R)))  :
  CallsR prog 72 #[π mx,σ X,.func (.func 73) #[π mx] #[]] w (fun v w'=>∃ ta' tc',v=ν (AH [E1,E2])∧Sep w' ([Ab mx 99 [π K.tg],txP K ta' tc' M P2]++R)):=by
 have hS:Sep w [Ab mx 99 [π K.tg],txP K ta tc M P,Ch.many R]:=Sep.tail_many (xs:=[_,_]) hS0;clear hS0
 refine AQ func72 rfl (N:=39) ntmps72 (by show 3≤39;decide) [(0,π mx),(1,σ X),(2,.func (.func 73) #[π mx] #[])] rfl fun _ h1=>sqr fun _ hK3=>mv h1 rfl fun _ h4=>wpList_nil<|hK3 _ _<|sqr fun _ hK6=>mvs 2 h4 rfl fun _ h9=>cl h9 rfl (cF func53) (Tk hS hM hX hw) fun _ v1 w1 r1 h2=>?_
 obtain ⟨rfl,s1⟩:=r1
 refine mvs 5 h2 rfl fun _ h3=>h3.sn [8,7,6,0,1,2] rfl fun h5=>hK6 _ _<|sq fun _ hK1=>sqr fun _ hK2=>mv h5 rfl fun _ h6=>bv h6 (z:=.bool false) rfl (cNe _ _ _ _ rfl) fun _ h7=>h7.sn [18,8,7,6,0,1,2] rfl fun h8=>hK2 _ _<|wcF h8 rfl rfl<|h8.sk [8,7,6,0,1,2] rfl fun h10=>?_
 refine wp_skip<|hK1 _ _<|sqr fun _ hK4=>mvs 2 h10 rfl fun _ h11=>cl h11 rfl (cF func67) (Mt s1 hM hX hpl) fun _ v2 w2 r2 h12=>?_
 obtain ⟨rfl,s2⟩:=r2
 refine mvs 6 h12 rfl fun _ h13=>h13.sk [10,9,26,25,24,20,23,22,21,7,6,0,1,2] rfl fun h14=>mv h14 rfl fun _ h15=>h15.sn [8,10,9,7,6,0,1,2] rfl fun h16=>hK4 _ _<|sq fun _ hK5=>sqr fun _ hK7=>mv h16 rfl fun _ h17=>bv h17 (z:=.bool false) rfl (cNe _ _ _ _ rfl) fun _ h18=>h18.sn [28,8,10,9,7,6,0,1,2] rfl fun h19=>hK7 _ _ ?_
 refine wcF h19 rfl rfl<|h19.sk [8,10,9,7,6,0,1,2] rfl fun h20=>wp_skip<|hK5 _ _<|sqr fun _ hK8=>mvs 3 h20 rfl fun _ h21=>cl h21 rfl (cF func103) (hrem s2) fun _ v3 w3 r3 h22=>?_
 obtain ⟨tax80,tcx81,rfl,s3⟩:=r3
 refine mvs 2 h22 rfl fun _ h23=>cl h23 rfl (cF func73) (hlos s3) fun _ v4 w4 r4 h24=>?_
 obtain ⟨tax93,tcx94,rfl,s4⟩:=r4
 refine so (wn rfl) fun _ hK9=>CH h24 rfl rfl rfl (E:=31) (xs:=[(0,.tmp 33),(1,.tmp 36)]) rfl (vs:=[(0,ν E1),(1,ν E2)]) rfl (z:=[ν E1,ν E2]) (fun _=>κ) s4 fun _ g1 w5 h25 s5 _ _=>hK9 _ _ ?_
 refine cl h25 rfl (cF func38) (CP (L:=[E1,E2]) s5 (Nat.le_of_ble_eq_true rfl)) fun _ v5 w6 r5 h26=>?_
 obtain ⟨rfl,s6⟩:=r5
 refine h26.sk [38,37,36,35,34,33,32,31,30,8,10,9,7,0,1,2] rfl fun h27=>mv h27 rfl fun _ h28=>h28.sn [6,8,10,9,7,0,1,2] rfl fun h29=>hK8 _ _<|wp_ret ?_
 try simp only [Exit.then,Exit.inBlock]
 refine Bg (v:=ν (AH [E1,E2])) (Cl h29 rfl rfl) h29.defs ?_
 exact ⟨tax93,tcx94,rfl,Sep.tail_un (xs:=[_,_]) (s6.pk [1,2,3] rfl)⟩
theorem Za {w:World} {R:List Ch} {mx:Nat} {K:VolK} {ta:Ω} {tc:Nat} {M:MemM} {P:List PtM} {i p E1 E2:Int} {x:InoT} {X:Λ} {nm:ByteArray} {P1 P2:List PtM} (hS0:Sep w ([Ab mx 99 [π K.tg],txP K ta tc M P]++R)) (hM:M.V.length=23168) (hX:X.length≤1000) (hr:(FD X).isSome=true) (hnd:ER M P X=(i,x,0)) (hxk:x.k=1) (hw:AO M P X=(i,0)) (hpl:En M P X=(p,nm,0)) (hrem:∀ {w:World} {R:List Ch} {ta:Ω} {tc:Nat},Sep w ([Ab mx 99 [π K.tg],txP K ta tc M P]++R)→CallsR prog 103 #[π mx,ν p,.string nm] w (fun v w'=>∃ ta' tc',v=ν E1∧Sep w' ([Ab mx 99 [π K.tg],txP K ta' tc' M P1]++R))) (hlos:∀ {w:World} {R:List Ch} {ta:Ω} {tc:Nat},Sep w ([Ab mx 99 [π K.tg],txP K ta tc M P1]++R)→CallsR prog 73 #[π mx,ν i] w (fun v w'=>∃ ta' tc',v=ν E2∧Sep w' ([Ab mx 99 [π K.tg],txP K ta' tc' M P2]++R)))  :
  CallsR prog 36 #[π mx,σ X] w (fun v w'=>∃ ta' tc',v=ν (AH [E1,E2])∧Sep w' ([Ab mx 99 [π K.tg],txP K ta' tc' M P2]++R)):=by
 have hS:Sep w [Ab mx 99 [π K.tg],txP K ta tc M P,Ch.many R]:=Sep.tail_many (xs:=[_,_]) hS0;clear hS0
 refine AQ func36 rfl (N:=28) ntmps36 (by show 2≤28;decide) [(0,π mx),(1,σ X)] rfl fun _ h1=>sqr fun _ hK3=>mv h1 rfl fun _ h4=>wpList_nil<|hK3 _ _<|sq fun _ hK6=>sqr fun _ hK7=>mv h4 rfl fun _ h8=>cl h8 rfl (cF func66) (NJ hS hX hr) fun _ v1 w1 r1 h2=>?_
 obtain ⟨rfl,s1⟩:=r1
 refine h2.sn [9,4,0,1] rfl fun h3=>hK7 _ _<|wcF h3 rfl rfl<|h3.sk [4,0,1] rfl fun h5=>wp_skip<|hK6 _ _<|sqr fun _ hK1=>mvs 2 h5 rfl fun _ h6=>cl h6 rfl (cF func70) (TP s1 hM hX hnd) fun _ v2 w2 r2 h7=>?_
 obtain ⟨rfl,s2⟩:=r2
 refine mvs 4 h7 rfl fun _ h9=>so (wn rfl) fun _ hK2=>AB h9 rfl rfl rfl rfl (z:=[ν 0,ν 0,ν 0,ν 0,ν 0,ν 0,ν 0,ν 0,ν 0,ν 0,ν 0,ν 0,ν 0,ν 0,ν 0]) (fun _=>rfl) s2 fun _ g1 w3 h10 s3 _ _=>hK2 _ _ ?_
 refine mv h10 rfl fun _ h11=>stA h11 s3 0 rfl rfl rfl κ rfl rfl rfl rfl fun _ w4 h12 s4 _=>mv h12 rfl fun _ h13=>h13.sn [7,6,4,0,1] rfl fun h14=>hK1 _ _<|sq fun _ hK4=>sqr fun _ hK5=>mv h14 rfl fun _ h15=>bv h15 (z:=.bool false) rfl (cNe _ _ _ _ rfl) fun _ h16=>h16.sn [18,7,6,4,0,1] rfl fun h17=>hK5 _ _ ?_
 refine wcF h17 rfl rfl<|h17.sk [7,6,4,0,1] rfl fun h18=>wp_skip<|hK4 _ _<|sq fun _ hK8=>sqr fun _ hK9=>fav h18 rfl (fQ 0) fun _ h19=>ldv h19 s4 0 υ3 rfl rfl rfl rfl fun _ h20=>bv h20 (z:=.bool false) rfl (cEq _ _ _ _ (decide_eq_false ω)) fun _ h21=>h21.sn [22,7,6,4,0,1] rfl fun h22=>hK9 _ _<|wcF h22 rfl rfl ?_
 refine h22.sk [7,6,4,0,1] rfl fun h23=>wp_skip<|hK8 _ _<|sqr fun _ hK10=>mvs 3 h23 rfl fun _ h24=>sv1 h24 rfl (v:=.func (.func 73) #[π mx] #[]) (Ae0 h24 (xs:=[.tmp 25]) (ys:=[]) rfl (vs:=[π mx]) (us:=[]) rfl rfl) fun _ h25=>cl h25 rfl (cF func72) (Zb (s4.pk [1,2,0,3] rfl) hM hX hw hpl hrem hlos) fun _ v3 w5 r3 h26=>?_
 obtain ⟨tax85,tcx86,rfl,s5⟩:=r3
 refine h26.sk [27,26,25,24,23,7,6,0,1] rfl fun h27=>mv h27 rfl fun _ h28=>h28.sn [4,7,6,0,1] rfl fun h29=>hK10 _ _<|wp_ret ?_
 try simp only [Exit.then,Exit.inBlock]
 refine Bg (v:=ν (AH [E1,E2])) (Cl h29 rfl rfl) h29.defs ?_
 exact ⟨tax85,tcx86,rfl,Sep.tail_un (xs:=[_,_]) (s5.pk [0,1,3] rfl)⟩
theorem XB {w:World} {R:List Ch} {x:InoT} (hS0:Sep w ([]++R)) :
  CallsR prog 104 #[.agg (Ah x).toArray] w (fun v w'=>v=.bool (GS x)∧Sep w' ([]++R)):=by
 have hS:Sep w [Ch.many R]:=Sep.tail_many (xs:=[]) hS0;clear hS0
 refine AQ func104 rfl (N:=16) ntmps104 (by show 1≤16;decide) [(0,.agg (Ah x).toArray)] rfl fun _ h1=>sqr fun _ hK3=>so (wn rfl) fun _ hK1=>FV h1 rfl rfl rfl rfl rfl (z:=(Ah x)) rfl hS fun _ g4 w7 h5 s8 _ _=>hK1 _ _ ?_
 refine mv h5 rfl fun _ h2=>wpList_nil<|hK3 _ _<|sqr fun _ hK2=>fav h2 rfl (fQ 0) fun _ h3=>ldv h3 s8 0 υ3 rfl rfl rfl rfl fun _ h4=>bv h4 (z:=.bool (decide (x.k=1))) rfl (cEq _ _ _ _ rfl) fun _ h6=>mv h6 rfl fun _ h7=>sg h7 (wT h7 rfl rfl rfl) rfl rfl rfl (v:=.pointer (some ⟨g4,1,none⟩)) (fun hC1=>by have hq:=(dT hC1);exact rfa h7 rfl rfl (fQ 1) _) fun _ h8=>sg h8 (wT h8 rfl rfl rfl) rfl rfl rfl (v:=ν x.l) (fun hC2=>by have hq:=(dT hC2);exact (rld h8 rfl (opg rfl hC2) (ldB υ3 rfl (s8.get 0 rfl:Blk _ _ _ _) rfl))) fun _ h9=>sg h9 (wT h9 rfl rfl rfl) rfl rfl rfl (v:=.bool (decide (x.l=0))) (fun hC3=>by have hq:=(dT hC3);exact Aw h9 rfl (opg rfl hC3) rfl (cEq _ _ _ _ rfl) _) fun _ h10=>?_
 refine sv1 h10 rfl (v:=.bool ((decide (x.k=1))&&(decide (x.l=0)))) (BQ h10 rfl (E:=(decide (x.k=1))) (F:=(decide (x.l=0))) rfl rfl rfl (fun e=>if_pos (by rw [e];try rfl))) fun _ h11=>mv h11 rfl fun _ h12=>sg h12 (wT h12 rfl rfl rfl) rfl rfl rfl (v:=.agg (Ah x).toArray) (fun hC4=>by have hq:=(And.intro (dT (AV hC4).1) (dT (AV hC4).2));exact (rld h12 rfl rfl (ldA υ25 rfl (n:=15) κ (s8.get 0 rfl:Blk _ _ _ _) rfl rfl))) fun _ h13=>?_
 rcases bC ((decide (x.k=1))&&(decide (x.l=0))) with hc1 | hc1
 ·skip
  have hp1:(x.k=1)∧(x.l=0):=(And.intro (dT (AV hc1).1) (dT (AV hc1).2))
  refine so ((wT h13 rfl rfl rfl).trans hc1) fun _ hK4=>AJ h13 rfl rfl rfl (xs:=[.tmp 12]) rfl (cF func56) rfl (vs:=[.agg (Ah x).toArray]) (Abr (opg rfl hc1) rfl) (args:=#[.agg (Ah x).toArray]) rfl (Bh s8 (Yf x _)) fun _ v1 w1 r1 h14=>hK4 _ _ ?_
  obtain ⟨rfl,s1⟩:=r1
  refine sv h14 ((wT h14 rfl rfl rfl).trans hc1) rfl rfl rfl (v:=.bool (decide (NO x=0))) (Aw h14 rfl rfl rfl (cEq _ _ _ _ rfl)) fun _ h15=>sv1 h15 rfl (v:=.bool (decide (NO x=0))) (MI h15 rfl (E:=((decide (x.k=1))&&(decide (x.l=0)))) (b:=true) rfl hc1 rfl) fun _ h16=>h16.sk [15,14,13,12,11,10,9,8,7,6,5,4,3,1,0] rfl fun h17=>mv h17 rfl fun _ h18=>h18.sn [2,1,0] rfl fun h19=>hK2 _ _<|wp_ret ?_
  try simp only [Exit.then,Exit.inBlock]
  refine Bg (v:=.bool (decide (NO x=0))) (Cl h19 rfl rfl) h19.defs ?_
  exact ⟨by first | rfl | (unfold GS;rfl) | (unfold GS;simp_all),Sep.tail_un (xs:=[]) (s1.pk [1] rfl)⟩
 ·skip
  have hp2:(¬ (x.k=1))∨(¬ (x.l=0)):=((Wt hc1).imp (fun q=>(dF q)) (fun q=>(dF q)))
  refine su h13 ((wT h13 rfl rfl rfl).trans hc1) rfl rfl rfl fun _ h20=>su h20 ((wT h20 rfl rfl rfl).trans hc1) rfl rfl rfl fun _ h21=>sv1 h21 rfl (v:=.bool false) (MI h21 rfl (E:=((decide (x.k=1))&&(decide (x.l=0)))) (b:=false) rfl hc1 rfl) fun _ h22=>h22.sk [15,14,13,12,11,10,9,8,7,6,5,4,3,1,0] rfl fun h23=>mv h23 rfl fun _ h24=>h24.sn [2,1,0] rfl fun h25=>hK2 _ _<|wp_ret ?_
  try simp only [Exit.then,Exit.inBlock]
  refine Bg (v:=.bool false) (Cl h25 rfl rfl) h25.defs ?_
  exact ⟨by first | rfl | (unfold GS;rfl) | (unfold GS;simp_all),Sep.tail_un (xs:=[]) (s8.pk [1] rfl)⟩
theorem TD {w:World} {R:List Ch} (hS:Sep w R) {x:InoT} {b:Bool} (h:GS x=b):CallsR prog 104 #[.agg (Ah x).toArray] w (fun v w'=>v=.bool b∧Sep w' R):=by
 rw [← h];exact XB (R:=R) hS
theorem Wh {w:World} {R:List Ch} {xs:Λ} {x:InoT} (hS0:Sep w ([]++R)) (h2:xs.length=16) (hb:Sk x) :
  CallsR prog 129 #[.agg (Af xs),.agg (Ah x).toArray] w (fun v w'=>v=.agg (Af (woX xs x 4))∧Sep w' ([]++R)):=by
 have hS:Sep w [Ch.many R]:=Sep.tail_many (xs:=[]) hS0;clear hS0
 obtain ⟨⟨hb0,hb0'⟩,⟨hb1,hb1'⟩,⟨hb2,hb2'⟩,⟨hb3,hb3'⟩⟩:=id hb
 refine AQ func129 rfl (N:=17) ntmps129 (by show 2≤17;decide) [(0,.agg (Af xs)),(1,.agg (Ah x).toArray)] rfl fun _ h1=>sqr fun _ hK3=>so (wn rfl) fun _ hK1=>FV h1 rfl rfl rfl rfl rfl (z:=(xs).map Ac) rfl hS fun _ g4 w7 h5 s8 _ _=>hK1 _ _ ?_
 refine so (wn rfl) fun _ hK2=>FV h5 rfl rfl rfl rfl rfl (z:=(Ah x)) rfl s8 fun _ g1 w1 h3 s1 _ _=>hK2 _ _ ?_
 refine so (wn rfl) fun _ hK4=>AB h3 rfl rfl rfl rfl (z:=(AD).map Ac) (fun _=>rfl) s1 fun _ g2 w2 h4 s2 _ _=>hK4 _ _ ?_
 refine wpList_nil<|hK3 _ _<|sq fun _ hK5=>sqr fun _ hK6=>fav h4 rfl (fQ 3) fun _ h6=>sw1 h6 rfl (v:=.agg #[ν x.b0,ν x.b1,ν x.b2,ν x.b3]) (rld h6 rfl rfl (ldA υ22 rfl (n:=4) κ (s2.get 1 rfl:Blk _ _ _ _) rfl rfl)) fun _ h7=>mv h7 rfl fun _ h8=>h8.sn [9,8,4,3,2,0,1] rfl fun h9=>hK6 _ _<|wp_block ?_
 refine Du (fun (k:Nat) a' w'=>Kn 17 [(9,ν (k:Int)),(8,.agg #[ν x.b0,ν x.b1,ν x.b2,ν x.b3]),(4,π g2),(3,π g1),(2,π g4),(0,.agg (Af xs)),(1,.agg (Ah x).toArray)] a'∧Sep w' [Ab g2 27 ((AD).map Ac),Ab g1 25 (Ah x),Ab g4 27 ((woX xs x k).map Ac),Ch.many R]∧(k≤4)) (fun (k:Nat)=>4-k) 0 ⟨h9.subs rfl,s2,Nat.zero_le _⟩ ?_
 rintro k1 a1 w3 ⟨h10,s3,hk42⟩ K1 hK7
 refine sqr fun _ hK8=>bv h10 (z:=.bool (decide ((k1:Int)<4))) rfl (cLt _ _ _ _ rfl) fun _ h11=>wpList_nil<|hK8 _ _<|sq fun _ hK9=>?_
 rcases bC (decide ((k1:Int)<4)) with hc1 | hc1
 ·skip
  have hp1:(k1:Int)<4:=(dT hc1)
  refine wcT h11 rfl hc1<|h11.sk [9,8,4,3,2,0,1] rfl fun h12=>wp_skip<|hK9 _ _<|sq fun _ hK10=>wp_block ?_
  refine sqr fun _ hK11=>sv1 h12 rfl (v:=ν (x.blk k1)) (JG h12 rfl rfl rfl (xs:=[x.b0,x.b1,x.b2,x.b3]) rfl υ22 rfl rfl rfl (by show _<4;omega)) fun _ h13=>mv h13 rfl fun _ h14=>h14.sn [6,9,8,4,3,2,0,1] rfl fun h15=>hK11 _ _<|wp_region_lit<|sw1 h15 rfl (v:=.agg (Af (woX xs x k1))) (rld h15 rfl rfl (Dp υ27 (s3.get 2 rfl:Blk _ _ _ _) (AZ _ (by first | exact h2 | rfl | (rw [Cp];exact h2) | (rw [AA,Cp];exact h2))))) fun _ h16=>mv h16 rfl fun _ h17=>cl h17 rfl (cF func157) (Bh s3 (PI (woX xs x k1) (x.blk k1) _ (AZ _ (by first | exact h2 | rfl | (rw [Cp];exact h2) | (rw [AA,Cp];exact h2))) (Abl hb ω))) fun _ v1 w4 r1 h18=>?_
  obtain ⟨rfl,s4⟩:=r1
  refine so (wn rfl) fun _ hK12=>QH h18 rfl rfl s4 2 rfl (AZ _ (by first | exact h2 | rfl | (rw [Cp];exact h2) | (rw [AA,Cp];exact h2))) (AZ _ (by first | exact h2 | rfl | (rw [Cp];exact h2) | (rw [AA,Cp];exact h2))) rfl rfl (cs':=[Ab g2 27 ((AD).map Ac),Ab g1 25 (Ah x),Ab g4 27 (((CU (woX xs x k1) (x.blk k1))).map Ac),Ch.many R]) rfl fun _ w5 h19 s5 _=>hK12 _ _ ?_
  refine h19.sn [6,9,8,4,3,2,0,1] rfl fun h20=>hK10 _ _<|wp_region_lit<|bv h20 (z:=ν ((k1+1:Nat):Int)) rfl (ES _ _ _ ω ω ω) fun _ h21=>h21.sk [15,6,8,4,3,2,0,1] rfl fun h22=>mv h22 rfl fun _ h23=>h23.sk [9,6,8,4,3,2,0,1] rfl fun h24=>wpList_nil ?_
  exact hK7 (k1+1) _ _ ⟨h24.subs rfl,(show Sep _ [Ab g2 27 ((AD).map Ac),Ab g1 25 (Ah x),Ab g4 27 ((woX xs x (k1+1)).map Ac),Ch.many R] from s5),ω⟩ ω
 ·skip
  have hp2:¬ ((k1:Int)<4):=(dF hc1)
  refine wcF h11 rfl hc1<|h11.sk [9,8,4,3,2,0,1] rfl fun h25=>wp_exit ?_
  refine hK5 _ _ ?_
  refine sqr fun _ hK13=>sw1 h25 rfl (v:=.agg (Af (woX xs x k1))) (rld h25 rfl rfl (Dp υ27 (s3.get 2 rfl:Blk _ _ _ _) (AZ _ (by first | exact h2 | rfl | (rw [Cp];exact h2) | (rw [AA,Cp];exact h2))))) fun _ h26=>so (wn rfl) fun _ hK14=>QH h26 rfl rfl s3 0 rfl (AZ _ (by first | exact h2 | rfl | (rw [Cp];exact h2) | (rw [AA,Cp];exact h2))) (AZ _ (by first | exact h2 | rfl | (rw [Cp];exact h2) | (rw [AA,Cp];exact h2))) rfl rfl (cs':=[Ab g2 27 (((woX xs x k1)).map Ac),Ab g1 25 (Ah x),Ab g4 27 ((woX xs x k1).map Ac),Ch.many R]) rfl fun _ w6 h27 s6 _=>hK14 _ _ ?_
  refine h27.sn [9,8,4,3,2,0,1] rfl fun h28=>hK13 _ _<|wp_ret ?_
  try simp only [Exit.then,Exit.inBlock]
  refine GV (v:=.agg (Af (woX xs x k1))) (YC h28 rfl rfl (s6.get 0 rfl:Blk _ _ _ _) υ27 (AZ _ (by first | exact h2 | rfl | (rw [Cp];exact h2) | (rw [AA,Cp];exact h2)))) h28.defs ?_
  obtain rfl:k1=4:=ω
  exact ⟨rfl,Sep.tail_un (xs:=[]) (s6.pk [3] rfl)⟩
theorem Ab9 {w:World} {R:List Ch} {mx:Nat} {K:VolK} {ta:Ω} {tc:Nat} {M:MemM} {P:List PtM} {i:Int} {x:InoT} (hS0:Sep w ([Ab mx 99 [π K.tg],txP K ta tc M P]++R)) (hM:M.V.length=23168) (hi:Al M P i=x∧AX M P i=0) (hb:Sk x) :
  CallsR prog 105 #[π mx,ν i] w (fun v w'=>∃ ta' tc',v=ν (LQ M P i)∧Sep w' ([Ab mx 99 [π K.tg],txP K ta' tc' M (PE M P i x)]++R)):=by
 have hS:Sep w [Ab mx 99 [π K.tg],txP K ta tc M P,Ch.many R]:=Sep.tail_many (xs:=[_,_]) hS0;clear hS0
 refine AQ func105 rfl (N:=28) ntmps105 (by show 2≤28;decide) [(0,π mx),(1,ν i)] rfl fun _ h1=>sqr fun _ hK3=>mv h1 rfl fun _ h4=>wpList_nil<|hK3 _ _<|sqr fun _ hK6=>mvs 2 h4 rfl fun _ h9=>cl h9 rfl (cF func8) (AY hS hM hi) fun _ v1 w2 r1 h2=>?_
 obtain ⟨rfl,s1⟩:=r1
 refine mvs 3 h2 rfl fun _ h3=>so (wn rfl) fun _ hK1=>AB h3 rfl rfl rfl rfl (z:=[ν 0,ν 0,ν 0,ν 0,ν 0,ν 0,ν 0,ν 0,ν 0,ν 0,ν 0,ν 0,ν 0,ν 0,ν 0]) (fun _=>rfl) s1 fun _ g1 w3 h5 s2 _ _=>hK1 _ _ ?_
 refine stA h5 s2 0 rfl rfl rfl κ rfl rfl rfl rfl fun _ w4 h6 s3 _=>mv h6 rfl fun _ h7=>h7.sn [6,5,4,0,1] rfl fun h8=>hK6 _ _<|sq fun _ hK2=>sqr fun _ hK4=>mv h8 rfl fun _ h10=>bv h10 (z:=.bool false) rfl (cNe _ _ _ _ rfl) fun _ h11=>h11.sn [14,6,5,4,0,1] rfl fun h12=>hK4 _ _<|wcF h12 rfl rfl ?_
 refine h12.sk [6,5,4,0,1] rfl fun h13=>wp_skip<|hK2 _ _<|sq fun _ hK5=>?_
 have s4:=s3.drew
 refine wp_region_held_drew (S:=fun w'=>Sep w' [Ab g1 25 (Ah x),Ab mx 99 [π K.tg],Ch.many R]) κ (s4.pk [0,1,3] rfl) (fun hq1=>?_)
 refine tv1 hq1 h13 0 rfl rfl (v:=π mx) (fun w1 _=>(Ad h13 rfl rfl) w1) fun _ h14=>?_
 refine tv1 hq1 h14 1 rfl rfl (v:=ν i) (fun w1 _=>(Ad h14 rfl rfl) w1) fun _ h15=>?_
 refine tv1 hq1 h15 2 rfl rfl (v:=.agg (Ah AT).toArray) (fun w1 _=>(Sz h15 (xs:=[]) rfl (vs:=[]) rfl (fun w=>κ)) w1) fun _ h16=>?_
 refine tv1 hq1 h16 4 rfl rfl (v:=π mx) (fun w1 _=>(Ad h16 rfl rfl) w1) fun _ h17=>?_
 refine tv1 hq1 h17 5 rfl rfl (v:=π mx) (fun w1 _=>(Ad h17 rfl rfl) w1) fun _ h18=>?_
 refine tv1 hq1 h18 7 rfl rfl (v:=.agg (Ah x).toArray) (fun w1 hSw=>(rld h18 rfl rfl (ldA υ25 rfl (n:=15) κ (hSw.get 0 rfl:Blk _ _ _ _) rfl rfl))) fun _ h19=>?_
 refine to_ 3 rfl (wn rfl) κ fun _ hK7=>AJ h19 rfl rfl rfl (xs:=[.tmp 16,.tmp 17,.tmp 18]) rfl (cF func9) rfl (vs:=[π mx,ν i,.agg (Ah AT).toArray]) rfl (args:=#[π mx,ν i,.agg (Ah AT).toArray]) rfl (CF (i:=i) (x:=AT) (s4.pk [1,2,0,3] rfl) hM) fun _ v2 w5 r2 h20=>?_
 obtain ⟨tax65,tcx66,rfl,s5⟩:=r2
 refine hK7 _ _ (s5.pk [2,0,3] rfl) fun hq2=>?_
 refine to_ 6 rfl (wn rfl) κ fun _ hK8=>AJ h20 rfl rfl rfl (xs:=[.tmp 21]) rfl (cF func11) rfl (vs:=[π mx]) rfl (args:=#[π mx]) rfl (TK s5 hM) fun _ v3 w6 r3 h21=>?_
 obtain ⟨rfl,s6⟩:=r3
 refine hK8 _ _ (s6.pk [2,0,3] rfl) fun hq3=>?_
 refine to_ 8 rfl (wn rfl) κ fun _ hK9=>AJ h21 rfl rfl rfl (xs:=[.tmp 22,.tmp 23]) rfl (cF func129) rfl (vs:=[.agg (Af (As M (Br M P i AT))),.agg (Ah x).toArray]) rfl (args:=#[.agg (Af (As M (Br M P i AT))),.agg (Ah x).toArray]) rfl (Wh (xs:=(As M (Br M P i AT))) (x:=x) s6 (An _) hb) fun _ v4 w7 r4 h22=>?_
 obtain ⟨rfl,s7⟩:=r4
 refine hK9 _ _ (s7.pk [2,0,3] rfl) fun hq4=>?_
 refine to_ 9 rfl (wn rfl) κ fun _ hK10=>AJ h22 rfl rfl rfl (xs:=[.tmp 20,.tmp 24]) rfl (cF func10) rfl (vs:=[π mx,.agg (Af (woX (As M (Br M P i AT)) x 4))]) rfl (args:=#[π mx,.agg (Af (woX (As M (Br M P i AT)) x 4))]) rfl (Fr (xs:=(woX (As M (Br M P i AT)) x 4)) s7 hM (AZ _ (by rw [Cp];exact An _))) fun _ v5 w8 r5 h23=>?_
 obtain ⟨tax91,tcx92,rfl,s8⟩:=r5
 refine hK10 _ _ (s8.pk [2,0,3] rfl) fun hq5=>?_
 refine to_ 10 rfl (wn rfl) κ fun _ hK11=>CH h23 rfl rfl rfl (E:=31) (xs:=[(0,.tmp 19),(1,.tmp 25)]) rfl (vs:=[(0,ν (Bj M P i AT)),(1,ν (stE M (Br M P i AT) 3 0 16))]) rfl (z:=[ν (Bj M P i AT),ν (stE M (Br M P i AT) 3 0 16)]) (fun _=>κ) s8 fun _ g2 w9 h24 s9 _ _=>?_
 refine hK11 _ _ (s9.pk [3,1,4] rfl) fun hq6=>?_
 refine to_ 11 rfl (wn rfl) κ fun _ hK12=>AJ h24 rfl rfl rfl (xs:=[.tmp 26]) rfl (cF func38) rfl (vs:=[.slice (some ⟨g2,0,none⟩) 2 2]) rfl (args:=#[.slice (some ⟨g2,0,none⟩) 2 2]) rfl (CP (L:=[Bj M P i AT,stE M (Br M P i AT) 3 0 16]) s9 (Nat.le_of_ble_eq_true rfl)) fun _ v6 w10 r6 h25=>?_
 obtain ⟨rfl,s10⟩:=r6
 refine hK12 _ _ (s10.pk [3,1,4] rfl) fun hq7=>h25.sk [27,26,25,24,22,19,23,21,20,18,17,16,6,5,0,1] rfl fun h26=>?_
 refine tv1 hq7 h26 12 rfl rfl (v:=ν (AH [Bj M P i AT,stE M (Br M P i AT) 3 0 16])) (fun w1 _=>(AP h26 rfl rfl) w1) fun _ h27=>?_
 refine h27.sk [4,6,5,0,1] rfl fun h28=>?_
 refine wpAnyH_done κ ?_ _
 refine hK5 _ _ ?_
 refine wp_ret ?_
 try simp only [Exit.then,Exit.inBlock]
 refine Bg (v:=ν (AH [Bj M P i AT,stE M (Br M P i AT) 3 0 16])) (Cl h28 rfl rfl) h28.defs ?_
 exact ⟨tax91,tcx92,rfl,Sep.tail_un (xs:=[_,_]) (s10.pk [1,2,4] rfl)⟩
theorem VP {w:World} {R:List Ch} {mx:Nat} {K:VolK} {ta:Ω} {tc:Nat} {M:MemM} {P:List PtM} {i:Int} {x:InoT} (hS0:Sep w ([Ab mx 99 [π K.tg],txP K ta tc M P]++R)) (hM:M.V.length=23168) (hg:GS x=false) :
  CallsR prog 74 #[π mx,ν i,.agg (Ah x).toArray] w (fun v w'=>∃ ta' tc',v=ν (Bj M P i x)∧Sep w' ([Ab mx 99 [π K.tg],txP K ta' tc' M (Br M P i x)]++R)):=by
 have hS:Sep w [Ab mx 99 [π K.tg],txP K ta tc M P,Ch.many R]:=Sep.tail_many (xs:=[_,_]) hS0;clear hS0
 refine AQ func74 rfl (N:=16) ntmps74 (by show 3≤16;decide) [(0,π mx),(1,ν i),(2,.agg (Ah x).toArray)] rfl fun _ h1=>sqr fun _ hK3=>so (wn rfl) fun _ hK1=>FV h1 rfl rfl rfl rfl rfl (z:=(Ah x)) rfl hS fun _ g4 w7 h5 s8 _ _=>hK1 _ _ ?_
 refine mv h5 rfl fun _ h2=>wpList_nil<|hK3 _ _<|sq fun _ hK2=>sqr fun _ hK4=>sw1 h2 rfl (v:=.agg (Ah x).toArray) (rld h2 rfl rfl (ldA υ25 rfl (n:=15) κ (s8.get 0 rfl:Blk _ _ _ _) rfl rfl)) fun _ h3=>cl h3 rfl (cF func104) (TD s8 hg) fun _ v1 w1 r1 h4=>?_
 obtain ⟨rfl,s1⟩:=r1
 refine h4.sn [8,6,5,0,1,2] rfl fun h6=>hK4 _ _<|wcF h6 rfl rfl<|h6.sk [6,5,0,1,2] rfl fun h7=>wp_skip<|hK2 _ _<|sqr fun _ hK5=>mvs 2 h7 rfl fun _ h8=>sw1 h8 rfl (v:=.agg (Ah x).toArray) (rld h8 rfl rfl (ldA υ25 rfl (n:=15) κ (s1.get 0 rfl:Blk _ _ _ _) rfl rfl)) fun _ h9=>cl h9 rfl (cF func9) (CF (i:=i) (x:=x) (s1.pk [1,2,0,3] rfl) hM) fun _ v2 w2 r2 h10=>?_
 obtain ⟨tax34,tcx35,rfl,s2⟩:=r2
 refine h10.sk [15,14,13,12,5,0,1,2] rfl fun h11=>mv h11 rfl fun _ h12=>h12.sn [6,5,0,1,2] rfl fun h13=>hK5 _ _<|wp_ret ?_
 try simp only [Exit.then,Exit.inBlock]
 refine Bg (v:=ν (Bj M P i x)) (Cl h13 rfl rfl) h13.defs ?_
 exact ⟨tax34,tcx35,rfl,Sep.tail_un (xs:=[_,_]) (s2.pk [0,1,3] rfl)⟩
theorem VO {w:World} {R:List Ch} {mx:Nat} {K:VolK} {ta:Ω} {tc:Nat} {M:MemM} {P:List PtM} {i:Int} {x y:InoT} (hS0:Sep w ([Ab mx 99 [π K.tg],txP K ta tc M P]++R)) (hM:M.V.length=23168) (hg:GS x=true) (hi:Al M P i=y∧AX M P i=0) (hb:Sk y) :
  CallsR prog 74 #[π mx,ν i,.agg (Ah x).toArray] w (fun v w'=>∃ ta' tc',v=ν (LQ M P i)∧Sep w' ([Ab mx 99 [π K.tg],txP K ta' tc' M (PE M P i y)]++R)):=by
 have hS:Sep w [Ab mx 99 [π K.tg],txP K ta tc M P,Ch.many R]:=Sep.tail_many (xs:=[_,_]) hS0;clear hS0
 refine AQ func74 rfl (N:=16) ntmps74 (by show 3≤16;decide) [(0,π mx),(1,ν i),(2,.agg (Ah x).toArray)] rfl fun _ h1=>sqr fun _ hK3=>so (wn rfl) fun _ hK1=>FV h1 rfl rfl rfl rfl rfl (z:=(Ah x)) rfl hS fun _ g4 w7 h5 s8 _ _=>hK1 _ _ ?_
 refine mv h5 rfl fun _ h2=>wpList_nil<|hK3 _ _<|sq fun _ hK2=>sqr fun _ hK4=>sw1 h2 rfl (v:=.agg (Ah x).toArray) (rld h2 rfl rfl (ldA υ25 rfl (n:=15) κ (s8.get 0 rfl:Blk _ _ _ _) rfl rfl)) fun _ h3=>cl h3 rfl (cF func104) (TD s8 hg) fun _ v1 w1 r1 h4=>?_
 obtain ⟨rfl,s1⟩:=r1
 refine h4.sn [8,6,5,0,1,2] rfl fun h6=>hK4 _ _<|wcT h6 rfl rfl<|h6.sk [6,5,0,1,2] rfl fun h7=>sqr fun _ hK5=>mvs 2 h7 rfl fun _ h8=>cl h8 rfl (cF func105) (Ab9 (s1.pk [1,2,0,3] rfl) hM hi hb) fun _ v2 w2 r2 h9=>?_
 obtain ⟨tax32,tcx33,rfl,s2⟩:=r2
 refine h9.sk [11,10,9,5,0,1,2] rfl fun h10=>mv h10 rfl fun _ h11=>h11.sn [6,5,0,1,2] rfl fun h12=>hK5 _ _<|wp_ret ?_
 try simp only [Exit.then,Exit.inBlock]
 refine Bg (v:=ν (LQ M P i)) (Cl h12 rfl rfl) h12.defs ?_
 exact ⟨tax32,tcx33,rfl,Sep.tail_un (xs:=[_,_]) (s2.pk [0,1,3] rfl)⟩
theorem Aco {w:World} {R:List Ch} {mx:Nat} {K:VolK} {ta:Ω} {tc:Nat} {M:MemM} {P:List PtM} {i:Int} {x:InoT} (hS0:Sep w ([Ab mx 99 [π K.tg],txP K ta tc M P]++R)) (hM:M.V.length=23168) (hi:Al M P i=x∧AX M P i=0) (hl:0≤x.l∧x.l≤1000) (hg:GS (KW x)=false) :
  CallsR prog 73 #[π mx,ν i] w (fun v w'=>∃ ta' tc',v=ν (Bj M P i (KW x))∧Sep w' ([Ab mx 99 [π K.tg],txP K ta' tc' M (Br M P i (KW x))]++R)):=by
 have hS:Sep w [Ab mx 99 [π K.tg],txP K ta tc M P,Ch.many R]:=Sep.tail_many (xs:=[_,_]) hS0;clear hS0
 refine AQ func73 rfl (N:=24) ntmps73 (by show 2≤24;decide) [(0,π mx),(1,ν i)] rfl fun _ h1=>sqr fun _ hK3=>mv h1 rfl fun _ h4=>wpList_nil<|hK3 _ _<|sqr fun _ hK6=>mvs 2 h4 rfl fun _ h9=>cl h9 rfl (cF func8) (AY hS hM hi) fun _ v1 w1 r1 h2=>?_
 obtain ⟨rfl,s1⟩:=r1
 refine mvs 3 h2 rfl fun _ h3=>so (wn rfl) fun _ hK1=>AB h3 rfl rfl rfl rfl (z:=[ν 0,ν 0,ν 0,ν 0,ν 0,ν 0,ν 0,ν 0,ν 0,ν 0,ν 0,ν 0,ν 0,ν 0,ν 0]) (fun _=>rfl) s1 fun _ g1 w2 h5 s2 _ _=>hK1 _ _ ?_
 refine stA h5 s2 0 rfl rfl rfl κ rfl rfl rfl rfl fun _ w3 h6 s3 _=>mv h6 rfl fun _ h7=>h7.sn [6,5,4,0,1] rfl fun h8=>hK6 _ _<|sq fun _ hK2=>sqr fun _ hK4=>mv h8 rfl fun _ h10=>bv h10 (z:=.bool false) rfl (cNe _ _ _ _ rfl) fun _ h11=>h11.sn [14,6,5,4,0,1] rfl fun h12=>hK4 _ _<|wcF h12 rfl rfl ?_
 refine h12.sk [6,5,4,0,1] rfl fun h13=>wp_skip<|hK2 _ _<|sqr fun _ hK5=>fav h13 rfl (fQ 1) fun _ h14=>ldv h14 s3 0 υ3 rfl rfl rfl rfl fun _ h15=>bv h15 (z:=ν (x.l-1)) rfl (Pf _ _ _ ω ω ω) fun _ h16=>fav h16 rfl (fQ 1) fun _ h17=>st1 h17 s3 0 rfl rfl κ rfl rfl rfl rfl fun _ w4 h18 s4 _=>h18.sn [6,5,4,0,1] rfl fun h19=>hK5 _ _ ?_
 refine sqr fun _ hK7=>mvs 2 h19 rfl fun _ h20=>sw1 h20 rfl (v:=.agg (Ah (⟨x.k,x.l-1,x.s,x.b0,x.b1,x.b2,x.b3,x.o0,x.o1,x.o2,x.o3,x.o4,x.o5,x.o6,x.o7⟩:InoT)).toArray) (rld h20 rfl rfl (ldA υ25 rfl (n:=15) κ (s4.get 0 rfl:Blk _ _ _ _) rfl rfl)) fun _ h21=>cl h21 rfl (cF func74) (VP (x:=KW x) (s4.pk [1,2,0,3] rfl) hM hg) fun _ v2 w5 r2 h22=>?_
 obtain ⟨tax72,tcx73,rfl,s5⟩:=r2
 refine h22.sk [23,22,21,20,6,5,0,1] rfl fun h23=>mv h23 rfl fun _ h24=>h24.sn [4,6,5,0,1] rfl fun h25=>hK7 _ _<|wp_ret ?_
 try simp only [Exit.then,Exit.inBlock]
 refine Bg (v:=ν (Bj M P i (KW x))) (Cl h25 rfl rfl) h25.defs ?_
 exact ⟨tax72,tcx73,rfl,Sep.tail_un (xs:=[_,_]) (s5.pk [0,1,3] rfl)⟩
theorem Zy {w:World} {R:List Ch} {mx:Nat} {K:VolK} {ta:Ω} {tc:Nat} {M:MemM} {P:List PtM} {i:Int} {x:InoT} (hS0:Sep w ([Ab mx 99 [π K.tg],txP K ta tc M P]++R)) (hM:M.V.length=23168) (hi:Al M P i=x∧AX M P i=0) (ho:x.o0=1) (hg:GS (x.setO 0 (x.o0-1))=true) (hb:Sk x) :
  CallsR prog 37 #[π mx,ν 1,ν i] w (fun v w'=>∃ ta' tc',v=ν (LQ M P i)∧Sep w' ([Ab mx 99 [π K.tg],txP K ta' tc' M (PE M P i x)]++R)):=by
 have hS:Sep w [Ab mx 99 [π K.tg],txP K ta tc M P,Ch.many R]:=Sep.tail_many (xs:=[_,_]) hS0;clear hS0
 refine AQ func37 rfl (N:=42) ntmps37 (by show 3≤42;decide) [(0,π mx),(1,ν 1),(2,ν i)] rfl fun _ h1=>sqr fun _ hK3=>mv h1 rfl fun _ h4=>wpList_nil<|hK3 _ _<|sqr fun _ hK6=>mvs 2 h4 rfl fun _ h9=>cl h9 rfl (cF func8) (AY hS hM hi) fun _ v1 w1 r1 h2=>?_
 obtain ⟨rfl,s1⟩:=r1
 refine mvs 3 h2 rfl fun _ h3=>so (wn rfl) fun _ hK1=>AB h3 rfl rfl rfl rfl (z:=[ν 0,ν 0,ν 0,ν 0,ν 0,ν 0,ν 0,ν 0,ν 0,ν 0,ν 0,ν 0,ν 0,ν 0,ν 0]) (fun _=>rfl) s1 fun _ g1 w2 h5 s2 _ _=>hK1 _ _ ?_
 refine stA h5 s2 0 rfl rfl rfl κ rfl rfl rfl rfl fun _ w3 h6 s3 _=>mv h6 rfl fun _ h7=>h7.sn [8,7,6,0,1,2] rfl fun h8=>hK6 _ _<|sq fun _ hK2=>sqr fun _ hK4=>mv h8 rfl fun _ h10=>bv h10 (z:=.bool false) rfl (cNe _ _ _ _ rfl) fun _ h11=>mv h11 rfl fun _ h12=>sv h12 (wF h12 (E:=false) rfl rfl rfl) rfl rfl rfl (v:=ν 1) (Ad h12 rfl rfl) fun _ h13=>so (wF h13 (E:=false) rfl rfl rfl) fun _ hK5=>AJ h13 rfl rfl rfl (xs:=[.tmp 18]) rfl (cF func69) rfl (vs:=[ν 1]) rfl (args:=#[ν 1]) rfl (LX s3) fun _ v2 w4 r2 h14=>hK5 _ _ ?_
 obtain ⟨rfl,s4⟩:=r2
 refine sv h14 (wF h14 (E:=false) rfl rfl rfl) rfl rfl rfl (v:=.bool false) (Aa8 h14 rfl (b:=true) rfl) fun _ h15=>sv1 h15 rfl (v:=.bool false) (Az h15 rfl rfl rfl) fun _ h16=>mv h16 rfl fun _ h17=>sv h17 (wF h17 (E:=false) rfl rfl rfl) rfl rfl rfl (v:=ν 1) (Ad h17 rfl rfl) fun _ h18=>sv h18 (wF h18 (E:=false) rfl rfl rfl) rfl rfl rfl (v:=ν 0) (Aw h18 rfl rfl rfl (Pf _ _ _ (by decide) (by decide) (by decide))) fun _ h19=>sv h19 (wF h19 (E:=false) rfl rfl rfl) rfl rfl rfl (v:=.pointer (some ⟨g1,7,none⟩)) (rfa h19 rfl rfl (fQ 7)) fun _ h20=>sv h20 (wF h20 (E:=false) rfl rfl rfl) rfl rfl rfl (v:=.pointer (some ⟨g1,7,none⟩)) (BR h20 rfl rfl rfl (fun w=>RU g1 0 ω ω w)) fun _ h21=>sw h21 (wF h21 (E:=false) rfl rfl rfl) rfl rfl rfl (v:=ν x.o0) (rld h21 rfl rfl (ldB υ3 rfl (s4.get 0 rfl:Blk _ _ _ _) rfl)) fun _ h22=>sv h22 (wF h22 (E:=false) rfl rfl rfl) rfl rfl rfl (v:=.bool false) (Aw h22 rfl rfl rfl (cEq _ _ _ _ (decide_eq_false ω))) fun _ h23=>sv1 h23 rfl (v:=.bool false) (Az h23 rfl rfl rfl) fun _ h24=>?_
 refine h24.sn [29,8,7,6,0,1,2] rfl fun h25=>hK4 _ _<|wcF h25 rfl rfl<|h25.sk [8,7,6,0,1,2] rfl fun h26=>wp_skip<|hK2 _ _<|sqr fun _ hK7=>mv h26 rfl fun _ h27=>bv h27 (z:=ν 0) rfl (Pf _ _ _ (by decide) (by decide) (by decide)) fun _ h28=>fav h28 rfl (fQ 7) fun _ h29=>sv1 h29 rfl (v:=.pointer (some ⟨g1,7,none⟩)) (BR h29 rfl rfl rfl (fun w=>RU g1 0 ω ω w)) fun _ h30=>?_
 refine ldv h30 s4 0 υ3 rfl rfl rfl rfl fun _ h31=>bv h31 (z:=ν (x.o0-1)) rfl (Pf _ _ _ ω ω ω) fun _ h32=>fav h32 rfl (fQ 7) fun _ h33=>sv1 h33 rfl (v:=.pointer (some ⟨g1,7,none⟩)) (BR h33 rfl rfl rfl (fun w=>RU g1 0 ω ω w)) fun _ h34=>st1 h34 s4 0 rfl rfl κ rfl rfl rfl rfl fun _ w5 h35 s5 _=>h35.sn [8,7,6,0,1,2] rfl fun h36=>hK7 _ _<|sqr fun _ hK8=>mvs 2 h36 rfl fun _ h37=>sw1 h37 rfl (v:=.agg (Ah (⟨x.k,x.l,x.s,x.b0,x.b1,x.b2,x.b3,x.o0-1,x.o1,x.o2,x.o3,x.o4,x.o5,x.o6,x.o7⟩:InoT)).toArray) (rld h37 rfl rfl (ldA υ25 rfl (n:=15) κ (s5.get 0 rfl:Blk _ _ _ _) rfl rfl)) fun _ h38=>?_
 refine cl h38 rfl (cF func74) (VO (x:=x.setO 0 (x.o0-1)) (s5.pk [1,2,0,3] rfl) hM hg hi hb) fun _ v3 w6 r3 h39=>?_
 obtain ⟨tax111,tcx112,rfl,s6⟩:=r3
 refine h39.sk [41,40,39,38,8,7,0,1,2] rfl fun h40=>mv h40 rfl fun _ h41=>h41.sn [6,8,7,0,1,2] rfl fun h42=>hK8 _ _<|wp_ret ?_
 try simp only [Exit.then,Exit.inBlock]
 refine Bg (v:=ν (LQ M P i)) (Cl h42 rfl rfl) h42.defs ?_
 exact ⟨tax111,tcx112,rfl,Sep.tail_un (xs:=[_,_]) (s6.pk [0,1,3] rfl)⟩
end
section
def Wu (x y:PartT):Bool:=(decide (x.k=y.k)&&decide (x.n=y.n))||decide (x.a+x.s≤y.a)||decide (y.a+y.s≤x.a)
theorem OO:(BD.all fun x=>BD.all fun y=>Wu x y)=true:=by decide +kernel
theorem Sw:(BD.all fun x=>decide (x.k=5)||decide (x.k=6)||decide (x.s=64))=true:=by decide +kernel
theorem Vu:(BD.all fun x=>decide (x.k=5)||decide (x.a+x.s≤2688)||decide (6784≤x.a))=true:=by decide +kernel
theorem Kf {kd nm:Int} {q:PartT} (h:BJ kd nm=some q):q∈BD∧q.k=kd∧q.n=nm:=by
  have h2:=List.find?_some h
  unfold Ace at h2
  refine ⟨List.mem_of_find?_eq_some h,?_⟩
  simpa using h2
theorem Rv {kd nm kd' nm':Int} {q q':PartT} (h:BJ kd nm=some q) (h':BJ kd' nm'=some q') (hne:¬ (kd=kd'∧nm=nm')):q.a+q.s≤q'.a∨q'.a+q'.s≤q.a:=by
  have k:=Kf h
  have k':=Kf h'
  have z:=List.all_eq_true.1 (List.all_eq_true.1 OO q k.1) q' k'.1
  unfold Wu at z
  simp only [Bool.or_eq_true,Bool.and_eq_true,decide_eq_true_eq] at z
  rcases z with (z | z) | z
  · exact absurd ⟨k.2.1.symm.trans (z.1.trans k'.2.1),k.2.2.symm.trans (z.2.trans k'.2.2)⟩ hne
  · exact .inl z
  · exact .inr z
theorem Tz {kd nm:Int} {q:PartT} (h:BJ kd nm=some q) (h5:kd≠5) (h6:kd≠6):q.s=64:=by
  have k:=Kf h
  have z:=List.all_eq_true.1 Sw q k.1
  simp only [Bool.or_eq_true,decide_eq_true_eq,k.2.1,h5,h6,false_or] at z
  exact z
theorem Xd {kd nm:Int} {q:PartT} (h:BJ kd nm=some q) (h5:kd≠5):q.a+q.s≤2688∨6784≤q.a:=by
  have k:=Kf h
  have z:=List.all_eq_true.1 Vu q k.1
  simp only [Bool.or_eq_true,decide_eq_true_eq,k.2.1,h5,false_or] at z
  exact z
theorem GG {at_:Int} {b:Λ} {p:PtM} (h:p.at_+p.d.length≤at_∨at_+b.length≤p.at_):JA at_ b p=b:=by
  refine CO (CY _ _ _) fun i hi=>?_
  rw [Hs hi,if_neg ω]
theorem Sm {at_:Int} {b xs:Λ} (h:xs.length≤b.length):JA at_ b ⟨at_,xs⟩=xs++b.drop xs.length:=by
  refine CO (by rw [CY,List.length_append,List.length_drop];omega) fun i hi=>?_
  rw [List.length_append,List.length_drop] at hi
  have hi:i<b.length:=ω
  rw [Hs hi]
  dsimp only
  simp only [List.getD_eq_getElem?_getD]
  by_cases hc:i<xs.length
  · rw [if_pos ω,List.getElem?_append_left hc,show (at_+(i:Int)-at_).toNat=i by omega]
  · rw [if_neg ω,List.getElem?_append_right ω,List.getElem?_drop,show xs.length+(i-xs.length)=i by omega]
abbrev LC (V:Λ) (at_ n:Int):Λ:=(V.drop at_.toNat).take n.toNat
theorem LD {V:Λ} {at_ n:Int} (h:0≤at_∧0≤n∧at_+n≤V.length):((LC V at_ n).length:Int)=n:=by rw [List.length_take,List.length_drop];omega
theorem Lf {V:Λ} {p:PtM} {at_ n:Int} (hp:0≤p.at_∧p.at_+p.d.length≤V.length) (h:0≤at_∧0≤n∧at_+n≤V.length):LC (stV V p) at_ n=JA at_ (LC V at_ n) p:=by
  have l1:=LD h
  have l2:((LC (stV V p) at_ n).length:Int)=n:=LD (by rw [CR];exact h)
  refine CO (by rw [CY];omega) fun i hi=>?_
  rw [CY] at hi
  rw [Hs hi]
  have e1:(LC (stV V p) at_ n).getD i 0=(stV V p).getD (at_.toNat+i) 0:=by
    simp only [List.getD_eq_getElem?_getD,List.getElem?_take,List.getElem?_drop];rw [if_pos ω]
  have e2:(LC V at_ n).getD i 0=V.getD (at_.toNat+i) 0:=by
    simp only [List.getD_eq_getElem?_getD,List.getElem?_take,List.getElem?_drop];rw [if_pos ω]
  rw [e1,e2]
  unfold stV
  rw [if_pos hp,FB _ _ _ ω]
  by_cases hc:p.at_≤at_+(i:Int)∧at_+(i:Int)<p.at_+p.d.length
  · rw [if_pos ω,if_pos hc,show (at_+(i:Int)-p.at_).toNat=at_.toNat+i-p.at_.toNat by omega]
  · rw [if_neg ω,if_neg hc]
theorem Ps:∀ {P:List PtM} {V:Λ} {at_ n:Int} (_:∀ p∈P,0≤p.at_∧p.at_+p.d.length≤V.length) (_:0≤at_∧0≤n∧at_+n≤V.length),LC (P.foldl stV V) at_ n=ovl at_ (LC V at_ n) P
  | [],_,_,_,_,_=>rfl
  | p::P,V,at_,n,hp,h=>by
    rw [List.foldl_cons,Ps (fun q hq=>by rw [CR];exact hp q (List.mem_cons_of_mem _ hq)) (by rw [CR];exact h),Lf (hp p List.mem_cons_self) h]
    rfl
theorem Tq:∀ (L:List PtM) (b:Λ),(∀ p∈L,p.d.length≤64)→(L.foldl EN b).length≤b.length+70*L.length
  | [],b,_=>by simp
  | p::L,b,h=>by
    have ih:=Tq L (EN b p) (fun q hq=>h q (List.mem_cons_of_mem _ hq))
    have h1:(Av (Av b p.at_ 4) p.d.length 2).length≤(Av b p.at_ 4).length+2:=Cg _ _ 2
    have h2:(Av b p.at_ 4).length≤b.length+4:=Cg _ _ 4
    have h3:=h p List.mem_cons_self
    have h4:(EN b p).length≤b.length+70:=by unfold EN;rw [List.length_append];omega
    rw [List.foldl_cons,List.length_cons]
    omega
theorem ZC {L:List PtM} (h:∀ p∈L,p.d.length≤64):(Cq L).length≤70*L.length+13:=by
  unfold Cq;split
  · unfold TZ
    have h1:=Tq L (Av [] L.length 2) h
    have h2:(Av [] L.length 2).length≤0+2:=Cg _ _ 2
    have h4:BA (ML (DM L)).length≤7:=by unfold BA;omega
    have h5:(ML (DM L)).length≤(DM L).length+4:=Cg _ _ 4
    have h6:(DM L).length≤2+70*L.length:=by unfold DM;omega
    rw [List.length_append,List.length_replicate];omega
  · simp
theorem Aap {p:PtM} (h:0≤p.at_∧p.at_≤23168) (hd:p.d.length≤256):GE p=true:=by
  have hf:Bq p.at_ 4=true:=by
    unfold Bq
    rw [if_neg (by decide),if_neg (by decide),if_pos rfl,decide_eq_true ω,decide_eq_true ω];rfl
  unfold GE
  rw [hf,decide_eq_true hd];rfl
def QU (M:MemM) (P:List PtM) (kd nm:Int):Λ:=if kd=3∨kd=4∨kd=7 then BE M P kd nm else []
structure Vol (M:MemM) (P:List PtM) (s:Int→Int→Λ) (n:Nat):Prop where
  m:M.V.length=23168
  r:CB M.V 2688 4096=([],0)
  k:∀ p∈P,0≤p.at_∧p.at_+p.d.length≤23168
  l:P.length=n
  d:∀ p∈P,p.d.length≤64
  s:QU M P=s
def BF (s:Int→Int→Λ) (kd nm:Int) (xs:Λ):Int→Int→Λ:=fun a b=>if a=kd∧b=nm then xs++(s kd nm).drop xs.length else s a b
section
variable {M:MemM} {P:List PtM} {s:Int→Int→Λ} {n:Nat}
theorem YQ {kd nm:Int} {q:PartT} {xs:Λ} (hm:M.V.length=23168) (h:BJ kd nm=some q) (hx:(xs.length:Int)≤q.s) (h64:xs.length≤64) (hn:P.length<64):stE M P kd nm xs.length=0∧stP M P kd nm xs=P++[⟨q.a,xs⟩]:=by
  have hi:=ET h
  have ho:okT M P q.a xs.length=true:=by unfold okT;rw [decide_eq_true_iff];omega
  unfold stE stP;rw [h];dsimp only
  unfold Ov Mz;rw [if_pos ho,if_pos ho];exact ⟨rfl,rfl⟩
theorem Ua {kd nm kd' nm':Int} {q:PartT} {xs:Λ} (hm:M.V.length=23168) (h:BJ kd nm=some q) (hx:(xs.length:Int)≤q.s):BE M (P++[⟨q.a,xs⟩]) kd' nm'=if kd'=kd∧nm'=nm then xs++(BE M P kd nm).drop xs.length else BE M P kd' nm':=by
  cases h':BJ kd' nm' with
  | none=>
    rw [Da h',Da h']
    split
    · next e=>rw [e.1,e.2,h] at h';cases h'
    · rfl
  | some q'=>
    have l:=SM (P:=P) (PN hm h')
    have hi:=ET h'
    rw [Db h',Db h',Db h]
    show ovl _ _ (P++_)=_
    rw [Qd]
    split
    · next e=>
      rw [e.1,e.2,h] at h'
      cases h'
      exact Sm (by show xs.length≤(Fq M P q.a q.s).length;omega)
    · next e=>
      have z:=Rv h h' (fun e'=>e ⟨e'.1.symm,e'.2.symm⟩)
      exact GG (by show q.a+(xs.length:Int)≤_∨q'.a+((Fq M P q'.a q'.s).length:Int)≤q.a;omega)
theorem Vol.put (V:Vol M P s n) {kd nm:Int} {q:PartT} {xs:Λ} (h:BJ kd nm=some q) (hk:kd=3∨kd=4∨kd=7) (hx:xs.length≤64) (hn:n<64):stE M P kd nm xs.length=0∧Vol M (stP M P kd nm xs) (BF s kd nm xs) (n+1):=by
  have h64:=Tz h ω ω
  have hi:=ET h
  have z:=YQ V.m h (xs:=xs) (P:=P) ω hx (by have:=V.l;omega)
  refine ⟨z.1,?_⟩
  rw [z.2]
  refine ⟨V.m,V.r,fun p hp=>?_,by rw [List.length_append,V.l];rfl,fun p hp=>?_,?_⟩
  · rcases List.mem_append.1 hp with hp | hp
    · exact V.k p hp
    · rw [List.mem_singleton.1 hp];dsimp only;omega
  · rcases List.mem_append.1 hp with hp | hp
    · exact V.d p hp
    · rw [List.mem_singleton.1 hp];exact hx
  · rw [← V.s]
    funext a b
    unfold QU BF
    dsimp only
    by_cases ha:a=3∨a=4∨a=7
    · rw [if_pos ha,Ua V.m h ω,if_pos ha,if_pos hk]
    · rw [if_neg ha,if_neg ha,if_neg (fun (e:a=kd∧b=nm)=>ha (e.1 ▸ hk))]
theorem Vol.put2 (V:Vol M P s n) {kd nm:Int} {q:PartT} {xs:Λ} (h:BJ kd nm=some q) (hk:¬ (kd=3∨kd=4∨kd=7)) (hx:(xs.length:Int)≤q.s) (hx2:xs.length≤64) (hn:n<64):stE M P kd nm xs.length=0∧Vol M (stP M P kd nm xs) s (n+1):=by
  have hi:=ET h
  have z:=YQ V.m h (xs:=xs) (P:=P) ω hx2 (by have:=V.l;omega)
  refine ⟨z.1,?_⟩
  rw [z.2]
  refine ⟨V.m,V.r,fun p hp=>?_,by rw [List.length_append,V.l];rfl,fun p hp=>?_,?_⟩
  · rcases List.mem_append.1 hp with hp | hp
    · exact V.k p hp
    · rw [List.mem_singleton.1 hp];dsimp only;omega
  · rcases List.mem_append.1 hp with hp | hp
    · exact V.d p hp
    · rw [List.mem_singleton.1 hp];exact hx2
  · rw [← V.s]
    funext a b
    unfold QU
    by_cases ha:a=3∨a=4∨a=7
    · rw [if_pos ha,Ua V.m h hx,if_neg (fun (e:a=kd∧b=nm)=>hk (e.1 ▸ ha)),if_pos ha]
    · rw [if_neg ha,if_neg ha]
theorem Vol.com (V:Vol M P s n) (hn:n≤50):cmE M P=0∧cmP M P=[]∧Vol (cmM M P) [] s 0:=by
  by_cases h0:P=[]
  · subst h0
    refine ⟨rfl,rfl,?_⟩
    have e:cmM M []=M:=rfl
    rw [e]
    exact ⟨V.m,V.r,V.k,rfl,V.d,V.s⟩
  · have ok:LogOk 2688 4096 M:=⟨ω,ω,by have:=V.m;omega,by have:=V.m;omega⟩
    have hl:=ZC V.d
    have hE:Dk P=true:=by
      unfold Dk
      rw [decide_eq_true (by have:=V.l;omega),List.all_eq_true.2 fun p hp=>Aap (by have:=V.k p hp;omega) (by have:=V.d p hp;omega)];rfl
    have eE:It P=0:=by unfold It;rw [if_pos hE]
    have hP:=V.l
    have ap:Ei M 2688 4096 P=0:=by unfold Ei;rw [if_pos eE,V.r];exact if_neg (by show ¬ (4096-8<0+_);omega)
    have eM:cmM M P=Fm (DL M 2688 4096 P) 2688 4096:=by unfold cmM;rw [if_neg h0,if_pos ap]
    have lR:CB (DL M 2688 4096 P).V 2688 4096=([P],0+(Cq P).length):=by
      rw [XJ ok,if_pos ap,V.r];rfl
    have okA:=NL ok P
    refine ⟨by unfold cmE;rw [if_neg h0,ap],by unfold cmP;rw [if_neg h0,if_pos ap],?_⟩
    rw [eM]
    refine ⟨by rw [Kt,Jf];exact V.m,UY okA,fun p hp=>(by cases hp),rfl,fun p hp=>(by cases hp),?_⟩
    rw [← V.s]
    funext a b
    unfold QU
    split
    · next ha=>
      cases hf:BJ a b with
      | none=>rw [Da hf,Da hf]
      | some q=>
        have hi:=ET hf
        have hg:=Xd hf ω
        have hA:DL M 2688 4096 P=Gp (Dd M [⟨((2688+8+0:Nat):Int),Cq P⟩]) 2688 ((0+(Cq P).length:Nat):Int):=by
          unfold DL;rw [if_pos ⟨eE,by rw [V.r];show ¬ (4096-8<0+_);omega⟩,V.r]
        have l8:∀ z:Int,(Av [] z 8).length≤8:=fun z=>Nat.le_trans (Cg [] z 8) (by simp)
        rw [Db hf,Db hf]
        show LC (Fm (DL M 2688 4096 P) 2688 4096).V q.a q.s=ovl q.a (LC M.V q.a q.s) P
        have eV:(Fm (DL M 2688 4096 P) 2688 4096).V=stV (P.foldl stV (stV (stV M.V ⟨((2688+8+0:Nat):Int),Cq P⟩) ⟨((2688:Nat):Int),Av [] ((0+(Cq P).length:Nat):Int) 8⟩)) ⟨((2688:Nat):Int),Av [] 0 8⟩:=by
          unfold Fm;rw [lR];unfold Gp;rw [Fw,Fw,hA];unfold Gp;rw [Fw,Fw]
          simp
        have m:=V.m
        have b1:=l8 ((0+(Cq P).length:Nat):Int)
        have b2:=l8 0
        rw [eV,Lf (by rw [Kg,CR,CR,m];dsimp only;omega) (by rw [Kg,CR,CR,m];omega),
          Ps (by rw [CR,CR,m];exact V.k) (by rw [CR,CR,m];omega),
          Lf (by rw [CR,m];dsimp only;omega) (by rw [CR,m];omega),Lf (by rw [m];dsimp only;omega) (by rw [m];omega)]
        have lc:((LC M.V q.a q.s).length:Int)=q.s:=LD (by rw [m];omega)
        rw [GG (p:=⟨((2688:Nat):Int),Av [] 0 8⟩) (by rw [GH,CY,CY];dsimp only;omega)]
        rw [GG (p:=⟨((2688:Nat):Int),Av [] ((0+(Cq P).length:Nat):Int) 8⟩) (by rw [CY];dsimp only;omega)]
        rw [GG (p:=⟨((2688+8+0:Nat):Int),Cq P⟩) (by dsimp only;omega)]
    · rfl
end
end
section
abbrev CS:=Int→Int→Λ
def CL (s:CS) (i:Int):InoT:=rdI (s 4 i)
def CK (s:CS) (i:Int):Int:=if DO 4 i then (if rdE (s 4 i)=0 then 0 else 36) else 1
def Ju (s:CS):Λ:=FG (s 3 0)
def EY (s:CS) (x:InoT):Nat→List EntT×Int
  | 0=>(Bf,0)
  | k+1=>if (EY s x k).2=0 then (if x.blk k=0 then EY s x k else Fl (EY s x k).1 k (s 7 (x.blk k))) else EY s x k
def Dx (s:CS) (i:Int):List EntT:=
  if CK s i≠0 then Bf else if (CL s i).k≠2 then Bf else if (EY s (CL s i) 4).2=0 then (EY s (CL s i) 4).1 else Bf
def GM (s:CS) (i:Int):Int:=
  if CK s i≠0 then CK s i else if (CL s i).k≠2 then 12 else if (EY s (CL s i) 4).2=0 then 0 else 36
section
variable {M:MemM} {P:List PtM} {s:CS} {n:Nat}
theorem Dy (V:Vol M P s n) (i:Int):Al M P i=CL s i:=by rw [← V.s];rfl
theorem CV (V:Vol M P s n) (i:Int):AX M P i=CK s i:=by rw [← V.s];rfl
theorem Mc (V:Vol M P s n):As M P=Ju s:=by rw [← V.s];rfl
theorem MV (V:Vol M P s n) (x:InoT):∀ k,BH M P x k=EY s x k
  | 0=>rfl
  | k+1=>by
    have e:BE M P 7 (x.blk k)=s 7 (x.blk k):=by rw [← V.s];rfl
    unfold BH EY;rw [MV V x k,e]
theorem QO (V:Vol M P s n) (i:Int):Ar M P i=Dx s i:=by unfold Ar Dx;rw [CV V,Dy V,MV V]
theorem QN (V:Vol M P s n) (i:Int):BM M P i=GM s i:=by unfold BM GM;rw [CV V,Dy V,MV V]
theorem EF (V:Vol M P s n) {i:Int} {q:PartT} {x:InoT} {ob:Λ} (hq:BJ 4 i=some q) (hE:Dg x=0) (hL:Cc x=ob) (hl:ob.length≤64) (hn:n<64):Bj M P i x=0∧Vol M (Br M P i x) (BF s 4 i ob) (n+1):=by
  unfold Bj Br
  rw [if_pos hE,if_pos hE,hL]
  exact V.put hq (.inr (.inl rfl)) hl hn
theorem XQ:BJ 3 0=some ⟨3,0,576,64⟩:=κ
theorem Hy (V:Vol M P s n) {xs:Λ} (hl:xs.length=16) (hn:n<64):stE M P 3 0 16=0∧Vol M (stP M P 3 0 xs) (BF s 3 0 xs) (n+1):=by
  have z:=V.put (xs:=xs) XQ (.inl rfl) ω hn
  rw [hl] at z;exact z
theorem Uv (V:Vol M P s n) {ms:Λ} {b sp:Int} {q:PartT} (hm:Ju s=ms) (hf:Au ms 1=b) (hr:¬ 128-((Ee ms 128).length:Int)≤max sp 0) (hq:BJ 7 b=some q) (hn:n<63) :
    bN M P sp=b∧bE M P sp=0∧Vol M (bP M P sp) (BF (BF s 3 0 (Bm ms b)) 7 b (List.replicate 64 0)) (n+2):=by
  have em:As M P=ms:=(Mc V).trans hm
  have hr':¬ Dn M P sp:=by unfold Dn;rw [em];exact hr
  have eb:Pg M P=b:=by unfold Pg;rw [em];exact hf
  have z:=Hy V (xs:=Bm ms b) (by rw [Am,← em];exact An _) ω
  have e1:Nu M P=stP M P 3 0 (Bm ms b):=by unfold Nu;rw [em,eb]
  have z2:=z.2.put (xs:=List.replicate 64 0) hq (.inr (.inr rfl)) (by simp) ω
  have eE:Ut M P=0:=by unfold Ut;rw [e1,eb,z.1,show 64=(List.replicate 64 (0:UInt8)).length from rfl,z2.1];rfl
  refine ⟨by unfold bN;rw [if_neg hr',if_pos eE,eb],by unfold bE;rw [if_neg hr',eE],?_⟩
  have e2:bP M P sp=stP M (stP M P 3 0 (Bm ms b)) 7 b (List.replicate 64 0):=by unfold bP;rw [if_neg hr'];unfold Adz;rw [e1,eb]
  rw [e2];exact z2.2
theorem ZE (V:Vol M P s n) {p:Int} {x:InoT} {j:Nat} {bs rb:Λ} {q q2:PartT} (hq:BJ 7 (x.blk (j / 4))=some q) (hb:bs.length≤64) (hq2:BJ 4 p=some q2) (hE:Dg x=0) (hL:Cc x=rb) (hl:rb.length≤64) (hn:n<63) :
    UI M P p x j bs=0∧Vol M (WW M P p x j bs) (BF (BF s 7 (x.blk (j / 4)) bs) 4 p rb) (n+2):=by
  have z:=V.put hq (.inr (.inr rfl)) hb ω
  have z2:=EF z.2 hq2 hE hL hl ω
  exact ⟨by unfold UI;rw [z.1,z2.1];rfl,z2.2⟩
end
def Pe (s:CS):List ByteArray→Int→Int×Int
  | [],i=>(i,0)
  | x::L,i=>
    if GM s i≠0 then (0,GM s i)
    else if AW (Dx s i) x<0 then (0,10)
    else
      if CK s ((Dx s i).getD (AW (Dx s i) x).toNat BP).ino≠0∨(CL s ((Dx s i).getD (AW (Dx s i) x).toNat BP).ino).k=0 then (0,36)
      else Pe s L ((Dx s i).getD (AW (Dx s i) x).toNat BP).ino
def FU (s:CS) (L:List ByteArray):Int×Int:=if CK s 1≠0 then (0,CK s 1) else Pe s L 1
section
variable {M:MemM} {P:List PtM} {s:CS} {n:Nat}
theorem Ug (V:Vol M P s n):∀ (L:List ByteArray) (i:Int),Ed M P L i=Pe s L i
  | [],i=>rfl
  | x::L,i=>by unfold Ed Pe;rw [QN V,QO V,CV V,Dy V,Ug V L]
theorem Uh (V:Vol M P s n) (L:List ByteArray):Be M P L=FU s L:=by unfold Be FU;rw [CV V,Ug V]
theorem Yc (V:Vol M P s n) {k:Nat} (hk:k<32) (h:∀ j:Nat,j<k→¬ (CK s ((j:Int)+1)=0∧(CL s ((j:Int)+1)).k=0)) (ok:CK s ((k:Int)+1)=0∧(CL s ((k:Int)+1)).k=0):Hq M P=((k:Int)+1,0):=
  NN hk (fun j hj=>by rw [CV V,Dy V];exact h j hj) (by rw [CV V,Dy V];exact ok)
theorem Abo (V:Vol M P s n) {i:Int} {x:InoT} {t:List EntT} (h1:GM s i=0) (h2:CK s i=0) (hx:CL s i=x) (ht:Dx s i=t):Pu M P i=0∧Bz M P i=x∧He M P i=t:=by
  have hn:¬ BM M P i≠0:=by rw [QN V,h1];decide
  refine ⟨?_,?_,?_⟩
  · unfold Pu;rw [if_neg hn,CV V,h2]
  · unfold Bz;rw [if_neg hn,Dy V,hx]
  · unfold He;rw [if_neg hn,QO V,ht]
end
end
section
def s0S:CS:=fun kd nm=>if (kd=3∨kd=4∨kd=7)∧DO kd nm=true then Dl else []
theorem Sf:(GD 23168).V=List.replicate 23168 0:=rfl
theorem Hp:(GD 23168).V.length=23168:=by rw [Sf,List.length_replicate]
theorem WU:Hf (GD 23168).V 2688 4096=0:=by
  refine Tu (n:=0) ?_ (Nat.zero_le _) ω
  rw [Sf,List.drop_replicate,List.take_replicate];rfl
theorem Afd:Vol (GD 23168) [] s0S 0:=by
  refine ⟨Hp,?_,fun p hp=>(by cases hp),rfl,fun p hp=>(by cases hp),?_⟩
  · unfold CB Ff
    rw [WU,List.take_zero,NU]
  · funext a b
    unfold QU s0S
    by_cases ha:a=3∨a=4∨a=7
    · rw [if_pos ha]
      cases hf:BJ a b with
      | none=>rw [Da hf,if_neg (fun e=>by unfold DO at e;rw [hf] at e;cases e.2)]
      | some q=>
        have hi:=ET hf
        have h64:=Tz hf ω ω
        rw [Db hf,if_pos ⟨ha,by unfold DO;rw [hf];rfl⟩]
        show ((GD 23168).V.drop _).take _=_
        rw [Sf,List.drop_replicate,List.take_replicate,h64]
        unfold Dl;congr 1;show min (64:Int).toNat _=64
        have:(64:Int).toNat=64:=rfl
        omega
    · rw [if_neg ha,if_neg (fun e=>ha e.1)]
theorem Oi {s:CS} {kd nm:Int} {xs:Λ} (h:xs++(s kd nm).drop xs.length=s kd nm):BF s kd nm xs=s:=by
  funext a b
  unfold BF
  split
  · next e=>rw [e.1,e.2];exact h
  · rfl
def NW:Λ:=2::1::(List.replicate 58 0++[166,151,136,35])
def sAS:CS:=BF s0S 4 1 NW
theorem Gm:Dg GW=0∧Cc GW=NW:=⟨by decide +kernel,by decide +kernel⟩
theorem Acd:∀ j:Fin 32,DO 4 (((j.val+1:Nat)):Int)=true:=by decide +kernel
theorem Afx:∀ j:Fin 8,DO 2 (((j.val+1:Nat)):Int)=true∧DO 6 (((j.val+1:Nat)):Int)=true:=by decide +kernel
theorem Aga:∀ j:Fin 31,sAS 4 ((((j.val+1)+1:Nat)):Int)=Dl:=by decide +kernel
theorem Age:(BD.all fun x=>!decide (x.k=2∨x.k=6∨x.k=1)||decide (64≤x.s))=true:=by decide +kernel
theorem Ox {kd nm:Int} {q:PartT} (h:BJ kd nm=some q) (hk:kd=2∨kd=6∨kd=1):64≤q.s:=by
  have k:=Kf h
  have z:=List.all_eq_true.1 Age q k.1
  rw [decide_eq_true (by rw [k.2.1];exact hk)] at z
  exact of_decide_eq_true (by simpa using z)
section
variable {M:MemM}
theorem TC (V:Vol M [] s0S 0):∀ k,k≤31→Oz M [] (k+1)=0∧Vol M (DN M [] (k+1)) sAS (k+1)
  | 0,_=>by
    obtain ⟨q,hq⟩:=Ca (Acd 0)
    rw [(Xh rfl).1,(Xh rfl).2]
    exact EF V hq Gm.1 Gm.2 (by decide) ω
  | k+1,hk=>by
    have ih:=TC V k ω
    obtain ⟨q,hq⟩:=Ca (Acd ⟨k+1,ω⟩)
    have z:=EF ih.2 hq Yq Ac7 (by decide) ω
    rw [(Xi ω).1,(Xi ω).2,ih.1]
    refine ⟨by rw [z.1];rfl,?_⟩
    have e:BF sAS 4 ((k+1+1:Nat):Int) Dl=sAS:=Oi (by rw [Aga ⟨k,ω⟩];decide)
    rw [← e];exact z.2
theorem Od:Bc.length=64:=by decide +kernel
theorem NF:Eg.length=64:=by decide +kernel
theorem OE (V:Vol M [] s0S 0):∀ k,k≤8→UW M [] k=0∧Vol M (DP M [] k) sAS (34+2*k)
  | 0,_=>by
    have z:=TC V 31 (Nat.le_refl _)
    have z2:=Hy z.2 (xs:=AD) rfl ω
    have e:BF sAS 3 0 AD=sAS:=Oi (by decide +kernel)
    rw [e] at z2
    obtain ⟨q,hq⟩:=Ca (show DO 1 0=true by decide +kernel)
    have z3:=z2.2.put2 (xs:=Eg) hq (by decide) (by rw [NF];have:=Ox hq (by decide);omega) (by rw [NF];omega) ω
    refine ⟨?_,z3.2⟩
    unfold UW;rw [z.1,z2.1]
    show AH [AH [0,0],0,0,stE M (stP M (DN M [] 32) 3 0 AD) 1 0 Eg.length]=0
    rw [z3.1];rfl
  | k+1,hk=>by
    have ih:=OE V k ω
    obtain ⟨h2,h6⟩:=Afx ⟨k,ω⟩
    obtain ⟨q,hq⟩:=Ca h2
    obtain ⟨q6,hq6⟩:=Ca h6
    have z:=ih.2.put2 (xs:=Bc) hq (by decide) (by rw [Od];have:=Ox hq (by decide);omega) (by rw [Od];omega) ω
    have z2:=z.2.put2 (xs:=List.replicate 8 0) hq6 (by decide) (by have:=Ox hq6 (by decide);simp;omega) (by simp) ω
    refine ⟨?_,z2.2⟩
    unfold UW;rw [ih.1,z.1,z2.1];rfl
end
end
section
abbrev mtC (mx:Nat) (K:VolK):Ch:=Ab mx 99 [π K.tg]
abbrev opX:InoT:=⟨1,1,0,0,0,0,0,1,0,0,0,0,0,0,0⟩
section
variable {M:MemM} {P:List PtM} {s:CS} {c:Nat}
theorem Lq (V:Vol M P s c) {X:Λ} {L:List ByteArray} {a b:Int} (hp:BX X=some L) (hw:FU s L=(a,b)):AO M P X=(a,b):=by
  unfold AO;rw [hp];exact (Uh V _).trans hw
theorem Aam (V:Vol M P s c) {X:Λ} {L:List ByteArray} (hp:BX X=some L) (hw:FU s L=(0,10)):ER M P X=(0,AT,10):=by
  unfold ER;rw [Lq V hp hw];rfl
theorem TO (V:Vol M P s c) {X:Λ} {L:List ByteArray} {i:Int} {x:InoT} (hp:BX X=some L) (hw:FU s L=(i,0)) (he:CK s i=0) (hx:CL s i=x):ER M P X=(i,x,0):=by
  unfold ER;rw [Lq V hp hw]
  dsimp only
  rw [if_neg (by show ¬ (0:Int)≠0;decide),if_neg (by rw [CV V,he];decide),Dy V,hx]
theorem Ms (V:Vol M P s c) {X:Λ} {A:List ByteArray} {nm:ByteArray} {p:Int} (hp:BX X=some (A++[nm])) (ha:FU s A=(p,0)) (h1:CK s p=0) (h2:(CL s p).k=2):En M P X=(p,nm,0):=by
  have e:Be M P A=(p,0):=(Uh V _).trans ha
  rw [FF hp,e,if_neg (by show ¬ (0:Int)≠0;decide),if_neg (by show ¬ AX M P p≠0;rw [CV V,h1];decide),if_neg (by show ¬ (Al M P p).k≠2;rw [Dy V,h2];decide)]
theorem TI {X:Λ} {A:List ByteArray} {nm:ByteArray} (hp:BX X=some (A++[nm])):(FD X).isSome=true:=by
  unfold FD;rw [hp];show ((A++[nm]).getLast?).isSome=true;rw [List.getLast?_concat];rfl
structure NewS (s:CS) (X:Λ) (A:List ByteArray) (nm:ByteArray) (p:Int) (xx:InoT) (ob:Λ) (k j:Nat) (x:InoT) (t:List EntT) (bs rb:Λ) (y:InoT) (b:Int):Prop where
  hX:X.length≤1000
  hp:BX X=some (A++[nm])
  hw:FU s (A++[nm])=(0,10)
  ha:FU s A=(p,0)
  hi:CK s p=0∧(CL s p).k=2
  h32:k<32
  kn:∀ j:Nat,j<k→¬ (CK s ((j:Int)+1)=0∧(CL s ((j:Int)+1)).k=0)
  ko:CK s ((k:Int)+1)=0∧(CL s ((k:Int)+1)).k=0
  hk:DO 4 ((k:Int)+1)=true
  hs:nm.size≤1000
  te:GM (BF s 4 ((k:Int)+1) ob) p=0
  ie:CK (BF s 4 ((k:Int)+1) ob) p=0
  ex:CL (BF s 4 ((k:Int)+1) ob) p=x
  et:Dx (BF s 4 ((k:Int)+1) ob) p=t
  xs:0≤x.s∧x.s≤1000
  hj:j<16
  pl:FS t nm=(j:Int)
  hu:Gs (EM t (j:Int) ⟨nm,(k:Int)+1⟩) ((j / 4:Nat):Int)=true
  hbf:IH (EM t (j:Int) ⟨nm,(k:Int)+1⟩) ((j / 4:Nat):Int)=some bs
  bl:bs.length≤64
  hx:Dg xx=0∧Cc xx=ob∧ob.length≤64
  hy:Dg y=0∧Cc y=rb∧rb.length≤64
  hb:y.blk (j / 4)=b∧DO 7 b=true
  hpp:DO 4 p=true
variable {X:Λ} {A:List ByteArray} {nm:ByteArray} {p:Int} {xx:InoT} {ob:Λ} {k j:Nat} {x y:InoT} {t:List EntT} {bs rb ms:Λ} {b:Int}
theorem PY (V:Vol M P s c) (hc:c≤50) (H:NewS s X A nm p xx ob k j x t bs rb y b) (hk:x.blk (j / 4)=0) (hy:RN (x.setB (j / 4) b)=y) (hm:Ju (BF s 4 ((k:Int)+1) ob)=ms) (hf:Au ms 1=b) (hr:¬ 128-((Ee ms 128).length:Int)≤max 0 0) :
    ∃ P',Vol M P' (BF (BF (BF (BF (BF s 4 ((k:Int)+1) ob) 3 0 (Bm ms b)) 7 b (List.replicate 64 0)) 7 b bs) 4 p rb) (c+5)∧AH [Bj M P ((k:Int)+1) xx,0]=0∧∀ {w:World} {R:List Ch} {mx:Nat} {K:VolK} {ta:Ω} {tc:Nat} (_:Sep w ([mtC mx K,txP K ta tc M (Br M P ((k:Int)+1) xx)]++R)),
      CallsR prog 102 #[π mx,ν p,.string nm,ν ((k:Int)+1),ν 0] w fun v w'=>∃ ta' tc',v=ν 0∧Sep w' ([mtC mx K,txP K ta' tc' M P']++R):=by
  obtain ⟨q,hq⟩:=Ca H.hk
  obtain ⟨q7,hq7⟩:=Ca H.hb.2
  obtain ⟨q1,hq1⟩:=Ca H.hpp
  have z:=EF V hq H.hx.1 H.hx.2.1 H.hx.2.2 ω
  have d:=Abo z.2 H.te H.ie H.ex H.et
  have zb:=Uv z.2 (sp:=0) hm hf hr hq7 ω
  have hb7:BJ 7 (y.blk (j / 4))=some q7:=by rw [H.hb.1];exact hq7
  have z2:=ZE zb.2.2 (p:=p) hb7 H.bl hq1 H.hy.1 H.hy.2.1 H.hy.2.2 ω
  rw [H.hb.1] at z2
  have eA:Wr M (Br M P ((k:Int)+1) xx) p 0 j bs=WW M (bP M (Br M P ((k:Int)+1) xx) 0) p y j bs:=by unfold Wr;rw [d.2.1,zb.1,hy]
  have eB:Wq M (Br M P ((k:Int)+1) xx) p 0 j bs=0:=by unfold Wq;rw [d.2.1,zb.1,hy];exact z2.1
  refine ⟨_,z2.2,by rw [z.1];rfl,fun hS=>?_⟩
  rw [← eA]
  have Z:=Abz (spare:=0) hS V.m H.hs (by decide) H.hj d.1 (by rw [d.2.1];exact H.xs) (by rw [d.2.2];exact H.pl) (by rw [d.2.1];exact hk) zb.2.1 (by rw [d.2.2];exact H.hu) (by rw [d.2.2];exact H.hbf) H.bl
  rw [eB] at Z;exact Z
theorem Aag (V:Vol M P s c) (hc:c≤50) (H:NewS s X A nm p GW ob k j x t bs rb y b) (hk:x.blk (j / 4)=0) (hy:RN (x.setB (j / 4) b)=y) (hm:Ju (BF s 4 ((k:Int)+1) ob)=ms) (hf:Au ms 1=b) (hr:¬ 128-((Ee ms 128).length:Int)≤max 0 0) :
    ∃ P',Vol M P' (BF (BF (BF (BF (BF s 4 ((k:Int)+1) ob) 3 0 (Bm ms b)) 7 b (List.replicate 64 0)) 7 b bs) 4 p rb) (c+5)∧∀ {w:World} {R:List Ch} {mx:Nat} {K:VolK} {ta:Ω} {tc:Nat} (_:Sep w ([mtC mx K,txP K ta tc M P]++R)),
      CallsR prog 33 #[π mx,σ X,ν 0] w fun v w'=>∃ ta' tc',v=ν 0∧Sep w' ([mtC mx K,txP K ta' tc' M P']++R):=by
  obtain ⟨P',V',e,ad⟩:=PY V hc H hk hy hm hf hr
  exact ⟨P',V',fun hS=>Aah hS V.m H.hX (TI H.hp) (Lq V H.hp H.hw) (Ms V H.hp H.ha H.hi.1 H.hi.2) (Yc V H.h32 H.kn H.ko) (fun h=>ad h) e⟩
theorem Ac6 (V:Vol M P s c) (hc:c≤50) (H:NewS s X A nm p opX ob k j x t bs rb y b) (hk:x.blk (j / 4)=0) (hy:RN (x.setB (j / 4) b)=y) (hm:Ju (BF s 4 ((k:Int)+1) ob)=ms) (hf:Au ms 1=b) (hr:¬ 128-((Ee ms 128).length:Int)≤max 0 0) :
    ∃ P',Vol M P' (BF (BF (BF (BF (BF s 4 ((k:Int)+1) ob) 3 0 (Bm ms b)) 7 b (List.replicate 64 0)) 7 b bs) 4 p rb) (c+5)∧∀ {w:World} {R:List Ch} {mx:Nat} {K:VolK} {ta:Ω} {tc:Nat} (_:Sep w ([mtC mx K,txP K ta tc M P]++R)),
      CallsR prog 34 #[π mx,ν 1,σ X,ν 1,.bool false,ν 0] w fun v w'=>∃ ta' tc',v=.tuple #[ν ((k:Int)+1),ν 0]∧Sep w' ([mtC mx K,txP K ta' tc' M P']++R):=by
  obtain ⟨P',V',e,ad⟩:=PY V hc H hk hy hm hf hr
  exact ⟨P',V',fun hS=>Aar hS V.m H.hX (Aam V H.hp H.hw) (Ms V H.hp H.ha H.hi.1 H.hi.2) (Yc V H.h32 H.kn H.ko) (fun h=>ad h) e⟩
structure GoS (s s1:CS) (X:Λ) (A:List ByteArray) (nm:ByteArray) (i p:Int) (x dx:InoT) (t:List EntT) (j:Nat) (rb xb:Λ) (y:InoT):Prop where
  hX:X.length≤1000
  hp:BX X=some (A++[nm])
  hw:FU s (A++[nm])=(i,0)
  ha:FU s A=(p,0)
  hi:CK s p=0∧(CL s p).k=2
  ei:CK s i=0
  xi:CL s i=x
  xk:x.k=1
  te:GM s p=0
  dxe:CL s p=dx
  dt:Dx s p=t
  tl:t.length=16
  hs:nm.size≤1000
  hj:j<16
  ds:0≤dx.s∧dx.s≤1000
  hf:AW t nm=(j:Int)
  bk:0≤(Hd dx).blk (j / 4)∧(Hd dx).blk (j / 4)≤1000
  hu:Gs (EM t (j:Int) ⟨⟨#[]⟩,0⟩) (((j / 4:Nat):Nat):Int)=false
  hy:(Hd dx).setB (j / 4) 0=y
  py:Dg y=0∧Cc y=rb∧rb.length≤64
  es1:BF (BF s 3 0 (CU (Ju s) ((Hd dx).blk (j / 4)))) 4 p rb=s1
  e1:CK s1 i=0
  x1:CL s1 i=x
  xl:0≤x.l∧x.l≤1000
  hg:GS (KW x)=false
  px:Dg (KW x)=0∧Cc (KW x)=xb∧xb.length≤64
  h4:DO 4 p=true∧DO 4 i=true
theorem YZ {s1:CS} {i:Int} {dx:InoT} {xb:Λ} (V:Vol M P s c) (hc:c≤50) (H:GoS s s1 X A nm i p x dx t j rb xb y) :
    ∃ P',Vol M P' (BF s1 4 i xb) (c+3)∧∀ {w:World} {R:List Ch} {mx:Nat} {K:VolK} {ta:Ω} {tc:Nat} (_:Sep w ([mtC mx K,txP K ta tc M P]++R)),
      CallsR prog 36 #[π mx,σ X] w fun v w'=>∃ ta' tc',v=ν 0∧Sep w' ([mtC mx K,txP K ta' tc' M P']++R):=by
  obtain ⟨qp,hqp⟩:=Ca H.h4.1
  obtain ⟨qi,hqi⟩:=Ca H.h4.2
  have d:=Abo V H.te H.hi.1 H.dxe H.dt
  have z:=Hy V (xs:=CU (Ju s) ((Hd dx).blk (j / 4))) (by rw [AA];exact An _) ω
  have z2:=EF z.2 hqp H.py.1 H.py.2.1 H.py.2.2 ω
  rw [H.es1] at z2
  have z3:=EF z2.2 hqi H.px.1 H.px.2.1 H.px.2.2 ω
  have eE:YA M P p (Hd dx) j=0:=by unfold YA;rw [H.hy,Mc V,z.1,z2.1];rfl
  have eP:SA M P p (Hd dx) j=Br M (stP M P 3 0 (CU (Ju s) ((Hd dx).blk (j / 4)))) p y:=by unfold SA;rw [H.hy,Mc V]
  have hlos:∀ {w:World} {R:List Ch} {mx:Nat} {K:VolK} {ta:Ω} {tc:Nat},Sep w ([mtC mx K,txP K ta tc M (SA M P p (Hd dx) j)]++R)→CallsR prog 73 #[π mx,ν i] w fun v w'=>∃ ta' tc',v=ν (Bj M (SA M P p (Hd dx) j) i (KW x))∧Sep w' ([mtC mx K,txP K ta' tc' M (Br M (SA M P p (Hd dx) j) i (KW x))]++R):=
    fun h=>Aco h V.m (by rw [eP];exact ⟨(Dy z2.2 i).trans H.x1,(CV z2.2 i).trans H.e1⟩) H.xl H.hg
  refine ⟨_,z3.2,fun hS=>?_⟩
  have Z:=Za hS V.m H.hX (TI H.hp) (TO V H.hp H.hw H.ei H.xi) H.xk (Lq V H.hp H.hw) (Ms V H.hp H.ha H.hi.1 H.hi.2)
    (fun h=>YB h V.m H.hs ⟨d.2.1,d.2.2,d.1⟩ H.tl H.hj H.ds H.hf H.bk H.hu) (fun h=>hlos h)
  rw [eE,eP,z3.1] at Z
  exact Z
theorem Zx {i:Int} (V:Vol M P s c) (hc:c≤50) (h4:DO 4 i=true) (he:CK s i=0) (hx:CL s i=x) (ho:x.o0=1) (hg:GS (x.setO 0 (x.o0-1))=true) (hb:Sk x) :
    ∃ P',Vol M P' (BF (BF s 4 i Dl) 3 0 (woX (Ju (BF s 4 i Dl)) x 4)) (c+2)∧∀ {w:World} {R:List Ch} {mx:Nat} {K:VolK} {ta:Ω} {tc:Nat} (_:Sep w ([mtC mx K,txP K ta tc M P]++R)),
      CallsR prog 37 #[π mx,ν 1,ν i] w fun v w'=>∃ ta' tc',v=ν 0∧Sep w' ([mtC mx K,txP K ta' tc' M P']++R):=by
  obtain ⟨qi,hqi⟩:=Ca h4
  have z:=EF V hqi Yq Ac7 (by decide) ω
  have z2:=Hy z.2 (xs:=woX (Ju (BF s 4 i Dl)) x 4) (by rw [Cp];exact An _) ω
  have eE:LQ M P i=0:=by unfold LQ;rw [z.1,z2.1];rfl
  have eP:PE M P i x=stP M (Br M P i AT) 3 0 (woX (Ju (BF s 4 i Dl)) x 4):=by unfold PE;rw [Mc z.2]
  refine ⟨_,z2.2,fun hS=>?_⟩
  have Z:=Zy hS V.m ⟨(Dy V i).trans hx,(CV V i).trans he⟩ ho hg hb
  rw [eE,eP] at Z
  exact Z
end
end
section
def nmF (i:UInt8):ByteArray:=⟨#[i]⟩
def opB:Λ:=[1,1,0,0,0,0,0,0,1]++(List.replicate 51 0++[123,254,65,206])
def d1X (b0 b3:Int):InoT:=⟨2,1,1,b0,0,0,b3,0,0,0,0,0,0,0,0⟩
def r1B:Λ:=[2,1,1,0,0,0,0,1]++(List.replicate 52 0++[116,40,151,23])
def d1B:Λ:=[2,1,1,0,0,0,0,2]++(List.replicate 52 0++[183,248,254,148])
def foB:Λ:=[1,0,0,0,0,0,0,0,1]++(List.replicate 51 0++[138,251,13,167])
def Ad8:Λ:=List.replicate 32 0++(2::1::100::List.replicate 13 0)++List.replicate 16 0
def Ad7:Λ:=List.replicate 32 0++(3::1::97::List.replicate 13 0)++List.replicate 16 0
def m1S:CS:=BF (BF (BF (BF (BF sAS 4 2 NW) 3 0 (Bm AD 1)) 7 1 (List.replicate 64 0)) 7 1 Ad8) 4 1 r1B
def m2S:CS:=BF (BF (BF (BF (BF m1S 4 3 opB) 3 0 (Bm (Bm AD 1) 2)) 7 2 (List.replicate 64 0)) 7 2 Ad7) 4 2 d1B
def m3S:CS:=BF (BF m2S 3 0 (CU (Ju m2S) 2)) 4 2 NW
def m4S:CS:=BF m3S 4 3 foB
def m5S:CS:=BF (BF m4S 4 3 Dl) 3 0 (woX (Ju (BF m4S 4 3 Dl)) (KW opX) 4)
theorem mk1:NewS sAS [47,100] [] (nmF 100) 1 GW NW 1 14 GW Bf Ad8 r1B (d1X 0 1) 1 where
  hX:=by decide
  hp:=κ
  hw:=by decide +kernel
  ha:=by decide +kernel
  hi:=by decide +kernel
  h32:=by decide
  kn:=fun j hj=>(by decide +kernel:∀ j:Fin 1,¬ (CK sAS ((j.val:Int)+1)=0∧(CL sAS ((j.val:Int)+1)).k=0)) ⟨j,hj⟩
  ko:=by decide +kernel
  hk:=by decide +kernel
  hs:=by decide
  te:=by decide +kernel
  ie:=by decide +kernel
  ex:=κ
  et:=κ
  xs:=by decide
  hj:=by decide
  pl:=by decide +kernel
  hu:=by decide +kernel
  hbf:=by decide +kernel
  bl:=by decide
  hx:=⟨Gm.1,Gm.2,by decide⟩
  hy:=by decide +kernel
  hb:=by decide +kernel
  hpp:=by decide +kernel
theorem mk2:NewS m1S [47,100,47,97] [nmF 100] (nmF 97) 2 opX opB 2 14 GW Bf Ad7 d1B (d1X 0 2) 2 where
  hX:=by decide
  hp:=κ
  hw:=by decide +kernel
  ha:=by decide +kernel
  hi:=by decide +kernel
  h32:=by decide
  kn:=fun j hj=>(by decide +kernel:∀ j:Fin 2,¬ (CK m1S ((j.val:Int)+1)=0∧(CL m1S ((j.val:Int)+1)).k=0)) ⟨j,hj⟩
  ko:=by decide +kernel
  hk:=by decide +kernel
  hs:=by decide
  te:=by decide +kernel
  ie:=by decide +kernel
  ex:=κ
  et:=κ
  xs:=by decide
  hj:=by decide
  pl:=by decide +kernel
  hu:=by decide +kernel
  hbf:=by decide +kernel
  bl:=by decide
  hx:=by decide +kernel
  hy:=by decide +kernel
  hb:=by decide +kernel
  hpp:=by decide +kernel
theorem go3:GoS m2S m3S [47,100,47,97] [nmF 100] (nmF 97) 3 2 opX (d1X 0 2) (EM Bf 14 ⟨nmF 97,3⟩) 14 NW foB GW where
  hX:=by decide
  hp:=κ
  hw:=by decide +kernel
  ha:=by decide +kernel
  hi:=by decide +kernel
  ei:=by decide +kernel
  xi:=κ
  xk:=rfl
  te:=by decide +kernel
  dxe:=κ
  dt:=κ
  tl:=by decide +kernel
  hs:=by decide
  hj:=by decide
  ds:=by decide
  hf:=by decide +kernel
  bk:=by decide
  hu:=by decide +kernel
  hy:=rfl
  py:=⟨Gm.1,Gm.2,by decide⟩
  es1:=rfl
  e1:=by decide +kernel
  x1:=κ
  xl:=by decide
  hg:=by decide +kernel
  px:=by decide +kernel
  h4:=by decide +kernel
section
variable {M:MemM} {P:List PtM}
theorem XN (V:Vol M P sAS 0):∃ P',Vol M P' m1S 5∧∀ {w:World} {R:List Ch} {mx:Nat} {K:VolK} {ta:Ω} {tc:Nat} (_:Sep w ([mtC mx K,txP K ta tc M P]++R)),
      CallsR prog 33 #[π mx,σ [47,100],ν 0] w fun v w'=>∃ ta' tc',v=ν 0∧Sep w' ([mtC mx K,txP K ta' tc' M P']++R):=
  Aag (ms:=AD) V (by decide) mk1 (by decide) κ (by decide +kernel) (by decide +kernel) (by decide +kernel)
theorem ZZ (V:Vol M P m1S 5):∃ P',Vol M P' m2S 10∧∀ {w:World} {R:List Ch} {mx:Nat} {K:VolK} {ta:Ω} {tc:Nat} (_:Sep w ([mtC mx K,txP K ta tc M P]++R)),
      CallsR prog 34 #[π mx,ν 1,σ [47,100,47,97],ν 1,.bool false,ν 0] w fun v w'=>∃ ta' tc',v=.tuple #[ν 3,ν 0]∧Sep w' ([mtC mx K,txP K ta' tc' M P']++R):=
  Ac6 (ms:=Bm AD 1) V (by decide) mk2 (by decide) κ (by decide +kernel) (by decide +kernel) (by decide +kernel)
theorem Aaa (V:Vol M P m2S 10):ER M P [47,100]=(2,d1X 0 2,0):=
  TO V (L:=[nmF 100]) κ (by decide +kernel) (by decide +kernel) κ
theorem UZ (V:Vol M P m2S 10):∃ P',Vol M P' m4S 13∧∀ {w:World} {R:List Ch} {mx:Nat} {K:VolK} {ta:Ω} {tc:Nat} (_:Sep w ([mtC mx K,txP K ta tc M P]++R)),
      CallsR prog 36 #[π mx,σ [47,100,47,97]] w fun v w'=>∃ ta' tc',v=ν 0∧Sep w' ([mtC mx K,txP K ta' tc' M P']++R):=
  YZ V (by decide) go3
theorem XO (V:Vol M P m4S 13):Al M P 3=KW opX∧AX M P 3=0:=⟨(Dy V 3).trans κ,(CV V 3).trans (by decide +kernel)⟩
theorem XL (V:Vol M P m4S 13):∃ P',Vol M P' m5S 15∧∀ {w:World} {R:List Ch} {mx:Nat} {K:VolK} {ta:Ω} {tc:Nat} (_:Sep w ([mtC mx K,txP K ta tc M P]++R)),
      CallsR prog 37 #[π mx,ν 1,ν 3] w fun v w'=>∃ ta' tc',v=ν 0∧Sep w' ([mtC mx K,txP K ta' tc' M P']++R):=
  Zx V (by decide) (by decide +kernel) (by decide +kernel) κ rfl (by decide +kernel) (by unfold Sk;decide)
theorem ZY (V:Vol M P m5S 15):Al M P 3=AT∧AX M P 3=0:=⟨(Dy V 3).trans κ,(CV V 3).trans (by decide +kernel)⟩
end
end
section
def RX (lg g v d p:Nat) (M:MemM):Ch where
 F b:=b=lg∨b=g∨b=v∨b=d∨b=p
 P w:=LogP w lg g v d p 2688 4096 M∧g<lg∧v<lg∧d<lg∧p<lg
 keep h t:=⟨Fi h.1 t (fun q=>q (.inl rfl)) (fun q=>q (.inr (.inl rfl))) (fun q=>q (.inr (.inr (.inl rfl)))) (fun q=>q (.inr (.inr (.inr (.inl rfl))))) (fun q=>q (.inr (.inr (.inr (.inr rfl))))),h.2⟩
 lt h b hb:=by
  obtain ⟨h1,h2,h3,h4,h5⟩:=h.1.lt
  rcases hb with e | e | e | e | e<;>omega
theorem Acx {w:World} {R:List Ch} (hS:Sep w R):CallsR prog 17 #[ν 23168] w (fun v w'=>∃ g v1 d p,v=π g∧Sep w' (Acs g v1 d p (GD 23168)::R)):=
 Calls.mono (XX 23168 w ω) fun e w' z=>by
  unfold Uk at z
  rw [if_pos (by decide)] at z
  obtain ⟨g,v,d,p,e1,m,⟨h1,h2,h3,h4⟩,b⟩:=z
  exact ⟨_,e1,g,v,d,p,rfl,hS.push b (c:=Acs g v d p (GD 23168)) m fun k hk=>by rcases hk with e | e | e | e<;>omega⟩
theorem Acw {w:World} {R:List Ch} {g v1 d p:Nat} {M:MemM} (hS:Sep w (Acs g v1 d p M::R)) (hM:M.V.length=23168):CallsR prog 19 #[π g,ν 2688,ν 4096] w (fun v w'=>∃ lg,v=π lg∧Sep w' (RX lg g v1 d p M::R)):=by
 have h:MemP w g v1 d p M:=hS.get 0 rfl
 refine Calls.mono (XW h 2688 4096 (by unfold EV;omega) (by unfold EV;omega) ω) fun e w' z=>?_
 unfold Nq at z
 rw [if_pos (by unfold Jw;omega)] at z
 obtain ⟨lg,e1,hb,hl,b⟩:=z
 obtain ⟨_,_,_,_,_,_,h1,h2,h3,h4⟩:=DG h
 refine ⟨_,e1,lg,rfl,hS.head (Turns.of_below (X:=fun _=>False) b) (fun k hk (q:False)=>q.elim) (c':=RX lg g v1 d p M) ⟨⟨hb,h.mono b⟩,ω⟩ fun k q=>?_⟩
 rcases q with q | q | q | q | q
 ·right;omega
 ·exact .inl (.inl q)
 ·exact .inl (.inr (.inl q))
 ·exact .inl (.inr (.inr (.inl q)))
 ·exact .inl (.inr (.inr (.inr q)))
theorem Acy {w:World} {R:List Ch} {lg g v1 d p:Nat} {M:MemM} (hS:Sep w (RX lg g v1 d p M::R)) (hM:M.V.length=23168):CallsR prog 20 #[π g,π lg] w (fun v w'=>∃ K:VolK,v=π K.tg∧Sep w' (txP K none 0 M []::R)):=by
 have h:LogP w lg g v1 d p 2688 4096 M∧g<lg∧v1<lg∧d<lg∧p<lg:=hS.get 0 rfl
 refine Calls.mono (XY w g lg) fun e w' ⟨tg,e1,hb,hl,b⟩=>⟨_,e1,⟨tg,lg,g,v1,d,p⟩,rfl,hS.head (Turns.of_below (X:=fun _=>False) b) (fun k hk (q:False)=>q.elim) (c':=txP ⟨tg,lg,g,v1,d,p⟩ none 0 M []) ?_ fun k q=>?_⟩
 ·have l:=h.1.lt
  exact ⟨h.1.mono b,hb,Own.nil _ _ _ _,TxOk.nil _,hM,by dsimp only;omega⟩
 ·rcases q with (q | q | q | q | q | q) | q
  ·right;exact q ▸ hl
  ·exact .inl (.inl q)
  ·exact .inl (.inr (.inl q))
  ·exact .inl (.inr (.inr (.inl q)))
  ·exact .inl (.inr (.inr (.inr (.inl q))))
  ·exact .inl (.inr (.inr (.inr (.inr q))))
  ·cases q
theorem PD {w:World} {R:List Ch} {mx:Nat} {K:VolK} {ta:Ω} {tc:Nat} (hS:Sep w ([mtC mx K,txP K ta tc (GD 23168) []]++R)):CallsR prog 22 #[π mx] w (fun v w'=>∃ ta' tc',v=ν 0∧Sep w' ([mtC mx K,txP K ta' tc' (GD 23168) (DP (GD 23168) [] 8)]++R)):=
 Calls.mono (Xj hS Hp) fun e w' z=>by rw [(OE Afd 8 (Nat.le_refl _)).1] at z;exact z
theorem Pp {w:World} {R:List Ch} {K:VolK} {ta:Ω} {tc:Nat} {M M':MemM} {P:List PtM} (hS:Sep w (txP K ta tc M P::R)) (h1:cmE M P=0) (h2:cmP M P=[]) (h3:M'=cmM M P):CallsR prog 23 #[pG K.tg] w (fun x w'=>∃ ta' tc',x=ν 0∧Sep w' (txP K ta' tc' M' []::R)):=
 Calls.mono (WH hS) fun e w' z=>by rw [h1,h2,← h3] at z;exact z
structure NodW where
 dir:Bool
 data:Λ
 links:Int
def Ac0 (x:NodW):List Value:=[.bool x.dir,σ x.data,ν x.links]
theorem XZ (x:NodW):(Ac0 x).length=3:=rfl
def Agy:NodW:=⟨false,[],0⟩
theorem ENw:ElemT prog 118 124 3 32:=Nz υ118 (z:=.agg #[.bool false,.string ⟨#[]⟩,ν 0]) κ rfl ω
def prC (a b c d:Value):List Value:=[a,b,c,d]++List.replicate 64 (ν 0)
theorem II (x0:Int) (x1:Int) (x2:Int) (y0:Int) (y1:Int) (y2:Int) (w:World):(Op.equalIn 10000 76 (.agg #[ν x0,ν x1,ν x2]) (.agg #[ν y0,ν y1,ν y2])).run prog w=.ok (decide (x0=y0)&&(decide (x1=y1)&&decide (x2=y2))) w:=by
 have u3:=υ3
 have a3:=Tryz.isAgg3
 have z3:=Tryz.sizeOf3
 have hS:prog.underlying 76=some (.struct (prog.fieldsOf 76)):=κ
 have hp:prog.stoodInHeld 76=false:=κ
 rw [show (10000:Nat)=9999+1 from rfl,run_equalIn_agg w 9999 76 _ _ hS hp]
 simp only [Program.fieldsOf,υ76]
 go_simp
 by_cases h0:x0=y0
 case neg=>simp [h0]
 by_cases h1:x1=y1
 case neg=>simp [h0,h1]
 by_cases h2:x2=y2
 case neg=>simp [h0,h1,h2]
 simp [h0,h1,h2]
theorem Iu (o p:Operand) (x0:Int) (x1:Int) (x2:Int) (y0:Int) (y1:Int) (y2:Int) (w:World):(do eqGuard .eql 76 o p (.agg #[ν x0,ν x1,ν x2]) (.agg #[ν y0,ν y1,ν y2]);binOp .eql 76 (.agg #[ν x0,ν x1,ν x2]) (.agg #[ν y0,ν y1,ν y2]):Sem Value).run prog w=.ok (.bool ((decide (x0=y0)&&(decide (x1=y1)&&decide (x2=y2))))) w:=by
 have e:(Op.equal 76 (.agg #[ν x0,ν x1,ν x2]) (.agg #[ν y0,ν y1,ν y2])).run prog w=.ok (decide (x0=y0)&&(decide (x1=y1)&&decide (x2=y2))) w:=II x0 x1 x2 y0 y1 y2 w
 rw [Sem.run_bind,run_eqGuard_agg (P:=prog) w .eql 76 o p _ _ κ]
 show (binOp .eql 76 _ _).run prog w=_
 simp only [binOp,Sem.run_bind,e]
 rfl
theorem Aaj {w:World} {R:List Ch} (hS0:Sep w ([]++R)) :
  CallsR prog 26 #[] w (fun v w'=>∃ rp,v=π rp∧Sep w' ([]++R)):=by
 have hS:Sep w [Ch.many R]:=Sep.tail_many (xs:=[]) hS0;clear hS0
 refine AQ func26 rfl (N:=15) ntmps26 (by show 0≤15;decide) [] rfl fun _ h1=>sqr fun _ hK3=>mv h1 rfl fun _ h4=>wpList_nil<|hK3 _ _<|sqr fun _ hK6=>bu h4 (v:=.agg #[.slice none 0 0,.slice none 0 0,.slice none 0 0]) rfl (fun w=>κ) fun _ h7=>so (wn rfl) fun _ hK1=>FV h7 rfl rfl rfl rfl rfl (z:=[.slice none 0 0,.slice none 0 0,.slice none 0 0]) rfl hS fun _ g9 w1 h2 s1 _ _=>hK1 _ _ ?_
 refine mv h2 rfl fun _ h3=>h3.sn [1,0] rfl fun h5=>hK6 _ _<|sq fun _ hK2=>?_
 have s2:=s1.ownNil 0 124 3
 have s3:Sep w1 [BC 0 124 3 none ([]:List NodW).length 0 (([]:List NodW).flatMap Ac0),Ab g9 122 [.slice none 0 0,.slice none 0 0,.slice none 0 0],Ch.many R]:=s2
 refine wp_region_lit<|mvs 3 h5 rfl fun _ h6=>fav h6 rfl (fQ 0) fun _ h8=>ldv h8 s3 1 υ118 rfl rfl rfl rfl fun _ h9=>bu h9 (v:=.agg #[.bool true,σ [],ν 1]) rfl (fun w=>κ) fun _ h10=>so (wn rfl) fun _ hK4=>CH h10 rfl rfl rfl (E:=124) (xs:=[(0,.tmp 9)]) rfl (vs:=[(0,.agg #[.bool true,σ [],ν 1])]) rfl (z:=[.bool true,σ [],ν 1]) (fun _=>κ) s3 fun _ g1 w2 h11 s4 _ _=>hK4 _ _ ?_
 refine so (wn rfl) fun _ hK5=>Aff XZ h11 rfl rfl rfl rfl ENw s4 1 rfl rfl 0 (y:=(⟨true,[],1⟩:NodW)) rfl rfl rfl (by decide) (by decide) (L':=[(⟨true,[],1⟩:NodW)]) rfl fun _ p43 c44 w3 h12 s5=>hK5 _ _ ?_
 have s6:Sep w3 [BC 0 124 3 p43 [(⟨true,[],1⟩:NodW)].length c44 ([(⟨true,[],1⟩:NodW)].flatMap Ac0),Ab g9 122 [.slice none 0 0,.slice none 0 0,.slice none 0 0],Ch.many R]:=s5.pk [1,2,3] rfl;clear s5
 refine mv h12 rfl fun _ h13=>fav h13 rfl (fQ 0) fun _ h14=>st1 h14 s6 1 rfl rfl κ rfl rfl rfl rfl fun _ w4 h15 s7 _=>h15.sn [1,0] rfl fun h16=>hK2 _ _<|sqr fun _ hK7=>mv h16 rfl fun _ h17=>h17.sk [14,1] rfl fun h18=>mv h18 rfl fun _ h19=>h19.sk [0,1] rfl fun h20=>?_
 refine wpList_nil<|hK7 _ _<|wp_ret ?_
 try simp only [Exit.then,Exit.inBlock]
 refine Bg (v:=π g9) (Cl h20 rfl rfl) h20.defs ?_
 exact ⟨g9,rfl,Sep.tail_un (xs:=[]) (s7.pk [2] rfl)⟩
theorem DC {w:World} {R:List Ch} (hS0:Sep w ([]++R)) :
  CallsR prog 6 #[] w (fun v w'=>∃ K ta tc M mx vx pg rp,v=π vx∧Sep w' ([Ab vx 39 (prC (π pg) (π K.tg) (π mx) (π rp)),Ab mx 99 [π K.tg],txP K ta tc M []]++R)∧Vol M [] sAS 0):=by
 have hS:Sep w [Ch.many R]:=Sep.tail_many (xs:=[]) hS0;clear hS0
 refine AQ func6 rfl (N:=39) ntmps6 (by show 0≤39;decide) [] rfl fun _ h1=>sqr fun _ hK3=>mv h1 rfl fun _ h4=>wpList_nil<|hK3 _ _<|sqr fun _ hK6=>cl h4 rfl (cF func17) (Acx hS) fun _ v1 w1 r1 h2=>?_
 obtain ⟨pgx7,pv_x8,pdx9,ppx10,rfl,s1⟩:=r1
 refine mv h2 rfl fun _ h3=>h3.sn [1,0] rfl fun h5=>hK6 _ _<|sq fun _ hK1=>sqr fun _ hK2=>mv h5 rfl fun _ h6=>bv h6 (z:=.bool false) rfl (Rd _ υ33 _ _ _) fun _ h7=>h7.sn [7,1,0] rfl fun h8=>hK2 _ _<|wcF h8 rfl rfl<|h8.sk [1,0] rfl fun h9=>?_
 refine wp_skip<|hK1 _ _<|sqr fun _ hK4=>mv h9 rfl fun _ h10=>cl h10 rfl (cF func19) (Acw s1 Hp) fun _ v2 w2 r2 h11=>?_
 obtain ⟨lg_x32,rfl,s2⟩:=r2
 refine mv h11 rfl fun _ h12=>h12.sn [2,1,0] rfl fun h13=>hK4 _ _<|sq fun _ hK5=>sqr fun _ hK7=>mv h13 rfl fun _ h14=>bv h14 (z:=.bool false) rfl (Rd _ υ55 _ _ _) fun _ h15=>h15.sn [11,2,1,0] rfl fun h16=>hK7 _ _<|wcF h16 rfl rfl<|h16.sk [2,1,0] rfl fun h17=>?_
 refine wp_skip<|hK5 _ _<|sqr fun _ hK8=>mvs 2 h17 rfl fun _ h18=>cl h18 rfl (cF func20) (Acy s2 Hp) fun _ v3 w3 r3 h19=>?_
 obtain ⟨kk_x56,rfl,s3⟩:=r3
 refine mv h19 rfl fun _ h20=>h20.sn [3,2,1,0] rfl fun h21=>hK8 _ _<|sqr fun _ hK9=>mv h21 rfl fun _ h22=>cl h22 rfl (cF func21) (Vf (K:=kk_x56) s3 Hp) fun _ v4 w4 r4 h23=>?_
 obtain ⟨mx_x70,rfl,s4⟩:=r4
 refine mv h23 rfl fun _ h24=>h24.sn [4,3,2,1,0] rfl fun h25=>hK9 _ _<|sq fun _ hK10=>sqr fun _ hK11=>mv h25 rfl fun _ h26=>bv h26 (z:=.bool false) rfl (Rd _ υ34 _ _ _) fun _ h27=>mv h27 rfl fun _ h28=>sv h28 (wF h28 (E:=false) rfl rfl rfl) rfl rfl rfl (v:=π mx_x70) (Ad h28 rfl rfl) fun _ h29=>sv h29 (wF h29 (E:=false) rfl rfl rfl) rfl rfl rfl (v:=.bool false) (Aw h29 rfl rfl rfl (Rd _ υ35 _ _ _)) fun _ h30=>sv1 h30 rfl (v:=.bool false) (Az h30 rfl rfl rfl) fun _ h31=>?_
 refine mv h31 rfl fun _ h32=>sv h32 (wF h32 (E:=false) rfl rfl rfl) rfl rfl rfl (v:=π mx_x70) (Ad h32 rfl rfl) fun _ h33=>so (wF h33 (E:=false) rfl rfl rfl) fun _ hK12=>AJ h33 rfl rfl rfl (xs:=[.tmp 24]) rfl (cF func22) rfl (vs:=[π mx_x70]) rfl (args:=#[π mx_x70]) rfl (PD s4) fun _ v5 w5 r5 h34=>hK12 _ _ ?_
 obtain ⟨tax99,tcx100,rfl,s5⟩:=r5
 refine sv h34 (wF h34 (E:=false) rfl rfl rfl) rfl rfl rfl (v:=.bool false) (Aw h34 rfl rfl rfl (cNe _ _ _ _ rfl)) fun _ h35=>sv1 h35 rfl (v:=.bool false) (Az h35 rfl rfl rfl) fun _ h36=>mv h36 rfl fun _ h37=>sv h37 (wF h37 (E:=false) rfl rfl rfl) rfl rfl rfl (v:=π kk_x56.tg) (Ad h37 rfl rfl) fun _ h38=>?_
 have hv116:=Vol.com (OE Afd 8 (Nat.le_refl _)).2 (by decide)
 obtain ⟨M117,he118⟩:∃ M',M'=cmM (GD 23168) (DP (GD 23168) [] 8):=⟨_,rfl⟩
 rw [← he118] at hv116
 refine so (wF h38 (E:=false) rfl rfl rfl) fun _ hK13=>AJ h38 rfl rfl rfl (xs:=[.tmp 29]) rfl (cF func23) rfl (vs:=[π kk_x56.tg]) rfl (args:=#[π kk_x56.tg]) rfl (Pp (s5.pk [1,0,2] rfl) hv116.1 hv116.2.1 he118) fun _ v6 w6 r6 h39=>hK13 _ _ ?_
 obtain ⟨tax119,tcx120,rfl,s6⟩:=r6
 refine sv h39 (wF h39 (E:=false) rfl rfl rfl) rfl rfl rfl (v:=.bool false) (Aw h39 rfl rfl rfl (cNe _ _ _ _ rfl)) fun _ h40=>sv1 h40 rfl (v:=.bool false) (Az h40 rfl rfl rfl) fun _ h41=>h41.sn [32,4,3,2,1,0] rfl fun h42=>hK11 _ _<|wcF h42 rfl rfl<|h42.sk [4,3,2,1,0] rfl fun h43=>wp_skip<|hK10 _ _<|sqr fun _ hK14=>mvs 3 h43 rfl fun _ h44=>cl h44 rfl (cF func26) (Aaj s6) fun _ v7 w7 r7 h45=>?_
 obtain ⟨rp_x141,rfl,s7⟩:=r7
 refine bu h45 (v:=.agg (prC (π pgx7) (π kk_x56.tg) (π mx_x70) (π rp_x141)).toArray) rfl (fun w=>κ) fun _ h46=>so (wn rfl) fun _ hK15=>FV h46 rfl rfl rfl rfl rfl (z:=(prC (π pgx7) (π kk_x56.tg) (π mx_x70) (π rp_x141))) rfl s7 fun _ g1 w8 h47 s8 _ _=>hK15 _ _ ?_
 refine h47.sk [38,37,36,35,34,33,4,3,2,1] rfl fun h48=>mv h48 rfl fun _ h49=>h49.sn [0,4,3,2,1] rfl fun h50=>hK14 _ _<|wp_ret ?_
 try simp only [Exit.then,Exit.inBlock]
 refine Bg (v:=π g1) (Cl h50 rfl rfl) h50.defs ?_
 exact ⟨kk_x56,tax119,tcx120,M117,mx_x70,g1,pgx7,rp_x141,rfl,Sep.tail_un (xs:=[_,_,_]) (s8.pk [0,2,1,3] rfl),hv116.2.2⟩
theorem El {w:World} {R:List Ch} (hS0:Sep w ([]++R)) :
  CallsR prog 12 #[] w (fun v w'=>v=.bool true∧Sep w' ([]++R)):=by
 have hS:Sep w [Ch.many R]:=Sep.tail_many (xs:=[]) hS0;clear hS0
 refine AQ func12 rfl (N:=100) ntmps12 (by show 0≤100;decide) [] rfl fun _ h1=>sqr fun _ hK3=>mv h1 rfl fun _ h4=>wpList_nil<|hK3 _ _<|sqr fun _ hK6=>cl h4 rfl (cF func6) (DC hS) fun _ v1 w1 r1 h2=>?_
 obtain ⟨kk_x8,ta_x9,tc_x10,M_x11,mx_x12,vx_x13,pg_x14,rp_x15,rfl,s1,hvl20⟩:=r1
 refine mv h2 rfl fun _ h3=>h3.sn [1,0] rfl fun h5=>hK6 _ _<|sq fun _ hK1=>sqr fun _ hK2=>mv h5 rfl fun _ h6=>bv h6 (z:=.bool false) rfl (Rd _ υ28 _ _ _) fun _ h7=>h7.sn [15,1,0] rfl fun h8=>hK2 _ _<|wcF h8 rfl rfl<|h8.sk [1,0] rfl fun h9=>?_
 refine wp_skip<|hK1 _ _<|sqr fun _ hK4=>mvs 2 h9 rfl fun _ h10=>fav h10 rfl (fQ 2) fun _ h11=>ldv h11 s1 0 υ35 rfl rfl rfl rfl fun _ h12=>?_
 obtain ⟨P43,hv44,ho45⟩:=XN hvl20
 refine cl h12 rfl (cF func33) (ho45 (s1.pk [1,2,0,3] rfl)) fun _ v2 w2 r2 h13=>?_
 obtain ⟨tax46,tcx47,rfl,s2⟩:=r2
 refine mv h13 rfl fun _ h14=>h14.sn [2,1,0] rfl fun h15=>hK4 _ _<|sqr fun _ hK5=>mvs 2 h15 rfl fun _ h16=>fav h16 rfl (fQ 2) fun _ h17=>ldv h17 s2 2 υ35 rfl rfl rfl rfl fun _ h18=>?_
 obtain ⟨P67,hv68,ho69⟩:=ZZ hv44
 refine cl h18 rfl (cF func34) (ho69 s2) fun _ v3 w3 r3 h19=>?_
 obtain ⟨tax70,tcx71,rfl,s3⟩:=r3
 refine mvs 5 h19 rfl fun _ h20=>h20.sn [4,3,2,1,0] rfl fun h21=>hK5 _ _<|sqr fun _ hK7=>mvs 2 h21 rfl fun _ h22=>fav h22 rfl (fQ 2) fun _ h23=>ldv h23 s3 2 υ35 rfl rfl rfl rfl fun _ h24=>cl h24 rfl (cF func35) (Adm s3 (hv68).m (by decide) (Aaa hv68)) fun _ v4 w4 r4 h25=>?_
 obtain ⟨rfl,s4⟩:=r4
 refine mvs 3 h25 rfl fun _ h26=>so (wn rfl) fun _ hK8=>AB h26 rfl rfl rfl rfl (z:=[ν 0,ν 0,ν 0]) (fun _=>rfl) s4 fun _ g1 w5 h27 s5 _ _=>hK8 _ _ ?_
 refine stA h27 s5 0 rfl rfl rfl κ rfl rfl rfl rfl fun _ w6 h28 s6 _=>mv h28 rfl fun _ h29=>h29.sn [6,5,4,3,2,1,0] rfl fun h30=>hK7 _ _<|sqr fun _ hK9=>mvs 2 h30 rfl fun _ h31=>fav h31 rfl (fQ 2) fun _ h32=>ldv h32 s6 3 υ35 rfl rfl rfl rfl fun _ h33=>?_
 obtain ⟨P138,hv139,ho140⟩:=UZ hv68
 refine cl h33 rfl (cF func36) (ho140 (s6.pk [1,2,0,3,4] rfl)) fun _ v5 w7 r5 h34=>?_
 obtain ⟨tax141,tcx142,rfl,s7⟩:=r5
 refine mv h34 rfl fun _ h35=>h35.sn [7,6,5,4,3,2,1,0] rfl fun h36=>hK9 _ _<|sqr fun _ hK10=>mvs 2 h36 rfl fun _ h37=>fav h37 rfl (fQ 2) fun _ h38=>ldv h38 s7 3 υ35 rfl rfl rfl rfl fun _ h39=>cl h39 rfl (cF func8) (AY s7 (hv139).m (XO hv139)) fun _ v6 w8 r6 h40=>?_
 obtain ⟨rfl,s8⟩:=r6
 refine mvs 3 h40 rfl fun _ h41=>so (wn rfl) fun _ hK11=>AB h41 rfl rfl rfl rfl (z:=[ν 0,ν 0,ν 0,ν 0,ν 0,ν 0,ν 0,ν 0,ν 0,ν 0,ν 0,ν 0,ν 0,ν 0,ν 0]) (fun _=>rfl) s8 fun _ g2 w9 h42 s9 _ _=>hK11 _ _ ?_
 refine stA h42 s9 0 rfl rfl rfl κ rfl rfl rfl rfl fun _ w10 h43 s10 _=>mv h43 rfl fun _ h44=>h44.sn [8,7,6,5,4,3,2,1,0] rfl fun h45=>hK10 _ _<|sqr fun _ hK12=>mvs 2 h45 rfl fun _ h46=>fav h46 rfl (fQ 2) fun _ h47=>ldv h47 s10 4 υ35 rfl rfl rfl rfl fun _ h48=>?_
 obtain ⟨P201,hv202,ho203⟩:=XL hv139
 refine cl h48 rfl (cF func37) (ho203 (s10.pk [1,2,0,3,4,5] rfl)) fun _ v7 w11 r7 h49=>?_
 obtain ⟨tax204,tcx205,rfl,s11⟩:=r7
 refine mv h49 rfl fun _ h50=>h50.sn [10,8,7,6,5,4,3,2,1,0] rfl fun h51=>hK12 _ _<|sqr fun _ hK13=>mvs 2 h51 rfl fun _ h52=>fav h52 rfl (fQ 2) fun _ h53=>ldv h53 s11 4 υ35 rfl rfl rfl rfl fun _ h54=>cl h54 rfl (cF func8) (AY s11 (hv202).m (ZY hv202)) fun _ v8 w12 r8 h55=>?_
 obtain ⟨rfl,s12⟩:=r8
 refine mvs 3 h55 rfl fun _ h56=>so (wn rfl) fun _ hK14=>AB h56 rfl rfl rfl rfl (z:=[ν 0,ν 0,ν 0,ν 0,ν 0,ν 0,ν 0,ν 0,ν 0,ν 0,ν 0,ν 0,ν 0,ν 0,ν 0]) (fun _=>rfl) s12 fun _ g3 w13 h57 s13 _ _=>hK14 _ _ ?_
 refine stA h57 s13 0 rfl rfl rfl κ rfl rfl rfl rfl fun _ w14 h58 s14 _=>mv h58 rfl fun _ h59=>h59.sn [11,10,8,7,6,5,4,3,2,1,0] rfl fun h60=>hK13 _ _<|sqr fun _ hK15=>mv h60 rfl fun _ h61=>bv h61 (z:=.bool true) rfl (cEq _ _ _ _ rfl) fun _ h62=>mv h62 rfl fun _ h63=>sv h63 (wT h63 (E:=true) rfl rfl rfl) rfl rfl rfl (v:=ν 3) (Ad h63 rfl rfl) fun _ h64=>sv h64 (wT h64 (E:=true) rfl rfl rfl) rfl rfl rfl (v:=.bool true) (Aw h64 rfl rfl rfl (cEq _ _ _ _ rfl)) fun _ h65=>?_
 refine sv1 h65 rfl (v:=.bool true) (Az h65 rfl rfl rfl) fun _ h66=>mv h66 rfl fun _ h67=>sv h67 (wT h67 (E:=true) rfl rfl rfl) rfl rfl rfl (v:=ν 0) (Ad h67 rfl rfl) fun _ h68=>sv h68 (wT h68 (E:=true) rfl rfl rfl) rfl rfl rfl (v:=.bool true) (Aw h68 rfl rfl rfl (cEq _ _ _ _ rfl)) fun _ h69=>sv1 h69 rfl (v:=.bool true) (Az h69 rfl rfl rfl) fun _ h70=>mv h70 rfl fun _ h71=>sw h71 (wT h71 (E:=true) rfl rfl rfl) rfl rfl rfl (v:=.agg #[ν 2,ν 1,ν 1]) (rld h71 rfl rfl (ldA υ76 rfl (n:=3) κ (s14.get 4 rfl:Blk _ _ _ _) rfl rfl)) fun _ h72=>sv h72 (wT h72 (E:=true) rfl rfl rfl) rfl rfl rfl (v:=.agg #[ν 2,ν 1,ν 1]) (Sz h72 (xs:=[(0,.const (ν 2)),(1,.const (ν 1)),(2,.const (ν 1))]) rfl (vs:=[(0,ν 2),(1,ν 1),(2,ν 1)]) rfl (fun w=>κ)) fun _ h73=>sv h73 (wT h73 (E:=true) rfl rfl rfl) rfl rfl rfl (v:=.bool ((decide (2=2))&&((decide (1=1))&&(decide (1=1))))) (Aw h73 rfl rfl rfl (Iu _ _ 2 1 1 2 1 1)) fun _ h74=>sv1 h74 rfl (v:=.bool ((decide (2=2))&&((decide (1=1))&&(decide (1=1))))) (Az h74 rfl rfl rfl) fun _ h75=>?_
 refine mv h75 rfl fun _ h76=>sv h76 ((wT h76 rfl rfl rfl).trans (Ur (decide_eq_true ω) (Ur (decide_eq_true ω) (decide_eq_true ω)))) rfl rfl rfl (v:=ν 0) (Ad h76 rfl rfl) fun _ h77=>sv h77 ((wT h77 rfl rfl rfl).trans (Ur (decide_eq_true ω) (Ur (decide_eq_true ω) (decide_eq_true ω)))) rfl rfl rfl (v:=.bool true) (Aw h77 rfl rfl rfl (cEq _ _ _ _ rfl)) fun _ h78=>sv1 h78 rfl (v:=.bool true) (MI h78 rfl (E:=((decide (2=2))&&((decide (1=1))&&(decide (1=1))))) (b:=true) rfl (Ur (decide_eq_true ω) (Ur (decide_eq_true ω) (decide_eq_true ω))) rfl) fun _ h79=>mv h79 rfl fun _ h80=>sv h80 (wT h80 (E:=true) rfl rfl rfl) rfl rfl rfl (v:=ν 0) (Ad h80 rfl rfl) fun _ h81=>sv h81 (wT h81 (E:=true) rfl rfl rfl) rfl rfl rfl (v:=.bool true) (Aw h81 rfl rfl rfl (cEq _ _ _ _ rfl)) fun _ h82=>sv1 h82 rfl (v:=.bool true) (Az h82 rfl rfl rfl) fun _ h83=>mv h83 rfl fun _ h84=>sv h84 (wT h84 (E:=true) rfl rfl rfl) rfl rfl rfl (v:=π g2) (rfa h84 rfl rfl (fQ 0)) fun _ h85=>?_
 refine sw h85 (wT h85 (E:=true) rfl rfl rfl) rfl rfl rfl (v:=ν 1) (rld h85 rfl rfl (ldB υ3 rfl (s14.get 3 rfl:Blk _ _ _ _) rfl)) fun _ h86=>sv h86 (wT h86 (E:=true) rfl rfl rfl) rfl rfl rfl (v:=.bool true) (Aw h86 rfl rfl rfl (cEq _ _ _ _ rfl)) fun _ h87=>sv1 h87 rfl (v:=.bool true) (Az h87 rfl rfl rfl) fun _ h88=>mv h88 rfl fun _ h89=>sv h89 (wT h89 (E:=true) rfl rfl rfl) rfl rfl rfl (v:=ν 0) (Ad h89 rfl rfl) fun _ h90=>sv h90 (wT h90 (E:=true) rfl rfl rfl) rfl rfl rfl (v:=.bool true) (Aw h90 rfl rfl rfl (cEq _ _ _ _ rfl)) fun _ h91=>sv1 h91 rfl (v:=.bool true) (Az h91 rfl rfl rfl) fun _ h92=>mv h92 rfl fun _ h93=>sv h93 (wT h93 (E:=true) rfl rfl rfl) rfl rfl rfl (v:=π g3) (rfa h93 rfl rfl (fQ 0)) fun _ h94=>sw h94 (wT h94 (E:=true) rfl rfl rfl) rfl rfl rfl (v:=ν 0) (rld h94 rfl rfl (ldB υ3 rfl (s14.get 0 rfl:Blk _ _ _ _) rfl)) fun _ h95=>?_
 refine sv h95 (wT h95 (E:=true) rfl rfl rfl) rfl rfl rfl (v:=.bool true) (Aw h95 rfl rfl rfl (cEq _ _ _ _ rfl)) fun _ h96=>sv1 h96 rfl (v:=.bool true) (Az h96 rfl rfl rfl) fun _ h97=>h97.sk [99,98,97,96,95,94,93,92,91,90,89,88,87,86,85,84,83,82,81,80,79,78,77,76,75,74,73,72,71,70,69,68,67,66,65,64,63,11,10,8,7,6,5,4,3,2,1] rfl fun h98=>mv h98 rfl fun _ h99=>h99.sn [0,11,10,8,7,6,5,4,3,2,1] rfl fun h100=>hK15 _ _<|wp_ret ?_
 try simp only [Exit.then,Exit.inBlock]
 refine Bg (v:=.bool true) (Cl h100 rfl rfl) h100.defs ?_
 exact ⟨congrArg Value.bool rfl,Sep.tail_un (xs:=[]) (s14.pk [6] rfl)⟩
end
section
open Go.RowKit Go.WideShapes
theorem Ad9 (x0 x1 x2 x3 x4 x5 x6 x7 x8 x9 x10 x11 x12 x13 x14 x15 y0 y1 y2 y3 y4 y5 y6 y7 y8 y9 y10 y11 y12 y13 y14 y15:Int) (w:World):(Op.equalIn 10000 27 (.agg #[.int .u8 x0,.int .u8 x1,.int .u8 x2,.int .u8 x3,.int .u8 x4,.int .u8 x5,.int .u8 x6,.int .u8 x7,.int .u8 x8,.int .u8 x9,.int .u8 x10,.int .u8 x11,.int .u8 x12,.int .u8 x13,.int .u8 x14,.int .u8 x15]) (.agg #[.int .u8 y0,.int .u8 y1,.int .u8 y2,.int .u8 y3,.int .u8 y4,.int .u8 y5,.int .u8 y6,.int .u8 y7,.int .u8 y8,.int .u8 y9,.int .u8 y10,.int .u8 y11,.int .u8 y12,.int .u8 y13,.int .u8 y14,.int .u8 y15])).run prog w=.ok (decide ([x0,x1,x2,x3,x4,x5,x6,x7,x8,x9,x10,x11,x12,x13,x14,x15]=[y0,y1,y2,y3,y4,y5,y6,y7,y8,y9,y10,y11,y12,y13,y14,y15])) w:=by
  have u3:=υ5
  have a3:=Tryz.isAgg5
  have z3:=Tryz.sizeOf5
  rw [show (10000:Nat)=9999+1 from rfl,Op.equalIn]
  simp only [Sem.run_bind,run_underlying υ27,Result.andThen_ok]
  simp only [Std.Legacy.Range.forIn_eq_forIn_range',Std.Legacy.Range.size,Nat.sub_zero,Nat.add_sub_cancel,Nat.div_one,List.range'_succ,List.range'_zero,List.forIn_cons,List.forIn_nil]
  go_simp
  by_cases h0:x0=y0
  case neg=>simp [h0]
  by_cases h1:x1=y1
  case neg=>simp [h0,h1]
  by_cases h2:x2=y2
  case neg=>simp [h0,h1,h2]
  by_cases h3:x3=y3
  case neg=>simp [h0,h1,h2,h3]
  by_cases h4:x4=y4
  case neg=>simp [h0,h1,h2,h3,h4]
  by_cases h5:x5=y5
  case neg=>simp [h0,h1,h2,h3,h4,h5]
  by_cases h6:x6=y6
  case neg=>simp [h0,h1,h2,h3,h4,h5,h6]
  by_cases h7:x7=y7
  case neg=>simp [h0,h1,h2,h3,h4,h5,h6,h7]
  by_cases h8:x8=y8
  case neg=>simp [h0,h1,h2,h3,h4,h5,h6,h7,h8]
  by_cases h9:x9=y9
  case neg=>simp [h0,h1,h2,h3,h4,h5,h6,h7,h8,h9]
  by_cases h10:x10=y10
  case neg=>simp [h0,h1,h2,h3,h4,h5,h6,h7,h8,h9,h10]
  by_cases h11:x11=y11
  case neg=>simp [h0,h1,h2,h3,h4,h5,h6,h7,h8,h9,h10,h11]
  by_cases h12:x12=y12
  case neg=>simp [h0,h1,h2,h3,h4,h5,h6,h7,h8,h9,h10,h11,h12]
  by_cases h13:x13=y13
  case neg=>simp [h0,h1,h2,h3,h4,h5,h6,h7,h8,h9,h10,h11,h12,h13]
  by_cases h14:x14=y14
  case neg=>simp [h0,h1,h2,h3,h4,h5,h6,h7,h8,h9,h10,h11,h12,h13,h14]
  by_cases h15:x15=y15
  case neg=>simp [h0,h1,h2,h3,h4,h5,h6,h7,h8,h9,h10,h11,h12,h13,h14,h15]
  simp [h0,h1,h2,h3,h4,h5,h6,h7,h8,h9,h10,h11,h12,h13,h14,h15]
theorem XE {α:Type} {l:List α} (h:l.length=16):∃ x0 x1 x2 x3 x4 x5 x6 x7 x8 x9 x10 x11 x12 x13 x14 x15,l=[x0,x1,x2,x3,x4,x5,x6,x7,x8,x9,x10,x11,x12,x13,x14,x15]:=by
  match l,h with
  | [x0,x1,x2,x3,x4,x5,x6,x7,x8,x9,x10,x11,x12,x13,x14,x15],_=>exact ⟨x0,x1,x2,x3,x4,x5,x6,x7,x8,x9,x10,x11,x12,x13,x14,x15,rfl⟩
theorem Ck {a b:UInt8} (h:((a.toNat:Nat):Int)=(b.toNat:Nat)):a=b:=UInt8.toNat_inj.1 ω
theorem Aee {xs ys:Λ} (hx:xs.length=16) (hy:ys.length=16) (w:World):(Op.equalIn 10000 27 (.agg (Af xs)) (.agg (Af ys))).run prog w=.ok (decide (xs=ys)) w:=by
  obtain ⟨x0,x1,x2,x3,x4,x5,x6,x7,x8,x9,x10,x11,x12,x13,x14,x15,rfl⟩:=XE hx
  obtain ⟨y0,y1,y2,y3,y4,y5,y6,y7,y8,y9,y10,y11,y12,y13,y14,y15,rfl⟩:=XE hy
  refine (Ad9 x0.toNat x1.toNat x2.toNat x3.toNat x4.toNat x5.toNat x6.toNat x7.toNat x8.toNat x9.toNat x10.toNat x11.toNat x12.toNat x13.toNat x14.toNat x15.toNat y0.toNat y1.toNat y2.toNat y3.toNat y4.toNat y5.toNat y6.toNat y7.toNat y8.toNat y9.toNat y10.toNat y11.toNat y12.toNat y13.toNat y14.toNat y15.toNat w).trans ?_
  congr 1
  refine decide_eq_decide.2 ⟨fun q=>?_,fun q=>by rw [List.cons.injEq] at q;simp_all⟩
  simp only [List.cons.injEq] at q ⊢
  obtain ⟨q0,q1,q2,q3,q4,q5,q6,q7,q8,q9,q10,q11,q12,q13,q14,q15,_⟩:=q
  exact ⟨Ck q0,Ck q1,Ck q2,Ck q3,Ck q4,Ck q5,Ck q6,Ck q7,Ck q8,Ck q9,Ck q10,Ck q11,Ck q12,Ck q13,Ck q14,Ck q15,trivial⟩
theorem IF (x y:Operand) {xs ys:Λ} (hx:xs.length=16) (hy:ys.length=16) {t:Bool} (ht:decide (xs=ys)=t) (w:World):(do eqGuard .eql 27 x y (.agg (Af xs)) (.agg (Af ys));binOp .eql 27 (.agg (Af xs)) (.agg (Af ys)):Sem Value).run prog w=.ok (.bool t) w:=by
  subst ht
  have h:=Aee hx hy w
  simp [eqGuard,binOp,Op.equal,Op.maxDepth,Sem.run_bind,h]
theorem WY (i j:InoT) (w:World):(Op.equalIn 10000 25 (.agg (Ah i).toArray) (.agg (Ah j).toArray)).run prog w=.ok (decide (Ef i=Ef j)) w:=
  Tv i.k i.l i.s i.b0 i.b1 i.b2 i.b3 i.o0 i.o1 i.o2 i.o3 i.o4 i.o5 i.o6 i.o7 j.k j.l j.s j.b0 j.b1 j.b2 j.b3 j.o0 j.o1 j.o2 j.o3 j.o4 j.o5 j.o6 j.o7 w
theorem Adw (x y:Operand) {i j:InoT} {t:Bool} (ht:decide (Ef i=Ef j)=t) (w:World):(do eqGuard .eql 25 x y (.agg (Ah i).toArray) (.agg (Ah j).toArray);binOp .eql 25 (.agg (Ah i).toArray) (.agg (Ah j).toArray):Sem Value).run prog w=.ok (.bool t) w:=by
  subst ht
  have h:(Op.equal 25 (.agg (Ah i).toArray) (.agg (Ah j).toArray)).run prog w=.ok (decide (Ef i=Ef j)) w:=WY i j w
  rw [Sem.run_bind,run_eqGuard_agg (P:=prog) w .eql 25 x y _ _ κ]
  show (binOp .eql 25 _ _).run prog w=_
  simp only [binOp,Sem.run_bind,h]
  rfl
theorem Iy (x y:Operand) {i j:InoT} {t:Bool} (ht:(!decide (Ef i=Ef j))=t) (w:World):(do eqGuard .neq 25 x y (.agg (Ah i).toArray) (.agg (Ah j).toArray);binOp .neq 25 (.agg (Ah i).toArray) (.agg (Ah j).toArray):Sem Value).run prog w=.ok (.bool t) w:=by
  subst ht
  have h:(Op.equal 25 (.agg (Ah i).toArray) (.agg (Ah j).toArray)).run prog w=.ok (decide (Ef i=Ef j)) w:=WY i j w
  rw [Sem.run_bind,run_eqGuard_agg (P:=prog) w .neq 25 x y _ _ κ]
  show (binOp .neq 25 _ _).run prog w=_
  simp only [binOp,Sem.run_bind,h]
  rfl
theorem Yd (k n:Nat) (h:n<256 ^ k):BW (le k n)=n:=by
  induction k generalizing n with
  | zero=>simp [le,BW] at *;omega
  | succ k ih=>
    have h':n / 256<256 ^ k:=by
      rw [Nat.div_lt_iff_lt_mul ω];rw [Nat.pow_succ] at h;exact h
    simp only [le,BW]
    rw [ih _ h']
    have:(UInt8.ofNat n).toNat=n % 256:=by simp
    rw [this];omega
theorem XA {i:InoT} (h:Ef i=ID):i=AT:=by
  cases i
  unfold Ef ID at h
  simp only [List.cons.injEq,and_true] at h
  obtain ⟨h0,h1,h2,h3,h4,h5,h6,h7,h8,h9,h10,h11,h12,h13,h14⟩:=h
  subst h0 h1 h2 h3 h4 h5 h6 h7 h8 h9 h10 h11 h12 h13 h14
  rfl
theorem Vd {i:InoT} (hm:AS i=true) (hk:i.k=0):i=AT:=by
  have:=Gg (i:=i) ω ω
  rw [hm] at this
  exact XA (of_decide_eq_true this.symm)
theorem IX {i:InoT} (hm:AS i=true) (hk:i.k≠0):Cc i=Hm i++le 4 (Cf (Hm i)):=by rw [VC hm hk,OQ]
theorem TU {i:InoT} (hm:AS i=true):(Cc i).length=64:=by
  by_cases hk:i.k=0
  · rw [Kr hm hk];simp
  · rw [IX hm hk,List.length_append,Jr,AE]
theorem LL {i:InoT} (hm:AS i=true) (hk:i.k≠0):Bd (Cc i)=i:=by
  have hkd:=NM hm
  have hlow:=XS hm
  have hX:=RS hm
  rw [IX hm hk]
  generalize Cf (Hm i)=z
  unfold Hm
  rw [hX]
  have e:∀ n:Int,0≤n→n≤255→((UInt8.ofNat n.toNat).toNat:Int)=n:=by
    intro n h0 h1
    have:(UInt8.ofNat n.toNat).toNat=n.toNat % 256:=by simp
    rw [this];omega
  have es:∀ n:Int,0≤n→n≤256→((UInt8.ofNat n.toNat).toNat:Int)+256*((UInt8.ofNat (n.toNat / 256)).toNat:Int)=n:=by
    intro n h0 h1
    have e1:(UInt8.ofNat n.toNat).toNat=n.toNat % 256:=by simp
    have e2:(UInt8.ofNat (n.toNat / 256)).toNat=n.toNat / 256 % 256:=by simp
    rw [e1,e2];omega
  clear hX
  obtain ⟨k,l,s,b0,b1,b2,b3,o0,o1,o2,o3,o4,o5,o6,o7⟩:=i
  simp only [InoT.B,InoT.O] at *
  show (⟨((UInt8.ofNat k.toNat).toNat:Int),((UInt8.ofNat l.toNat).toNat:Int),((UInt8.ofNat s.toNat).toNat:Int)+256*((UInt8.ofNat (s.toNat / 256)).toNat:Int),((UInt8.ofNat b0.toNat).toNat:Int),((UInt8.ofNat b1.toNat).toNat:Int),((UInt8.ofNat b2.toNat).toNat:Int),((UInt8.ofNat b3.toNat).toNat:Int),((UInt8.ofNat o0.toNat).toNat:Int),((UInt8.ofNat o1.toNat).toNat:Int),((UInt8.ofNat o2.toNat).toNat:Int),((UInt8.ofNat o3.toNat).toNat:Int),((UInt8.ofNat o4.toNat).toNat:Int),((UInt8.ofNat o5.toNat).toNat:Int),((UInt8.ofNat o6.toNat).toNat:Int),((UInt8.ofNat o7.toNat).toNat:Int)⟩:InoT)=_
  have H:∀ n∈[b0,b1,b2,b3]++[o0,o1,o2,o3,o4,o5,o6,o7],((UInt8.ofNat n.toNat).toNat:Int)=n:=fun n hn=>e n (hlow n hn).1 (hlow n hn).2
  rw [e k hkd.1 ω,e l hkd.2.2.1 ω,es s hkd.2.2.2.2.1 hkd.2.2.2.2.2,H b0 (by simp),H b1 (by simp),H b2 (by simp),H b3 (by simp),H o0 (by simp),H o1 (by simp),H o2 (by simp),H o3 (by simp),H o4 (by simp),H o5 (by simp),H o6 (by simp),H o7 (by simp)]
theorem YS {Y t:Λ} (hY:Y.length=60) (ht:t.length=4):(Y++t).take 60=Y∧slI (Y++t) 60 4=t:=by
  refine ⟨by rw [← hY];exact List.take_left,?_⟩
  unfold slI
  rw [← hY,List.drop_left,← ht,List.take_length]
theorem VW {i:InoT} (hm:AS i=true) (hk:i.k≠0):KT (Cc i)=true:=by
  rw [IX hm hk]
  obtain ⟨h1,h2⟩:=YS (Jr i) (AE 4 (Cf (Hm i)))
  unfold KT
  rw [h1,h2]
  exact decide_eq_true (Yd 4 _ (Nat.lt_of_lt_of_le (Eu _) (by decide)))
theorem Zu {i:InoT} (hm:AS i=true) (hk:i.k≠0):(bAt (Cc i) 0:Int)=i.k:=congrArg InoT.k (LL hm hk)
theorem Aa1 {i:InoT} (hm:AS i=true) (hk:i.k≠0):Cc i≠Dl:=by
  intro e
  have:=Zu hm hk
  rw [e] at this
  exact hk this.symm
theorem VD {i:InoT} (hm:AS i=true):rdI (Cc i)=i∧rdE (Cc i)=0:=by
  have hl:=TU hm
  have ht:(Cc i).take 64=Cc i:=List.take_of_length_le ω
  by_cases hk:i.k=0
  · have e0:=Vd hm hk
    obtain ⟨h1,h2⟩:=TX (xs:=Cc i) ω (by rw [ht];exact Kr hm hk)
    exact ⟨by rw [h1,e0],h2⟩
  · have hf:=LL hm hk
    obtain ⟨h1,h2⟩:=TW (xs:=Cc i) ω (by rw [ht];exact Aa1 hm hk) (by rw [ht];exact VW hm hk) (by
      rw [ht];unfold Ks;rw [hf,hm,Bool.true_and];exact decide_eq_true rfl)
    rw [ht,hf] at h1
    exact ⟨h1,h2⟩
end
end Go.Proofs.YthiplgahhejmcaaGreatDoor
