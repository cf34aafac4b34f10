/- Parts of the proof. -/
import Derived.Shelf.Strings.Repeat
import Derived.Lib.ConvBytes
import Derived.Laws.AppendOwn
import Derived.Scope
import Derived.Lib.UnsafeStr
import Derived.Shelf.RegionOpenPlain
import Derived.Test.YtbfgjinpchbajaaGreatDoorQal
namespace Go.Proofs.YtbfgjinpchbajaaGreatDoor
open Go.RowKit
open _root_.Go.Proofs.Tryz
set_option linter.unusedSimpArgs false
set_option linter.unusedVariables false
set_option linter.unusedSectionVars false
set_option maxRecDepth 100000
set_option maxHeartbeats 8000000
section
abbrev mtC (mx:Nat) (K:VolK):Ch:=Ab mx 103 [π K.tg]
abbrev opX:InoT:=⟨1,1,0,0,0,0,0,1,0,0,0,0,0,0,0⟩
def opB:Λ:=[1,1,0,0,0,0,0,0,1]++(List.replicate 51 0++[123,254,65,206])
theorem PB:Ez opX=0∧Ce opX=opB:=⟨by decide +kernel,by decide +kernel⟩
section
variable {M:MemM} {P:List PtM} {s:BH} {c:Nat}
structure OpenS (s:BH) (X:Λ) (nm:ByteArray) (k j:Nat) (x:InoT) (t:List EntT) (bs rb:Λ) (y:InoT) (b:Int):Prop where
  hX:X.length≤1000
  hp:Co X=some [nm]
  hw:NB s [nm]=(0,10)
  hi:CF s 1=0∧(CG s 1).k=2
  h32:k<32
  kn:∀ j:Nat,j<k→¬ (CF s ((j:Int)+1)=0∧(CG s ((j:Int)+1)).k=0)
  ko:CF s ((k:Int)+1)=0∧(CG s ((k:Int)+1)).k=0
  hk:Eu 4 ((k:Int)+1)=true
  hs:nm.size≤1000
  te:II (BW s 4 ((k:Int)+1) opB) 1=0
  ie:CF (BW s 4 ((k:Int)+1) opB) 1=0
  ex:CG (BW s 4 ((k:Int)+1) opB) 1=x
  et:Ei (BW s 4 ((k:Int)+1) opB) 1=t
  xs:0≤x.s∧x.s≤1000
  hj:j<16
  pl:Ey t nm=(j:Int)
  hu:Hk (ET t (j:Int) ⟨nm,(k:Int)+1⟩) ((j / 4:Nat):Int)=true
  hbf:Gf (ET t (j:Int) ⟨nm,(k:Int)+1⟩) ((j / 4:Nat):Int)=some bs
  bl:bs.length≤64
  hy:Ez y=0∧Ce y=rb∧rb.length≤64
  hb:y.blk (j / 4)=b∧Eu 7 b=true
variable {X:Λ} {nm:ByteArray} {k j:Nat} {x y:InoT} {t:List EntT} {bs rb ms:Λ} {b:Int}
theorem QS (V:Vol M P s c) (hc:c≤55) (H:OpenS s X nm k j x t bs rb y b) (hk:x.blk (j / 4)≠0) (hy:Wf x=y) :
    ∃ P',Vol M P' (BW (BW (BW s 4 ((k:Int)+1) opB) 7 b bs) 4 1 rb) (c+3)∧∀ {w:World} {R:List Ch} {mx:Nat} {K:VolK} {ta:Ω} {tc:Nat} (_:Sep w ([mtC mx K,txP K ta tc M P]++R)),
      CallsR prog 26 #[π mx,ν 1,σ X,ν 1,.bool false,ν 0] w fun v w'=>∃ ta' tc',v=.tuple #[ν ((k:Int)+1),ν 0]∧Sep w' ([mtC mx K,txP K ta' tc' M P']++R):=by
  obtain ⟨q,hq⟩:=AZ H.hk
  obtain ⟨q7,hq7⟩:=AZ H.hb.2
  obtain ⟨q1,hq1⟩:=AZ (YC 0)
  have z:=GH V hq PB.1 PB.2 (by decide) ω
  have d:=Adf z.2 H.te H.ie H.ex H.et
  have hb7:Bk 7 (y.blk (j / 4))=some q7:=by rw [H.hb.1];exact hq7
  have z2:=UJ z.2 (p:=1) hb7 H.bl hq1 H.hy.1 H.hy.2.1 H.hy.2.2 ω
  rw [H.hb.1] at z2
  have eA:Us M (BE M P ((k:Int)+1) opX) 1 j bs=VS M (BE M P ((k:Int)+1) opX) 1 y j bs:=by unfold Us;rw [d.2.1,hy]
  have eB:PU M (BE M P ((k:Int)+1) opX) 1 j bs=0:=by unfold PU;rw [d.2.1,hy];exact z2.1
  refine ⟨_,z2.2,fun hS=>?_⟩
  rw [← eA]
  exact Aca hS V.m H.hX (Zi V H.hp H.hw) (UY V H.hp H.hi.1 H.hi.2) (Zk V H.h32 H.kn H.ko) H.hs H.hj d.1 (by rw [d.2.1];exact H.xs) (by rw [d.2.2];exact H.pl) (by rw [d.2.1];exact hk) (by rw [d.2.2];exact H.hu) (by rw [d.2.2];exact H.hbf) H.bl
    (by show AN [Cp M P _ opX,PU M (BE M P _ opX) 1 j bs]=0;rw [z.1,eB];rfl)
theorem QR (V:Vol M P s c) (hc:c≤50) (H:OpenS s X nm k j x t bs rb y b) (hk:x.blk (j / 4)=0) (hy:Wf (x.setB (j / 4) b)=y) (hm:CU (BW s 4 ((k:Int)+1) opB)=ms) (hf:Ar ms 1=b) (hr:¬ 128-((Du ms 128).length:Int)≤max 0 0) :
    ∃ P',Vol M P' (BW (BW (BW (BW (BW s 4 ((k:Int)+1) opB) 3 0 (AT ms b)) 7 b (List.replicate 64 0)) 7 b bs) 4 1 rb) (c+5)∧∀ {w:World} {R:List Ch} {mx:Nat} {K:VolK} {ta:Ω} {tc:Nat} (_:Sep w ([mtC mx K,txP K ta tc M P]++R)),
      CallsR prog 26 #[π mx,ν 1,σ X,ν 1,.bool false,ν 0] w fun v w'=>∃ ta' tc',v=.tuple #[ν ((k:Int)+1),ν 0]∧Sep w' ([mtC mx K,txP K ta' tc' M P']++R):=by
  obtain ⟨q,hq⟩:=AZ H.hk
  obtain ⟨q7,hq7⟩:=AZ H.hb.2
  obtain ⟨q1,hq1⟩:=AZ (YC 0)
  have z:=GH V hq PB.1 PB.2 (by decide) ω
  have d:=Adf z.2 H.te H.ie H.ex H.et
  have zb:=Kv z.2 (sp:=0) hm hf hr hq7 ω
  have hb7:Bk 7 (y.blk (j / 4))=some q7:=by rw [H.hb.1];exact hq7
  have z2:=UJ zb.2.2 (p:=1) hb7 H.bl hq1 H.hy.1 H.hy.2.1 H.hy.2.2 ω
  rw [H.hb.1] at z2
  have eA:Ur M (BE M P ((k:Int)+1) opX) 1 0 j bs=VS M (bP M (BE M P ((k:Int)+1) opX) 0) 1 y j bs:=by unfold Ur;rw [d.2.1,zb.1,hy]
  have eB:PT M (BE M P ((k:Int)+1) opX) 1 0 j bs=0:=by unfold PT;rw [d.2.1,zb.1,hy];exact z2.1
  refine ⟨_,z2.2,fun hS=>?_⟩
  rw [← eA]
  exact Ab9 hS V.m H.hX (Zi V H.hp H.hw) (UY V H.hp H.hi.1 H.hi.2) (Zk V H.h32 H.kn H.ko) H.hs H.hj d.1 (by rw [d.2.1];exact H.xs) (by rw [d.2.2];exact H.pl) (by rw [d.2.1];exact hk) zb.2.1 (by rw [d.2.2];exact H.hu) (by rw [d.2.2];exact H.hbf) H.bl
    (by show AN [Cp M P _ opX,PT M (BE M P _ opX) 1 0 j bs]=0;rw [z.1,eB];rfl)
end
def nmF (i:UInt8):ByteArray:=⟨#[i]⟩
def Abb (a b:UInt8) (n m:UInt8):Λ:=(n::1::a::List.replicate 13 0)++(m::(if b=0 then 0 else 1)::b::List.replicate 13 0)++List.replicate 32 0
def Abc (a b:UInt8) (n m:UInt8):Λ:=List.replicate 32 0++(n::1::a::List.replicate 13 0)++(m::(if b=0 then 0 else 1)::b::List.replicate 13 0)
def rtX (k:Int) (b0 b3:Int):InoT:=⟨2,1,k,b0,0,0,b3,0,0,0,0,0,0,0,0⟩
def rtB (k b0 b3:UInt8) (z:Λ):Λ:=[2,1,k,0,b0,0,0,b3]++(List.replicate 52 0++z)
def r1B:Λ:=rtB 1 0 1 [116,40,151,23]
def r2B:Λ:=rtB 2 0 1 [193,56,222,200]
def r3B:Λ:=rtB 3 2 1 [252,16,51,185]
def r4B:Λ:=rtB 4 2 1 [68,56,23,150]
def s1S:BH:=BW (BW (BW (BW (BW sAS 4 2 opB) 3 0 (AT AE 1)) 7 1 (List.replicate 64 0)) 7 1 (Abc 97 0 2 0)) 4 1 r1B
def s2S:BH:=BW (BW (BW s1S 4 3 opB) 7 1 (Abc 97 98 2 3)) 4 1 r2B
def s3S:BH:=BW (BW (BW (BW (BW s2S 4 4 opB) 3 0 (AT (AT AE 1) 2)) 7 2 (List.replicate 64 0)) 7 2 (Abb 99 0 4 0)) 4 1 r3B
def s4S:BH:=BW (BW (BW s3S 4 5 opB) 7 2 (Abb 99 100 4 5)) 4 1 r4B
def Ahj:List EntT:=ET Bm 14 ⟨nmF 97,2⟩
def Ahk:List EntT:=ET Ahj 15 ⟨nmF 98,3⟩
def Aiq:List EntT:=ET Ahk 0 ⟨nmF 99,4⟩
theorem op1:OpenS sAS [47,97] (nmF 97) 1 14 Rs Bm (Abc 97 0 2 0) r1B (rtX 1 0 1) 1 where
  hX:=by decide
  hp:=κ
  hw:=by decide +kernel
  hi:=by decide +kernel
  h32:=by decide
  kn:=fun j hj=>(by decide +kernel:∀ j:Fin 1,¬ (CF sAS ((j.val:Int)+1)=0∧(CG sAS ((j.val:Int)+1)).k=0)) ⟨j,hj⟩
  ko:=by decide +kernel
  hk:=by decide +kernel
  hs:=by decide
  te:=by decide +kernel
  ie:=by decide +kernel
  ex:=κ
  et:=κ
  xs:=by decide
  hj:=by decide
  pl:=by decide +kernel
  hu:=by decide +kernel
  hbf:=by decide +kernel
  bl:=by decide
  hy:=by decide +kernel
  hb:=by decide +kernel
theorem op2:OpenS s1S [47,98] (nmF 98) 2 15 (rtX 1 0 1) Ahj (Abc 97 98 2 3) r2B (rtX 2 0 1) 1 where
  hX:=by decide
  hp:=κ
  hw:=by decide +kernel
  hi:=by decide +kernel
  h32:=by decide
  kn:=fun j hj=>(by decide +kernel:∀ j:Fin 2,¬ (CF s1S ((j.val:Int)+1)=0∧(CG s1S ((j.val:Int)+1)).k=0)) ⟨j,hj⟩
  ko:=by decide +kernel
  hk:=by decide +kernel
  hs:=by decide
  te:=by decide +kernel
  ie:=by decide +kernel
  ex:=κ
  et:=κ
  xs:=by decide
  hj:=by decide
  pl:=by decide +kernel
  hu:=by decide +kernel
  hbf:=by decide +kernel
  bl:=by decide
  hy:=by decide +kernel
  hb:=by decide +kernel
theorem op3:OpenS s2S [47,99] (nmF 99) 3 0 (rtX 2 0 1) Ahk (Abb 99 0 4 0) r3B (rtX 3 2 1) 2 where
  hX:=by decide
  hp:=κ
  hw:=by decide +kernel
  hi:=by decide +kernel
  h32:=by decide
  kn:=fun j hj=>(by decide +kernel:∀ j:Fin 3,¬ (CF s2S ((j.val:Int)+1)=0∧(CG s2S ((j.val:Int)+1)).k=0)) ⟨j,hj⟩
  ko:=by decide +kernel
  hk:=by decide +kernel
  hs:=by decide
  te:=by decide +kernel
  ie:=by decide +kernel
  ex:=κ
  et:=κ
  xs:=by decide
  hj:=by decide
  pl:=by decide +kernel
  hu:=by decide +kernel
  hbf:=by decide +kernel
  bl:=by decide
  hy:=by decide +kernel
  hb:=by decide +kernel
theorem op4:OpenS s3S [47,100] (nmF 100) 4 1 (rtX 3 2 1) Aiq (Abb 99 100 4 5) r4B (rtX 4 2 1) 2 where
  hX:=by decide
  hp:=κ
  hw:=by decide +kernel
  hi:=by decide +kernel
  h32:=by decide
  kn:=fun j hj=>(by decide +kernel:∀ j:Fin 4,¬ (CF s3S ((j.val:Int)+1)=0∧(CG s3S ((j.val:Int)+1)).k=0)) ⟨j,hj⟩
  ko:=by decide +kernel
  hk:=by decide +kernel
  hs:=by decide
  te:=by decide +kernel
  ie:=by decide +kernel
  ex:=κ
  et:=κ
  xs:=by decide
  hj:=by decide
  pl:=by decide +kernel
  hu:=by decide +kernel
  hbf:=by decide +kernel
  bl:=by decide
  hy:=by decide +kernel
  hb:=by decide +kernel
def Ae2 (k:Nat):Λ:=[47,UInt8.ofNat (97+k)]
def sKS:Nat→BH
  | 0=>sAS
  | 1=>s1S
  | 2=>s2S
  | 3=>s3S
  | _=>s4S
def cKS:Nat→Nat
  | 0=>0
  | 1=>5
  | 2=>8
  | 3=>13
  | _=>16
theorem Ae1 {M:MemM} {P:List PtM} {k:Nat} (hk:k<4) (V:Vol M P (sKS k) (cKS k)) :
    ∃ P',Vol M P' (sKS (k+1)) (cKS (k+1))∧∀ {w:World} {R:List Ch} {mx:Nat} {K:VolK} {ta:Ω} {tc:Nat} (_:Sep w ([mtC mx K,txP K ta tc M P]++R)),
      CallsR prog 26 #[π mx,ν 1,σ (Ae2 k),ν 1,.bool false,ν 0] w fun v w'=>∃ ta' tc',v=.tuple #[ν ((k:Int)+2),ν 0]∧Sep w' ([mtC mx K,txP K ta' tc' M P']++R):=by
  rcases (ω:k=0∨k=1∨k=2∨k=3) with rfl | rfl | rfl | rfl
  · exact QR (ms:=AE) V (by decide) op1 (by decide) κ (by decide +kernel) (by decide +kernel) (by decide +kernel)
  · exact QS V (by decide) op2 (by decide) κ
  · exact QR (ms:=AT AE 1) V (by decide) op3 (by decide) κ (by decide +kernel) (by decide +kernel) (by decide +kernel)
  · exact QS V (by decide) op4 (by decide) κ
end
section
def Tg (lg g v d p:Nat) (M:MemM):Ch where
 F b:=b=lg∨b=g∨b=v∨b=d∨b=p
 P w:=LogP w lg g v d p 2688 4096 M∧g<lg∧v<lg∧d<lg∧p<lg
 keep h t:=⟨Ex h.1 t (fun q=>q (.inl rfl)) (fun q=>q (.inr (.inl rfl))) (fun q=>q (.inr (.inr (.inl rfl)))) (fun q=>q (.inr (.inr (.inr (.inl rfl))))) (fun q=>q (.inr (.inr (.inr (.inr rfl))))),h.2⟩
 lt h b hb:=by
  obtain ⟨h1,h2,h3,h4,h5⟩:=h.1.lt
  rcases hb with e | e | e | e | e<;>omega
theorem Aeu {w:World} {R:List Ch} (hS:Sep w R):CallsR prog 21 #[ν 23168] w (fun v w'=>∃ g v1 d p,v=π g∧Sep w' (Aeq g v1 d p (GS 23168)::R)):=
 Calls.mono (Zg 23168 w ω) fun e w' z=>by
  unfold Vt at z
  rw [if_pos (by decide)] at z
  obtain ⟨g,v,d,p,e1,m,⟨h1,h2,h3,h4⟩,b⟩:=z
  exact ⟨_,e1,g,v,d,p,rfl,hS.push b (c:=Aeq g v d p (GS 23168)) m fun k hk=>by rcases hk with e | e | e | e<;>omega⟩
theorem Aet {w:World} {R:List Ch} {g v1 d p:Nat} {M:MemM} (hS:Sep w (Aeq g v1 d p M::R)) (hM:M.V.length=23168):CallsR prog 22 #[π g,ν 2688,ν 4096] w (fun v w'=>∃ lg,v=π lg∧Sep w' (Tg lg g v1 d p M::R)):=by
 have h:MemP w g v1 d p M:=hS.get 0 rfl
 refine Calls.mono (Zf h 2688 4096 (by unfold EG;omega) (by unfold EG;omega) ω) fun e w' z=>?_
 unfold NS at z
 rw [if_pos (by unfold JS;omega)] at z
 obtain ⟨lg,e1,hb,hl,b⟩:=z
 obtain ⟨_,_,_,_,_,_,h1,h2,h3,h4⟩:=DO h
 refine ⟨_,e1,lg,rfl,hS.head (Turns.of_below (X:=fun _=>False) b) (fun k hk (q:False)=>q.elim) (c':=Tg lg g v1 d p M) ⟨⟨hb,h.mono b⟩,ω⟩ fun k q=>?_⟩
 rcases q with q | q | q | q | q
 ·right;omega
 ·exact .inl (.inl q)
 ·exact .inl (.inr (.inl q))
 ·exact .inl (.inr (.inr (.inl q)))
 ·exact .inl (.inr (.inr (.inr q)))
theorem Aev {w:World} {R:List Ch} {lg g v1 d p:Nat} {M:MemM} (hS:Sep w (Tg lg g v1 d p M::R)) (hM:M.V.length=23168):CallsR prog 23 #[π g,π lg] w (fun v w'=>∃ K:VolK,v=π K.tg∧Sep w' (txP K none 0 M []::R)):=by
 have h:LogP w lg g v1 d p 2688 4096 M∧g<lg∧v1<lg∧d<lg∧p<lg:=hS.get 0 rfl
 refine Calls.mono (Zh w g lg) fun e w' ⟨tg,e1,hb,hl,b⟩=>⟨_,e1,⟨tg,lg,g,v1,d,p⟩,rfl,hS.head (Turns.of_below (X:=fun _=>False) b) (fun k hk (q:False)=>q.elim) (c':=txP ⟨tg,lg,g,v1,d,p⟩ none 0 M []) ?_ fun k q=>?_⟩
 ·have l:=h.1.lt
  exact ⟨h.1.mono b,hb,Own.nil _ _ _ _,TxOk.nil _,hM,by dsimp only;omega⟩
 ·rcases q with (q | q | q | q | q | q) | q
  ·right;exact q ▸ hl
  ·exact .inl (.inl q)
  ·exact .inl (.inr (.inl q))
  ·exact .inl (.inr (.inr (.inl q)))
  ·exact .inl (.inr (.inr (.inr (.inl q))))
  ·exact .inl (.inr (.inr (.inr (.inr q))))
  ·cases q
theorem Qr {w:World} {R:List Ch} {mx:Nat} {K:VolK} {ta:Ω} {tc:Nat} (hS:Sep w ([mtC mx K,txP K ta tc (GS 23168) []]++R)):CallsR prog 25 #[π mx] w (fun v w'=>∃ ta' tc',v=ν 0∧Sep w' ([mtC mx K,txP K ta' tc' (GS 23168) (DX (GS 23168) [] 8)]++R)):=
 Calls.mono (Yw hS Ic) fun e w' z=>by rw [(Pr Ahn 8 (Nat.le_refl _)).1] at z;exact z
theorem Hs {w:World} {R:List Ch} {K:VolK} {ta:Ω} {tc:Nat} {M M':MemM} {P:List PtM} (hS:Sep w (txP K ta tc M P::R)) (h1:cmE M P=0) (h2:cmP M P=[]) (h3:M'=cmM M P):CallsR prog 12 #[pG K.tg] w (fun x w'=>∃ ta' tc',x=ν 0∧Sep w' (txP K ta' tc' M' []::R)):=
 Calls.mono (XV hS) fun e w' z=>by rw [h1,h2,← h3] at z;exact z
theorem Ad3 (k:Nat):cKS k≤50:=by unfold cKS;split<;>omega
theorem Ae3 {k:Nat} (hk:k<4):([.string ⟨#[47,97]⟩,.string ⟨#[47,98]⟩,.string ⟨#[47,99]⟩,.string ⟨#[47,100]⟩]:List Value)[0+k]? = some (σ (Ae2 k)):=by
 rcases (ω:k=0∨k=1∨k=2∨k=3) with rfl | rfl | rfl | rfl<;>rfl
theorem SF {w:World} {R:List Ch} {tg mx:Nat} (hS0:Sep w ([]++R)) :
  CallsR prog 20 #[π tg,π mx] w (fun v w'=>∃ fx,v=π fx∧Sep w' ([Ab fx 83 [π tg,π mx]]++R)):=by
 have hS:Sep w [Ch.many R]:=Sep.tail_many (xs:=[]) hS0;clear hS0
 refine AL func20 rfl (N:=15) ntmps20 (by show 2≤15;decide) [(0,π tg),(1,π mx)] rfl fun _ h1=>sqr fun _ hK3=>mv h1 rfl fun _ h4=>wpList_nil<|hK3 _ _<|sq fun _ hK6=>sqr fun _ hK7=>mv h4 rfl fun _ h8=>bv h8 (z:=.bool false) rfl (OX _ υ30 _ _ _) fun _ h2=>mv h2 rfl fun _ h3=>sv h3 (wF h3 (E:=false) rfl rfl rfl) rfl rfl rfl (v:=π mx) (AF h3 rfl rfl) fun _ h5=>sv h5 (wF h5 (E:=false) rfl rfl rfl) rfl rfl rfl (v:=.bool false) (BN h5 rfl rfl rfl (OX _ υ31 _ _ _)) fun _ h6=>?_
 refine sv1 h6 rfl (v:=.bool false) (Dq h6 rfl rfl rfl) fun _ h7=>h7.sn [10,4,0,1] rfl fun h9=>hK7 _ _<|wcF h9 rfl rfl<|h9.sk [4,0,1] rfl fun h10=>wp_skip<|hK6 _ _<|sqr fun _ hK1=>mvs 2 h10 rfl fun _ h11=>bu h11 (v:=.agg #[π tg,π mx]) rfl (fun w=>κ) fun _ h12=>so (wn rfl) fun _ hK2=>FM h12 rfl rfl rfl rfl rfl (z:=[π tg,π mx]) rfl hS fun _ g1 w1 h13 s1 _ _=>hK2 _ _ ?_
 refine h13.sk [14,13,12,11,0,1] rfl fun h14=>mv h14 rfl fun _ h15=>h15.sn [4,0,1] rfl fun h16=>hK1 _ _<|wp_ret ?_
 try simp only [Exit.then,Exit.inBlock]
 refine Bj (v:=π g1) (CV h16 rfl rfl) h16.defs ?_
 exact ⟨g1,rfl,Sep.tail_un (xs:=[_]) s1⟩
theorem Aa0 {w:World} {R:List Ch} (hS0:Sep w ([]++R)) :
  CallsR prog 7 #[] w (fun v w'=>∃ K ta tc M mx fx vx,v=π vx∧Vol M [] s4S 0∧Sep w' ([Ab vx 34 [π K.tg,π mx,π fx],Ab fx 83 [π K.tg,π mx],Ab mx 103 [π K.tg],txP K ta tc M []]++R)):=by
 have hS:Sep w [Ch.many R]:=Sep.tail_many (xs:=[]) hS0;clear hS0
 refine AL func7 rfl (N:=75) ntmps7 (by show 0≤75;decide) [] rfl fun _ h1=>sqr fun _ hK3=>mv h1 rfl fun _ h4=>wpList_nil<|hK3 _ _<|sqr fun _ hK6=>cl h4 rfl (cF func21) (Aeu hS) fun _ v1 w1 r1 h2=>?_
 obtain ⟨pgx7,pv_x8,pdx9,ppx10,rfl,s1⟩:=r1
 refine mv h2 rfl fun _ h3=>h3.sn [1,0] rfl fun h5=>hK6 _ _<|sq fun _ hK1=>sqr fun _ hK2=>mv h5 rfl fun _ h6=>bv h6 (z:=.bool false) rfl (OX _ υ59 _ _ _) fun _ h7=>h7.sn [12,1,0] rfl fun h8=>hK2 _ _<|wcF h8 rfl rfl<|h8.sk [1,0] rfl fun h9=>?_
 refine wp_skip<|hK1 _ _<|sqr fun _ hK4=>mv h9 rfl fun _ h10=>cl h10 rfl (cF func22) (Aet s1 Ic) fun _ v2 w2 r2 h11=>?_
 obtain ⟨lg_x32,rfl,s2⟩:=r2
 refine mv h11 rfl fun _ h12=>h12.sn [2,1,0] rfl fun h13=>hK4 _ _<|sq fun _ hK5=>sqr fun _ hK7=>mv h13 rfl fun _ h14=>bv h14 (z:=.bool false) rfl (OX _ υ61 _ _ _) fun _ h15=>h15.sn [16,2,1,0] rfl fun h16=>hK7 _ _<|wcF h16 rfl rfl<|h16.sk [2,1,0] rfl fun h17=>?_
 refine wp_skip<|hK5 _ _<|sqr fun _ hK8=>mvs 2 h17 rfl fun _ h18=>cl h18 rfl (cF func23) (Aev s2 Ic) fun _ v3 w3 r3 h19=>?_
 obtain ⟨kk_x56,rfl,s3⟩:=r3
 refine mv h19 rfl fun _ h20=>h20.sn [3,2,1,0] rfl fun h21=>hK8 _ _<|sqr fun _ hK9=>mv h21 rfl fun _ h22=>cl h22 rfl (cF func24) (Wq (K:=kk_x56) s3 Ic) fun _ v4 w4 r4 h23=>?_
 obtain ⟨mx_x70,rfl,s4⟩:=r4
 refine mv h23 rfl fun _ h24=>h24.sn [4,3,2,1,0] rfl fun h25=>hK9 _ _<|sqr fun _ hK10=>mvs 2 h25 rfl fun _ h26=>cl h26 rfl (cF func20) (SF s4) fun _ v5 w5 r5 h27=>?_
 obtain ⟨fx_x86,rfl,s5⟩:=r5
 refine mv h27 rfl fun _ h28=>h28.sn [5,4,3,2,1,0] rfl fun h29=>hK10 _ _<|sq fun _ hK11=>sqr fun _ hK12=>mv h29 rfl fun _ h30=>bv h30 (z:=.bool false) rfl (OX _ υ30 _ _ _) fun _ h31=>mv h31 rfl fun _ h32=>sv h32 (wF h32 (E:=false) rfl rfl rfl) rfl rfl rfl (v:=π mx_x70) (AF h32 rfl rfl) fun _ h33=>sv h33 (wF h33 (E:=false) rfl rfl rfl) rfl rfl rfl (v:=.bool false) (BN h33 rfl rfl rfl (OX _ υ31 _ _ _)) fun _ h34=>sv1 h34 rfl (v:=.bool false) (Dq h34 rfl rfl rfl) fun _ h35=>?_
 refine mv h35 rfl fun _ h36=>sv h36 (wF h36 (E:=false) rfl rfl rfl) rfl rfl rfl (v:=π fx_x86) (AF h36 rfl rfl) fun _ h37=>sv h37 (wF h37 (E:=false) rfl rfl rfl) rfl rfl rfl (v:=.bool false) (BN h37 rfl rfl rfl (OX _ υ32 _ _ _)) fun _ h38=>sv1 h38 rfl (v:=.bool false) (Dq h38 rfl rfl rfl) fun _ h39=>mv h39 rfl fun _ h40=>sv h40 (wF h40 (E:=false) rfl rfl rfl) rfl rfl rfl (v:=π mx_x70) (AF h40 rfl rfl) fun _ h41=>so (wF h41 (E:=false) rfl rfl rfl) fun _ hK13=>BI h41 rfl rfl rfl (xs:=[.tmp 36]) rfl (cF func25) rfl (vs:=[π mx_x70]) rfl (args:=#[π mx_x70]) rfl (Qr (s5.pk [1,2,0,3] rfl)) fun _ v6 w6 r6 h42=>hK13 _ _ ?_
 obtain ⟨tax123,tcx124,rfl,s6⟩:=r6
 refine sv h42 (wF h42 (E:=false) rfl rfl rfl) rfl rfl rfl (v:=.bool false) (BN h42 rfl rfl rfl (cNe _ _ _ _ rfl)) fun _ h43=>sv1 h43 rfl (v:=.bool false) (Dq h43 rfl rfl rfl) fun _ h44=>mv h44 rfl fun _ h45=>sv h45 (wF h45 (E:=false) rfl rfl rfl) rfl rfl rfl (v:=π kk_x56.tg) (AF h45 rfl rfl) fun _ h46=>?_
 have hv140:=Vol.com (Pr Ahn 8 (Nat.le_refl _)).2 (by decide)
 obtain ⟨M141,he142⟩:∃ M',M'=cmM (GS 23168) (DX (GS 23168) [] 8):=⟨_,rfl⟩
 rw [← he142] at hv140
 refine so (wF h46 (E:=false) rfl rfl rfl) fun _ hK14=>BI h46 rfl rfl rfl (xs:=[.tmp 41]) rfl (cF func12) rfl (vs:=[π kk_x56.tg]) rfl (args:=#[π kk_x56.tg]) rfl (Hs (s6.pk [1,0,2,3] rfl) hv140.1 hv140.2.1 he142) fun _ v7 w7 r7 h47=>hK14 _ _ ?_
 obtain ⟨tax143,tcx144,rfl,s7⟩:=r7
 refine sv h47 (wF h47 (E:=false) rfl rfl rfl) rfl rfl rfl (v:=.bool false) (BN h47 rfl rfl rfl (cNe _ _ _ _ rfl)) fun _ h48=>sv1 h48 rfl (v:=.bool false) (Dq h48 rfl rfl rfl) fun _ h49=>h49.sn [44,5,4,3,2,1,0] rfl fun h50=>hK12 _ _<|wcF h50 rfl rfl<|h50.sk [5,4,3,2,1,0] rfl fun h51=>wp_skip<|hK11 _ _<|sqr fun _ hK15=>so (wn rfl) fun _ hK16=>Do h51 rfl rfl rfl (E:=9) (xs:=[(0,.const (σ [47,97])),(1,.const (σ [47,98])),(2,.const (σ [47,99])),(3,.const (σ [47,100]))]) rfl (vs:=[(0,σ [47,97]),(1,σ [47,98]),(2,σ [47,99]),(3,σ [47,100])]) rfl (z:=[σ [47,97],σ [47,98],σ [47,99],σ [47,100]]) (fun _=>κ) s7 fun _ g1 w8 h52 s8 _ _=>hK16 _ _ ?_
 refine mv h52 rfl fun _ h53=>h53.sn [6,5,4,3,2,1,0] rfl fun h54=>hK15 _ _<|sq fun _ hK17=>sqr fun _ hK18=>mv h54 rfl fun _ h55=>wpList_nil<|hK18 _ _<|wp_block ?_
 refine Io (fun (k:Nat) (ta2:Ω) (tc2:Nat) (P2:List PtM) a' w'=>Kn 75 [(7,ν (k:Int)),(6,.slice (some ⟨g1,0,none⟩) 4 4),(5,π fx_x86),(4,π mx_x70),(3,π kk_x56.tg),(2,π lg_x32),(1,π pgx7),(0,.pointer none)] a'∧Sep w' [Ab g1 9 [σ [47,97],σ [47,98],σ [47,99],σ [47,100]],txP kk_x56 ta2 tc2 M141 P2,Ab mx_x70 103 [π kk_x56.tg],Ab fx_x86 83 [π kk_x56.tg,π mx_x70],Ch.many R]∧(k≤4)∧(Vol M141 P2 (sKS k) (cKS k))) (fun (k:Nat) (ta2:Ω) (tc2:Nat) (P2:List PtM)=>4-k) 0 tax143 tcx144 [] ⟨h55.subs rfl,s8,Nat.zero_le _,hv140.2.2⟩ ?_
 rintro k1 ta2182 tc2183 P2184 a1 w9 ⟨h56,s9,hk179,hvk180⟩ K1 hK19
 refine sq fun _ hK20=>sqr fun _ hK21=>mv h56 rfl fun _ h57=>bv h57 (z:=.bool (decide ((k1:Int)<4))) rfl (cLt _ _ _ _ rfl) fun _ h58=>h58.sn [47,7,6,5,4,3,2,1,0] rfl fun h59=>hK21 _ _ ?_
 rcases bC (decide ((k1:Int)<4)) with hc1 | hc1
 ·skip
  have hp1:(k1:Int)<4:=(dT hc1)
  refine wcT h59 rfl hc1<|h59.sk [7,6,5,4,3,2,1,0] rfl fun h60=>wp_skip<|hK20 _ _<|sq fun _ hK22=>wp_block ?_
  refine sqr fun _ hK23=>mvs 3 h60 rfl fun _ h61=>sv1 h61 rfl (v:=.pointer (some ⟨g1,0+k1,none⟩)) (Ci h61 rfl rfl rfl (fun w=>ixO υ25 κ (sz:=1) rfl (j:=k1) rfl ω ω w)) fun _ h62=>sw1 h62 rfl (v:=σ (Ae2 k1)) (rld h62 rfl rfl (ldB υ9 rfl (s9.get 0 rfl:Blk _ _ _ _) (Ae3 ω))) fun _ h63=>?_
  obtain ⟨P207,hv208,ho209⟩:=Ae1 (k:=k1) ω hvk180
  refine cl h63 rfl (cF func26) (ho209 (s9.pk [2,1,0,3,4] rfl)) fun _ v8 w10 r8 h64=>?_
  obtain ⟨tax210,tcx211,rfl,s10⟩:=r8
  refine mvs 5 h64 rfl fun _ h65=>h65.sn [9,8,7,6,5,4,3,2,1,0] rfl fun h66=>hK23 _ _<|sqr fun _ hK24=>mvs 2 h66 rfl fun _ h67=>bv h67 (z:=ν ((k1+2:Nat):Int)) rfl (CP _ _ _ ω ω ω) fun _ h68=>bv h68 (z:=.bool false) rfl (cNe _ _ _ _ (decide_eq_false (fun h=>h rfl))) fun _ h69=>mv h69 rfl fun _ h70=>sv h70 (wF h70 (E:=false) rfl rfl rfl) rfl rfl rfl (v:=ν 0) (AF h70 rfl rfl) fun _ h71=>sv h71 (wF h71 (E:=false) rfl rfl rfl) rfl rfl rfl (v:=.bool false) (BN h71 rfl rfl rfl (cNe _ _ _ _ rfl)) fun _ h72=>?_
  refine sv1 h72 rfl (v:=.bool false) (Dq h72 rfl rfl rfl) fun _ h73=>h73.sn [66,9,8,7,6,5,4,3,2,1,0] rfl fun h74=>hK24 _ _<|wcF h74 rfl rfl<|h74.sk [9,8,7,6,5,4,3,2,1,0] rfl fun h75=>wp_skip<|hK22 _ _<|wp_region_lit<|mv h75 rfl fun _ h76=>bv h76 (z:=ν ((k1+1:Nat):Int)) rfl (CP _ _ _ ω ω ω) fun _ h77=>h77.sk [49,48,9,8,6,5,4,3,2,1,0] rfl fun h78=>?_
  refine mv h78 rfl fun _ h79=>h79.sk [7,9,8,6,5,4,3,2,1,0] rfl fun h80=>wpList_nil ?_
  exact hK19 (k1+1) tax210 tcx211 P207 _ _ ⟨h80.subs rfl,(s10.pk [2,1,0,3,4] rfl),ω,hv208⟩ ω
 ·skip
  have hp2:¬ ((k1:Int)<4):=(dF hc1)
  refine wcF h59 rfl hc1<|h59.sk [7,6,5,4,3,2,1,0] rfl fun h81=>wp_exit ?_
  refine hK17 _ _ ?_
  refine sq fun _ hK25=>sqr fun _ hK26=>mv h81 rfl fun _ h82=>?_
  have hv263:=Vol.com hvk180 (Ad3 _)
  obtain ⟨M264,he265⟩:∃ M',M'=cmM M141 P2184:=⟨_,rfl⟩
  rw [← he265] at hv263
  refine cl h82 rfl (cF func12) (Hs (s9.pk [1,0,2,3,4] rfl) hv263.1 hv263.2.1 he265) fun _ v9 w11 r9 h83=>?_
  obtain ⟨tax266,tcx267,rfl,s11⟩:=r9
  refine bv h83 (z:=.bool false) rfl (cNe _ _ _ _ rfl) fun _ h84=>h84.sn [69,7,6,5,4,3,2,1,0] rfl fun h85=>hK26 _ _<|wcF h85 rfl rfl<|h85.sk [7,6,5,4,3,2,1,0] rfl fun h86=>wp_skip<|hK25 _ _<|sqr fun _ hK27=>mvs 3 h86 rfl fun _ h87=>bu h87 (v:=.agg #[π kk_x56.tg,π mx_x70,π fx_x86]) rfl (fun w=>κ) fun _ h88=>so (wn rfl) fun _ hK28=>FM h88 rfl rfl rfl rfl rfl (z:=[π kk_x56.tg,π mx_x70,π fx_x86]) rfl s11 fun _ g2 w12 h89 s12 _ _=>hK28 _ _ ?_
  refine h89.sk [74,73,72,71,70,7,6,5,4,3,2,1] rfl fun h90=>mv h90 rfl fun _ h91=>h91.sn [0,7,6,5,4,3,2,1] rfl fun h92=>hK27 _ _<|wp_ret ?_
  try simp only [Exit.then,Exit.inBlock]
  refine Bj (v:=π g2) (CV h92 rfl rfl) h92.defs ?_
  obtain rfl:k1=4:=ω
  exact ⟨kk_x56,tax266,tcx267,M264,mx_x70,fx_x86,g2,rfl,hv263.2.2,Sep.tail_un (xs:=[_,_,_,_]) (s12.pk [0,4,3,1,5] rfl)⟩
end
section
open Go.Shelf
def Fy:Go.Shelf.Ren:=⟨fun | 105=>86 | 212=>117 | 99=>118 | 165=>119 | 166=>120 | 170=>121 | 169=>37 | 263=>146 | 264=>147 | 206=>148 | 240=>66 | 241=>149 | 276=>99 | 277=>169 | n=>n,fun | 9=>9 | 3=>3 | 4=>4 | 20=>20 | 0=>0 | 46=>186 | 109=>187 | 5=>5 | 72=>76 | 76=>87 | 51=>135 | 146=>214 | 53=>216 | 148=>217 | 70=>73 | 37=>74 | 75=>86 | 127=>130 | 164=>162 | 80=>89 | n=>n,fun | n=>n⟩
theorem Nr:Go.Proofs.Lays.n105 prog Fy:={
  mixed:=κ
  f99:=func118.trans (congrArg some κ)
  f105:=func86.trans (congrArg some κ)
  f165:=func119.trans (congrArg some κ)
  f166:=func120.trans (congrArg some κ)
  f169:=func37.trans (congrArg some κ)
  f170:=func121.trans (congrArg some κ)
  f206:=func148.trans (congrArg some κ)
  f212:=func117.trans (congrArg some κ)
  f240:=func66.trans (congrArg some κ)
  f241:=func149.trans (congrArg some κ)
  f263:=func146.trans (congrArg some κ)
  f264:=func147.trans (congrArg some κ)
  f276:=func99.trans (congrArg some κ)
  f277:=func169.trans (congrArg some κ)
  t0:=υ0
  a0:=Tryz.isAgg0
  z0:=Tryz.sizeOf0
  v0:=Tryz.zeroValue0
  t3:=υ3
  a3:=Tryz.isAgg3
  z3:=Tryz.sizeOf3
  v3:=Tryz.zeroValue3
  t4:=υ4
  a4:=Tryz.isAgg4
  z4:=Tryz.sizeOf4
  v4:=Tryz.zeroValue4
  t5:=υ5
  a5:=Tryz.isAgg5
  z5:=Tryz.sizeOf5
  v5:=Tryz.zeroValue5
  t9:=υ9
  a9:=Tryz.isAgg9
  z9:=Tryz.sizeOf9
  v9:=Tryz.zeroValue9
  t20:=υ20
  a20:=Tryz.isAgg20
  z20:=Tryz.sizeOf20
  v20:=Tryz.zeroValue20
  t37:=υ74
  a37:=Tryz.isAgg74
  z37:=Tryz.sizeOf74
  v37:=Tryz.zeroValue74
  t46:=υ186
  a46:=Tryz.isAgg186
  z46:=Tryz.sizeOf186
  v46:=Tryz.zeroValue186
  t51:=υ135
  a51:=Tryz.isAgg135
  z51:=Tryz.sizeOf135
  v51:=Tryz.zeroValue135
  t53:=υ216
  a53:=Tryz.isAgg216
  z53:=Tryz.sizeOf216
  v53:=Tryz.zeroValue216
  t70:=υ73
  a70:=Tryz.isAgg73
  z70:=Tryz.sizeOf73
  v70:=Tryz.zeroValue73
  t72:=υ76
  a72:=Tryz.isAgg76
  z72:=Tryz.sizeOf76
  v72:=Tryz.zeroValue76
  t75:=υ86
  a75:=Tryz.isAgg86
  z75:=Tryz.sizeOf86
  v75:=Tryz.zeroValue86
  t76:=υ87
  a76:=Tryz.isAgg87
  z76:=Tryz.sizeOf87
  v76:=Tryz.zeroValue87
  t109:=υ187
  a109:=Tryz.isAgg187
  z109:=Tryz.sizeOf187
  v109:=Tryz.zeroValue187
  t127:=υ130
  a127:=Tryz.isAgg130
  z127:=Tryz.sizeOf130
  v127:=Tryz.zeroValue130
  t146:=υ214
  a146:=Tryz.isAgg214
  z146:=Tryz.sizeOf214
  v146:=Tryz.zeroValue214
  t148:=υ217
  a148:=Tryz.isAgg217
  z148:=Tryz.sizeOf217
  v148:=Tryz.zeroValue217
  t164:=υ162
  a164:=Tryz.isAgg162
  z164:=Tryz.sizeOf162
  v164:=Tryz.zeroValue162 }
theorem CW:Builder.Extra prog Fy:={
  sizeBuilder:=κ
  liesBuilder:=κ
  t5:=υ5
  a5:=Tryz.isAgg5
  z5:=Tryz.sizeOf5
  v5:=Tryz.zeroValue5
  infoByte:=κ
  cellsByte:=κ
  sizeByte:=κ
  neB5:=by decide }
open Go.RowKit Go.Lib in
theorem strings_Repeat (s:ByteArray) (c:Nat) (w:World) (hc:c≤9223372036854775807) (hlen:s.size*c≤140737488355328) :
    Calls prog 86 #[.string s,ν c] w fun e w'=>e=.returned (.string ⟨(Lib.repeatL s.data.toList c).toArray⟩)∧Below w.heap.size w w':=Any.strings_Repeat Nr CW s c w hc hlen
end
section
def rzL (l:Λ) (n:Nat):Λ:=l.take n++List.replicate (n-l.length) 0
theorem Gb (l:Λ) (n:Nat):(rzL l n).length=n:=by unfold rzL;simp;omega
theorem LN {l:Λ} {n:Nat} (h:n≤l.length):rzL l n=l.take n:=by unfold rzL;rw [show n-l.length=0 by omega];simp
theorem PO {l:Λ} {n:Nat} (h:l.length≤n):rzL l n=l++List.replicate (n-l.length) 0:=by unfold rzL;rw [List.take_of_length_le h]
theorem Xy {w:World} {R:List Ch} (hS:Sep w R) {i:Int} {k:Nat} (hi:i=(k:Int)) (hk:k≤1000000):CallsR prog 86 #[.string ⟨#[0]⟩,ν i] w (fun v w'=>v=σ (List.replicate k 0)∧Sep w' R):=by
 subst hi
 refine Calls.mono (strings_Repeat ⟨#[0]⟩ k w ω (by show 1*k≤_;omega)) fun e w' q=>?_
 have e:Lib.repeatL (ByteArray.mk #[0]).data.toList k=List.replicate k 0:=by have:=Lib.repeatL_replicate 0 1 k;simpa using this
 rw [e] at q
 exact ⟨_,q.1,rfl,hS.mono q.2⟩
structure RecM where
 c:Int
 i:Int
 t:Bool
 o:Int
 d:Λ
def BX (r:RecM):Bool:=decide (r.o≥0)&&decide (r.o≤256)&&decide ((r.d.length:Int)≤64)&&decide (r.o+(r.d.length:Int)≤256)&&(!r.t||decide (r.d=[]))&&decide (r.c≥0)&&decide (r.c≤1099511627776)&&decide (r.i≥1)&&decide (r.i≤32)
theorem UT {c i:Int} {t:Bool} {o:Nat} {d:Λ} (h:BX ⟨c,i,t,(o:Int),d⟩=true):o≤256∧o+d.length≤256∧d.length≤64:=by
 unfold BX at h;simp only [Bool.and_eq_true,decide_eq_true_eq] at h;omega
def FO (l:Λ) (t:Bool) (o:Nat) (d:Λ):Λ:=if t=true then rzL l o else if d=[] then l else (rzL l (max (o+d.length) l.length)).take o++d++(rzL l (max (o+d.length) l.length)).drop (o+d.length)
def Fa (l:Λ) (t:Bool) (o:Nat) (d:Λ):Int:=if 256<(FO l t o d).length then 19 else 0
def FN (l:Λ) (t:Bool) (o:Nat) (d:Λ):Λ:=if 256<(FO l t o d).length then [] else FO l t o d
theorem WU {w:World} {R:List Ch} {L:Λ} {n:Nat} (hS0:Sep w ([]++R)) (hL:L.length≤1000000) (hn:n≤1000000) :
  CallsR prog 58 #[σ L,ν (n:Int)] w (fun v w'=>v=σ (rzL L n)∧Sep w' ([]++R)):=by
 have hS:Sep w [Ch.many R]:=Sep.tail_many (xs:=[]) hS0;clear hS0
 have hrl:(List.replicate (n-L.length) (0:UInt8)).length=n-L.length:=List.length_replicate
 refine AL func58 rfl (N:=19) ntmps58 (by show 2≤19;decide) [(0,σ L),(1,ν (n:Int))] rfl fun _ h1=>sqr fun _ hK3=>mv h1 rfl fun _ h4=>wpList_nil<|hK3 _ _<|sq fun _ hK6=>sqr fun _ hK7=>mvs 2 h4 rfl fun _ h2=>sv1 h2 rfl (Da h2 rfl rfl υ9) fun _ h3=>bv h3 (z:=.bool (decide ((n:Int)≤(L.length:Int)))) rfl (cLe _ _ _ _ rfl) fun _ h5=>h5.sn [8,4,0,1] rfl fun h6=>hK7 _ _ ?_
 rcases bC (decide ((n:Int)≤(L.length:Int))) with hc1 | hc1
 ·skip
  have hp1:(n:Int)≤(L.length:Int):=(dT hc1)
  refine wcT h6 rfl hc1<|h6.sk [4,0,1] rfl fun h7=>sqr fun _ hK1=>mvs 2 h7 rfl fun _ h8=>sv1 h8 rfl (PM h8 rfl rfl (vl:=none) (vh:=(some (ν (n:Int)))) rfl rfl (fun w=>(fun w=>((slT 9 υ9 L (a:=0) (b:=n) (.inl ⟨rfl,rfl⟩) (.inr ⟨_,rfl,rfl⟩) ω ω) w).trans (by rw [List.drop_zero])) w)) fun _ h9=>h9.sk [11,10,9,0,1] rfl fun h10=>mv h10 rfl fun _ h11=>h11.sn [4,0,1] rfl fun h12=>hK1 _ _<|wp_ret ?_
  try simp only [Exit.then,Exit.inBlock]
  refine Bj (v:=σ (L.take n)) (CV h12 rfl rfl) h12.defs ?_
  exact ⟨by rw [LN ω],Sep.tail_un (xs:=[]) hS⟩
 ·skip
  have hp2:¬ ((n:Int)≤(L.length:Int)):=(dF hc1)
  refine wcF h6 rfl hc1<|h6.sk [4,0,1] rfl fun h13=>wp_skip<|hK6 _ _<|sqr fun _ hK2=>mvs 3 h13 rfl fun _ h14=>sv1 h14 rfl (Da h14 rfl rfl υ9) fun _ h15=>bv h15 (z:=ν ((n:Int)-(L.length:Int))) rfl (Vz _ _ _ ω ω ω) fun _ h16=>cl h16 rfl (cF func86) (Xy hS (i:=(n:Int)-(L.length:Int)) (k:=n-L.length) ω ω) fun _ v1 w1 r1 h17=>?_
  obtain ⟨rfl,s1⟩:=r1
  refine bv h17 (z:=σ (L++(List.replicate (n-L.length) 0))) rfl (Iq _ _ _ L (List.replicate (n-L.length) 0) (by (try simp only [List.length_append,List.length_take,List.length_drop,List.length_cons,List.length_nil]);omega)) fun _ h18=>h18.sk [18,17,16,15,14,13,12,0,1] rfl fun h19=>mv h19 rfl fun _ h20=>h20.sn [4,0,1] rfl fun h21=>hK2 _ _<|wp_ret ?_
  try simp only [Exit.then,Exit.inBlock]
  refine Bj (v:=σ (L++(List.replicate (n-L.length) 0))) (CV h21 rfl rfl) h21.defs ?_
  exact ⟨by rw [PO ω],Sep.tail_un (xs:=[]) s1⟩
theorem Agt {w:World} {R:List Ch} {r:RecM} (hS0:Sep w ([]++R)) (hd:r.d.length≤1000000) :
  CallsR prog 27 #[.agg #[ν r.c,ν r.i,.bool r.t,ν r.o,σ r.d]] w (fun v w'=>v=.bool (BX r)∧Sep w' ([]++R)):=by
 have hS:Sep w [Ch.many R]:=Sep.tail_many (xs:=[]) hS0;clear hS0
 refine AL func27 rfl (N:=56) ntmps27 (by show 1≤56;decide) [(0,.agg #[ν r.c,ν r.i,.bool r.t,ν r.o,σ r.d])] rfl fun _ h1=>sqr fun _ hK3=>so (wn rfl) fun _ hK1=>FM h1 rfl rfl rfl rfl rfl (z:=[ν r.c,ν r.i,.bool r.t,ν r.o,σ r.d]) rfl hS fun _ g4 w7 h5 s8 _ _=>hK1 _ _ ?_
 refine mv h5 rfl fun _ h2=>wpList_nil<|hK3 _ _<|sqr fun _ hK2=>fav h2 rfl (fQ 3) fun _ h3=>ldv h3 s8 0 υ3 rfl rfl rfl rfl fun _ h4=>bv h4 (z:=.bool (decide (r.o≥0))) rfl (cGe _ _ _ _ rfl) fun _ h6=>mv h6 rfl fun _ h7=>sg h7 (wT h7 rfl rfl rfl) rfl rfl rfl (fun hC1=>rfa h7 rfl rfl (fQ 3) _) fun _ h8=>sg h8 (wT h8 rfl rfl rfl) rfl rfl rfl (fun hC2=>(rld h8 rfl (opg rfl hC2) (ldB υ3 rfl (s8.get 0 rfl:Blk _ _ _ _) rfl))) fun _ h9=>sg h9 (wT h9 rfl rfl rfl) rfl rfl rfl (fun hC3=>BN h9 rfl (opg rfl hC3) rfl (cLe _ _ _ _ rfl) _) fun _ h10=>?_
 refine sv1 h10 rfl (EY h10 rfl (E:=(decide (r.o≥0))) (F:=(decide (r.o≤256))) rfl rfl rfl (fun e=>if_pos (by rw [e];try rfl))) fun _ h11=>mv h11 rfl fun _ h12=>sg h12 (wT h12 rfl rfl rfl) rfl rfl rfl (fun hC4=>rfa h12 rfl rfl (fQ 4) _) fun _ h13=>sg h13 (wT h13 rfl rfl rfl) rfl rfl rfl (fun hC5=>(rld h13 rfl (opg rfl hC5) (ldB υ9 rfl (s8.get 0 rfl:Blk _ _ _ _) rfl))) fun _ h14=>sg h14 (wT h14 rfl rfl rfl) rfl rfl rfl (fun hC6=>Da h14 rfl (opg rfl hC6) υ9 _) fun _ h15=>sg h15 (wT h15 rfl rfl rfl) rfl rfl rfl (fun hC7=>BN h15 rfl (opg rfl hC7) rfl (cLe _ _ _ _ rfl) _) fun _ h16=>sv1 h16 rfl (EY h16 rfl (E:=((decide (r.o≥0))&&(decide (r.o≤256)))) (F:=(decide ((r.d.length:Int)≤64))) rfl rfl rfl (fun e=>if_pos (by rw [e];try rfl))) fun _ h17=>mv h17 rfl fun _ h18=>sg h18 (wT h18 rfl rfl rfl) rfl rfl rfl (fun hC8=>rfa h18 rfl rfl (fQ 3) _) fun _ h19=>sg h19 (wT h19 rfl rfl rfl) rfl rfl rfl (fun hC9=>(rld h19 rfl (opg rfl hC9) (ldB υ3 rfl (s8.get 0 rfl:Blk _ _ _ _) rfl))) fun _ h20=>?_
 refine sg h20 (wT h20 rfl rfl rfl) rfl rfl rfl (fun hC10=>rfa h20 rfl rfl (fQ 4) _) fun _ h21=>sg h21 (wT h21 rfl rfl rfl) rfl rfl rfl (fun hC11=>(rld h21 rfl (opg rfl hC11) (ldB υ9 rfl (s8.get 0 rfl:Blk _ _ _ _) rfl))) fun _ h22=>sg h22 (wT h22 rfl rfl rfl) rfl rfl rfl (fun hC12=>Da h22 rfl (opg rfl hC12) υ9 _) fun _ h23=>sg h23 (wT h23 rfl rfl rfl) rfl rfl rfl (fun hC13=>by have hq:=(And.intro (And.intro (dT (LV (LV hC13).1).1) (dT (LV (LV hC13).1).2)) (dT (LV hC13).2));exact BN h23 rfl (opg rfl hC13) (opg rfl hC13) (CP _ _ _ ω ω ω) _) fun _ h24=>sg h24 (wT h24 rfl rfl rfl) rfl rfl rfl (fun hC14=>BN h24 rfl (opg rfl hC14) rfl (cLe _ _ _ _ rfl) _) fun _ h25=>sv1 h25 rfl (EY h25 rfl (E:=(((decide (r.o≥0))&&(decide (r.o≤256)))&&(decide ((r.d.length:Int)≤64)))) (F:=(decide (r.o+(r.d.length:Int)≤256))) rfl rfl rfl (fun e=>if_pos (by rw [e];try rfl))) fun _ h26=>mv h26 rfl fun _ h27=>sg h27 (wT h27 rfl rfl rfl) rfl rfl rfl (fun hC15=>rfa h27 rfl rfl (fQ 2) _) fun _ h28=>sg h28 (wT h28 rfl rfl rfl) rfl rfl rfl (fun hC16=>(rld h28 rfl (opg rfl hC16) (ldB υ4 rfl (s8.get 0 rfl:Blk _ _ _ _) rfl))) fun _ h29=>sg h29 (wT h29 rfl rfl rfl) rfl rfl rfl (fun hC17=>Afi h29 rfl (b:=r.t) (opg rfl hC17) _) fun _ h30=>?_
 refine sg h30 (wT h30 rfl rfl rfl) rfl rfl rfl (fun hC18=>AF h30 rfl (opg rfl hC18) _) fun _ h31=>sg h31 (wnF h31 rfl rfl rfl) rfl rfl rfl (fun hC19=>rfa h31 rfl rfl (fQ 4) _) fun _ h32=>sg h32 (wnF h32 rfl rfl rfl) rfl rfl rfl (fun hC20=>(rld h32 rfl (opg rfl hC20) (ldB υ9 rfl (s8.get 0 rfl:Blk _ _ _ _) rfl))) fun _ h33=>sg h33 (wnF h33 rfl rfl rfl) rfl rfl rfl (fun hC21=>BN h33 rfl (opg rfl hC21) rfl (LE _ _ _ r.d [] rfl) _) fun _ h34=>sg h34 (wT h34 rfl rfl rfl) rfl rfl rfl (fun hC22=>DI h34 rfl (E:=(!r.t)) (F:=(decide (r.d=[]))) (opg rfl hC22) rfl rfl (fun e=>if_pos (by rw [hC22,e];try rfl)) _) fun _ h35=>sv1 h35 rfl (EY h35 rfl (E:=((((decide (r.o≥0))&&(decide (r.o≤256)))&&(decide ((r.d.length:Int)≤64)))&&(decide (r.o+(r.d.length:Int)≤256)))) (F:=((!r.t)||(decide (r.d=[])))) rfl rfl rfl (fun e=>if_pos (by rw [e];try rfl))) fun _ h36=>mv h36 rfl fun _ h37=>sg h37 (wT h37 rfl rfl rfl) rfl rfl rfl (fun hC23=>rfa h37 rfl rfl (fQ 0) _) fun _ h38=>sg h38 (wT h38 rfl rfl rfl) rfl rfl rfl (fun hC24=>(rld h38 rfl (opg rfl hC24) (ldB υ3 rfl (s8.get 0 rfl:Blk _ _ _ _) rfl))) fun _ h39=>sg h39 (wT h39 rfl rfl rfl) rfl rfl rfl (fun hC25=>BN h39 rfl (opg rfl hC25) rfl (cGe _ _ _ _ rfl) _) fun _ h40=>?_
 refine sv1 h40 rfl (EY h40 rfl (E:=(((((decide (r.o≥0))&&(decide (r.o≤256)))&&(decide ((r.d.length:Int)≤64)))&&(decide (r.o+(r.d.length:Int)≤256)))&&((!r.t)||(decide (r.d=[]))))) (F:=(decide (r.c≥0))) rfl rfl rfl (fun e=>if_pos (by rw [e];try rfl))) fun _ h41=>mv h41 rfl fun _ h42=>sg h42 (wT h42 rfl rfl rfl) rfl rfl rfl (fun hC26=>rfa h42 rfl rfl (fQ 0) _) fun _ h43=>sg h43 (wT h43 rfl rfl rfl) rfl rfl rfl (fun hC27=>(rld h43 rfl (opg rfl hC27) (ldB υ3 rfl (s8.get 0 rfl:Blk _ _ _ _) rfl))) fun _ h44=>sg h44 (wT h44 rfl rfl rfl) rfl rfl rfl (fun hC28=>BN h44 rfl (opg rfl hC28) rfl (cLe _ _ _ _ rfl) _) fun _ h45=>sv1 h45 rfl (EY h45 rfl (E:=((((((decide (r.o≥0))&&(decide (r.o≤256)))&&(decide ((r.d.length:Int)≤64)))&&(decide (r.o+(r.d.length:Int)≤256)))&&((!r.t)||(decide (r.d=[]))))&&(decide (r.c≥0)))) (F:=(decide (r.c≤1099511627776))) rfl rfl rfl (fun e=>if_pos (by rw [e];try rfl))) fun _ h46=>mv h46 rfl fun _ h47=>sg h47 (wT h47 rfl rfl rfl) rfl rfl rfl (fun hC29=>rfa h47 rfl rfl (fQ 1) _) fun _ h48=>sg h48 (wT h48 rfl rfl rfl) rfl rfl rfl (fun hC30=>(rld h48 rfl (opg rfl hC30) (ldB υ3 rfl (s8.get 0 rfl:Blk _ _ _ _) rfl))) fun _ h49=>sg h49 (wT h49 rfl rfl rfl) rfl rfl rfl (fun hC31=>BN h49 rfl (opg rfl hC31) rfl (cGe _ _ _ _ rfl) _) fun _ h50=>?_
 refine sv1 h50 rfl (EY h50 rfl (E:=(((((((decide (r.o≥0))&&(decide (r.o≤256)))&&(decide ((r.d.length:Int)≤64)))&&(decide (r.o+(r.d.length:Int)≤256)))&&((!r.t)||(decide (r.d=[]))))&&(decide (r.c≥0)))&&(decide (r.c≤1099511627776)))) (F:=(decide (r.i≥1))) rfl rfl rfl (fun e=>if_pos (by rw [e];try rfl))) fun _ h51=>mv h51 rfl fun _ h52=>sg h52 (wT h52 rfl rfl rfl) rfl rfl rfl (fun hC32=>rfa h52 rfl rfl (fQ 1) _) fun _ h53=>sg h53 (wT h53 rfl rfl rfl) rfl rfl rfl (fun hC33=>(rld h53 rfl (opg rfl hC33) (ldB υ3 rfl (s8.get 0 rfl:Blk _ _ _ _) rfl))) fun _ h54=>sg h54 (wT h54 rfl rfl rfl) rfl rfl rfl (fun hC34=>BN h54 rfl (opg rfl hC34) rfl (cLe _ _ _ _ rfl) _) fun _ h55=>sv1 h55 rfl (EY h55 rfl (E:=((((((((decide (r.o≥0))&&(decide (r.o≤256)))&&(decide ((r.d.length:Int)≤64)))&&(decide (r.o+(r.d.length:Int)≤256)))&&((!r.t)||(decide (r.d=[]))))&&(decide (r.c≥0)))&&(decide (r.c≤1099511627776)))&&(decide (r.i≥1)))) (F:=(decide (r.i≤32))) rfl rfl rfl (fun e=>if_pos (by rw [e];try rfl))) fun _ h56=>h56.sk [55,54,53,52,51,50,49,48,47,46,45,44,43,42,41,40,39,38,37,36,35,34,33,32,31,30,29,28,27,26,25,24,23,22,21,20,19,18,17,16,15,14,13,12,11,10,9,8,7,6,5,4,3,1,0] rfl fun h57=>mv h57 rfl fun _ h58=>h58.sn [2,1,0] rfl fun h59=>hK2 _ _ ?_
 refine wp_ret ?_
 try simp only [Exit.then,Exit.inBlock]
 refine Bj (v:=.bool (((((((((decide (r.o≥0))&&(decide (r.o≤256)))&&(decide ((r.d.length:Int)≤64)))&&(decide (r.o+(r.d.length:Int)≤256)))&&((!r.t)||(decide (r.d=[]))))&&(decide (r.c≥0)))&&(decide (r.c≤1099511627776)))&&(decide (r.i≥1)))&&(decide (r.i≤32)))) (CV h59 rfl rfl) h59.defs ?_
 exact ⟨by first | rfl | (unfold BX;rfl),Sep.tail_un (xs:=[]) (s8.pk [1] rfl)⟩
end
section
section
variable {l d X:Λ} {t:Bool} {o:Nat}
theorem XQ (h:t=true):FO l t o d=rzL l o:=if_pos h
theorem UA (h:t=false) (h2:¬ d≠[]):FO l t o d=l:=by unfold FO;rw [if_neg (by rw [h];decide),if_pos (Classical.not_not.1 h2)]
theorem Add (h:t=false) (h2:d≠[]):FO l t o d=(rzL l (max (o+d.length) l.length)).take o++d++(rzL l (max (o+d.length) l.length)).drop (((o:Int)+(d.length:Int)).toNat):=by
 unfold FO;rw [if_neg (by rw [h];decide),if_neg h2,show ((o:Int)+(d.length:Int)).toNat=o+d.length by omega]
theorem Jz (h:FO l t o d=X) (hb:256<X.length):Value.tuple #[σ [],ν 19]=.tuple #[σ (FN l t o d),ν (Fa l t o d)]:=by
 unfold FN Fa;rw [h,if_pos hb,if_pos hb]
theorem IZ (h:FO l t o d=X) (hb:¬ 256<X.length):Value.tuple #[σ X,ν 0]=.tuple #[σ (FN l t o d),ν (Fa l t o d)]:=by
 unfold FN Fa;rw [h,if_neg hb,if_neg hb]
end
theorem FX {w:World} {R:List Ch} {L:Λ} {n:Nat} {i:Int} (hS:Sep w R) (hi:i=(n:Int)) (hL:L.length≤1000000) (hn:n≤1000000):CallsR prog 58 #[σ L,ν i] w (fun v w'=>v=σ (rzL L n)∧Sep w' R):=by
 subst hi;exact WU (R:=R) hS hL hn
theorem Ib {w:World} {R:List Ch} {c i o:Int} {t:Bool} {d:Λ} {b:Bool} (hS:Sep w R) (hd:d.length≤1000000) (hm:BX ⟨c,i,t,o,d⟩=b):CallsR prog 27 #[.agg #[ν c,ν i,.bool t,ν o,σ d]] w (fun v w'=>v=.bool b∧Sep w' R):=by
 subst hm;exact Agt (r:=⟨c,i,t,o,d⟩) (R:=R) hS hd
theorem Kx {w:World} {R:List Ch} {L d:Λ} {c i:Int} {t:Bool} {o:Nat} (hS0:Sep w ([]++R)) (hL:L.length≤1000000) (hd:d.length≤1000000) (hm:BX ⟨c,i,t,(o:Int),d⟩=true) :
  CallsR prog 28 #[σ L,.agg #[ν c,ν i,.bool t,ν (o:Int),σ d]] w (fun v w'=>v=.tuple #[σ (FN L t o d),ν (Fa L t o d)]∧Sep w' ([]++R)):=by
 have hS:Sep w [Ch.many R]:=Sep.tail_many (xs:=[]) hS0;clear hS0
 obtain ⟨ho,ho2,hd64⟩:=UT hm
 have hrz:=Gb L (max (o+d.length) L.length)
 have hrz2:=Gb L o
 refine AL func28 rfl (N:=48) ntmps28 (by show 2≤48;decide) [(0,σ L),(1,.agg #[ν c,ν i,.bool t,ν (o:Int),σ d])] rfl fun _ h1=>sqr fun _ hK3=>so (wn rfl) fun _ hK1=>FM h1 rfl rfl rfl rfl rfl (z:=[ν c,ν i,.bool t,ν (o:Int),σ d]) rfl hS fun _ g4 w7 h5 s8 _ _=>hK1 _ _ ?_
 refine mvs 2 h5 rfl fun _ h2=>wpList_nil<|hK3 _ _<|sq fun _ hK2=>sqr fun _ hK4=>sw1 h2 rfl (v:=.agg #[ν c,ν i,.bool t,ν (o:Int),σ d]) (rld h2 rfl rfl (ldA υ27 rfl (n:=5) κ (s8.get 0 rfl:Blk _ _ _ _) rfl rfl)) fun _ h3=>cl h3 rfl (cF func27) (Ib s8 hd hm) fun _ v1 w2 r1 h4=>?_
 obtain ⟨rfl,s1⟩:=r1
 refine mv h4 rfl fun _ h6=>h6.sn [9,5,4,3,0,1] rfl fun h7=>hK4 _ _<|wcF h7 rfl rfl<|h7.sk [5,4,3,0,1] rfl fun h8=>wp_skip<|hK2 _ _<|sq fun _ hK5=>sqr fun _ hK6=>fav h8 rfl (fQ 3) fun _ h9=>ldv h9 s1 0 υ3 rfl rfl rfl rfl fun _ h10=>fav h10 rfl (fQ 4) fun _ h11=>?_
 refine ldv h11 s1 0 υ9 rfl rfl rfl rfl fun _ h12=>sv1 h12 rfl (v:=ν (d.length:Int)) (Da h12 rfl rfl υ9) fun _ h13=>bv h13 (z:=ν ((o:Int)+(d.length:Int))) rfl (CP _ _ _ ω ω ω) fun _ h14=>mv h14 rfl fun _ h15=>h15.sn [6,5,4,3,0,1] rfl fun h16=>hK6 _ _<|wp_block ?_
 refine sqr fun _ hK7=>fav h16 rfl (fQ 2) fun _ h17=>ldv h17 s1 0 υ4 rfl rfl rfl rfl fun _ h18=>mv h18 rfl fun _ h19=>h19.sn [16,6,5,4,3,0,1] rfl fun h20=>hK7 _ _ ?_
 rcases bC t with hc1 | hc1
 ·skip
  refine wcT h20 rfl hc1<|h20.sk [6,5,4,3,0,1] rfl fun h21=>wp_region_lit<|mv h21 rfl fun _ h22=>fav h22 rfl (fQ 3) fun _ h23=>ldv h23 s1 0 υ3 rfl rfl rfl rfl fun _ h24=>cl h24 rfl (cF func58) (FX (L:=L) (n:=o) (i:=(o:Int)) s1 (by first | rfl | omega) ω ω) fun _ v2 w3 r2 h25=>?_
  obtain ⟨rfl,s2⟩:=r2
  refine h25.sk [22,21,20,19,6,5,4,3,1] rfl fun h26=>mv h26 rfl fun _ h27=>h27.sn [0,6,5,4,3,1] rfl fun h28=>hK5 _ _<|sq fun _ hK8=>sqr fun _ hK9=>mv h28 rfl fun _ h29=>sv1 h29 rfl (v:=ν (((rzL L o).length:Nat):Int)) (Da h29 rfl rfl υ9) fun _ h30=>bv h30 (z:=.bool (decide ((((rzL L o).length:Nat):Int)>256))) rfl (cGt _ _ _ _ rfl) fun _ h31=>h31.sn [46,0,6,5,4,3,1] rfl fun h32=>hK9 _ _ ?_
  rcases bC (decide ((((rzL L o).length:Nat):Int)>256)) with hc2 | hc2
  ·skip
   have hp1:(((rzL L o).length:Nat):Int)>256:=(dT hc2)
   refine wcT h32 rfl hc2<|h32.sk [0,6,5,4,3,1] rfl fun h33=>sqr fun _ hK10=>h33.sk [0,6,5,3,1] rfl fun h34=>mv h34 rfl fun _ h35=>h35.sk [4,0,6,3,1] rfl fun h36=>mv h36 rfl fun _ h37=>wpList_nil<|hK10 _ _<|wp_ret ?_
   try simp only [Exit.then,Exit.inBlock]
   refine Bj (v:=.tuple #[σ [],ν 19]) (Dx h37 rfl rfl rfl) h37.defs ?_
   exact ⟨Jz (XQ hc1) (by have z:=hp1;omega),Sep.tail_un (xs:=[]) (s2.pk [1] rfl)⟩
  ·skip
   have hp2:¬ ((((rzL L o).length:Nat):Int)>256):=(dF hc2)
   refine wcF h32 rfl hc2<|h32.sk [0,6,5,4,3,1] rfl fun h38=>wp_skip<|hK8 _ _<|sqr fun _ hK11=>mv h38 rfl fun _ h39=>h39.sk [47,0,6,5,3,1] rfl fun h40=>mv h40 rfl fun _ h41=>h41.sk [4,47,0,6,3,1] rfl fun h42=>mv h42 rfl fun _ h43=>h43.sk [5,4,0,6,3,1] rfl fun h44=>?_
   refine wpList_nil<|hK11 _ _<|wp_ret ?_
   try simp only [Exit.then,Exit.inBlock]
   refine Bj (v:=.tuple #[σ (rzL L o),ν 0]) (Dx h44 rfl rfl rfl) h44.defs ?_
   exact ⟨IZ (XQ hc1) (by have z:=hp2;omega),Sep.tail_un (xs:=[]) (s2.pk [1] rfl)⟩
 ·skip
  refine wcF h20 rfl hc1<|h20.sk [6,5,4,3,0,1] rfl fun h45=>sqr fun _ hK12=>fav h45 rfl (fQ 4) fun _ h46=>ldv h46 s1 0 υ9 rfl rfl rfl rfl fun _ h47=>bv h47 (z:=.bool (decide (d≠[]))) rfl (OY _ _ _ d [] rfl) fun _ h48=>mv h48 rfl fun _ h49=>h49.sn [23,6,5,4,3,0,1] rfl fun h50=>hK12 _ _ ?_
  rcases bC (decide (d≠[])) with hc3 | hc3
  ·skip
   have hp3:d≠[]:=(dT hc3)
   refine wcT h50 rfl hc3<|h50.sk [6,5,4,3,0,1] rfl fun h51=>sqr fun _ hK13=>mvs 3 h51 rfl fun _ h52=>sv1 h52 rfl (v:=ν (L.length:Int)) (Da h52 rfl rfl υ9) fun _ h53=>sv1 h53 rfl (v:=ν (max ((o:Int)+(d.length:Int)) (L.length:Int))) (Adm h53 rfl rfl rfl ω) fun _ h54=>cl h54 rfl (cF func58) (FX (L:=L) (n:=(max (o+d.length) L.length)) (i:=max ((o:Int)+(d.length:Int)) (L.length:Int)) s1 (by first | rfl | omega) ω ω) fun _ v3 w4 r3 h55=>?_
   obtain ⟨rfl,s3⟩:=r3
   refine h55.sk [32,31,30,29,28,27,6,5,4,3,1] rfl fun h56=>mv h56 rfl fun _ h57=>h57.sn [0,6,5,4,3,1] rfl fun h58=>hK13 _ _ ?_
   have s4:=s3.drew
   refine wp_region_held_drew (S:=fun w'=>Sep w' [Ab g4 27 [ν c,ν i,.bool t,ν (o:Int),σ d],Ch.many R]) κ s4 (fun hq1=>?_)
   refine tv1 hq1 h58 0 rfl rfl (v:=σ (rzL L (max (o+d.length) L.length))) (fun w1 _=>(AF h58 rfl rfl) w1) fun _ h59=>?_
   refine tv1 hq1 h59 1 rfl rfl (v:=.pointer (some ⟨g4,3,none⟩)) (fun w1 _=>(rfa h59 rfl rfl (fQ 3)) w1) fun _ h60=>?_
   refine tv1 hq1 h60 2 rfl rfl (v:=ν (o:Int)) (fun w1 hSw=>(rld h60 rfl rfl (ldB υ3 rfl (hSw.get 0 rfl:Blk _ _ _ _) rfl))) fun _ h61=>?_
   refine tv1 hq1 h61 3 rfl rfl (v:=σ ((rzL L (max (o+d.length) L.length)).take o)) (fun w1 _=>(PM h61 rfl rfl (vl:=none) (vh:=(some (ν (o:Int)))) rfl rfl (fun w=>(fun w=>((slT 9 υ9 (rzL L (max (o+d.length) L.length)) (a:=0) (b:=o) (.inl ⟨rfl,rfl⟩) (.inr ⟨_,rfl,rfl⟩) ω ω) w).trans (by rw [List.drop_zero])) w)) w1) fun _ h62=>?_
   refine tv1 hq1 h62 4 rfl rfl (v:=.pointer (some ⟨g4,4,none⟩)) (fun w1 _=>(rfa h62 rfl rfl (fQ 4)) w1) fun _ h63=>?_
   refine tv1 hq1 h63 5 rfl rfl (v:=σ d) (fun w1 hSw=>(rld h63 rfl rfl (ldB υ9 rfl (hSw.get 0 rfl:Blk _ _ _ _) rfl))) fun _ h64=>?_
   refine tv1 hq1 h64 6 rfl rfl (v:=σ (((rzL L (max (o+d.length) L.length)).take o)++d)) (fun w1 _=>(BN h64 rfl rfl rfl (Iq _ _ _ ((rzL L (max (o+d.length) L.length)).take o) d (by (try simp only [List.length_append,List.length_take,List.length_drop,List.length_cons,List.length_nil]);omega))) w1) fun _ h65=>?_
   refine tv1 hq1 h65 7 rfl rfl (v:=σ (rzL L (max (o+d.length) L.length))) (fun w1 _=>(AF h65 rfl rfl) w1) fun _ h66=>?_
   refine tv1 hq1 h66 8 rfl rfl (v:=ν ((o:Int)+(d.length:Int))) (fun w1 _=>(AF h66 rfl rfl) w1) fun _ h67=>?_
   refine tv1 hq1 h67 9 rfl rfl (v:=σ ((rzL L (max (o+d.length) L.length)).drop (((o:Int)+(d.length:Int)).toNat))) (fun w1 _=>(PM h67 rfl rfl (vl:=(some (ν ((o:Int)+(d.length:Int))))) (vh:=none) rfl rfl (fun w=>(fun w=>((slT 9 υ9 (rzL L (max (o+d.length) L.length)) (a:=((o:Int)+(d.length:Int)).toNat) (b:=(rzL L (max (o+d.length) L.length)).length) (.inr ⟨_,rfl,ω⟩) (.inl ⟨rfl,rfl⟩) ω ω) w).trans (by rw [List.take_length])) w)) w1) fun _ h68=>?_
   refine tv1 hq1 h68 10 rfl rfl (v:=σ ((((rzL L (max (o+d.length) L.length)).take o)++d)++((rzL L (max (o+d.length) L.length)).drop (((o:Int)+(d.length:Int)).toNat)))) (fun w1 _=>(BN h68 rfl rfl rfl (Iq _ _ _ (((rzL L (max (o+d.length) L.length)).take o)++d) ((rzL L (max (o+d.length) L.length)).drop (((o:Int)+(d.length:Int)).toNat)) (by (try simp only [List.length_append,List.length_take,List.length_drop,List.length_cons,List.length_nil]);omega))) w1) fun _ h69=>?_
   refine h69.sk [43,42,41,40,39,38,37,36,35,34,33,6,5,4,3,1] rfl fun h70=>?_
   refine tv1 hq1 h70 11 rfl rfl (v:=σ ((((rzL L (max (o+d.length) L.length)).take o)++d)++((rzL L (max (o+d.length) L.length)).drop (((o:Int)+(d.length:Int)).toNat)))) (fun w1 _=>(Be h70 rfl rfl) w1) fun _ h71=>?_
   refine h71.sk [0,6,5,4,3,1] rfl fun h72=>?_
   refine wpAnyH_done κ ?_ _
   refine hK5 _ _ ?_
   refine sq fun _ hK14=>sqr fun _ hK15=>mv h72 rfl fun _ h73=>sv1 h73 rfl (v:=ν ((((((rzL L (max (o+d.length) L.length)).take o)++d)++((rzL L (max (o+d.length) L.length)).drop (((o:Int)+(d.length:Int)).toNat))).length:Nat):Int)) (Da h73 rfl rfl υ9) fun _ h74=>bv h74 (z:=.bool (decide (((((((rzL L (max (o+d.length) L.length)).take o)++d)++((rzL L (max (o+d.length) L.length)).drop (((o:Int)+(d.length:Int)).toNat))).length:Nat):Int)>256))) rfl (cGt _ _ _ _ rfl) fun _ h75=>h75.sn [46,0,6,5,4,3,1] rfl fun h76=>hK15 _ _ ?_
   rcases bC (decide (((((((rzL L (max (o+d.length) L.length)).take o)++d)++((rzL L (max (o+d.length) L.length)).drop (((o:Int)+(d.length:Int)).toNat))).length:Nat):Int)>256)) with hc4 | hc4
   ·skip
    have hp4:((((((rzL L (max (o+d.length) L.length)).take o)++d)++((rzL L (max (o+d.length) L.length)).drop (((o:Int)+(d.length:Int)).toNat))).length:Nat):Int)>256:=(dT hc4)
    refine wcT h76 rfl hc4<|h76.sk [0,6,5,4,3,1] rfl fun h77=>sqr fun _ hK16=>h77.sk [0,6,5,3,1] rfl fun h78=>mv h78 rfl fun _ h79=>h79.sk [4,0,6,3,1] rfl fun h80=>mv h80 rfl fun _ h81=>wpList_nil<|hK16 _ _<|wp_ret ?_
    try simp only [Exit.then,Exit.inBlock]
    refine Bj (v:=.tuple #[σ [],ν 19]) (Dx h81 rfl rfl rfl) h81.defs ?_
    exact ⟨Jz (Add hc1 hp3) (by have z:=hp4;omega),Sep.tail_un (xs:=[]) (s4.pk [1] rfl)⟩
   ·skip
    have hp5:¬ (((((((rzL L (max (o+d.length) L.length)).take o)++d)++((rzL L (max (o+d.length) L.length)).drop (((o:Int)+(d.length:Int)).toNat))).length:Nat):Int)>256):=(dF hc4)
    refine wcF h76 rfl hc4<|h76.sk [0,6,5,4,3,1] rfl fun h82=>wp_skip<|hK14 _ _<|sqr fun _ hK17=>mv h82 rfl fun _ h83=>h83.sk [47,0,6,5,3,1] rfl fun h84=>mv h84 rfl fun _ h85=>h85.sk [4,47,0,6,3,1] rfl fun h86=>mv h86 rfl fun _ h87=>h87.sk [5,4,0,6,3,1] rfl fun h88=>?_
    refine wpList_nil<|hK17 _ _<|wp_ret ?_
    try simp only [Exit.then,Exit.inBlock]
    refine Bj (v:=.tuple #[σ ((((rzL L (max (o+d.length) L.length)).take o)++d)++((rzL L (max (o+d.length) L.length)).drop (((o:Int)+(d.length:Int)).toNat))),ν 0]) (Dx h88 rfl rfl rfl) h88.defs ?_
    exact ⟨IZ (Add hc1 hp3) (by have z:=hp5;omega),Sep.tail_un (xs:=[]) (s4.pk [1] rfl)⟩
  ·skip
   have hp6:¬ (d≠[]):=(dF hc3)
   refine wcF h50 rfl hc3<|h50.sk [6,5,4,3,0,1] rfl fun h89=>wp_skip<|hK5 _ _<|sq fun _ hK18=>sqr fun _ hK19=>mv h89 rfl fun _ h90=>sv1 h90 rfl (v:=ν (L.length:Int)) (Da h90 rfl rfl υ9) fun _ h91=>bv h91 (z:=.bool (decide ((L.length:Int)>256))) rfl (cGt _ _ _ _ rfl) fun _ h92=>h92.sn [46,6,5,4,3,0,1] rfl fun h93=>hK19 _ _ ?_
   rcases bC (decide ((L.length:Int)>256)) with hc5 | hc5
   ·skip
    have hp7:(L.length:Int)>256:=(dT hc5)
    refine wcT h93 rfl hc5<|h93.sk [6,5,4,3,0,1] rfl fun h94=>sqr fun _ hK20=>h94.sk [6,5,3,0,1] rfl fun h95=>mv h95 rfl fun _ h96=>h96.sk [4,6,3,0,1] rfl fun h97=>mv h97 rfl fun _ h98=>wpList_nil<|hK20 _ _<|wp_ret ?_
    try simp only [Exit.then,Exit.inBlock]
    refine Bj (v:=.tuple #[σ [],ν 19]) (Dx h98 rfl rfl rfl) h98.defs ?_
    exact ⟨Jz (UA hc1 hp6) (by have z:=hp7;omega),Sep.tail_un (xs:=[]) (s1.pk [1] rfl)⟩
   ·skip
    have hp8:¬ ((L.length:Int)>256):=(dF hc5)
    refine wcF h93 rfl hc5<|h93.sk [6,5,4,3,0,1] rfl fun h99=>wp_skip<|hK18 _ _<|sqr fun _ hK21=>mv h99 rfl fun _ h100=>h100.sk [47,6,5,3,0,1] rfl fun h101=>mv h101 rfl fun _ h102=>h102.sk [4,47,6,3,0,1] rfl fun h103=>mv h103 rfl fun _ h104=>h104.sk [5,4,6,3,0,1] rfl fun h105=>?_
    refine wpList_nil<|hK21 _ _<|wp_ret ?_
    try simp only [Exit.then,Exit.inBlock]
    refine Bj (v:=.tuple #[σ L,ν 0]) (Dx h105 rfl rfl rfl) h105.defs ?_
    exact ⟨IZ (UA hc1 hp6) (by have z:=hp8;omega),Sep.tail_un (xs:=[]) (s1.pk [1] rfl)⟩
end
section
theorem KV {w:World} {R:List Ch} {L d X:Λ} {c i:Int} {t:Bool} {o:Nat} (hS:Sep w R) (hm:(decide (L.length≤1000000)&&decide (d.length≤1000000)&&BX ⟨c,i,t,(o:Int),d⟩&&decide (FN L t o d=X))=true) (he:Fa L t o d=0):CallsR prog 28 #[σ L,.agg #[ν c,ν i,.bool t,ν o,σ d]] w (fun v w'=>v=.tuple #[σ X,ν 0]∧Sep w' R):=by
 simp only [Bool.and_eq_true,decide_eq_true_eq] at hm
 refine Calls.mono (Kx (R:=R) hS hm.1.1.1 hm.1.1.2 hm.1.2) fun e w' z=>?_
 rw [hm.2,he] at z;exact z
def Em (M:MemM) (P:List PtM) (i:Int):Int:=if AR M P i≠0 then AR M P i else if (Am M P i).k=0 then 10 else if (Am M P i).k=2 then 13 else 0
def IM (M:MemM) (P:List PtM) (i:Int):InoT:=if AR M P i≠0 then AS else if (Am M P i).k=0 then AS else if (Am M P i).k=2 then AS else Am M P i
section
variable {M:MemM} {P:List PtM} {i:Int}
theorem Ah3 (h:AR M P i≠0):Value.tuple #[.agg (Ao AS).toArray,ν (AR M P i)]=.tuple #[.agg (Ao (IM M P i)).toArray,ν (Em M P i)]:=by unfold IM Em;rw [if_pos h,if_pos h]
theorem Ah4 (h:¬ AR M P i≠0) (h2:(Am M P i).k=0):Value.tuple #[.agg (Ao AS).toArray,ν 10]=.tuple #[.agg (Ao (IM M P i)).toArray,ν (Em M P i)]:=by unfold IM Em;rw [if_neg h,if_neg h,if_pos h2,if_pos h2]
theorem Ah5 (h:¬ AR M P i≠0) (h2:¬ (Am M P i).k=0) (h3:(Am M P i).k=2):Value.tuple #[.agg (Ao AS).toArray,ν 13]=.tuple #[.agg (Ao (IM M P i)).toArray,ν (Em M P i)]:=by unfold IM Em;rw [if_neg h,if_neg h,if_neg h2,if_neg h2,if_pos h3,if_pos h3]
theorem Ah2 (h:¬ AR M P i≠0) (h2:¬ (Am M P i).k=0) (h3:¬ (Am M P i).k=2):Value.tuple #[.agg (Ao (Am M P i)).toArray,ν 0]=.tuple #[.agg (Ao (IM M P i)).toArray,ν (Em M P i)]:=by unfold IM Em;rw [if_neg h,if_neg h,if_neg h2,if_neg h2,if_neg h3,if_neg h3]
end
theorem Abt {w:World} {R:List Ch} (hS0:Sep w ([]++R)) :
  CallsR prog 14 #[] w (fun v w'=>v=.bool true∧Sep w' ([]++R)):=by
 have hS:Sep w [Ch.many R]:=Sep.tail_many (xs:=[]) hS0;clear hS0
 refine AL func14 rfl (N:=29) ntmps14 (by show 0≤29;decide) [] rfl fun _ h1=>sqr fun _ hK3=>mv h1 rfl fun _ h4=>wpList_nil<|hK3 _ _<|sqr fun _ hK6=>bu h4 (v:=.agg #[ν 0,ν 1,.bool false,ν 5,σ [120,121]]) rfl (fun w=>κ) fun _ h7=>cl h7 rfl (cF func28) (KV (L:=[97,98,99]) (d:=[120,121]) (c:=0) (i:=1) (t:=false) (o:=5) (X:=[97,98,99,0,0,120,121]) hS (by decide +kernel) (by decide +kernel)) fun _ v1 w1 r1 h9=>?_
 obtain ⟨rfl,s1⟩:=r1
 refine mvs 5 h9 rfl fun _ h2=>h2.sn [2,1,0] rfl fun h3=>hK6 _ _<|sqr fun _ hK1=>bu h3 (v:=.agg #[ν 0,ν 1,.bool true,ν 1,σ []]) rfl (fun w=>κ) fun _ h5=>cl h5 rfl (cF func28) (KV (L:=[97,98,99]) (d:=[]) (c:=0) (i:=1) (t:=true) (o:=1) (X:=[97]) s1 (by decide +kernel) (by decide +kernel)) fun _ v2 w2 r2 h6=>?_
 obtain ⟨rfl,s2⟩:=r2
 refine mvs 5 h6 rfl fun _ h8=>h8.sn [4,3,2,1,0] rfl fun h10=>hK1 _ _<|sqr fun _ hK2=>mv h10 rfl fun _ h11=>bv h11 (z:=.bool true) rfl (LE _ _ _ _ _ (decide_eq_true rfl)) fun _ h12=>mv h12 rfl fun _ h13=>sv h13 (wT h13 (E:=true) rfl rfl rfl) rfl rfl rfl (AF h13 rfl rfl) fun _ h14=>sv h14 (wT h14 (E:=true) rfl rfl rfl) rfl rfl rfl (BN h14 rfl rfl rfl (cEq _ _ _ _ rfl)) fun _ h15=>sv1 h15 rfl (Dq h15 rfl rfl rfl) fun _ h16=>?_
 refine mv h16 rfl fun _ h17=>sv h17 (wT h17 (E:=true) rfl rfl rfl) rfl rfl rfl (AF h17 rfl rfl) fun _ h18=>sv h18 (wT h18 (E:=true) rfl rfl rfl) rfl rfl rfl (BN h18 rfl rfl rfl (LE _ _ _ _ _ (decide_eq_true rfl))) fun _ h19=>sv1 h19 rfl (Dq h19 rfl rfl rfl) fun _ h20=>mv h20 rfl fun _ h21=>sv h21 (wT h21 (E:=true) rfl rfl rfl) rfl rfl rfl (AF h21 rfl rfl) fun _ h22=>sv h22 (wT h22 (E:=true) rfl rfl rfl) rfl rfl rfl (BN h22 rfl rfl rfl (cEq _ _ _ _ rfl)) fun _ h23=>sv1 h23 rfl (Dq h23 rfl rfl rfl) fun _ h24=>h24.sk [28,27,26,25,24,23,22,21,20,19,18,17,16,15,4,3,2,1] rfl fun h25=>mv h25 rfl fun _ h26=>?_
 refine h26.sn [0,4,3,2,1] rfl fun h27=>hK2 _ _<|wp_ret ?_
 try simp only [Exit.then,Exit.inBlock]
 refine Bj (v:=.bool true) (CV h27 rfl rfl) h27.defs ?_
 exact ⟨rfl,Sep.tail_un (xs:=[]) s2⟩
theorem Yn {w:World} {R:List Ch} {fx:Nat} {mx:Nat} {K:VolK} {ta:Ω} {tc:Nat} {M:MemM} {P:List PtM} {i:Int} (hS0:Sep w ([Ab fx 83 [π K.tg,π mx],Ab mx 103 [π K.tg],txP K ta tc M P]++R)) (hM:M.V.length=23168)  :
  CallsR prog 33 #[π fx,ν i] w (fun v w'=>v=.tuple #[.agg (Ao (IM M P i)).toArray,ν (Em M P i)]∧Sep w' ([Ab fx 83 [π K.tg,π mx],Ab mx 103 [π K.tg],txP K ta tc M P]++R)):=by
 have hS:Sep w [Ab fx 83 [π K.tg,π mx],Ab mx 103 [π K.tg],txP K ta tc M P,Ch.many R]:=Sep.tail_many (xs:=[_,_,_]) hS0;clear hS0
 refine AL func33 rfl (N:=33) ntmps33 (by show 2≤33;decide) [(0,π fx),(1,ν i)] rfl fun _ h1=>sqr fun _ hK3=>so (wn rfl) fun _ hK1=>AV h1 rfl rfl rfl rfl (z:=[ν 0,ν 0,ν 0,ν 0,ν 0,ν 0,ν 0,ν 0,ν 0,ν 0,ν 0,ν 0,ν 0,ν 0,ν 0]) (fun _=>rfl) hS fun _ g4 w7 h5 s8 _ _=>hK1 _ _ ?_
 refine mv h5 rfl fun _ h2=>wpList_nil<|hK3 _ _<|sqr fun _ hK2=>mvs 2 h2 rfl fun _ h3=>fav h3 rfl (fQ 1) fun _ h4=>ldv h4 s8 1 υ31 rfl rfl rfl rfl fun _ h6=>mv h6 rfl fun _ h7=>cl h7 rfl (cF func15) (FT (i:=i) (s8.pk [2,3,0,1,4] rfl) hM) fun _ v1 w1 r1 h8=>?_
 obtain ⟨rfl,s1⟩:=r1
 refine mvs 3 h8 rfl fun _ h9=>so (wn rfl) fun _ hK4=>AV h9 rfl rfl rfl rfl (z:=[ν 0,ν 0,ν 0,ν 0,ν 0,ν 0,ν 0,ν 0,ν 0,ν 0,ν 0,ν 0,ν 0,ν 0,ν 0]) (fun _=>rfl) s1 fun _ g1 w2 h10 s2 _ _=>hK4 _ _ ?_
 refine stA h10 s2 0 rfl rfl rfl κ rfl rfl rfl rfl fun _ w3 h11 s3 _=>mv h11 rfl fun _ h12=>h12.sn [7,6,5,4,0,1] rfl fun h13=>hK2 _ _<|sq fun _ hK5=>wp_block ?_
 refine sqr fun _ hK6=>mv h13 rfl fun _ h14=>bv h14 (z:=.bool (decide (AR M P i≠0))) rfl (cNe _ _ _ _ rfl) fun _ h15=>mv h15 rfl fun _ h16=>h16.sn [17,7,6,5,4,0,1] rfl fun h17=>hK6 _ _ ?_
 rcases bC (decide (AR M P i≠0)) with hc1 | hc1
 ·skip
  have hp1:AR M P i≠0:=(dT hc1)
  refine wcT h17 rfl hc1<|h17.sk [7,6,5,4,0,1] rfl fun h18=>sqr fun _ hK7=>bu h18 (v:=.agg (Ao AS).toArray) rfl (fun w=>κ) fun _ h19=>mv h19 rfl fun _ h20=>stA h20 s3 3 rfl rfl rfl κ rfl rfl rfl rfl fun _ w4 h21 s4 _=>h21.sk [21,20,7,6,4,0,1] rfl fun h22=>mv h22 rfl fun _ h23=>h23.sn [5,7,6,4,0,1] rfl fun h24=>hK7 _ _ ?_
  refine wp_ret ?_
  try simp only [Exit.then,Exit.inBlock]
  refine rCt h24 s4 3 υ45 rfl rfl rfl rfl rfl ?_
  exact ⟨Ah3 hp1,Sep.tail_un (xs:=[_,_,_]) (s4.pk [4,1,2,5] rfl)⟩
 ·skip
  have hp2:¬ (AR M P i≠0):=(dF hc1)
  refine wcF h17 rfl hc1<|h17.sk [7,6,5,4,0,1] rfl fun h25=>sqr fun _ hK8=>fav h25 rfl (fQ 0) fun _ h26=>ldv h26 s3 0 υ3 rfl rfl rfl rfl fun _ h27=>bv h27 (z:=.bool (decide ((Am M P i).k=0))) rfl (cEq _ _ _ _ rfl) fun _ h28=>mv h28 rfl fun _ h29=>h29.sn [22,7,6,5,4,0,1] rfl fun h30=>hK8 _ _ ?_
  rcases bC (decide ((Am M P i).k=0)) with hc2 | hc2
  ·skip
   have hp3:(Am M P i).k=0:=(dT hc2)
   refine wcT h30 rfl hc2<|h30.sk [7,6,5,4,0,1] rfl fun h31=>sqr fun _ hK9=>bu h31 (v:=.agg (Ao AS).toArray) rfl (fun w=>κ) fun _ h32=>stA h32 s3 3 rfl rfl rfl κ rfl rfl rfl rfl fun _ w5 h33 s5 _=>h33.sk [26,7,6,4,0,1] rfl fun h34=>mv h34 rfl fun _ h35=>h35.sn [5,7,6,4,0,1] rfl fun h36=>hK9 _ _<|wp_ret ?_
   try simp only [Exit.then,Exit.inBlock]
   refine rCt h36 s5 3 υ45 rfl rfl rfl rfl rfl ?_
   exact ⟨Ah4 hp2 hp3,Sep.tail_un (xs:=[_,_,_]) (s5.pk [4,1,2,5] rfl)⟩
  ·skip
   have hp4:¬ ((Am M P i).k=0):=(dF hc2)
   refine wcF h30 rfl hc2<|h30.sk [7,6,5,4,0,1] rfl fun h37=>sqr fun _ hK10=>fav h37 rfl (fQ 0) fun _ h38=>ldv h38 s3 0 υ3 rfl rfl rfl rfl fun _ h39=>bv h39 (z:=.bool (decide ((Am M P i).k=2))) rfl (cEq _ _ _ _ rfl) fun _ h40=>mv h40 rfl fun _ h41=>h41.sn [27,7,6,5,4,0,1] rfl fun h42=>hK10 _ _ ?_
   rcases bC (decide ((Am M P i).k=2)) with hc3 | hc3
   ·skip
    have hp5:(Am M P i).k=2:=(dT hc3)
    refine wcT h42 rfl hc3<|h42.sk [7,6,5,4,0,1] rfl fun h43=>sqr fun _ hK11=>bu h43 (v:=.agg (Ao AS).toArray) rfl (fun w=>κ) fun _ h44=>stA h44 s3 3 rfl rfl rfl κ rfl rfl rfl rfl fun _ w6 h45 s6 _=>h45.sk [31,7,6,4,0,1] rfl fun h46=>mv h46 rfl fun _ h47=>h47.sn [5,7,6,4,0,1] rfl fun h48=>hK11 _ _<|wp_ret ?_
    try simp only [Exit.then,Exit.inBlock]
    refine rCt h48 s6 3 υ45 rfl rfl rfl rfl rfl ?_
    exact ⟨Ah5 hp2 hp4 hp5,Sep.tail_un (xs:=[_,_,_]) (s6.pk [4,1,2,5] rfl)⟩
   ·skip
    have hp6:¬ ((Am M P i).k=2):=(dF hc3)
    refine wcF h42 rfl hc3<|h42.sk [7,6,5,4,0,1] rfl fun h49=>wp_skip<|hK5 _ _<|sqr fun _ hK12=>sw1 h49 rfl (rld h49 rfl rfl (ldA υ45 rfl (n:=15) κ (s3.get 0 rfl:Blk _ _ _ _) rfl rfl)) fun _ h50=>stA h50 s3 3 rfl rfl rfl κ rfl rfl rfl rfl fun _ w8 h51 s7 _=>h51.sk [32,7,6,4,0,1] rfl fun h52=>mv h52 rfl fun _ h53=>h53.sn [5,7,6,4,0,1] rfl fun h54=>hK12 _ _ ?_
    refine wp_ret ?_
    try simp only [Exit.then,Exit.inBlock]
    refine rCt h54 s7 3 υ45 rfl rfl rfl rfl rfl ?_
    exact ⟨Ah2 hp2 hp4 hp6,Sep.tail_un (xs:=[_,_,_]) (s7.pk [4,1,2,5] rfl)⟩
end
section
theorem Agd (x0 x1 x2 x3 x4 x5 x6 x7 x8 x9 x10 x11 x12 x13 x14 x15 y0 y1 y2 y3 y4 y5 y6 y7 y8 y9 y10 y11 y12 y13 y14 y15:Int) (w:World):(Op.equalIn 10000 52 (.agg #[.int .u8 x0,.int .u8 x1,.int .u8 x2,.int .u8 x3,.int .u8 x4,.int .u8 x5,.int .u8 x6,.int .u8 x7,.int .u8 x8,.int .u8 x9,.int .u8 x10,.int .u8 x11,.int .u8 x12,.int .u8 x13,.int .u8 x14,.int .u8 x15]) (.agg #[.int .u8 y0,.int .u8 y1,.int .u8 y2,.int .u8 y3,.int .u8 y4,.int .u8 y5,.int .u8 y6,.int .u8 y7,.int .u8 y8,.int .u8 y9,.int .u8 y10,.int .u8 y11,.int .u8 y12,.int .u8 y13,.int .u8 y14,.int .u8 y15])).run prog w=.ok (decide ([x0,x1,x2,x3,x4,x5,x6,x7,x8,x9,x10,x11,x12,x13,x14,x15]=[y0,y1,y2,y3,y4,y5,y6,y7,y8,y9,y10,y11,y12,y13,y14,y15])) w:=by
  have u3:=υ5
  have a3:=Tryz.isAgg5
  have z3:=Tryz.sizeOf5
  rw [show (10000:Nat)=9999+1 from rfl,Op.equalIn]
  simp only [Sem.run_bind,run_underlying υ52,Result.andThen_ok]
  simp only [Std.Legacy.Range.forIn_eq_forIn_range',Std.Legacy.Range.size,Nat.sub_zero,Nat.add_sub_cancel,Nat.div_one,List.range'_succ,List.range'_zero,List.forIn_cons,List.forIn_nil]
  go_simp
  by_cases h0:x0=y0
  case neg=>simp [h0]
  by_cases h1:x1=y1
  case neg=>simp [h0,h1]
  by_cases h2:x2=y2
  case neg=>simp [h0,h1,h2]
  by_cases h3:x3=y3
  case neg=>simp [h0,h1,h2,h3]
  by_cases h4:x4=y4
  case neg=>simp [h0,h1,h2,h3,h4]
  by_cases h5:x5=y5
  case neg=>simp [h0,h1,h2,h3,h4,h5]
  by_cases h6:x6=y6
  case neg=>simp [h0,h1,h2,h3,h4,h5,h6]
  by_cases h7:x7=y7
  case neg=>simp [h0,h1,h2,h3,h4,h5,h6,h7]
  by_cases h8:x8=y8
  case neg=>simp [h0,h1,h2,h3,h4,h5,h6,h7,h8]
  by_cases h9:x9=y9
  case neg=>simp [h0,h1,h2,h3,h4,h5,h6,h7,h8,h9]
  by_cases h10:x10=y10
  case neg=>simp [h0,h1,h2,h3,h4,h5,h6,h7,h8,h9,h10]
  by_cases h11:x11=y11
  case neg=>simp [h0,h1,h2,h3,h4,h5,h6,h7,h8,h9,h10,h11]
  by_cases h12:x12=y12
  case neg=>simp [h0,h1,h2,h3,h4,h5,h6,h7,h8,h9,h10,h11,h12]
  by_cases h13:x13=y13
  case neg=>simp [h0,h1,h2,h3,h4,h5,h6,h7,h8,h9,h10,h11,h12,h13]
  by_cases h14:x14=y14
  case neg=>simp [h0,h1,h2,h3,h4,h5,h6,h7,h8,h9,h10,h11,h12,h13,h14]
  by_cases h15:x15=y15
  case neg=>simp [h0,h1,h2,h3,h4,h5,h6,h7,h8,h9,h10,h11,h12,h13,h14,h15]
  simp [h0,h1,h2,h3,h4,h5,h6,h7,h8,h9,h10,h11,h12,h13,h14,h15]
theorem YQ {α:Type} {l:List α} (h:l.length=16):∃ x0 x1 x2 x3 x4 x5 x6 x7 x8 x9 x10 x11 x12 x13 x14 x15,l=[x0,x1,x2,x3,x4,x5,x6,x7,x8,x9,x10,x11,x12,x13,x14,x15]:=by
  match l,h with
  | [x0,x1,x2,x3,x4,x5,x6,x7,x8,x9,x10,x11,x12,x13,x14,x15],_=>exact ⟨x0,x1,x2,x3,x4,x5,x6,x7,x8,x9,x10,x11,x12,x13,x14,x15,rfl⟩
theorem Ck {a b:UInt8} (h:((a.toNat:Nat):Int)=(b.toNat:Nat)):a=b:=UInt8.toNat_inj.1 ω
theorem Agg {xs ys:Λ} (hx:xs.length=16) (hy:ys.length=16) (w:World):(Op.equalIn 10000 52 (.agg (Al xs)) (.agg (Al ys))).run prog w=.ok (decide (xs=ys)) w:=by
  obtain ⟨x0,x1,x2,x3,x4,x5,x6,x7,x8,x9,x10,x11,x12,x13,x14,x15,rfl⟩:=YQ hx
  obtain ⟨y0,y1,y2,y3,y4,y5,y6,y7,y8,y9,y10,y11,y12,y13,y14,y15,rfl⟩:=YQ hy
  refine (Agd x0.toNat x1.toNat x2.toNat x3.toNat x4.toNat x5.toNat x6.toNat x7.toNat x8.toNat x9.toNat x10.toNat x11.toNat x12.toNat x13.toNat x14.toNat x15.toNat y0.toNat y1.toNat y2.toNat y3.toNat y4.toNat y5.toNat y6.toNat y7.toNat y8.toNat y9.toNat y10.toNat y11.toNat y12.toNat y13.toNat y14.toNat y15.toNat w).trans ?_
  congr 1
  refine decide_eq_decide.2 ⟨fun q=>?_,fun q=>by rw [List.cons.injEq] at q;simp_all⟩
  simp only [List.cons.injEq] at q ⊢
  obtain ⟨q0,q1,q2,q3,q4,q5,q6,q7,q8,q9,q10,q11,q12,q13,q14,q15,_⟩:=q
  exact ⟨Ck q0,Ck q1,Ck q2,Ck q3,Ck q4,Ck q5,Ck q6,Ck q7,Ck q8,Ck q9,Ck q10,Ck q11,Ck q12,Ck q13,Ck q14,Ck q15,trivial⟩
theorem Ad1 (x y:Operand) {xs ys:Λ} (hx:xs.length=16) (hy:ys.length=16) {t:Bool} (ht:decide (xs=ys)=t) (w:World):(do eqGuard .eql 52 x y (.agg (Al xs)) (.agg (Al ys));binOp .eql 52 (.agg (Al xs)) (.agg (Al ys)):Sem Value).run prog w=.ok (.bool t) w:=by
  subst ht
  have h:=Agg hx hy w
  simp [eqGuard,binOp,Op.equal,Op.maxDepth,Sem.run_bind,h]
end
section
theorem JT {s:Int} {n:Nat} (h:By s=(n:Int)) (hs:0≤s∧s≤256):n≤4:=by unfold By at h;split at h<;>omega
theorem Ji {w:World} {R:List Ch} (hS:Sep w R) {s:Int} {n:Nat} (h:By s=(n:Int)) (hs:-9223372036854775808≤s∧s≤9223372036854775807):CallsR prog 17 #[ν s] w (fun v w'=>v=ν (n:Int)∧Sep w' R):=
 Calls.mono (Ww s w hs.1 hs.2) fun e w' z=>⟨_,z.1,by rw [h],z.2 ▸ hS⟩
def Bw (x:InoT) (n:Nat):Nat→InoT
 | 0=>x
 | j+1=>(Bw x n j).setB (n+j) 0
def CO (x:InoT) (n:Nat) (m:Λ):Nat→Λ
 | 0=>m
 | j+1=>DL (CO x n m j) ((Bw x n j).blk (n+j))
theorem Aa2 (x:InoT) (k i:Nat) (v:Int):(x.setB k v).blk i=v∨(x.setB k v).blk i=x.blk i:=by
 unfold InoT.setB
 split<;>(match i with
  | 0=>simp [InoT.blk]
  | 1=>simp [InoT.blk]
  | 2=>simp [InoT.blk]
  | 3=>simp [InoT.blk]
  | n+4=>simp [InoT.blk])
theorem UD {x:InoT} (h:∀ k,-9223372036854775808≤x.blk k∧x.blk k≤9223372036854775807) (n:Nat):∀ j,∀ {k:Nat},-9223372036854775808≤(Bw x n j).blk k∧(Bw x n j).blk k≤9223372036854775807
 | 0,k=>h k
 | j+1,k=>by
  rcases Aa2 (Bw x n j) (n+j) k 0 with e | e
  ·show _≤((Bw x n j).setB (n+j) 0).blk k∧((Bw x n j).setB (n+j) 0).blk k≤_
   rw [e];omega
  ·show _≤((Bw x n j).setB (n+j) 0).blk k∧((Bw x n j).setB (n+j) 0).blk k≤_
   rw [e];exact UD h n j
theorem AI (x:InoT) (n:Nat) {m:Λ} (h:m.length=16):∀ j,(CO x n m j).length=16
 | 0=>h
 | j+1=>by show (DL _ _).length=16;rw [Aw];exact AI x n h j
def KX (M:MemM) (P:List PtM) (x:InoT) (n:Nat):Int:=if CO x n (As M P) (4-n)=As M P then 0 else stE M P 3 0 16
def JA (M:MemM) (P:List PtM) (x:InoT) (n:Nat):List PtM:=if CO x n (As M P) (4-n)=As M P then P else stP M P 3 0 (CO x n (As M P) (4-n))
theorem Agc {w:World} {R:List Ch} {fx:Nat} {mx:Nat} {K:VolK} {ta:Ω} {tc:Nat} {M:MemM} {P:List PtM} {x:InoT} {n0:Nat} (hS0:Sep w ([Ab fx 83 [π K.tg,π mx],Ab mx 103 [π K.tg],txP K ta tc M P]++R)) (hM:M.V.length=23168) (hn0:By x.s=(n0:Int)) (hs:0≤x.s∧x.s≤256) (hxb:∀ k,-9223372036854775808≤x.blk k∧x.blk k≤9223372036854775807) :
  CallsR prog 73 #[π fx,.agg (Ao x).toArray] w (fun v w'=>∃ ta' tc',v=.tuple #[.agg (Ao (Bw x n0 (4-n0))).toArray,ν (KX M P x n0)]∧Sep w' ([Ab fx 83 [π K.tg,π mx],Ab mx 103 [π K.tg],txP K ta' tc' M (JA M P x n0)]++R)):=by
 have hS:Sep w [Ab fx 83 [π K.tg,π mx],Ab mx 103 [π K.tg],txP K ta tc M P,Ch.many R]:=Sep.tail_many (xs:=[_,_,_]) hS0;clear hS0
 have hn4:n0≤4:=JT hn0 hs
 refine AL func73 rfl (N:=44) ntmps73 (by show 2≤44;decide) [(0,π fx),(1,.agg (Ao x).toArray)] rfl fun _ h1=>sqr fun _ hK3=>so (wn rfl) fun _ hK1=>FM h1 rfl rfl rfl rfl rfl (z:=(Ao x)) rfl hS fun _ g4 w7 h5 s8 _ _=>hK1 _ _ ?_
 refine so (wn rfl) fun _ hK2=>AV h5 rfl rfl rfl rfl (z:=[ν 0,ν 0,ν 0,ν 0,ν 0,ν 0,ν 0,ν 0,ν 0,ν 0,ν 0,ν 0,ν 0,ν 0,ν 0]) (fun _=>rfl) s8 fun _ g1 w2 h2 s1 _ _=>hK2 _ _ ?_
 refine mv h2 rfl fun _ h3=>wpList_nil<|hK3 _ _<|sqr fun _ hK4=>mvs 2 h3 rfl fun _ h4=>fav h4 rfl (fQ 1) fun _ h6=>ldv h6 s1 2 υ31 rfl rfl rfl rfl fun _ h7=>cl h7 rfl (cF func18) (YY (s1.pk [3,4,0,1,2,5] rfl) hM) fun _ v1 w3 r1 h8=>?_
 obtain ⟨rfl,s2⟩:=r1
 refine so (wn rfl) fun _ hK5=>AV h8 rfl rfl rfl rfl (z:=(AE).map Ag) (fun _=>rfl) s2 fun _ g2 w4 h9 s3 _ _=>hK5 _ _ ?_
 refine so (wn rfl) fun _ hK6=>RH h9 rfl rfl s3 0 rfl (by first | exact AI _ _ (An _) _ | exact An _ | exact (Aw _ _).trans (AI _ _ (An _) _) | rfl) (by first | exact AI _ _ (An _) _ | exact An _ | exact (Aw _ _).trans (AI _ _ (An _) _) | rfl) rfl rfl (cs':=[Ab g2 52 (((As M P)).map Ag),Ab mx 103 [π K.tg],txP K ta tc M P,Ab g1 45 (Ao AS),Ab g4 45 (Ao x),Ab fx 83 [π K.tg,π mx],Ch.many R]) rfl fun _ w5 h10 s4 _=>hK6 _ _ ?_
 refine h10.sn [6,5,4,3,0,1] rfl fun h11=>hK4 _ _<|sq fun _ hK7=>sqr fun _ hK8=>fav h11 rfl (fQ 2) fun _ h12=>ldv h12 s4 4 υ3 rfl rfl rfl rfl fun _ h13=>cl h13 rfl (cF func17) (Ji s4 hn0 ω) fun _ v2 w6 r2 h14=>?_
 obtain ⟨rfl,s5⟩:=r2
 refine mv h14 rfl fun _ h15=>h15.sn [7,6,5,4,3,0,1] rfl fun h16=>hK8 _ _<|wp_block ?_
 refine FE (fun (j:Nat) a' w'=>Kn 44 [(7,ν ((n0+j:Nat):Int)),(6,π g2),(5,ν 0),(4,π g1),(3,π g4),(0,π fx),(1,.agg (Ao x).toArray)] a'∧Sep w' [Ab g2 52 ((CO x n0 (As M P) j).map Ag),Ab mx 103 [π K.tg],txP K ta tc M P,Ab g1 45 (Ao AS),Ab g4 45 (Ao (Bw x n0 j)),Ab fx 83 [π K.tg,π mx],Ch.many R]∧(n0+j≤4)) (fun (j:Nat)=>4-(n0+j)) 0 ⟨h16.subs rfl,s5,ω⟩ ?_
 rintro j75 a1 w8 ⟨h17,s6,hj74⟩ K1 hK9
 refine sq fun _ hK10=>sqr fun _ hK11=>mv h17 rfl fun _ h18=>bv h18 (z:=.bool (decide (((n0+j75:Nat):Int)<4))) rfl (cLt _ _ _ _ rfl) fun _ h19=>h19.sn [17,7,6,5,4,3,0,1] rfl fun h20=>hK11 _ _ ?_
 rcases bC (decide (((n0+j75:Nat):Int)<4)) with hc1 | hc1
 ·skip
  have hp1:((n0+j75:Nat):Int)<4:=(dT hc1)
  refine wcT h20 rfl hc1<|h20.sk [7,6,5,4,3,0,1] rfl fun h21=>wp_skip<|hK10 _ _<|sq fun _ hK12=>wp_block ?_
  refine sq fun _ hK13=>?_
  have s7:=s6.drew
  refine wp_region_held_drew (S:=fun w'=>Sep w' [Ab mx 103 [π K.tg],txP K ta tc M P,Ab g1 45 (Ao AS),Ab g4 45 (Ao (Bw x n0 j75)),Ab fx 83 [π K.tg,π mx],Ch.many R]) κ (s7.pk [1,2,3,4,5,6] rfl) (fun hq1=>?_)
  refine tv1 hq1 h21 1 rfl rfl (fun w1 _=>(AF h21 rfl rfl) w1) fun _ h22=>?_
  refine tv1 hq1 h22 2 rfl rfl (fun w1 _=>(rfa h22 rfl rfl (fQ 3)) w1) fun _ h23=>?_
  refine tv1 hq1 h23 3 rfl rfl (fun w1 _=>(Ci h23 rfl rfl rfl (fun w=>MA g4 (n0+j75) ω ω w)) w1) fun _ h24=>?_
  refine tv1 hq1 h24 4 rfl rfl (fun w1 hSw=>(rld h24 rfl rfl (ldB υ3 rfl (hSw.get 3 rfl:Blk _ _ _ _) (EH (Bw x n0 j75) ω)))) fun _ h25=>?_
  refine to_ 0 rfl (wn rfl) κ fun _ hK14=>Uo h25 rfl rfl rfl (v:=.agg (Al (CO x n0 (As M P) j75))) (w':=w8.drew) ((rld h25 rfl rfl (Lf υ52 (s7.get 0 rfl:Blk _ _ _ _) (by first | exact AI _ _ (An _) _ | exact An _ | exact (Aw _ _).trans (AI _ _ (An _) _) | rfl)))) fun _ h26=>hK14 _ _ (s7.pk [1,2,3,4,5,6] rfl) fun hq2=>?_
  refine to_ 5 rfl (wn rfl) κ fun _ hK15=>BI h26 rfl rfl rfl (xs:=[.tmp 20,.tmp 24]) rfl (cF func106) rfl (vs:=[.agg (Al (CO x n0 (As M P) j75)),ν ((Bw x n0 j75).blk (n0+j75))]) rfl (args:=#[.agg (Al (CO x n0 (As M P) j75)),ν ((Bw x n0 j75).blk (n0+j75))]) rfl (Bv s7 (YA (CO x n0 (As M P) j75) ((Bw x n0 j75).blk (n0+j75)) _ (by first | exact AI _ _ (An _) _ | exact An _ | exact (Aw _ _).trans (AI _ _ (An _) _) | rfl) (UD hxb _ _))) fun _ v3 w9 r3 h27=>?_
  obtain ⟨rfl,s9⟩:=r3
  refine hK15 _ _ (s9.pk [1,2,3,4,5,6] rfl) fun hq3=>?_
  refine to_ 6 rfl (wn rfl) κ fun _ hK16=>RH h27 rfl rfl s9 0 rfl (by first | exact AI _ _ (An _) _ | exact An _ | exact (Aw _ _).trans (AI _ _ (An _) _) | rfl) (by first | exact AI _ _ (An _) _ | exact An _ | exact (Aw _ _).trans (AI _ _ (An _) _) | rfl) rfl rfl (cs':=[Ab g2 52 (((DL (CO x n0 (As M P) j75) ((Bw x n0 j75).blk (n0+j75)))).map Ag),Ab mx 103 [π K.tg],txP K ta tc M P,Ab g1 45 (Ao AS),Ab g4 45 (Ao (Bw x n0 j75)),Ab fx 83 [π K.tg,π mx],Ch.many R]) rfl fun _ w10 h28 s10 _=>?_
  refine hK16 _ _ (s10.pk [1,2,3,4,5,6] rfl) fun hq4=>h28.sk [7,6,5,4,3,0,1] rfl fun h29=>?_
  refine wpAnyH_done κ ?_ _
  refine hK13 _ _ ?_
  refine wp_region_lit<|mv h29 rfl fun _ h30=>fav h30 rfl (fQ 3) fun _ h31=>sv1 h31 rfl (Ci h31 rfl rfl rfl (fun w=>MA g4 (n0+j75) ω ω w)) fun _ h32=>so (wn rfl) fun _ hK17=>FI h32 rfl rfl s10 4 rfl rfl rfl [ν 0] rfl κ rfl (by show 3+(n0+j75)+1≤15;omega) (L':=Ao ((Bw x n0 j75).setB (n0+j75) 0)) (KG (Bw x n0 j75) ω) (cs':=[Ab g2 52 (((DL (CO x n0 (As M P) j75) ((Bw x n0 j75).blk (n0+j75)))).map Ag),Ab mx 103 [π K.tg],txP K ta tc M P,Ab g1 45 (Ao AS),Ab g4 45 (Ao ((Bw x n0 j75).setB (n0+j75) 0)),Ab fx 83 [π K.tg,π mx],Ch.many R]) rfl fun _ w11 h33 s11 _=>hK17 _ _ ?_
  refine h33.sn [7,6,5,4,3,0,1] rfl fun h34=>hK12 _ _<|wp_region_lit<|mv h34 rfl fun _ h35=>bv h35 (z:=ν ((n0+j75+1:Nat):Int)) rfl (CP _ _ _ ω ω ω) fun _ h36=>h36.sk [19,18,6,5,4,3,0,1] rfl fun h37=>mv h37 rfl fun _ h38=>h38.sk [7,6,5,4,3,0,1] rfl fun h39=>wpList_nil ?_
  exact hK9 (j75+1) _ _ ⟨h39.subs rfl,s11,ω⟩ ω
 ·skip
  have hp2:¬ (((n0+j75:Nat):Int)<4):=(dF hc1)
  refine wcF h20 rfl hc1<|h20.sk [7,6,5,4,3,0,1] rfl fun h40=>wp_exit ?_
  refine hK7 _ _ ?_
  refine sq fun _ hK18=>sq fun _ hK19=>?_
  have s12:=s6.drew
  refine wp_region_held_drew (S:=fun w'=>Sep w' [Ab g2 52 ((CO x n0 (As M P) j75).map Ag),Ab mx 103 [π K.tg],txP K ta tc M P,Ab g1 45 (Ao AS),Ab g4 45 (Ao (Bw x n0 j75)),Ab fx 83 [π K.tg,π mx],Ch.many R]) κ s12 (fun hq5=>?_)
  refine tv1 hq5 h40 0 rfl rfl (fun w1 hSw=>(rld h40 rfl rfl (Lf υ52 (hSw.get 0 rfl:Blk _ _ _ _) (by first | exact AI _ _ (An _) _ | exact An _ | exact (Aw _ _).trans (AI _ _ (An _) _) | rfl)))) fun _ h41=>?_
  refine tv1 hq5 h41 1 rfl rfl (fun w1 _=>(AF h41 rfl rfl) w1) fun _ h42=>?_
  refine tv1 hq5 h42 2 rfl rfl (fun w1 _=>(Na h42 rfl rfl) w1) fun _ h43=>?_
  refine tv1 hq5 h43 3 rfl rfl (fun w1 _=>(rfa h43 rfl rfl (fQ 1)) w1) fun _ h44=>?_
  refine tv1 hq5 h44 4 rfl rfl (fun w1 hSw=>(rld h44 rfl rfl (ldB υ31 rfl (hSw.get 5 rfl:Blk _ _ _ _) rfl))) fun _ h45=>?_
  refine to_ 5 rfl (wn rfl) κ fun _ hK20=>BI h45 rfl rfl rfl (xs:=[.tmp 33]) rfl (cF func18) rfl (vs:=[π mx]) rfl (args:=#[π mx]) rfl (YY (s12.pk [1,2,0,3,4,5,6] rfl) hM) fun _ v4 w12 r4 h46=>?_
  obtain ⟨rfl,s13⟩:=r4
  refine hK20 _ _ (s13.pk [2,0,1,3,4,5,6] rfl) fun hq6=>?_
  refine tv1 hq6 h46 6 rfl rfl (fun w1 _=>(BN h46 rfl rfl rfl (Ad1 _ _ (by first | exact AI _ _ (An _) _ | exact An _ | exact (Aw _ _).trans (AI _ _ (An _) _) | rfl) (by first | exact AI _ _ (An _) _ | exact An _ | exact (Aw _ _).trans (AI _ _ (An _) _) | rfl) rfl)) w1) fun _ h47=>?_
  refine h47.sk [35,7,6,5,4,3,0,1] rfl fun h48=>?_
  refine wpAnyH_done κ ?_ _
  refine hK19 _ _ ?_
  rcases bC (decide ((CO x n0 (As M P) j75)=(As M P))) with hc2 | hc2
  ·skip
   have hp3:(CO x n0 (As M P) j75)=(As M P):=(dT hc2)
   refine wcT h48 rfl hc2<|h48.sk [7,6,5,4,3,0,1] rfl fun h49=>sqr fun _ hK21=>sw1 h49 rfl (v:=.agg (Ao (Bw x n0 j75)).toArray) (rld h49 rfl rfl (ldA υ45 rfl (n:=15) κ (s13.get 4 rfl:Blk _ _ _ _) rfl rfl)) fun _ h50=>stA h50 s13 3 rfl rfl rfl κ rfl rfl rfl rfl fun _ w13 h51 s14 _=>h51.sk [36,7,6,4,3,0,1] rfl fun h52=>mv h52 rfl fun _ h53=>h53.sn [5,7,6,4,3,0,1] rfl fun h54=>hK21 _ _<|wp_ret ?_
   try simp only [Exit.then,Exit.inBlock]
   refine rCt h54 s14 3 υ45 rfl rfl rfl rfl rfl ?_
   obtain ⟨k9,hk9⟩:∃ k,k=4-n0:=⟨_,rfl⟩
   obtain rfl:j75=4-n0:=ω
   exact ⟨ta,tc,by unfold KX;rw [if_pos hp3],by unfold JA;rw [if_pos hp3];exact Sep.tail_un (xs:=[_,_,_]) (s14.pk [5,0,1,6] rfl)⟩
  ·skip
   have hp4:¬ ((CO x n0 (As M P) j75)=(As M P)):=(dF hc2)
   refine wcF h48 rfl hc2<|h48.sk [7,6,5,4,3,0,1] rfl fun h55=>wp_skip<|hK18 _ _<|sq fun _ hK22=>?_
   have s15:=s13.drew
   refine wp_region_held_drew (S:=fun w'=>Sep w' [Ab mx 103 [π K.tg],Ab g2 52 ((CO x n0 (As M P) j75).map Ag),Ab g4 45 (Ao (Bw x n0 j75)),Ab fx 83 [π K.tg,π mx],Ch.many R]) κ (s15.pk [0,2,4,5,6] rfl) (fun hq7=>?_)
   refine tv1 hq7 h55 0 rfl rfl (fun w1 hSw=>(rld h55 rfl rfl (ldA υ45 rfl (n:=15) κ (hSw.get 2 rfl:Blk _ _ _ _) rfl rfl))) fun _ h56=>?_
   refine tv1 hq7 h56 1 rfl rfl (fun w1 _=>(AF h56 rfl rfl) w1) fun _ h57=>?_
   refine tv1 hq7 h57 2 rfl rfl (fun w1 _=>(Na h57 rfl rfl) w1) fun _ h58=>?_
   refine tv1 hq7 h58 3 rfl rfl (fun w1 _=>(rfa h58 rfl rfl (fQ 1)) w1) fun _ h59=>?_
   refine tv1 hq7 h59 4 rfl rfl (fun w1 hSw=>(rld h59 rfl rfl (ldB υ31 rfl (hSw.get 3 rfl:Blk _ _ _ _) rfl))) fun _ h60=>?_
   refine tv1 hq7 h60 5 rfl rfl (fun w1 hSw=>(rld h60 rfl rfl (Lf υ52 (hSw.get 1 rfl:Blk _ _ _ _) (by first | exact AI _ _ (An _) _ | exact An _ | exact (Aw _ _).trans (AI _ _ (An _) _) | rfl)))) fun _ h61=>?_
   refine to_ 6 rfl (wn rfl) κ fun _ hK23=>BI h61 rfl rfl rfl (xs:=[.tmp 41,.tmp 42]) rfl (cF func49) rfl (vs:=[π mx,.agg (Al (CO x n0 (As M P) j75))]) rfl (args:=#[π mx,.agg (Al (CO x n0 (As M P) j75))]) rfl (Ij (xs:=(CO x n0 (As M P) j75)) s15 hM (by first | exact AI _ _ (An _) _ | exact An _ | exact (Aw _ _).trans (AI _ _ (An _) _) | rfl)) fun _ v5 w14 r5 h62=>?_
   obtain ⟨tax200,tcx201,rfl,s16⟩:=r5
   refine hK23 _ _ (s16.pk [0,2,4,5,6] rfl) fun hq8=>?_
   refine to_ 7 rfl (wn rfl) κ fun _ hK24=>FI h62 rfl rfl s16 3 rfl rfl rfl [ν ((Bw x n0 j75).k),ν ((Bw x n0 j75).l),ν ((Bw x n0 j75).s),ν ((Bw x n0 j75).b0),ν ((Bw x n0 j75).b1),ν ((Bw x n0 j75).b2),ν ((Bw x n0 j75).b3),ν ((Bw x n0 j75).o0),ν ((Bw x n0 j75).o1),ν ((Bw x n0 j75).o2),ν ((Bw x n0 j75).o3),ν ((Bw x n0 j75).o4),ν ((Bw x n0 j75).o5),ν ((Bw x n0 j75).o6),ν ((Bw x n0 j75).o7)] rfl κ rfl (by show 0+15≤15;decide) (L':=[ν ((Bw x n0 j75).k),ν ((Bw x n0 j75).l),ν ((Bw x n0 j75).s),ν ((Bw x n0 j75).b0),ν ((Bw x n0 j75).b1),ν ((Bw x n0 j75).b2),ν ((Bw x n0 j75).b3),ν ((Bw x n0 j75).o0),ν ((Bw x n0 j75).o1),ν ((Bw x n0 j75).o2),ν ((Bw x n0 j75).o3),ν ((Bw x n0 j75).o4),ν ((Bw x n0 j75).o5),ν ((Bw x n0 j75).o6),ν ((Bw x n0 j75).o7)]) rfl (cs':=[Ab mx 103 [π K.tg],txP K tax200 tcx201 M (stP M P 3 0 (CO x n0 (As M P) j75)),Ab g2 52 ((CO x n0 (As M P) j75).map Ag),Ab g1 45 (Ao (Bw x n0 j75)),Ab g4 45 (Ao (Bw x n0 j75)),Ab fx 83 [π K.tg,π mx],Ch.many R]) rfl fun _ w15 h63 s17 _=>?_
   refine hK24 _ _ (s17.pk [0,2,4,5,6] rfl) fun hq9=>h63.sk [43,42,41,40,39,38,37,7,6,4,3,0,1] rfl fun h64=>?_
   refine tv1 hq9 h64 8 rfl rfl (fun w1 _=>(Be h64 rfl rfl) w1) fun _ h65=>?_
   refine h65.sk [5,7,6,4,3,0,1] rfl fun h66=>?_
   refine wpAnyH_done κ ?_ _
   refine hK22 _ _ ?_
   refine wp_ret ?_
   try simp only [Exit.then,Exit.inBlock]
   refine rCt h66 s17 3 υ45 rfl rfl rfl rfl rfl ?_
   obtain ⟨k9,hk9⟩:∃ k,k=4-n0:=⟨_,rfl⟩
   obtain rfl:j75=4-n0:=ω
   exact ⟨tax200,tcx201,by unfold KX;rw [if_neg hp4],by unfold JA;rw [if_neg hp4];exact Sep.tail_un (xs:=[_,_,_]) (s17.pk [5,0,1,6] rfl)⟩
end
section
def Ahb (g c:Nat) (X:Λ):Ch where
  F b:=b=g
  P w:=Bo w (some ⟨g,0,none⟩) c X∧g<w.heap.size
  keep h t:=⟨t.row h.1 (fun _ b hb q=>q (by obtain ⟨off,e⟩:=hb;cases e;rfl)),Nat.lt_of_lt_of_le h.2 t.size⟩
  lt h b hb:=hb ▸ h.2
theorem Pb (w:World) (e:TypeId) (s:ByteArray):Below w.heap.size w (Lib.bytesWorld w e s):=by
  refine ⟨?_,?_,?_,?_,fun k hk=>Lib.bytesWorld_at_old w e s k hk⟩
  all_goals simp [Lib.bytesWorld,World.freeze,World.alloc,World.drew,-World.alloc_eq,-World.drew_eq]
theorem Sn (w:World) (e:TypeId) (X:Λ) (hX:X.length≤maxLen):Bo (Lib.bytesWorld w e (Af X)) (some ⟨w.heap.size,0,none⟩) (grownCap w X.length 0 e) X:=by
  refine (fun (h1:∀ j u,(X.map Ag)[j]? = some u→(Lib.bytesWorld w e (Af X)).cell? ⟨w.heap.size,0+j,none⟩=some u)=>⟨by simp,grownCap_ge w X.length 0 e,grownCap_le_maxLen w X.length 0 e hX,(fun h=>by cases h),fun _=>⟨w.heap.size,0,rfl,by rw [Lib.bytesWorld_size];omega,h1⟩⟩) (fun j u hu=>?_)
  obtain ⟨hj,e1⟩:=List.getElem?_eq_some_iff.1 hu
  have hj':j<X.length:=by simpa using hj
  rw [Nat.zero_add,Lib.bytesWorld_cell w e (Af X) j (by rw [CK];exact hj'),← e1]
  simp [CJ,Ag,List.getD,List.getElem?_eq_getElem hj']
section
variable {P:Program} {o:Oper} {a:Act} {N:Nat} {l:List (Nat×Value)} {K:Act→World→Prop} {Q:Exit→Act→World→Prop} {w:World} {cs:List Ch}
theorem Vr (h:Kn N l a) {d:Nat} (hd:o.dst=some d) (hdN:decide (d<N)=true) (hf:l.all (fun x=>!(x.1 == d))=true) {T T' e:TypeId} {x:Operand} (ho:o.op=.convert T T' x) {X:Λ} (hx:opv l x=some (σ X))
    (hs:P.underlying T=some .string) (hd':P.underlying T'=some (.slice e)) (he:P.underlying e=some (.int .u8)) (hX:X.length≤maxLen) (hS:Sep w cs)
    (k:∀ a' g c w',Kn N ((d,.slice (some ⟨g,0,none⟩) X.length c)::l) a'→Sep w' (Ahb g c X::cs)→K a' w'):Oper.wp P o a w K Q:=by
  have hr:=Lib.run_convert_string_bytes (P:=P) w T T' e (Af X) hs hd' he
  rw [CK] at hr
  refine Uo (v:=.slice (some ⟨w.heap.size,0,none⟩) X.length (grownCap w X.length 0 e)) (w':=Lib.bytesWorld w e (Af X)) h hd hdN hf (by unfold execOp;rw [ho];simp only [h.op hx];exact Ad hr) fun a' h'=>k a' _ _ _ h' (hS.push (Pb w e _) (c:=Ahb w.heap.size _ X) ⟨Sn w e X hX,by rw [Lib.bytesWorld_size];omega⟩ (fun k e=>Nat.le_of_eq e.symm))
end
end
section
def szX (x:InoT) (n:Int):InoT:={ x with s:=n }
def alS (M:MemM) (sp:Int) (x:InoT) (P:List PtM):Nat→InoT×List PtM
 | 0=>(x,P)
 | k+1=>if (alS M sp x P k).1.blk k≠0 then alS M sp x P k else ((alS M sp x P k).1.setB k (bN M (alS M sp x P k).2 sp),bP M (alS M sp x P k).2 sp)
theorem Afz {M:MemM} {sp:Int} {x:InoT} {P:List PtM} {k:Nat} (h:(alS M sp x P k).1.blk k≠0):alS M sp x P (k+1)=alS M sp x P k:=if_pos h
theorem Afy {M:MemM} {sp:Int} {x:InoT} {P:List PtM} {k:Nat} (h:¬ (alS M sp x P k).1.blk k≠0):alS M sp x P (k+1)=((alS M sp x P k).1.setB k (bN M (alS M sp x P k).2 sp),bP M (alS M sp x P k).2 sp):=if_neg h
def GM (X:Λ) (k:Nat):Λ:=(X.take ((((k+1:Nat):Int)*64).toNat)).drop (((k:Int)*64).toNat)
theorem NG {X:Λ} {n k:Nat} (h:X.length=n*64) (hk:k<n):((X.take ((((k+1:Nat):Int)*64).toNat)).drop (((k:Int)*64).toNat)).length=64:=by
 rw [List.length_drop,List.length_take];omega
def wrP (M:MemM) (z:InoT) (X:Λ) (P:List PtM):Nat→List PtM
 | 0=>P
 | k+1=>stP M (wrP M z X P k) 7 (z.blk k) (GM X k)
theorem XY {w:World} {R:List Ch} {fx mx:Nat} {K:VolK} {ta:Ω} {tc:Nat} {M:MemM} {P P1:List PtM} {x y:InoT} {n0:Nat} (hS:Sep w ([Ab fx 83 [π K.tg,π mx],mtC mx K,txP K ta tc M P]++R)) (hM:M.V.length=23168) (hn0:By x.s=(n0:Int)) (hs:0≤x.s∧x.s≤256) (hxb:∀ k,-9223372036854775808≤x.blk k∧x.blk k≤9223372036854775807) (hcX:Bw x n0 (4-n0)=y) (hcE:KX M P x n0=0) (hcP:JA M P x n0=P1) :
  CallsR prog 73 #[π fx,.agg (Ao x).toArray] w (fun v w'=>∃ ta' tc',v=.tuple #[.agg (Ao y).toArray,ν 0]∧Sep w' ([Ab fx 83 [π K.tg,π mx],mtC mx K,txP K ta' tc' M P1]++R)):=
 Calls.mono (Agc hS hM hn0 hs hxb) fun e w' q=>by rw [hcX,hcE,hcP] at q;exact q
theorem Sm {w:World} {R:List Ch} {mx:Nat} {K:VolK} {ta:Ω} {tc:Nat} {M:MemM} {P:List PtM} {spare:Int} (hS:Sep w ([mtC mx K,txP K ta tc M P]++R)) (hM:M.V.length=23168) (hs:-9223372036854775808≤spare∧spare≤9223372036854775807) (hb:bE M P spare=0) :
  CallsR prog 74 #[π mx,ν spare] w (fun v w'=>∃ ta' tc',v=.tuple #[ν (bN M P spare),ν 0]∧Sep w' ([mtC mx K,txP K ta' tc' M (bP M P spare)]++R)):=
 Calls.mono (Ux hS hM hs) fun e w' q=>by rw [hb] at q;exact q
theorem Nv {w:World} {R:List Ch} {K:VolK} {ta:Ω} {tc:Nat} {M:MemM} {P:List PtM} {a:Ω} {c:Nat} {xs:Λ} {nm:Int} {q:PartT} (hS:Sep w (txP K ta tc M P::R)) (hr:Bo w a c xs) (hq:Bk 7 nm=some q) (he:stE M P 7 nm 64=0) (ha:Hv q.a) (hx:xs.length=64) :
  CallsR prog 75 #[pG K.tg,ν q.a,.slice a xs.length c] w (fun v w'=>∃ ta' tc',v=ν 0∧Sep w' (txP K ta' tc' M (stP M P 7 nm xs)::R)):=
 Calls.mono (Vl hS hr ha ω) fun e w' z=>by
  have e1:NM M P q.a xs.length=0:=by unfold stE at he;rw [hq] at he;rw [hx];exact he
  have e2:stP M P 7 nm xs=Ly M P q.a xs:=by unfold stP;rw [hq]
  rw [e1,← e2] at z;exact z
theorem Afn {w:World} {R:List Ch} {fx:Nat} {mx:Nat} {K:VolK} {ta:Ω} {tc:Nat} {M:MemM} {P:List PtM} {i sp:Int} {x y z:InoT} {n0:Nat} {S:Λ} {P1 P2:List PtM} (hS0:Sep w ([Ab fx 83 [π K.tg,π mx],Ab mx 103 [π K.tg],txP K ta tc M P]++R)) (hM:M.V.length=23168) (hS256:S.length≤256) (hsp:-9223372036854775808≤sp∧sp≤9223372036854775807) (hn0:By (S.length:Int)=(n0:Int)) (hxb:∀ k,-9223372036854775808≤x.blk k∧x.blk k≤9223372036854775807) (hcX:Bw (szX x (S.length:Int)) n0 (4-n0)=y) (hcE:KX M P (szX x (S.length:Int)) n0=0) (hcP:JA M P (szX x (S.length:Int)) n0=P1) (hal:∀ k,k<n0→(alS M sp y P1 k).1.blk k=0→bE M (alS M sp y P1 k).2 sp=0) (hz:alS M sp y P1 n0=(z,P2)) (hfd:∀ k,k<n0→∃ q,Bk 7 (z.blk k)=some q) (hst:∀ k,k<n0→stE M (wrP M z (rzL S (n0*64)) P2 k) 7 (z.blk k) 64=0) :
  CallsR prog 41 #[π fx,ν i,.agg (Ao x).toArray,σ S,ν sp] w (fun v w'=>∃ ta' tc',v=ν (Cp M (wrP M z (rzL S (n0*64)) P2 n0) i z)∧Sep w' ([Ab fx 83 [π K.tg,π mx],Ab mx 103 [π K.tg],txP K ta' tc' M (BE M (wrP M z (rzL S (n0*64)) P2 n0) i z)]++R)):=by
 have hS:Sep w [Ab fx 83 [π K.tg,π mx],Ab mx 103 [π K.tg],txP K ta tc M P,Ch.many R]:=Sep.tail_many (xs:=[_,_,_]) hS0;clear hS0
 have hn4:n0≤4:=JT hn0 ω
 have hrz:=Gb S (n0*64)
 refine AL func41 rfl (N:=104) ntmps41 (by show 5≤104;decide) [(0,π fx),(1,ν i),(2,.agg (Ao x).toArray),(3,σ S),(4,ν sp)] rfl fun _ h1=>sqr fun _ hK3=>so (wn rfl) fun _ hK1=>FM h1 rfl rfl rfl rfl rfl (z:=(Ao x)) rfl hS fun _ g4 w7 h5 s8 _ _=>hK1 _ _ ?_
 refine mv h5 rfl fun _ h2=>wpList_nil<|hK3 _ _ ?_
 refine wp_scope_straight ?_
 refine sqr fun _ hK2=>mv h2 rfl fun _ h3=>sv1 h3 rfl (Da h3 rfl rfl υ9) fun _ h4=>fav h4 rfl (fQ 2) fun _ h6=>st1 h6 s8 0 rfl rfl κ rfl rfl rfl rfl fun _ w2 h7 s1 _=>h7.sn [10,7,0,1,2,3,4] rfl fun h8=>hK2 _ _<|sqr fun _ hK4=>mv h8 rfl fun _ h9=>sw1 h9 rfl (rld h9 rfl rfl (ldA υ45 rfl (n:=15) κ (s1.get 0 rfl:Blk _ _ _ _) rfl rfl)) fun _ h10=>?_
 refine cl h10 rfl (cF func73) (XY (x:=(szX x (S.length:Int))) (s1.pk [1,2,3,0,4] rfl) hM hn0 (by show 0≤(S.length:Int)∧(S.length:Int)≤256;omega) hxb hcX hcE hcP) fun _ v1 w3 r1 h11=>?_
 obtain ⟨tax33,tcx34,rfl,s2⟩:=r1
 refine mvs 3 h11 rfl fun _ h12=>stA h12 s2 3 rfl rfl rfl κ rfl rfl rfl rfl fun _ w4 h13 s3 _=>mv h13 rfl fun _ h14=>h14.sn [11,10,7,0,1,2,3,4] rfl fun h15=>hK4 _ _<|sq fun _ hK5=>sqr fun _ hK6=>mv h15 rfl fun _ h16=>bv h16 (z:=.bool false) rfl (cNe _ _ _ _ rfl) fun _ h17=>h17.sn [28,11,10,7,0,1,2,3,4] rfl fun h18=>hK6 _ _ ?_
 refine wcF h18 rfl rfl<|h18.sk [11,10,7,0,1,2,3,4] rfl fun h19=>wp_skip<|hK5 _ _<|sqr fun _ hK7=>mv h19 rfl fun _ h20=>sv1 h20 rfl (Da h20 rfl rfl υ9) fun _ h21=>cl h21 rfl (cF func17) (Ji s3 hn0 ω) fun _ v2 w5 r2 h22=>?_
 obtain ⟨rfl,s4⟩:=r2
 refine mv h22 rfl fun _ h23=>h23.sn [12,11,10,7,0,1,2,3,4] rfl fun h24=>hK7 _ _<|sq fun _ hK8=>wp_label ?_
 refine hK8 _ _ ?_
 refine sq fun _ hK9=>sqr fun _ hK10=>mv h24 rfl fun _ h25=>wpList_nil<|hK10 _ _<|wp_block ?_
 refine ND (fun (k:Nat) (ta2:Ω) (tc2:Nat) a' w'=>Kn 104 [(33,ν (k:Int)),(12,ν (n0:Int)),(10,ν 0),(7,π g4),(0,π fx),(1,ν i),(2,.agg (Ao x).toArray),(3,σ S),(4,ν sp)] a'∧Sep w' [Ab fx 83 [π K.tg,π mx],Ab mx 103 [π K.tg],txP K ta2 tc2 M ((alS M sp y P1 k).2),Ab g4 45 (Ao ((alS M sp y P1 k).1)),Ch.many R]∧(k≤n0)) (fun (k:Nat) (ta2:Ω) (tc2:Nat)=>4-k) 0 tax33 tcx34 ⟨h25.subs rfl,s4,Nat.zero_le _⟩ ?_
 rintro k1 ta292 tc293 a1 w6 ⟨h26,s5,hk90⟩ K1 hK11
 refine sqr fun _ hK12=>bv h26 (z:=.bool (decide ((k1:Int)<4))) rfl (cLt _ _ _ _ rfl) fun _ h27=>wpList_nil<|hK12 _ _<|sq fun _ hK13=>?_
 rcases bC (decide ((k1:Int)<4)) with hc1 | hc1
 ·skip
  have hp1:(k1:Int)<4:=(dT hc1)
  refine wcT h27 rfl hc1<|h27.sk [33,12,10,7,0,1,2,3,4] rfl fun h28=>wp_skip<|hK13 _ _<|sq fun _ hK14=>wp_block ?_
  refine sqr fun _ hK15=>mvs 2 h28 rfl fun _ h29=>h29.sn [13,33,12,10,7,0,1,2,3,4] rfl fun h30=>hK15 _ _<|sq fun _ hK16=>wp_block ?_
  refine sqr fun _ hK17=>mvs 2 h30 rfl fun _ h31=>bv h31 (z:=.bool (decide ((k1:Int)=(n0:Int)))) rfl (cEq _ _ _ _ rfl) fun _ h32=>mv h32 rfl fun _ h33=>h33.sn [36,13,33,12,10,7,0,1,2,3,4] rfl fun h34=>hK17 _ _ ?_
  rcases bC (decide ((k1:Int)=(n0:Int))) with hc2 | hc2
  ·skip
   have hp2:(k1:Int)=(n0:Int):=(dT hc2)
   refine wcT h34 rfl hc2<|h34.sk [13,33,12,10,7,0,1,2,3,4] rfl fun h35=>wp_exit ?_
   refine hK9 _ _ ?_
   refine sqr fun _ hK18=>mvs 2 h35 rfl fun _ h36=>bv h36 (z:=ν ((n0:Int)*64)) rfl (Sk _ _ _ ω ω ω) fun _ h37=>cl h37 rfl (cF func58) (FX (L:=S) (n:=(n0*64)) (i:=(n0:Int)*64) s5 (by first | rfl | omega) ω ω) fun _ v3 w8 r3 h38=>?_
   obtain ⟨rfl,s6⟩:=r3
   refine h38.sk [65,64,63,62,13,33,12,10,7,0,1,2,4] rfl fun h39=>mv h39 rfl fun _ h40=>h40.sn [3,13,33,12,10,7,0,1,2,4] rfl fun h41=>hK18 _ _<|sq fun _ hK19=>sqr fun _ hK20=>mvs 2 h41 rfl fun _ h42=>wpList_nil<|hK20 _ _<|wp_block ?_
   have hk9:k1=n0:=ω
   refine ND (fun (k:Nat) (ta2:Ω) (tc2:Nat) a' w'=>Kn 104 [(67,ν (k:Int)),(66,ν (n0:Int)),(3,σ (rzL S (n0*64))),(13,ν (k1:Int)),(33,ν (k1:Int)),(12,ν (n0:Int)),(10,ν 0),(7,π g4),(0,π fx),(1,ν i),(2,.agg (Ao x).toArray),(4,ν sp)] a'∧Sep w' [Ab fx 83 [π K.tg,π mx],Ab mx 103 [π K.tg],txP K ta2 tc2 M (wrP M z (rzL S (n0*64)) P2 k),Ab g4 45 (Ao z),Ch.many R]∧(k≤n0)) (fun (k:Nat) (ta2:Ω) (tc2:Nat)=>n0-k) 0 ta292 tc293 ⟨h42.subs rfl,(show Sep _ [Ab fx 83 [π K.tg,π mx],Ab mx 103 [π K.tg],txP K ta292 tc293 M (wrP M z (rzL S (n0*64)) P2 0),Ab g4 45 (Ao z),Ch.many R] from by have z9:=s6;rw [hk9,hz] at z9;exact z9),Nat.zero_le _⟩ ?_
   rintro k2 ta2153 tc2154 a2 w9 ⟨h43,s7,hk151⟩ K2 hK21
   refine sqr fun _ hK22=>bv h43 (z:=.bool (decide ((k2:Int)<(n0:Int)))) rfl (cLt _ _ _ _ rfl) fun _ h44=>wpList_nil<|hK22 _ _<|sq fun _ hK23=>?_
   rcases bC (decide ((k2:Int)<(n0:Int))) with hc3 | hc3
   ·skip
    have hp3:(k2:Int)<(n0:Int):=(dT hc3)
    refine wcT h44 rfl hc3<|h44.sk [67,66,3,13,33,12,10,7,0,1,2,4] rfl fun h45=>wp_skip<|hK23 _ _<|sq fun _ hK24=>wp_block ?_
    refine sqr fun _ hK25=>mvs 2 h45 rfl fun _ h46=>h46.sn [14,67,66,3,13,33,12,10,7,0,1,2,4] rfl fun h47=>hK25 _ _<|sqr fun _ hK26=>mv h47 rfl fun _ h48=>fav h48 rfl (fQ 3) fun _ h49=>sv1 h49 rfl (Ci h49 rfl rfl rfl (fun w=>MA g4 k2 ω ω w)) fun _ h50=>sw1 h50 rfl (rld h50 rfl rfl (ldB υ3 rfl (s7.get 3 rfl:Blk _ _ _ _) (EH z ω))) fun _ h51=>?_
    obtain ⟨q178,hq1⟩:=hfd k2 ω
    have hq179i:=DC hq1
    have hcb9:=NG hrz (ω:k2<n0)
    refine cl h51 rfl (cF func34) (Bv s7 (JG (k:=q178.k) (n:=q178.n) (a:=q178.a) (s:=q178.s) hq1 _)) fun _ v4 w10 r4 h52=>?_
    obtain ⟨rfl,s9⟩:=r4
    refine mvs 3 h52 rfl fun _ h53=>so (wn rfl) fun _ hK27=>AV h53 rfl rfl rfl rfl (z:=[ν 0,ν 0,ν 0,ν 0]) (fun _=>rfl) s9 fun _ g1 w11 h54 s10 _ _=>hK27 _ _ ?_
    refine stA h54 s10 0 rfl rfl rfl κ rfl rfl rfl rfl fun _ w12 h55 s11 _=>mv h55 rfl fun _ h56=>h56.sn [15,14,67,66,3,13,33,12,10,7,0,1,2,4] rfl fun h57=>hK26 _ _<|sq fun _ hK28=>?_
    have s12:=s11.drew
    refine wp_region_held_drew (S:=fun w'=>Sep w' [Ab g1 78 [ν q178.k,ν q178.n,ν q178.a,ν q178.s],Ab fx 83 [π K.tg,π mx],Ab mx 103 [π K.tg],Ab g4 45 (Ao z),Ch.many R]) κ (s12.pk [0,1,2,4,5] rfl) (fun hq2=>?_)
    refine tv1 hq2 h57 0 rfl rfl (fun w1 _=>(AF h57 rfl rfl) w1) fun _ h58=>?_
    refine tv1 hq2 h58 1 rfl rfl (fun w1 _=>(Na h58 rfl rfl) w1) fun _ h59=>?_
    refine tv1 hq2 h59 2 rfl rfl (fun w1 _=>(rfa h59 rfl rfl (fQ 0)) w1) fun _ h60=>?_
    refine tv1 hq2 h60 3 rfl rfl (fun w1 hSw=>(rld h60 rfl rfl (ldB υ30 rfl (hSw.get 1 rfl:Blk _ _ _ _) rfl))) fun _ h61=>?_
    refine tv1 hq2 h61 4 rfl rfl (fun w1 _=>(rfa h61 rfl rfl (fQ 2)) w1) fun _ h62=>?_
    refine tv1 hq2 h62 5 rfl rfl (fun w1 hSw=>(rld h62 rfl rfl (ldB υ3 rfl (hSw.get 0 rfl:Blk _ _ _ _) rfl))) fun _ h63=>?_
    refine tv1 hq2 h63 6 rfl rfl (fun w1 _=>(AF h63 rfl rfl) w1) fun _ h64=>?_
    refine tv1 hq2 h64 7 rfl rfl (fun w1 _=>(AF h64 rfl rfl) w1) fun _ h65=>?_
    refine tv1 hq2 h65 8 rfl rfl (v:=ν ((k2:Int)*64)) (fun w1 _=>(BN h65 rfl rfl rfl (Sk _ _ _ ω ω ω)) w1) fun _ h66=>?_
    refine tv1 hq2 h66 9 rfl rfl (fun w1 _=>(AF h66 rfl rfl) w1) fun _ h67=>?_
    refine tv1 hq2 h67 10 rfl rfl (v:=ν ((k2+1:Nat):Int)) (fun w1 _=>(BN h67 rfl rfl rfl (CP _ _ _ ω ω ω)) w1) fun _ h68=>?_
    refine tv1 hq2 h68 11 rfl rfl (v:=ν (((k2+1:Nat):Int)*64)) (fun w1 _=>(BN h68 rfl rfl rfl (Sk _ _ _ ω ω ω)) w1) fun _ h69=>?_
    refine tv1 hq2 h69 12 rfl rfl (fun w1 _=>(PM h69 rfl rfl (vl:=(some (ν ((k2:Int)*64)))) (vh:=(some (ν (((k2+1:Nat):Int)*64)))) rfl rfl (fun w=>(slT 9 υ9 (rzL S (n0*64)) (a:=((k2:Int)*64).toNat) (b:=(((k2+1:Nat):Int)*64).toNat) (.inr ⟨_,rfl,ω⟩) (.inr ⟨_,rfl,ω⟩) ω ω) w)) w1) fun _ h70=>?_
    refine to_ 13 rfl (wn rfl) κ fun _ hK29=>Vr h70 rfl rfl rfl rfl (X:=((rzL S (n0*64)).take ((((k2+1:Nat):Int)*64).toNat)).drop (((k2:Int)*64).toNat)) rfl υ9 υ74 υ5 (by unfold maxLen;omega) s12 fun _ g2 c241 w13 h71 s13=>?_
    refine hK29 _ _ (s13.pk [1,2,3,5,6] rfl) fun hq3=>?_
    refine to_ 14 rfl (wn rfl) κ fun _ hK30=>BI h71 rfl rfl rfl (xs:=[.tmp 81,.tmp 83,.tmp 91]) rfl (cF func75) rfl (vs:=[π K.tg,ν q178.a,.slice (some ⟨g2,0,none⟩) ((((rzL S (n0*64)).take ((((k2+1:Nat):Int)*64).toNat)).drop (((k2:Int)*64).toNat)).length) c241]) rfl (args:=#[π K.tg,ν q178.a,.slice (some ⟨g2,0,none⟩) ((((rzL S (n0*64)).take ((((k2+1:Nat):Int)*64).toNat)).drop (((k2:Int)*64).toNat)).length) c241]) rfl (Nv (xs:=((rzL S (n0*64)).take ((((k2+1:Nat):Int)*64).toNat)).drop (((k2:Int)*64).toNat)) (s13.pk [4,0,1,2,3,5,6] rfl) (s13.get 0 rfl:Bo _ _ _ _∧_).1 hq1 (by have z9:=hst k2 ω;exact z9) (by unfold Hv;omega) (NG hrz ω)) fun _ v5 w14 r5 h72=>?_
    obtain ⟨tax248,tcx249,rfl,s14⟩:=r5
    refine hK30 _ _ (s14.pk [2,3,4,5,6] rfl) fun hq4=>?_
    refine tv1 hq4 h72 15 rfl rfl (fun w1 _=>(Be h72 rfl rfl) w1) fun _ h73=>?_
    refine h73.sk [17,15,14,67,66,3,13,33,12,10,7,0,1,2,4] rfl fun h74=>?_
    refine wpAnyH_done κ ?_ _
    refine hK28 _ _ ?_
    refine sqr fun _ hK31=>mv h74 rfl fun _ h75=>bv h75 (z:=.bool false) rfl (cNe _ _ _ _ rfl) fun _ h76=>h76.sn [94,17,15,14,67,66,3,13,33,12,10,7,0,1,2,4] rfl fun h77=>hK31 _ _<|wcF h77 rfl rfl<|h77.sk [17,15,14,67,66,3,13,33,12,10,7,0,1,2,4] rfl fun h78=>wp_skip<|hK24 _ _<|wp_region_lit<|bv h78 (z:=ν ((k2+1:Nat):Int)) rfl (CP _ _ _ ω ω ω) fun _ h79=>?_
    refine h79.sk [96,17,15,14,66,3,13,33,12,10,7,0,1,2,4] rfl fun h80=>mv h80 rfl fun _ h81=>h81.sk [67,17,15,14,66,3,13,33,12,10,7,0,1,2,4] rfl fun h82=>wpList_nil ?_
    exact hK21 (k2+1) tax248 tcx249 _ _ ⟨h82.subs rfl,(s14.pk [3,4,0,5,6] rfl),ω⟩ ω
   ·skip
    have hp4:¬ ((k2:Int)<(n0:Int)):=(dF hc3)
    refine wcF h44 rfl hc3<|h44.sk [67,66,3,13,33,12,10,7,0,1,2,4] rfl fun h83=>wp_exit ?_
    refine hK19 _ _ ?_
    refine sq fun _ hK32=>?_
    have s15:=s7.drew
    refine wp_region_held_drew (S:=fun w'=>Sep w' [Ab fx 83 [π K.tg,π mx],Ab mx 103 [π K.tg],Ab g4 45 (Ao z),Ch.many R]) κ (s15.pk [0,1,3,4] rfl) (fun hq5=>?_)
    refine tv1 hq5 h83 0 rfl rfl (fun w1 _=>(AF h83 rfl rfl) w1) fun _ h84=>?_
    refine tv1 hq5 h84 1 rfl rfl (fun w1 _=>(Na h84 rfl rfl) w1) fun _ h85=>?_
    refine tv1 hq5 h85 2 rfl rfl (fun w1 _=>(rfa h85 rfl rfl (fQ 1)) w1) fun _ h86=>?_
    refine tv1 hq5 h86 3 rfl rfl (fun w1 hSw=>(rld h86 rfl rfl (ldB υ31 rfl (hSw.get 0 rfl:Blk _ _ _ _) rfl))) fun _ h87=>?_
    refine tv1 hq5 h87 4 rfl rfl (fun w1 _=>(AF h87 rfl rfl) w1) fun _ h88=>?_
    refine tv1 hq5 h88 5 rfl rfl (fun w1 hSw=>(rld h88 rfl rfl (ldA υ45 rfl (n:=15) κ (hSw.get 2 rfl:Blk _ _ _ _) rfl rfl))) fun _ h89=>?_
    refine to_ 6 rfl (wn rfl) κ fun _ hK33=>BI h89 rfl rfl rfl (xs:=[.tmp 100,.tmp 101,.tmp 102]) rfl (cF func47) rfl (vs:=[π mx,ν i,.agg (Ao z).toArray]) rfl (args:=#[π mx,ν i,.agg (Ao z).toArray]) rfl (EA (i:=i) (x:=z) (s15.pk [1,2,0,3,4] rfl) hM) fun _ v6 w15 r6 h90=>?_
    obtain ⟨tax291,tcx292,rfl,s16⟩:=r6
    refine hK33 _ _ (s16.pk [2,0,3,4] rfl) fun hq6=>h90.sk [103,102,101,100,99,98,97,67,66,3,13,33,12,7,0,1,2,4] rfl fun h91=>?_
    refine tv1 hq6 h91 7 rfl rfl (fun w1 _=>(Be h91 rfl rfl) w1) fun _ h92=>?_
    refine h92.sk [10,67,66,3,13,33,12,7,0,1,2,4] rfl fun h93=>?_
    refine wpAnyH_done κ ?_ _
    refine hK32 _ _ ?_
    refine wp_ret ?_
    try simp only [Exit.then,Exit.inBlock,Exit.noGoto]
    refine Bj (v:=ν (Cp M (wrP M z (rzL S (n0*64)) P2 k2) i z)) (CV h93 rfl rfl) h93.defs ?_
    obtain rfl:n0=k2:=ω
    exact ⟨tax291,tcx292,rfl,Sep.tail_un (xs:=[_,_,_]) (s16.pk [2,0,1,4] rfl)⟩
  ·skip
   have hp5:¬ ((k1:Int)=(n0:Int)):=(dF hc2)
   refine wcF h34 rfl hc2<|h34.sk [13,33,12,10,7,0,1,2,3,4] rfl fun h94=>sqr fun _ hK34=>mv h94 rfl fun _ h95=>fav h95 rfl (fQ 3) fun _ h96=>sv1 h96 rfl (Ci h96 rfl rfl rfl (fun w=>MA g4 k1 ω ω w)) fun _ h97=>sw1 h97 rfl (rld h97 rfl rfl (ldB υ3 rfl (s5.get 3 rfl:Blk _ _ _ _) (EH ((alS M sp y P1 k1).1) ω))) fun _ h98=>bv h98 (z:=.bool (decide (((alS M sp y P1 k1).1).blk k1≠0))) rfl (cNe _ _ _ _ rfl) fun _ h99=>mv h99 rfl fun _ h100=>h100.sk [40,13,33,12,10,7,0,1,2,3,4] rfl fun h101=>?_
   refine wpList_nil<|hK34 _ _ ?_
   rcases bC (decide (((alS M sp y P1 k1).1).blk k1≠0)) with hc4 | hc4
   ·skip
    have hp6:((alS M sp y P1 k1).1).blk k1≠0:=(dT hc4)
    refine wcT h101 rfl hc4<|h101.sk [13,33,12,10,7,0,1,2,3,4] rfl fun h102=>wp_exit ?_
    refine hK14 _ _ ?_
    refine wp_region_lit<|bv h102 (z:=ν ((k1+1:Nat):Int)) rfl (CP _ _ _ ω ω ω) fun _ h103=>h103.sk [61,13,12,10,7,0,1,2,3,4] rfl fun h104=>mv h104 rfl fun _ h105=>h105.sk [33,13,12,10,7,0,1,2,3,4] rfl fun h106=>wpList_nil ?_
    have ha9:=Afz (M:=M) (sp:=sp) (x:=y) (P:=P1) (k:=k1) ω
    exact hK11 (k1+1) ta292 tc293 _ _ ⟨h106.subs rfl,(by rw [ha9];exact s5),ω⟩ ω
   ·skip
    have hp7:¬ (((alS M sp y P1 k1).1).blk k1≠0):=(dF hc4)
    refine wcF h101 rfl hc4<|h101.sk [13,33,12,10,7,0,1,2,3,4] rfl fun h107=>wp_skip<|hK16 _ _<|sqr fun _ hK35=>mvs 3 h107 rfl fun _ h108=>fav h108 rfl (fQ 1) fun _ h109=>ldv h109 s5 0 υ31 rfl rfl rfl rfl fun _ h110=>mv h110 rfl fun _ h111=>?_
    have hb344:=hal k1 ω ω
    refine cl h111 rfl (cF func74) (Sm (spare:=sp) (s5.pk [1,2,0,3,4] rfl) hM ω hb344) fun _ v7 w16 r7 h112=>?_
    obtain ⟨tax345,tcx346,rfl,s17⟩:=r7
    refine mvs 3 h112 rfl fun _ h113=>fav h113 rfl (fQ 3) fun _ h114=>sv1 h114 rfl (Ci h114 rfl rfl rfl (fun w=>MA g4 k1 ω ω w)) fun _ h115=>so (wn rfl) fun _ hK36=>FI h115 rfl rfl s17 3 rfl rfl rfl [ν (bN M (alS M sp y P1 k1).2 sp)] rfl κ rfl (by show 3+k1+1≤15;omega) (L':=Ao (((alS M sp y P1 k1).1).setB k1 (bN M (alS M sp y P1 k1).2 sp))) (KG ((alS M sp y P1 k1).1) ω) (cs':=[Ab mx 103 [π K.tg],txP K tax345 tcx346 M (bP M (alS M sp y P1 k1).2 sp),Ab fx 83 [π K.tg,π mx],Ab g4 45 (Ao (((alS M sp y P1 k1).1).setB k1 (bN M (alS M sp y P1 k1).2 sp))),Ch.many R]) rfl fun _ w17 h116 s18 _=>hK36 _ _ ?_
    refine mv h116 rfl fun _ h117=>h117.sn [11,13,33,12,10,7,0,1,2,3,4] rfl fun h118=>hK35 _ _<|sqr fun _ hK37=>mv h118 rfl fun _ h119=>bv h119 (z:=.bool false) rfl (cNe _ _ _ _ rfl) fun _ h120=>h120.sn [59,11,13,33,12,10,7,0,1,2,3,4] rfl fun h121=>hK37 _ _<|wcF h121 rfl rfl<|h121.sk [11,13,33,12,10,7,0,1,2,3,4] rfl fun h122=>?_
    refine wp_skip<|hK14 _ _<|wp_region_lit<|bv h122 (z:=ν ((k1+1:Nat):Int)) rfl (CP _ _ _ ω ω ω) fun _ h123=>h123.sk [61,11,13,12,10,7,0,1,2,3,4] rfl fun h124=>mv h124 rfl fun _ h125=>h125.sk [33,11,13,12,10,7,0,1,2,3,4] rfl fun h126=>wpList_nil ?_
    have ha9:=Afy (M:=M) (sp:=sp) (x:=y) (P:=P1) (k:=k1) ω
    exact hK11 (k1+1) tax345 tcx346 _ _ ⟨h126.subs rfl,(by rw [ha9];exact (s18.pk [2,0,1,3,4] rfl)),ω⟩ ω
 ·skip
  have hp8:¬ ((k1:Int)<4):=(dF hc1)
  refine wcF h27 rfl hc1<|h27.sk [33,12,10,7,0,1,2,3,4] rfl fun h127=>wp_exit ?_
  refine hK9 _ _ ?_
  refine sqr fun _ hK38=>mvs 2 h127 rfl fun _ h128=>bv h128 (z:=ν ((n0:Int)*64)) rfl (Sk _ _ _ ω ω ω) fun _ h129=>cl h129 rfl (cF func58) (FX (L:=S) (n:=(n0*64)) (i:=(n0:Int)*64) s5 (by first | rfl | omega) ω ω) fun _ v8 w18 r8 h130=>?_
  obtain ⟨rfl,s19⟩:=r8
  refine h130.sk [65,64,63,62,33,12,10,7,0,1,2,4] rfl fun h131=>mv h131 rfl fun _ h132=>h132.sn [3,33,12,10,7,0,1,2,4] rfl fun h133=>hK38 _ _<|sq fun _ hK39=>sqr fun _ hK40=>mvs 2 h133 rfl fun _ h134=>wpList_nil<|hK40 _ _<|wp_block ?_
  have hk9:k1=n0:=ω
  refine ND (fun (k:Nat) (ta2:Ω) (tc2:Nat) a' w'=>Kn 104 [(67,ν (k:Int)),(66,ν (n0:Int)),(3,σ (rzL S (n0*64))),(33,ν (k1:Int)),(12,ν (n0:Int)),(10,ν 0),(7,π g4),(0,π fx),(1,ν i),(2,.agg (Ao x).toArray),(4,ν sp)] a'∧Sep w' [Ab fx 83 [π K.tg,π mx],Ab mx 103 [π K.tg],txP K ta2 tc2 M (wrP M z (rzL S (n0*64)) P2 k),Ab g4 45 (Ao z),Ch.many R]∧(k≤n0)) (fun (k:Nat) (ta2:Ω) (tc2:Nat)=>n0-k) 0 ta292 tc293 ⟨h134.subs rfl,(show Sep _ [Ab fx 83 [π K.tg,π mx],Ab mx 103 [π K.tg],txP K ta292 tc293 M (wrP M z (rzL S (n0*64)) P2 0),Ab g4 45 (Ao z),Ch.many R] from by have z9:=s19;rw [hk9,hz] at z9;exact z9),Nat.zero_le _⟩ ?_
  rintro k3 ta2419 tc2420 a3 w19 ⟨h135,s20,hk417⟩ K3 hK41
  refine sqr fun _ hK42=>bv h135 (z:=.bool (decide ((k3:Int)<(n0:Int)))) rfl (cLt _ _ _ _ rfl) fun _ h136=>wpList_nil<|hK42 _ _<|sq fun _ hK43=>?_
  rcases bC (decide ((k3:Int)<(n0:Int))) with hc5 | hc5
  ·skip
   have hp9:(k3:Int)<(n0:Int):=(dT hc5)
   refine wcT h136 rfl hc5<|h136.sk [67,66,3,33,12,10,7,0,1,2,4] rfl fun h137=>wp_skip<|hK43 _ _<|sq fun _ hK44=>wp_block ?_
   refine sqr fun _ hK45=>mvs 2 h137 rfl fun _ h138=>h138.sn [14,67,66,3,33,12,10,7,0,1,2,4] rfl fun h139=>hK45 _ _<|sqr fun _ hK46=>mv h139 rfl fun _ h140=>fav h140 rfl (fQ 3) fun _ h141=>sv1 h141 rfl (Ci h141 rfl rfl rfl (fun w=>MA g4 k3 ω ω w)) fun _ h142=>sw1 h142 rfl (rld h142 rfl rfl (ldB υ3 rfl (s20.get 3 rfl:Blk _ _ _ _) (EH z ω))) fun _ h143=>?_
   obtain ⟨q444,hq7⟩:=hfd k3 ω
   have hq445i:=DC hq7
   have hcb9:=NG hrz (ω:k3<n0)
   refine cl h143 rfl (cF func34) (Bv s20 (JG (k:=q444.k) (n:=q444.n) (a:=q444.a) (s:=q444.s) hq7 _)) fun _ v9 w20 r9 h144=>?_
   obtain ⟨rfl,s21⟩:=r9
   refine mvs 3 h144 rfl fun _ h145=>so (wn rfl) fun _ hK47=>AV h145 rfl rfl rfl rfl (z:=[ν 0,ν 0,ν 0,ν 0]) (fun _=>rfl) s21 fun _ g3 w21 h146 s22 _ _=>hK47 _ _ ?_
   refine stA h146 s22 0 rfl rfl rfl κ rfl rfl rfl rfl fun _ w22 h147 s23 _=>mv h147 rfl fun _ h148=>h148.sn [15,14,67,66,3,33,12,10,7,0,1,2,4] rfl fun h149=>hK46 _ _<|sq fun _ hK48=>?_
   have s24:=s23.drew
   refine wp_region_held_drew (S:=fun w'=>Sep w' [Ab g3 78 [ν q444.k,ν q444.n,ν q444.a,ν q444.s],Ab fx 83 [π K.tg,π mx],Ab mx 103 [π K.tg],Ab g4 45 (Ao z),Ch.many R]) κ (s24.pk [0,1,2,4,5] rfl) (fun hq8=>?_)
   refine tv1 hq8 h149 0 rfl rfl (fun w1 _=>(AF h149 rfl rfl) w1) fun _ h150=>?_
   refine tv1 hq8 h150 1 rfl rfl (fun w1 _=>(Na h150 rfl rfl) w1) fun _ h151=>?_
   refine tv1 hq8 h151 2 rfl rfl (fun w1 _=>(rfa h151 rfl rfl (fQ 0)) w1) fun _ h152=>?_
   refine tv1 hq8 h152 3 rfl rfl (fun w1 hSw=>(rld h152 rfl rfl (ldB υ30 rfl (hSw.get 1 rfl:Blk _ _ _ _) rfl))) fun _ h153=>?_
   refine tv1 hq8 h153 4 rfl rfl (fun w1 _=>(rfa h153 rfl rfl (fQ 2)) w1) fun _ h154=>?_
   refine tv1 hq8 h154 5 rfl rfl (fun w1 hSw=>(rld h154 rfl rfl (ldB υ3 rfl (hSw.get 0 rfl:Blk _ _ _ _) rfl))) fun _ h155=>?_
   refine tv1 hq8 h155 6 rfl rfl (fun w1 _=>(AF h155 rfl rfl) w1) fun _ h156=>?_
   refine tv1 hq8 h156 7 rfl rfl (fun w1 _=>(AF h156 rfl rfl) w1) fun _ h157=>?_
   refine tv1 hq8 h157 8 rfl rfl (v:=ν ((k3:Int)*64)) (fun w1 _=>(BN h157 rfl rfl rfl (Sk _ _ _ ω ω ω)) w1) fun _ h158=>?_
   refine tv1 hq8 h158 9 rfl rfl (fun w1 _=>(AF h158 rfl rfl) w1) fun _ h159=>?_
   refine tv1 hq8 h159 10 rfl rfl (v:=ν ((k3+1:Nat):Int)) (fun w1 _=>(BN h159 rfl rfl rfl (CP _ _ _ ω ω ω)) w1) fun _ h160=>?_
   refine tv1 hq8 h160 11 rfl rfl (v:=ν (((k3+1:Nat):Int)*64)) (fun w1 _=>(BN h160 rfl rfl rfl (Sk _ _ _ ω ω ω)) w1) fun _ h161=>?_
   refine tv1 hq8 h161 12 rfl rfl (fun w1 _=>(PM h161 rfl rfl (vl:=(some (ν ((k3:Int)*64)))) (vh:=(some (ν (((k3+1:Nat):Int)*64)))) rfl rfl (fun w=>(slT 9 υ9 (rzL S (n0*64)) (a:=((k3:Int)*64).toNat) (b:=(((k3+1:Nat):Int)*64).toNat) (.inr ⟨_,rfl,ω⟩) (.inr ⟨_,rfl,ω⟩) ω ω) w)) w1) fun _ h162=>?_
   refine to_ 13 rfl (wn rfl) κ fun _ hK49=>Vr h162 rfl rfl rfl rfl (X:=((rzL S (n0*64)).take ((((k3+1:Nat):Int)*64).toNat)).drop (((k3:Int)*64).toNat)) rfl υ9 υ74 υ5 (by unfold maxLen;omega) s24 fun _ g5 c507 w23 h163 s25=>?_
   refine hK49 _ _ (s25.pk [1,2,3,5,6] rfl) fun hq9=>?_
   refine to_ 14 rfl (wn rfl) κ fun _ hK50=>BI h163 rfl rfl rfl (xs:=[.tmp 81,.tmp 83,.tmp 91]) rfl (cF func75) rfl (vs:=[π K.tg,ν q444.a,.slice (some ⟨g5,0,none⟩) ((((rzL S (n0*64)).take ((((k3+1:Nat):Int)*64).toNat)).drop (((k3:Int)*64).toNat)).length) c507]) rfl (args:=#[π K.tg,ν q444.a,.slice (some ⟨g5,0,none⟩) ((((rzL S (n0*64)).take ((((k3+1:Nat):Int)*64).toNat)).drop (((k3:Int)*64).toNat)).length) c507]) rfl (Nv (xs:=((rzL S (n0*64)).take ((((k3+1:Nat):Int)*64).toNat)).drop (((k3:Int)*64).toNat)) (s25.pk [4,0,1,2,3,5,6] rfl) (s25.get 0 rfl:Bo _ _ _ _∧_).1 hq7 (by have z9:=hst k3 ω;exact z9) (by unfold Hv;omega) (NG hrz ω)) fun _ v10 w24 r10 h164=>?_
   obtain ⟨tax514,tcx515,rfl,s26⟩:=r10
   refine hK50 _ _ (s26.pk [2,3,4,5,6] rfl) fun hq10=>?_
   refine tv1 hq10 h164 15 rfl rfl (fun w1 _=>(Be h164 rfl rfl) w1) fun _ h165=>?_
   refine h165.sk [17,15,14,67,66,3,33,12,10,7,0,1,2,4] rfl fun h166=>?_
   refine wpAnyH_done κ ?_ _
   refine hK48 _ _ ?_
   refine sqr fun _ hK51=>mv h166 rfl fun _ h167=>bv h167 (z:=.bool false) rfl (cNe _ _ _ _ rfl) fun _ h168=>h168.sn [94,17,15,14,67,66,3,33,12,10,7,0,1,2,4] rfl fun h169=>hK51 _ _<|wcF h169 rfl rfl<|h169.sk [17,15,14,67,66,3,33,12,10,7,0,1,2,4] rfl fun h170=>wp_skip<|hK44 _ _<|wp_region_lit<|bv h170 (z:=ν ((k3+1:Nat):Int)) rfl (CP _ _ _ ω ω ω) fun _ h171=>?_
   refine h171.sk [96,17,15,14,66,3,33,12,10,7,0,1,2,4] rfl fun h172=>mv h172 rfl fun _ h173=>h173.sk [67,17,15,14,66,3,33,12,10,7,0,1,2,4] rfl fun h174=>wpList_nil ?_
   exact hK41 (k3+1) tax514 tcx515 _ _ ⟨h174.subs rfl,(s26.pk [3,4,0,5,6] rfl),ω⟩ ω
  ·skip
   have hp10:¬ ((k3:Int)<(n0:Int)):=(dF hc5)
   refine wcF h136 rfl hc5<|h136.sk [67,66,3,33,12,10,7,0,1,2,4] rfl fun h175=>wp_exit ?_
   refine hK39 _ _ ?_
   refine sq fun _ hK52=>?_
   have s27:=s20.drew
   refine wp_region_held_drew (S:=fun w'=>Sep w' [Ab fx 83 [π K.tg,π mx],Ab mx 103 [π K.tg],Ab g4 45 (Ao z),Ch.many R]) κ (s27.pk [0,1,3,4] rfl) (fun hq11=>?_)
   refine tv1 hq11 h175 0 rfl rfl (fun w1 _=>(AF h175 rfl rfl) w1) fun _ h176=>?_
   refine tv1 hq11 h176 1 rfl rfl (fun w1 _=>(Na h176 rfl rfl) w1) fun _ h177=>?_
   refine tv1 hq11 h177 2 rfl rfl (fun w1 _=>(rfa h177 rfl rfl (fQ 1)) w1) fun _ h178=>?_
   refine tv1 hq11 h178 3 rfl rfl (fun w1 hSw=>(rld h178 rfl rfl (ldB υ31 rfl (hSw.get 0 rfl:Blk _ _ _ _) rfl))) fun _ h179=>?_
   refine tv1 hq11 h179 4 rfl rfl (fun w1 _=>(AF h179 rfl rfl) w1) fun _ h180=>?_
   refine tv1 hq11 h180 5 rfl rfl (fun w1 hSw=>(rld h180 rfl rfl (ldA υ45 rfl (n:=15) κ (hSw.get 2 rfl:Blk _ _ _ _) rfl rfl))) fun _ h181=>?_
   refine to_ 6 rfl (wn rfl) κ fun _ hK53=>BI h181 rfl rfl rfl (xs:=[.tmp 100,.tmp 101,.tmp 102]) rfl (cF func47) rfl (vs:=[π mx,ν i,.agg (Ao z).toArray]) rfl (args:=#[π mx,ν i,.agg (Ao z).toArray]) rfl (EA (i:=i) (x:=z) (s27.pk [1,2,0,3,4] rfl) hM) fun _ v11 w25 r11 h182=>?_
   obtain ⟨tax557,tcx558,rfl,s28⟩:=r11
   refine hK53 _ _ (s28.pk [2,0,3,4] rfl) fun hq12=>h182.sk [103,102,101,100,99,98,97,67,66,3,33,12,7,0,1,2,4] rfl fun h183=>?_
   refine tv1 hq12 h183 7 rfl rfl (fun w1 _=>(Be h183 rfl rfl) w1) fun _ h184=>?_
   refine h184.sk [10,67,66,3,33,12,7,0,1,2,4] rfl fun h185=>?_
   refine wpAnyH_done κ ?_ _
   refine hK52 _ _ ?_
   refine wp_ret ?_
   try simp only [Exit.then,Exit.inBlock,Exit.noGoto]
   refine Bj (v:=ν (Cp M (wrP M z (rzL S (n0*64)) P2 k3) i z)) (CV h185 rfl rfl) h185.defs ?_
   obtain rfl:n0=k3:=ω
   exact ⟨tax557,tcx558,rfl,Sep.tail_un (xs:=[_,_,_]) (s28.pk [2,0,1,4] rfl)⟩
end
section
structure SetH (M:MemM) (P:List PtM) (i sp:Int) (x y z:InoT) (n0:Nat) (S:Λ) (P1 P2:List PtM):Prop where
 fE:Em M P i=0
 fX:IM M P i=x
 l:S.length≤256
 hsp:-9223372036854775808≤sp∧sp≤9223372036854775807
 hn:By (S.length:Int)=(n0:Int)
 xb:∀ k,-9223372036854775808≤x.blk k∧x.blk k≤9223372036854775807
 cX:Bw (szX x (S.length:Int)) n0 (4-n0)=y
 cE:KX M P (szX x (S.length:Int)) n0=0
 cP:JA M P (szX x (S.length:Int)) n0=P1
 al:∀ k,k<n0→(alS M sp y P1 k).1.blk k=0→bE M (alS M sp y P1 k).2 sp=0
 hz:alS M sp y P1 n0=(z,P2)
 fd:∀ k,k<n0→∃ q,Bk 7 (z.blk k)=some q
 st:∀ k,k<n0→stE M (wrP M z (rzL S (n0*64)) P2 k) 7 (z.blk k) 64=0
 sE:Cp M (wrP M z (rzL S (n0*64)) P2 n0) i z=0
section
variable {w:World} {R:List Ch} {fx mx:Nat} {K:VolK} {ta:Ω} {tc:Nat} {M:MemM} {P P1 P2:List PtM} {x y z:InoT} {n0:Nat} {i sp:Int} {S:Λ}
theorem Od (hS:Sep w ([Ab fx 83 [π K.tg,π mx],mtC mx K,txP K ta tc M P]++R)) (hM:M.V.length=23168) (hE:Em M P i=0) (hX:IM M P i=x) :
  CallsR prog 33 #[π fx,ν i] w (fun v w'=>v=.tuple #[.agg (Ao x).toArray,ν 0]∧Sep w' ([Ab fx 83 [π K.tg,π mx],mtC mx K,txP K ta tc M P]++R)):=
 Calls.mono (Yn hS hM) fun e w' q=>by rw [hE,hX] at q;exact q
theorem Rd (hS:Sep w (txP K ta tc M P::R)):CallsR prog 40 #[π K.tg] w (fun v w'=>∃ la lc,v=.slice la P.length lc∧Sep w' (txP K ta tc M P::R)):=by
 have h:VolP w K ta tc M P:=hS.get 0 rfl
 exact Calls.mono (Rc h.b h.o.row (Nat.le_trans h.k.n ω)) fun e w' ⟨la,lc,e1,_,b⟩=>⟨_,e1,la,lc,rfl,hS.mono b⟩
theorem ZR (hS:Sep w ([Ab fx 83 [π K.tg,π mx],mtC mx K,txP K ta tc M P]++R)) (hM:M.V.length=23168) (H:SetH M P i sp x y z n0 S P1 P2) :
  CallsR prog 41 #[π fx,ν i,.agg (Ao x).toArray,σ S,ν sp] w (fun v w'=>∃ ta' tc',v=ν 0∧Sep w' ([Ab fx 83 [π K.tg,π mx],mtC mx K,txP K ta' tc' M (BE M (wrP M z (rzL S (n0*64)) P2 n0) i z)]++R)):=
 Calls.mono (Afn hS hM H.l H.hsp H.hn H.xb H.cX H.cE H.cP H.al H.hz H.fd H.st) fun e w' q=>by rw [H.sE] at q;exact q
end
theorem Ads {w:World} {R:List Ch} {fx:Nat} {mx:Nat} {K:VolK} {ta:Ω} {tc:Nat} {M:MemM} {P:List PtM} {i sp:Int} {x y z:InoT} {n0:Nat} {S:Λ} {P1 P2:List PtM} (hS0:Sep w ([Ab fx 83 [π K.tg,π mx],Ab mx 103 [π K.tg],txP K ta tc M P]++R)) (hM:M.V.length=23168) (H:SetH M P i sp x y z n0 S P1 P2) :
  CallsR prog 16 #[π fx,ν i,σ S,ν sp] w (fun v w'=>∃ ta' tc',v=ν 0∧Sep w' ([Ab fx 83 [π K.tg,π mx],Ab mx 103 [π K.tg],txP K ta' tc' M (BE M (wrP M z (rzL S (n0*64)) P2 n0) i z)]++R)):=by
 have hS:Sep w [Ab fx 83 [π K.tg,π mx],Ab mx 103 [π K.tg],txP K ta tc M P,Ch.many R]:=Sep.tail_many (xs:=[_,_,_]) hS0;clear hS0
 have hS256:=H.l
 refine AL func16 rfl (N:=42) ntmps16 (by show 4≤42;decide) [(0,π fx),(1,ν i),(2,σ S),(3,ν sp)] rfl fun _ h1=>sqr fun _ hK3=>mv h1 rfl fun _ h4=>wpList_nil<|hK3 _ _<|sqr fun _ hK6=>mvs 2 h4 rfl fun _ h9=>cl h9 rfl (cF func33) (Od hS hM H.fE H.fX) fun _ v1 w1 r1 h2=>?_
 obtain ⟨rfl,s1⟩:=r1
 refine mvs 3 h2 rfl fun _ h3=>so (wn rfl) fun _ hK1=>AV h3 rfl rfl rfl rfl (z:=[ν 0,ν 0,ν 0,ν 0,ν 0,ν 0,ν 0,ν 0,ν 0,ν 0,ν 0,ν 0,ν 0,ν 0,ν 0]) (fun _=>rfl) s1 fun _ g1 w2 h5 s2 _ _=>hK1 _ _ ?_
 refine stA h5 s2 0 rfl rfl rfl κ rfl rfl rfl rfl fun _ w3 h6 s3 _=>mv h6 rfl fun _ h7=>h7.sn [10,9,8,0,1,2,3] rfl fun h8=>hK6 _ _<|sq fun _ hK2=>sqr fun _ hK4=>mv h8 rfl fun _ h10=>bv h10 (z:=.bool false) rfl (cNe _ _ _ _ rfl) fun _ h11=>h11.sn [20,10,9,8,0,1,2,3] rfl fun h12=>hK4 _ _<|wcF h12 rfl rfl ?_
 refine h12.sk [10,9,8,0,1,2,3] rfl fun h13=>wp_skip<|hK2 _ _<|sq fun _ hK5=>sqr fun _ hK7=>mv h13 rfl fun _ h14=>sv1 h14 rfl (v:=ν (S.length:Int)) (Da h14 rfl rfl υ9) fun _ h15=>bv h15 (z:=.bool false) rfl (cGt _ _ _ _ (decide_eq_false ω)) fun _ h16=>h16.sn [24,10,9,8,0,1,2,3] rfl fun h17=>hK7 _ _<|wcF h17 rfl rfl<|h17.sk [10,9,8,0,1,2,3] rfl fun h18=>?_
 refine wp_skip<|hK5 _ _<|sqr fun _ hK8=>mvs 2 h18 rfl fun _ h19=>fav h19 rfl (fQ 0) fun _ h20=>ldv h20 s3 1 υ30 rfl rfl rfl rfl fun _ h21=>cl h21 rfl (cF func40) (Rd (s3.pk [3,0,1,2,4] rfl)) fun _ v2 w4 r2 h22=>?_
 obtain ⟨la_x68,lc_x69,rfl,s4⟩:=r2
 refine mv h22 rfl fun _ h23=>h23.sn [11,10,9,8,0,1,2,3] rfl fun h24=>hK8 _ _<|sq fun _ hK9=>sqr fun _ hK10=>mvs 2 h24 rfl fun _ h25=>sw1 h25 rfl (v:=.agg (Ao x).toArray) (rld h25 rfl rfl (ldA υ45 rfl (n:=15) κ (s4.get 1 rfl:Blk _ _ _ _) rfl rfl)) fun _ h26=>mvs 2 h26 rfl fun _ h27=>cl h27 rfl (cF func41) (ZR (s4.pk [2,3,0,1,4] rfl) hM H) fun _ v3 w5 r3 h28=>?_
 obtain ⟨tax92,tcx93,rfl,s5⟩:=r3
 refine mv h28 rfl fun _ h29=>h29.sn [12,11,10,9,8,0,1,2,3] rfl fun h30=>hK10 _ _<|sqr fun _ hK11=>mv h30 rfl fun _ h31=>bv h31 (z:=.bool false) rfl (cNe _ _ _ _ rfl) fun _ h32=>h32.sn [37,12,11,10,9,8,0,1,2,3] rfl fun h33=>hK11 _ _<|wcF h33 rfl rfl<|h33.sk [12,11,10,9,8,0,1,2,3] rfl fun h34=>?_
 refine wp_skip<|hK9 _ _<|sqr fun _ hK12=>h34.sk [12,11,10,9,0,1,2,3] rfl fun h35=>mv h35 rfl fun _ h36=>wpList_nil<|hK12 _ _<|wp_ret ?_
 try simp only [Exit.then,Exit.inBlock]
 refine Bj (v:=ν 0) (CV h36 rfl rfl) h36.defs ?_
 exact ⟨tax92,tcx93,rfl,Sep.tail_un (xs:=[_,_,_]) (s5.pk [0,1,2,4] rfl)⟩
end
section
theorem NL {w:World} {R:List Ch} {b:Nat} {p:Ω} {v:Value} (hS:Sep w (Ab b 76 [.pointer p,v]::R)) (hp:p=none∨p=some ⟨b,0,none⟩):CallsR prog 66 #[π b] w (fun x w'=>x=.tuple #[]∧Sep w' (Ab b 76 [π b,v]::R)):=by
 have hb:Blk w b 76 [.pointer p,v]:=hS.get 0 rfl
 rcases hp with rfl | rfl
 ·refine Calls.mono (Go.Proofs.Any.Builder_copyCheck_fresh (ρ:=Fy) { Nr with } CW.toX72 b w (hb.cell (i:=0) (by show 0<2;omega)) (by unfold World.shape?;rw [show w.heap[b]? = _ from hb];rfl) (Blk.frozen hb 0)) fun e w' z=>?_
  obtain ⟨e1,e2⟩:=z
  subst e2
  exact ⟨_,e1,rfl,hS.head (Turns.of_row (TX (Kf w (some b)) 0 _)) (fun k _ q=>by cases q;rfl) (c':=Ab b 76 [π b,v]) (hb.set 0 _) fun k q=>.inl q⟩
 ·refine Calls.mono (Go.Proofs.Any.Builder_copyCheck_used (ρ:=Fy) { Nr with } CW.toX72 b w (hb.cell (i:=0) (by show 0<2;omega))) fun e w' z=>?_
  obtain ⟨e1,e2⟩:=z
  subst e2
  exact ⟨_,e1,rfl,hS⟩
theorem Ac6 {w:World} {R:List Ch} {b:Nat} {p:Ω} {ba:Ω} {bc:Nat} {ad:Addr} {yc:Nat} {xs ys:Λ} (hS0:Sep w ([Ab b 76 [.pointer p,.slice ba xs.length bc],BR 0 5 1 ba (xs).length bc ((xs).map Ag),BR 0 5 1 (some ad) (ys).length yc ((ys).map Ag)]++R)) (hp:p=none∨p=some ⟨b,0,none⟩) (hx:xs.length≤1000000) (hy2:ys.length≤1000000) (hy:0<ys.length) :
  CallsR prog 36 #[π b,.slice (some ad) ys.length yc] w (fun v w'=>∃ ba' bc',v=.tuple #[ν ys.length,.nilIface]∧Sep w' ([Ab b 76 [π b,.slice ba' ((xs++ys).length) bc'],BR 0 5 1 ba' ((xs++ys)).length bc' (((xs++ys)).map Ag),BR 0 5 1 (some ad) (ys).length yc ((ys).map Ag)]++R)):=by
 have hS:Sep w [Ab b 76 [.pointer p,.slice ba xs.length bc],BR 0 5 1 ba (xs).length bc ((xs).map Ag),BR 0 5 1 (some ad) (ys).length yc ((ys).map Ag),Ch.many R]:=Sep.tail_many (xs:=[_,_,_]) hS0;clear hS0
 refine AL func36 rfl (N:=19) ntmps36 (by show 2≤19;decide) [(0,π b),(1,.slice (some ad) ys.length yc)] rfl fun _ h1=>sqr fun _ hK3=>mvs 2 h1 rfl fun _ h6=>wpList_nil<|hK3 _ _<|sqr fun _ hK8=>mv h6 rfl fun _ h9=>cl h9 rfl (cF func66) (NL hS hp) fun _ v1 w1 r1 h2=>?_
 obtain ⟨rfl,s1⟩:=r1
 refine h2.sn [5,4,0,1] rfl fun h3=>hK8 _ _<|sqr fun _ hK1=>mvs 3 h3 rfl fun _ h4=>fav h4 rfl (fQ 1) fun _ h5=>ldv h5 s1 0 υ74 rfl rfl rfl rfl fun _ h7=>mv h7 rfl fun _ h8=>so (wn rfl) fun _ hK2=>Ac8 h8 rfl rfl rfl rfl E8 s1 1 rfl rfl rfl (s1.get 2 rfl:Own _ _ _ _ _ _ _ _).row hy (List.all_eq_true.2 (CH _)) ω ω (n':=(xs++ys).length) (List.length_append).symm fun a1 p32 c33 w2 h10 s2 _=>hK2 _ _ ?_
 have s3:Sep w2 [Ab b 76 [π b,.slice ba xs.length bc],BR 0 5 1 p32 ((xs++ys)).length c33 (((xs++ys)).map Ag),BR 0 5 1 (some ad) (ys).length yc ((ys).map Ag),Ch.many R]:=by rw [show (xs++ys).map Ag=xs.map Ag++ys.map Ag from List.map_append];exact s2
 refine mv h10 rfl fun _ h11=>fav h11 rfl (fQ 1) fun _ h12=>st1 h12 s3 0 rfl rfl κ rfl rfl rfl rfl fun _ w3 h13 s4 _=>h13.sn [5,4,0,1] rfl fun h14=>hK1 _ _<|sqr fun _ hK4=>mv h14 rfl fun _ h15=>sv1 h15 rfl (v:=ν (ys.length:Int)) (Ve h15 rfl rfl υ74) fun _ h16=>h16.sk [18,17,5,0,1] rfl fun h17=>mv h17 rfl fun _ h18=>?_
 refine h18.sk [4,18,17,0,1] rfl fun h19=>mv h19 rfl fun _ h20=>h20.sn [5,4,0,1] rfl fun h21=>hK4 _ _<|wp_ret ?_
 try simp only [Exit.then,Exit.inBlock]
 refine Bj (v:=.tuple #[ν (ys.length:Int),.nilIface]) (Dx h21 rfl rfl rfl) h21.defs ?_
 exact ⟨p32,c33,rfl,Sep.tail_un (xs:=[_,_,_]) s4⟩
end
section
theorem Pn (w:World) (g n:Nat):Turns (fun k=>k=g) w (w.drew.freeze ⟨g,0,none⟩ n):=by
  have b:=Lib.below_freeze (B:=0) (Below.drew (Below.refl 0 w)) (p:=⟨g,0,none⟩) (Nat.zero_le _) n
  refine ⟨b.os,b.tape,b.output,b.size,fun k hk hn=>?_⟩
  have hn:g≠k:=fun e=>hn e.symm
  unfold World.freeze
  split
  · rfl
  · simp only [Array.getElem?_modify];rw [if_neg hn];rfl
theorem ZW {w:World} {R:List Ch} {b:Nat} {p:Value} {ba:Ω} {bc:Nat} {xs:Λ} (hS:Sep w (Ab b 76 [p,.slice ba xs.length bc]::BR 0 5 1 ba xs.length bc (xs.map Ag)::R)) (h0:xs≠[]) :
    CallsR prog 37 #[π b] w (fun v w'=>v=σ xs∧Sep w' R):=by
  have hb:Blk w b 76 [p,.slice ba xs.length bc]:=hS.get 0 rfl
  have ho:Own w 0 5 1 ba xs.length bc (xs.map Ag):=hS.get 1 rfl
  have hl0:xs.length≠0:=fun e=>h0 (List.eq_nil_of_length_eq_zero e)
  have hr:=ho.row
  obtain ⟨g,cap,cur,hv,hB,hg,hnc,hcm,hcs,htk⟩:∃ g cap cur,Value.slice ba xs.length bc=.slice (some ⟨g,0,none⟩) xs.length cap∧0≤g∧w.heap[g]? = some (.cells cur 5 (0,0))∧xs.length≤cap∧cap≤maxLen∧cur.size=cap*1∧cur.toList.take (xs.length*1)=xs.map Ag:=by
    rcases ho.2 with ⟨_,hz⟩ | ⟨g,cap,cur,q⟩
    · exact absurd hz hl0
    · exact ⟨g,cap,cur,q⟩
  injection hv with e1 _ e2
  subst e1 e2
  have hcell:∀ (j:Nat) (x:UInt8),xs[j]? = some x→w.cell? ⟨g,j,none⟩=some (.int .u8 x.toNat):=by
    intro j x hx
    obtain ⟨b',off,e,_,hc⟩:=hr.2.2.2.2 ω
    cases e
    have:=hc j (Ag x) (by rw [List.getElem?_map,hx];rfl)
    rw [Nat.zero_add] at this;exact this
  have c1:w.drew.cell? ⟨b,1,none⟩=some (.slice (some ⟨g,0,none⟩) xs.length bc):=hb.cell (i:=1) (by show 1<2;omega)
  have hSD:(Builtin.unsafeSliceData_ #[74] 130 #[.slice (some ⟨g,0,none⟩) xs.length bc]).run prog w.drew=.ok (π g) w.drew:=Lib.run_unsafeSliceData_row _ _ _ _ _ _ ω
  have hUS:(Builtin.unsafeString_ #[130,3] 9 #[π g,ν xs.length]).run prog w.drew=.ok (.string ⟨xs.toArray⟩) (w.drew.freeze ⟨g,0,none⟩ xs.length):=
    Lib.run_unsafeString_row w.drew 130 3 9 5 υ130 κ g cur.size (by have hg':w.drew.heap[g]? = some (.cells cur 5 (0,0)):=hg;simp [World.shape?,hg']) xs h0 ω (by unfold maxLen at hcm;omega) (fun j x hx=>by
      have z:=hcell j x hx
      unfold Addr.add
      split
      · subst j;exact z
      · rw [Nat.zero_add];exact z)
  have mixed:=Nr.mixed
  have u1:=υ76
  have u2:=υ73
  have u3:=υ74
  have fin:CallsR prog 37 #[π b] w (fun v w'=>v=σ xs∧w'=w.drew.freeze ⟨g,0,none⟩ xs.length):=by
    clear hS hr ho hcell
    go_enter func37,ntmps37
    go_wp2
    go_region_o
    all_goals (go_wp2;go_ret;exact ⟨_,rfl,rfl,rfl⟩)
  refine Calls.mono fin fun e w' z=>?_
  obtain ⟨v,e1,e2,rfl⟩:=z
  refine ⟨v,e1,e2,?_⟩
  have t:=Pn w g xs.length
  have u:=hS.upd 1 rfl t (fun k _ (e:k=g)=>by subst e;rfl) (c':=BR 0 5 1 none 0 0 []) (Own.nil _ _ _ _) (fun k e=>by cases e)
  exact Sep.swap (A:=[_,_]) (B:=[]) (R:=R) u ⟨fun i d hi=>by simp at hi,fun i j d e _ hi=>by simp at hi⟩ (fun i c hi=>by simp at hi)
end
end Go.Proofs.YtbfgjinpchbajaaGreatDoor
