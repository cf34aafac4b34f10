/- Parts of the proof. -/
import Derived.Shelf.Slices.In.SortNone
import Derived.Test.YthiplgahhejmcaaGreatDoorQak
namespace Go.Proofs.YthiplgahhejmcaaGreatDoor
open Go.RowKit
open _root_.Go.Proofs.Tryz
set_option linter.unusedSimpArgs false
set_option linter.unusedVariables false
set_option linter.unusedSectionVars false
set_option maxRecDepth 100000
set_option maxHeartbeats 8000000
section
def s0S:Cg:=fun kd nm=>if (kd=3∨kd=4∨kd=7)∧DI kd nm=true then Cw else []
theorem RU:(Et 23168).V=List.replicate 23168 0:=rfl
theorem FW:(Et 23168).V.length=23168:=by rw [RU,List.length_replicate]
theorem WE:GL (Et 23168).V 2688 4096=0:=by
  refine NY (n:=0) ?_ (Nat.zero_le _) ω
  rw [RU,List.drop_replicate,List.take_replicate];rfl
theorem Afg:Vol (Et 23168) [] s0S 0:=by
  refine ⟨FW,?_,fun p hp=>(by cases hp),rfl,fun p hp=>(by cases hp),?_⟩
  · unfold Cp Ew
    rw [WE,List.take_zero,JW]
  · funext a b
    unfold MH s0S
    by_cases ha:a=3∨a=4∨a=7
    · rw [if_pos ha]
      cases hf:BF a b with
      | none=>rw [CS hf,if_neg (fun e=>by unfold DI at e;rw [hf] at e;cases e.2)]
      | some q=>
        have hi:=EC hf
        have h64:=Oc hf ω ω
        rw [Cz hf,if_pos ⟨ha,by unfold DI;rw [hf];rfl⟩]
        show ((Et 23168).V.drop _).take _=_
        rw [RU,List.drop_replicate,List.take_replicate,h64]
        unfold Cw;congr 1;show min (64:Int).toNat _=64
        have:(64:Int).toNat=64:=rfl
        omega
    · rw [if_neg ha,if_neg (fun e=>ha e.1)]
theorem NO {s:Cg} {kd nm:Int} {xs:Λ} (h:xs++(s kd nm).drop xs.length=s kd nm):Bc s kd nm xs=s:=by
  funext a b
  unfold Bc
  split
  · next e=>rw [e.1,e.2];exact h
  · rfl
def Gd:Λ:=2::1::(List.replicate 58 0++[166,151,136,35])
def sAS:Cg:=Bc s0S 4 1 Gd
theorem En:DU Ez=0∧Dg Ez=Gd:=⟨by decide +kernel,by decide +kernel⟩
theorem Rx:∀ j:Fin 32,DI 4 (((j.val+1:Nat)):Int)=true:=by decide +kernel
theorem Aed:∀ j:Fin 8,DI 2 (((j.val+1:Nat)):Int)=true∧DI 6 (((j.val+1:Nat)):Int)=true:=by decide +kernel
theorem Agi:∀ j:Fin 31,sAS 4 ((((j.val+1)+1:Nat)):Int)=Cw:=by decide +kernel
theorem Agm:(Bw.all fun x=>!decide (x.k=2∨x.k=6∨x.k=1)||decide (64≤x.s))=true:=by decide +kernel
theorem Hs {kd nm:Int} {q:PartT} (h:BF kd nm=some q) (hk:kd=2∨kd=6∨kd=1):64≤q.s:=by
  have k:=Lo h
  have z:=List.all_eq_true.1 Agm q k.1
  rw [decide_eq_true (by rw [k.2.1];exact hk)] at z
  exact of_decide_eq_true (by simpa using z)
section
variable {M:MemM}
theorem To (V:Vol M [] s0S 0):∀ k,k≤31→MS M [] (k+1)=0∧Vol M (Dh M [] (k+1)) sAS (k+1)
  | 0,_=>by
    obtain ⟨q,hq⟩:=Bh (Rx 0)
    rw [(Pm rfl).1,(Pm rfl).2]
    exact DP V hq En.1 En.2 (by decide) ω
  | k+1,hk=>by
    have ih:=To V k ω
    obtain ⟨q,hq⟩:=Bh (Rx ⟨k+1,ω⟩)
    have z:=DP ih.2 hq TB Aas (by decide) ω
    rw [(Pn ω).1,(Pn ω).2,ih.1]
    refine ⟨by rw [z.1];rfl,?_⟩
    have e:Bc sAS 4 ((k+1+1:Nat):Int) Cw=sAS:=NO (by rw [Agi ⟨k,ω⟩];decide)
    rw [← e];exact z.2
theorem Id:AU.length=64:=by decide +kernel
theorem Hu:Du.length=64:=by decide +kernel
theorem Ok (V:Vol M [] s0S 0):∀ k,k≤8→MU M [] k=0∧Vol M (Dd M [] k) sAS (34+2*k)
  | 0,_=>by
    have z:=To V 31 (Nat.le_refl _)
    have z2:=Hi z.2 (xs:=Aj) rfl ω
    have e:Bc sAS 3 0 Aj=sAS:=NO (by decide +kernel)
    rw [e] at z2
    obtain ⟨q,hq⟩:=Bh (show DI 1 0=true by decide +kernel)
    have z3:=z2.2.put2 (xs:=Du) hq (by decide) (by rw [Hu];have:=Hs hq (by decide);omega) (by rw [Hu];omega) ω
    refine ⟨?_,z3.2⟩
    unfold MU;rw [z.1,z2.1]
    show AC [AC [0,0],0,0,stE M (stP M (Dh M [] 32) 3 0 Aj) 1 0 Du.length]=0
    rw [z3.1];rfl
  | k+1,hk=>by
    have ih:=Ok V k ω
    obtain ⟨h2,h6⟩:=Aed ⟨k,ω⟩
    obtain ⟨q,hq⟩:=Bh h2
    obtain ⟨q6,hq6⟩:=Bh h6
    have z:=ih.2.put2 (xs:=AU) hq (by decide) (by rw [Id];have:=Hs hq (by decide);omega) (by rw [Id];omega) ω
    have z2:=z.2.put2 (xs:=List.replicate 8 0) hq6 (by decide) (by have:=Hs hq6 (by decide);simp;omega) (by simp) ω
    refine ⟨?_,z2.2⟩
    unfold MU;rw [ih.1,z.1,z2.1];rfl
end
end
section
abbrev mtC (mx:Nat) (K:VolK):Ch:=Ab mx 99 [π K.tg]
abbrev opX:InoT:=⟨1,1,0,0,0,0,0,1,0,0,0,0,0,0,0⟩
section
variable {M:MemM} {P:List PtM} {s:Cg} {c:Nat}
theorem KR (V:Vol M P s c) {X:Λ} {L:List ByteArray} {a b:Int} (hp:BK X=some L) (hw:FM s L=(a,b)):AL M P X=(a,b):=by
  unfold AL;rw [hp];exact (TP V _).trans hw
theorem Aai (V:Vol M P s c) {X:Λ} {L:List ByteArray} (hp:BK X=some L) (hw:FM s L=(0,10)):Ey M P X=(0,AD,10):=by
  unfold Ey;rw [KR V hp hw];rfl
theorem Tw (V:Vol M P s c) {X:Λ} {L:List ByteArray} {i:Int} {x:InoT} (hp:BK X=some L) (hw:FM s L=(i,0)) (he:CO s i=0) (hx:CK s i=x):Ey M P X=(i,x,0):=by
  unfold Ey;rw [KR V hp hw]
  dsimp only
  rw [if_neg (by show ¬ (0:Int)≠0;decide),if_neg (by rw [DK V,he];decide),DZ V,hx]
theorem LU (V:Vol M P s c) {X:Λ} {A:List ByteArray} {nm:ByteArray} {p:Int} (hp:BK X=some (A++[nm])) (ha:FM s A=(p,0)) (h1:CO s p=0) (h2:(CK s p).k=2):Eb M P X=(p,nm,0):=by
  have e:AV M P A=(p,0):=(TP V _).trans ha
  rw [Fy hp,e,if_neg (by show ¬ (0:Int)≠0;decide),if_neg (by show ¬ AR M P p≠0;rw [DK V,h1];decide),if_neg (by show ¬ (Al M P p).k≠2;rw [DZ V,h2];decide)]
theorem Ts {X:Λ} {A:List ByteArray} {nm:ByteArray} (hp:BK X=some (A++[nm])):(Fw X).isSome=true:=by
  unfold Fw;rw [hp];show ((A++[nm]).getLast?).isSome=true;rw [List.getLast?_concat];rfl
structure NewS (s:Cg) (X:Λ) (A:List ByteArray) (nm:ByteArray) (p:Int) (xx:InoT) (ob:Λ) (k j:Nat) (x:InoT) (t:List EntT) (bs rb:Λ) (y:InoT) (b:Int):Prop where
  hX:X.length≤1000
  hp:BK X=some (A++[nm])
  hw:FM s (A++[nm])=(0,10)
  ha:FM s A=(p,0)
  hi:CO s p=0∧(CK s p).k=2
  h32:k<32
  kn:∀ j:Nat,j<k→¬ (CO s ((j:Int)+1)=0∧(CK s ((j:Int)+1)).k=0)
  ko:CO s ((k:Int)+1)=0∧(CK s ((k:Int)+1)).k=0
  hk:DI 4 ((k:Int)+1)=true
  hs:nm.size≤1000
  te:Gz (Bc s 4 ((k:Int)+1) ob) p=0
  ie:CO (Bc s 4 ((k:Int)+1) ob) p=0
  ex:CK (Bc s 4 ((k:Int)+1) ob) p=x
  et:Do (Bc s 4 ((k:Int)+1) ob) p=t
  xs:0≤x.s∧x.s≤1000
  hj:j<16
  pl:FJ t nm=(j:Int)
  hu:Gi (Ev t (j:Int) ⟨nm,(k:Int)+1⟩) ((j / 4:Nat):Int)=true
  hbf:Ir (Ev t (j:Int) ⟨nm,(k:Int)+1⟩) ((j / 4:Nat):Int)=some bs
  bl:bs.length≤64
  hx:DU xx=0∧Dg xx=ob∧ob.length≤64
  hy:DU y=0∧Dg y=rb∧rb.length≤64
  hb:y.blk (j / 4)=b∧DI 7 b=true
  hpp:DI 4 p=true
variable {X:Λ} {A:List ByteArray} {nm:ByteArray} {p:Int} {xx:InoT} {ob:Λ} {k j:Nat} {x y:InoT} {t:List EntT} {bs rb ms:Λ} {b:Int}
theorem PQ (V:Vol M P s c) (hc:c≤50) (H:NewS s X A nm p xx ob k j x t bs rb y b) (hk:x.blk (j / 4)=0) (hy:RD (x.setB (j / 4) b)=y) (hm:JQ (Bc s 4 ((k:Int)+1) ob)=ms) (hf:As ms 1=b) (hr:¬ 128-((DD ms 128).length:Int)≤max 0 0) :
    ∃ P',Vol M P' (Bc (Bc (Bc (Bc (Bc s 4 ((k:Int)+1) ob) 3 0 (AZ ms b)) 7 b (List.replicate 64 0)) 7 b bs) 4 p rb) (c+5)∧AC [BC M P ((k:Int)+1) xx,0]=0∧∀ {w:World} {R:List Ch} {mx:Nat} {K:VolK} {ta:Ω} {tc:Nat} (_:Sep w ([mtC mx K,txP K ta tc M (BQ M P ((k:Int)+1) xx)]++R)),
      CallsR prog 102 #[π mx,ν p,.string nm,ν ((k:Int)+1),ν 0] w fun v w'=>∃ ta' tc',v=ν 0∧Sep w' ([mtC mx K,txP K ta' tc' M P']++R):=by
  obtain ⟨q,hq⟩:=Bh H.hk
  obtain ⟨q7,hq7⟩:=Bh H.hb.2
  obtain ⟨q1,hq1⟩:=Bh H.hpp
  have z:=DP V hq H.hx.1 H.hx.2.1 H.hx.2.2 ω
  have d:=Abq z.2 H.te H.ie H.ex H.et
  have zb:=Ud z.2 (sp:=0) hm hf hr hq7 ω
  have hb7:BF 7 (y.blk (j / 4))=some q7:=by rw [H.hb.1];exact hq7
  have z2:=Zw zb.2.2 (p:=p) hb7 H.bl hq1 H.hy.1 H.hy.2.1 H.hy.2.2 ω
  rw [H.hb.1] at z2
  have eA:VZ M (BQ M P ((k:Int)+1) xx) p 0 j bs=WG M (bP M (BQ M P ((k:Int)+1) xx) 0) p y j bs:=by unfold VZ;rw [d.2.1,zb.1,hy]
  have eB:VY M (BQ M P ((k:Int)+1) xx) p 0 j bs=0:=by unfold VY;rw [d.2.1,zb.1,hy];exact z2.1
  refine ⟨_,z2.2,by rw [z.1];rfl,fun hS=>?_⟩
  rw [← eA]
  have Z:=Ab4 (spare:=0) hS V.m H.hs (by decide) H.hj d.1 (by rw [d.2.1];exact H.xs) (by rw [d.2.2];exact H.pl) (by rw [d.2.1];exact hk) zb.2.1 (by rw [d.2.2];exact H.hu) (by rw [d.2.2];exact H.hbf) H.bl
  rw [eB] at Z;exact Z
theorem Aab (V:Vol M P s c) (hc:c≤50) (H:NewS s X A nm p Ez ob k j x t bs rb y b) (hk:x.blk (j / 4)=0) (hy:RD (x.setB (j / 4) b)=y) (hm:JQ (Bc s 4 ((k:Int)+1) ob)=ms) (hf:As ms 1=b) (hr:¬ 128-((DD ms 128).length:Int)≤max 0 0) :
    ∃ P',Vol M P' (Bc (Bc (Bc (Bc (Bc s 4 ((k:Int)+1) ob) 3 0 (AZ ms b)) 7 b (List.replicate 64 0)) 7 b bs) 4 p rb) (c+5)∧∀ {w:World} {R:List Ch} {mx:Nat} {K:VolK} {ta:Ω} {tc:Nat} (_:Sep w ([mtC mx K,txP K ta tc M P]++R)),
      CallsR prog 33 #[π mx,σ X,ν 0] w fun v w'=>∃ ta' tc',v=ν 0∧Sep w' ([mtC mx K,txP K ta' tc' M P']++R):=by
  obtain ⟨P',V',e,ad⟩:=PQ V hc H hk hy hm hf hr
  exact ⟨P',V',fun hS=>Aac hS V.m H.hX (Ts H.hp) (KR V H.hp H.hw) (LU V H.hp H.ha H.hi.1 H.hi.2) (XO V H.h32 H.kn H.ko) (fun h=>ad h) e⟩
theorem Ac8 (V:Vol M P s c) (hc:c≤50) (H:NewS s X A nm p opX ob k j x t bs rb y b) (hk:x.blk (j / 4)=0) (hy:RD (x.setB (j / 4) b)=y) (hm:JQ (Bc s 4 ((k:Int)+1) ob)=ms) (hf:As ms 1=b) (hr:¬ 128-((DD ms 128).length:Int)≤max 0 0) :
    ∃ P',Vol M P' (Bc (Bc (Bc (Bc (Bc s 4 ((k:Int)+1) ob) 3 0 (AZ ms b)) 7 b (List.replicate 64 0)) 7 b bs) 4 p rb) (c+5)∧∀ {w:World} {R:List Ch} {mx:Nat} {K:VolK} {ta:Ω} {tc:Nat} (_:Sep w ([mtC mx K,txP K ta tc M P]++R)),
      CallsR prog 34 #[π mx,ν 1,σ X,ν 1,.bool false,ν 0] w fun v w'=>∃ ta' tc',v=.tuple #[ν ((k:Int)+1),ν 0]∧Sep w' ([mtC mx K,txP K ta' tc' M P']++R):=by
  obtain ⟨P',V',e,ad⟩:=PQ V hc H hk hy hm hf hr
  exact ⟨P',V',fun hS=>Aal hS V.m H.hX (Aai V H.hp H.hw) (LU V H.hp H.ha H.hi.1 H.hi.2) (XO V H.h32 H.kn H.ko) (fun h=>ad h) e⟩
structure GoS (s s1:Cg) (X:Λ) (A:List ByteArray) (nm:ByteArray) (i p:Int) (x dx:InoT) (t:List EntT) (j:Nat) (rb xb:Λ) (y:InoT):Prop where
  hX:X.length≤1000
  hp:BK X=some (A++[nm])
  hw:FM s (A++[nm])=(i,0)
  ha:FM s A=(p,0)
  hi:CO s p=0∧(CK s p).k=2
  ei:CO s i=0
  xi:CK s i=x
  xk:x.k=1
  te:Gz s p=0
  dxe:CK s p=dx
  dt:Do s p=t
  tl:t.length=16
  hs:nm.size≤1000
  hj:j<16
  ds:0≤dx.s∧dx.s≤1000
  hf:AQ t nm=(j:Int)
  bk:0≤(GR dx).blk (j / 4)∧(GR dx).blk (j / 4)≤1000
  hu:Gi (Ev t (j:Int) ⟨⟨#[]⟩,0⟩) (((j / 4:Nat):Nat):Int)=false
  hy:(GR dx).setB (j / 4) 0=y
  py:DU y=0∧Dg y=rb∧rb.length≤64
  es1:Bc (Bc s 3 0 (CN (JQ s) ((GR dx).blk (j / 4)))) 4 p rb=s1
  e1:CO s1 i=0
  x1:CK s1 i=x
  xl:0≤x.l∧x.l≤1000
  hg:GG (Kw x)=false
  px:DU (Kw x)=0∧Dg (Kw x)=xb∧xb.length≤64
  h4:DI 4 p=true∧DI 4 i=true
theorem YS {s1:Cg} {i:Int} {dx:InoT} {xb:Λ} (V:Vol M P s c) (hc:c≤50) (H:GoS s s1 X A nm i p x dx t j rb xb y) :
    ∃ P',Vol M P' (Bc s1 4 i xb) (c+3)∧∀ {w:World} {R:List Ch} {mx:Nat} {K:VolK} {ta:Ω} {tc:Nat} (_:Sep w ([mtC mx K,txP K ta tc M P]++R)),
      CallsR prog 36 #[π mx,σ X] w fun v w'=>∃ ta' tc',v=ν 0∧Sep w' ([mtC mx K,txP K ta' tc' M P']++R):=by
  obtain ⟨qp,hqp⟩:=Bh H.h4.1
  obtain ⟨qi,hqi⟩:=Bh H.h4.2
  have d:=Abq V H.te H.hi.1 H.dxe H.dt
  have z:=Hi V (xs:=CN (JQ s) ((GR dx).blk (j / 4))) (by rw [Ay];exact AJ _) ω
  have z2:=DP z.2 hqp H.py.1 H.py.2.1 H.py.2.2 ω
  rw [H.es1] at z2
  have z3:=DP z2.2 hqi H.px.1 H.px.2.1 H.px.2.2 ω
  have eE:Yl M P p (GR dx) j=0:=by unfold Yl;rw [H.hy,LG V,z.1,z2.1];rfl
  have eP:Sm M P p (GR dx) j=BQ M (stP M P 3 0 (CN (JQ s) ((GR dx).blk (j / 4)))) p y:=by unfold Sm;rw [H.hy,LG V]
  have hlos:∀ {w:World} {R:List Ch} {mx:Nat} {K:VolK} {ta:Ω} {tc:Nat},Sep w ([mtC mx K,txP K ta tc M (Sm M P p (GR dx) j)]++R)→CallsR prog 73 #[π mx,ν i] w fun v w'=>∃ ta' tc',v=ν (BC M (Sm M P p (GR dx) j) i (Kw x))∧Sep w' ([mtC mx K,txP K ta' tc' M (BQ M (Sm M P p (GR dx) j) i (Kw x))]++R):=
    fun h=>Acx h V.m (by rw [eP];exact ⟨(DZ z2.2 i).trans H.x1,(DK z2.2 i).trans H.e1⟩) H.xl H.hg
  refine ⟨_,z3.2,fun hS=>?_⟩
  have Z:=YT hS V.m H.hX (Ts H.hp) (Tw V H.hp H.hw H.ei H.xi) H.xk (KR V H.hp H.hw) (LU V H.hp H.ha H.hi.1 H.hi.2)
    (fun h=>Ym h V.m H.hs ⟨d.2.1,d.2.2,d.1⟩ H.tl H.hj H.ds H.hf H.bk H.hu) (fun h=>hlos h)
  rw [eE,eP,z3.1] at Z
  exact Z
theorem Zp {i:Int} (V:Vol M P s c) (hc:c≤50) (h4:DI 4 i=true) (he:CO s i=0) (hx:CK s i=x) (ho:x.o0=1) (hg:GG (x.setO 0 (x.o0-1))=true) (hb:RZ x) :
    ∃ P',Vol M P' (Bc (Bc s 4 i Cw) 3 0 (woX (JQ (Bc s 4 i Cw)) x 4)) (c+2)∧∀ {w:World} {R:List Ch} {mx:Nat} {K:VolK} {ta:Ω} {tc:Nat} (_:Sep w ([mtC mx K,txP K ta tc M P]++R)),
      CallsR prog 37 #[π mx,ν 1,ν i] w fun v w'=>∃ ta' tc',v=ν 0∧Sep w' ([mtC mx K,txP K ta' tc' M P']++R):=by
  obtain ⟨qi,hqi⟩:=Bh h4
  have z:=DP V hqi TB Aas (by decide) ω
  have z2:=Hi z.2 (xs:=woX (JQ (Bc s 4 i Cw)) x 4) (by rw [Cf];exact AJ _) ω
  have eE:Lt M P i=0:=by unfold Lt;rw [z.1,z2.1];rfl
  have eP:Pq M P i x=stP M (BQ M P i AD) 3 0 (woX (JQ (Bc s 4 i Cw)) x 4):=by unfold Pq;rw [LG z.2]
  refine ⟨_,z2.2,fun hS=>?_⟩
  have Z:=Zq hS V.m ⟨(DZ V i).trans hx,(DK V i).trans he⟩ ho hg hb
  rw [eE,eP] at Z
  exact Z
end
end
section
def nmF (i:UInt8):ByteArray:=⟨#[i]⟩
def opB:Λ:=[1,1,0,0,0,0,0,0,1]++(List.replicate 51 0++[123,254,65,206])
def d1X (b0 b3:Int):InoT:=⟨2,1,1,b0,0,0,b3,0,0,0,0,0,0,0,0⟩
def r1B:Λ:=[2,1,1,0,0,0,0,1]++(List.replicate 52 0++[116,40,151,23])
def d1B:Λ:=[2,1,1,0,0,0,0,2]++(List.replicate 52 0++[183,248,254,148])
def foB:Λ:=[1,0,0,0,0,0,0,0,1]++(List.replicate 51 0++[138,251,13,167])
def Ad6:Λ:=List.replicate 32 0++(2::1::100::List.replicate 13 0)++List.replicate 16 0
def Ad5:Λ:=List.replicate 32 0++(3::1::97::List.replicate 13 0)++List.replicate 16 0
def m1S:Cg:=Bc (Bc (Bc (Bc (Bc sAS 4 2 Gd) 3 0 (AZ Aj 1)) 7 1 (List.replicate 64 0)) 7 1 Ad6) 4 1 r1B
def m2S:Cg:=Bc (Bc (Bc (Bc (Bc m1S 4 3 opB) 3 0 (AZ (AZ Aj 1) 2)) 7 2 (List.replicate 64 0)) 7 2 Ad5) 4 2 d1B
def m3S:Cg:=Bc (Bc m2S 3 0 (CN (JQ m2S) 2)) 4 2 Gd
def m4S:Cg:=Bc m3S 4 3 foB
def m5S:Cg:=Bc (Bc m4S 4 3 Cw) 3 0 (woX (JQ (Bc m4S 4 3 Cw)) (Kw opX) 4)
theorem mk1:NewS sAS [47,100] [] (nmF 100) 1 Ez Gd 1 14 Ez AB Ad6 r1B (d1X 0 1) 1 where
  hX:=by decide
  hp:=κ
  hw:=by decide +kernel
  ha:=by decide +kernel
  hi:=by decide +kernel
  h32:=by decide
  kn:=fun j hj=>(by decide +kernel:∀ j:Fin 1,¬ (CO sAS ((j.val:Int)+1)=0∧(CK sAS ((j.val:Int)+1)).k=0)) ⟨j,hj⟩
  ko:=by decide +kernel
  hk:=by decide +kernel
  hs:=by decide
  te:=by decide +kernel
  ie:=by decide +kernel
  ex:=κ
  et:=κ
  xs:=by decide
  hj:=by decide
  pl:=by decide +kernel
  hu:=by decide +kernel
  hbf:=by decide +kernel
  bl:=by decide
  hx:=⟨En.1,En.2,by decide⟩
  hy:=by decide +kernel
  hb:=by decide +kernel
  hpp:=by decide +kernel
theorem mk2:NewS m1S [47,100,47,97] [nmF 100] (nmF 97) 2 opX opB 2 14 Ez AB Ad5 d1B (d1X 0 2) 2 where
  hX:=by decide
  hp:=κ
  hw:=by decide +kernel
  ha:=by decide +kernel
  hi:=by decide +kernel
  h32:=by decide
  kn:=fun j hj=>(by decide +kernel:∀ j:Fin 2,¬ (CO m1S ((j.val:Int)+1)=0∧(CK m1S ((j.val:Int)+1)).k=0)) ⟨j,hj⟩
  ko:=by decide +kernel
  hk:=by decide +kernel
  hs:=by decide
  te:=by decide +kernel
  ie:=by decide +kernel
  ex:=κ
  et:=κ
  xs:=by decide
  hj:=by decide
  pl:=by decide +kernel
  hu:=by decide +kernel
  hbf:=by decide +kernel
  bl:=by decide
  hx:=by decide +kernel
  hy:=by decide +kernel
  hb:=by decide +kernel
  hpp:=by decide +kernel
theorem go3:GoS m2S m3S [47,100,47,97] [nmF 100] (nmF 97) 3 2 opX (d1X 0 2) (Ev AB 14 ⟨nmF 97,3⟩) 14 Gd foB Ez where
  hX:=by decide
  hp:=κ
  hw:=by decide +kernel
  ha:=by decide +kernel
  hi:=by decide +kernel
  ei:=by decide +kernel
  xi:=κ
  xk:=rfl
  te:=by decide +kernel
  dxe:=κ
  dt:=κ
  tl:=by decide +kernel
  hs:=by decide
  hj:=by decide
  ds:=by decide
  hf:=by decide +kernel
  bk:=by decide
  hu:=by decide +kernel
  hy:=rfl
  py:=⟨En.1,En.2,by decide⟩
  es1:=rfl
  e1:=by decide +kernel
  x1:=κ
  xl:=by decide
  hg:=by decide +kernel
  px:=by decide +kernel
  h4:=by decide +kernel
section
variable {M:MemM} {P:List PtM}
theorem Xx (V:Vol M P sAS 0):∃ P',Vol M P' m1S 5∧∀ {w:World} {R:List Ch} {mx:Nat} {K:VolK} {ta:Ω} {tc:Nat} (_:Sep w ([mtC mx K,txP K ta tc M P]++R)),
      CallsR prog 33 #[π mx,σ [47,100],ν 0] w fun v w'=>∃ ta' tc',v=ν 0∧Sep w' ([mtC mx K,txP K ta' tc' M P']++R):=
  Aab (ms:=Aj) V (by decide) mk1 (by decide) κ (by decide +kernel) (by decide +kernel) (by decide +kernel)
theorem ZU (V:Vol M P m1S 5):∃ P',Vol M P' m2S 10∧∀ {w:World} {R:List Ch} {mx:Nat} {K:VolK} {ta:Ω} {tc:Nat} (_:Sep w ([mtC mx K,txP K ta tc M P]++R)),
      CallsR prog 34 #[π mx,ν 1,σ [47,100,47,97],ν 1,.bool false,ν 0] w fun v w'=>∃ ta' tc',v=.tuple #[ν 3,ν 0]∧Sep w' ([mtC mx K,txP K ta' tc' M P']++R):=
  Ac8 (ms:=AZ Aj 1) V (by decide) mk2 (by decide) κ (by decide +kernel) (by decide +kernel) (by decide +kernel)
theorem ZV (V:Vol M P m2S 10):Ey M P [47,100]=(2,d1X 0 2,0):=
  Tw V (L:=[nmF 100]) κ (by decide +kernel) (by decide +kernel) κ
theorem UI (V:Vol M P m2S 10):∃ P',Vol M P' m4S 13∧∀ {w:World} {R:List Ch} {mx:Nat} {K:VolK} {ta:Ω} {tc:Nat} (_:Sep w ([mtC mx K,txP K ta tc M P]++R)),
      CallsR prog 36 #[π mx,σ [47,100,47,97]] w fun v w'=>∃ ta' tc',v=ν 0∧Sep w' ([mtC mx K,txP K ta' tc' M P']++R):=
  YS V (by decide) go3
theorem Xy (V:Vol M P m4S 13):Al M P 3=Kw opX∧AR M P 3=0:=⟨(DZ V 3).trans κ,(DK V 3).trans (by decide +kernel)⟩
theorem Xw (V:Vol M P m4S 13):∃ P',Vol M P' m5S 15∧∀ {w:World} {R:List Ch} {mx:Nat} {K:VolK} {ta:Ω} {tc:Nat} (_:Sep w ([mtC mx K,txP K ta tc M P]++R)),
      CallsR prog 37 #[π mx,ν 1,ν 3] w fun v w'=>∃ ta' tc',v=ν 0∧Sep w' ([mtC mx K,txP K ta' tc' M P']++R):=
  Zp V (by decide) (by decide +kernel) (by decide +kernel) κ rfl (by decide +kernel) (by unfold RZ;decide)
theorem ZT (V:Vol M P m5S 15):Al M P 3=AD∧AR M P 3=0:=⟨(DZ V 3).trans κ,(DK V 3).trans (by decide +kernel)⟩
end
end
section
def RI (lg g v d p:Nat) (M:MemM):Ch where
 F b:=b=lg∨b=g∨b=v∨b=d∨b=p
 P w:=LogP w lg g v d p 2688 4096 M∧g<lg∧v<lg∧d<lg∧p<lg
 keep h t:=⟨Fc h.1 t (fun q=>q (.inl rfl)) (fun q=>q (.inr (.inl rfl))) (fun q=>q (.inr (.inr (.inl rfl)))) (fun q=>q (.inr (.inr (.inr (.inl rfl))))) (fun q=>q (.inr (.inr (.inr (.inr rfl))))),h.2⟩
 lt h b hb:=by
  obtain ⟨h1,h2,h3,h4,h5⟩:=h.1.lt
  rcases hb with e | e | e | e | e<;>omega
theorem XG {w:World} {R:List Ch} (hS:Sep w R):CallsR prog 17 #[ν 23168] w (fun v w'=>∃ g v1 d p,v=π g∧Sep w' (FH g v1 d p (Et 23168)::R)):=
 Calls.mono (PO 23168 w ω) fun e w' z=>by
  unfold QQ at z
  rw [if_pos (by decide)] at z
  obtain ⟨g,v,d,p,e1,m,⟨h1,h2,h3,h4⟩,b⟩:=z
  exact ⟨_,e1,g,v,d,p,rfl,hS.push b (c:=FH g v d p (Et 23168)) m fun k hk=>by rcases hk with e | e | e | e<;>omega⟩
theorem XF {w:World} {R:List Ch} {g v1 d p:Nat} {M:MemM} (hS:Sep w (FH g v1 d p M::R)) (hM:M.V.length=23168):CallsR prog 19 #[π g,ν 2688,ν 4096] w (fun v w'=>∃ lg,v=π lg∧Sep w' (RI lg g v1 d p M::R)):=by
 have h:MemP w g v1 d p M:=hS.get 0 rfl
 refine Calls.mono (PN h 2688 4096 (by unfold Eg;omega) (by unfold Eg;omega) ω) fun e w' z=>?_
 unfold KU at z
 rw [if_pos (by unfold IC;omega)] at z
 obtain ⟨lg,e1,hb,hl,b⟩:=z
 obtain ⟨_,_,_,_,_,_,h1,h2,h3,h4⟩:=CX h
 refine ⟨_,e1,lg,rfl,hS.head (Turns.of_below (X:=fun _=>False) b) (fun k hk (q:False)=>q.elim) (c':=RI lg g v1 d p M) ⟨⟨hb,h.mono b⟩,ω⟩ fun k q=>?_⟩
 rcases q with q | q | q | q | q
 ·right;omega
 ·exact .inl (.inl q)
 ·exact .inl (.inr (.inl q))
 ·exact .inl (.inr (.inr (.inl q)))
 ·exact .inl (.inr (.inr (.inr q)))
theorem XJ {w:World} {R:List Ch} {lg g v1 d p:Nat} {M:MemM} (hS:Sep w (RI lg g v1 d p M::R)) (hM:M.V.length=23168):CallsR prog 20 #[π g,π lg] w (fun v w'=>∃ K:VolK,v=π K.tg∧Sep w' (txP K none 0 M []::R)):=by
 have h:LogP w lg g v1 d p 2688 4096 M∧g<lg∧v1<lg∧d<lg∧p<lg:=hS.get 0 rfl
 refine Calls.mono (PP w g lg) fun e w' ⟨tg,e1,hb,hl,b⟩=>⟨_,e1,⟨tg,lg,g,v1,d,p⟩,rfl,hS.head (Turns.of_below (X:=fun _=>False) b) (fun k hk (q:False)=>q.elim) (c':=txP ⟨tg,lg,g,v1,d,p⟩ none 0 M []) ?_ fun k q=>?_⟩
 ·have l:=h.1.lt
  exact ⟨h.1.mono b,hb,Own.nil _ _ _ _,TxOk.nil _,hM,by dsimp only;omega⟩
 ·rcases q with (q | q | q | q | q | q) | q
  ·right;exact q ▸ hl
  ·exact .inl (.inl q)
  ·exact .inl (.inr (.inl q))
  ·exact .inl (.inr (.inr (.inl q)))
  ·exact .inl (.inr (.inr (.inr (.inl q))))
  ·exact .inl (.inr (.inr (.inr (.inr q))))
  ·cases q
theorem Pp {w:World} {R:List Ch} {mx:Nat} {K:VolK} {ta:Ω} {tc:Nat} (hS:Sep w ([mtC mx K,txP K ta tc (Et 23168) []]++R)):CallsR prog 22 #[π mx] w (fun v w'=>∃ ta' tc',v=ν 0∧Sep w' ([mtC mx K,txP K ta' tc' (Et 23168) (Dd (Et 23168) [] 8)]++R)):=
 Calls.mono (Po hS FW) fun e w' z=>by rw [(Ok Afg 8 (Nat.le_refl _)).1] at z;exact z
theorem Kd {w:World} {R:List Ch} {K:VolK} {ta:Ω} {tc:Nat} {M M':MemM} {P:List PtM} (hS:Sep w (txP K ta tc M P::R)) (h1:cmE M P=0) (h2:cmP M P=[]) (h3:M'=cmM M P):CallsR prog 23 #[pG K.tg] w (fun x w'=>∃ ta' tc',x=ν 0∧Sep w' (txP K ta' tc' M' []::R)):=
 Calls.mono (Wr hS) fun e w' z=>by rw [h1,h2,← h3] at z;exact z
structure NodW where
 dir:Bool
 data:Λ
 links:Int
def Ac2 (x:NodW):List Value:=[.bool x.dir,σ x.data,ν x.links]
theorem XK (x:NodW):(Ac2 x).length=3:=rfl
def Ahb:NodW:=⟨false,[],0⟩
theorem ENw:ElemT prog 118 124 3 32:=Nh υ118 (z:=.agg #[.bool false,.string ⟨#[]⟩,ν 0]) κ rfl ω
def prC (a b c d:Value):List Value:=[a,b,c,d]++List.replicate 64 (ν 0)
theorem Is (x0:Int) (x1:Int) (x2:Int) (y0:Int) (y1:Int) (y2:Int) (w:World):(Op.equalIn 10000 76 (.agg #[ν x0,ν x1,ν x2]) (.agg #[ν y0,ν y1,ν y2])).run prog w=.ok (decide (x0=y0)&&(decide (x1=y1)&&decide (x2=y2))) w:=by
 have u3:=υ3
 have a3:=Tryz.isAgg3
 have z3:=Tryz.sizeOf3
 have hS:prog.underlying 76=some (.struct (prog.fieldsOf 76)):=κ
 have hp:prog.stoodInHeld 76=false:=κ
 rw [show (10000:Nat)=9999+1 from rfl,run_equalIn_agg w 9999 76 _ _ hS hp]
 simp only [Program.fieldsOf,υ76]
 go_simp
 by_cases h0:x0=y0
 case neg=>simp [h0]
 by_cases h1:x1=y1
 case neg=>simp [h0,h1]
 by_cases h2:x2=y2
 case neg=>simp [h0,h1,h2]
 simp [h0,h1,h2]
theorem Ih (o p:Operand) (x0:Int) (x1:Int) (x2:Int) (y0:Int) (y1:Int) (y2:Int) (w:World):(do eqGuard .eql 76 o p (.agg #[ν x0,ν x1,ν x2]) (.agg #[ν y0,ν y1,ν y2]);binOp .eql 76 (.agg #[ν x0,ν x1,ν x2]) (.agg #[ν y0,ν y1,ν y2]):Sem Value).run prog w=.ok (.bool ((decide (x0=y0)&&(decide (x1=y1)&&decide (x2=y2))))) w:=by
 have e:(Op.equal 76 (.agg #[ν x0,ν x1,ν x2]) (.agg #[ν y0,ν y1,ν y2])).run prog w=.ok (decide (x0=y0)&&(decide (x1=y1)&&decide (x2=y2))) w:=Is x0 x1 x2 y0 y1 y2 w
 rw [Sem.run_bind,run_eqGuard_agg (P:=prog) w .eql 76 o p _ _ κ]
 show (binOp .eql 76 _ _).run prog w=_
 simp only [binOp,Sem.run_bind,e]
 rfl
theorem Aae {w:World} {R:List Ch} (hS0:Sep w ([]++R)) :
  CallsR prog 26 #[] w (fun v w'=>∃ rp,v=π rp∧Sep w' ([]++R)):=by
 have hS:Sep w [Ch.many R]:=Sep.tail_many (xs:=[]) hS0;clear hS0
 refine AG func26 rfl (N:=15) ntmps26 (by show 0≤15;decide) [] rfl fun _ h1=>sqr fun _ hK3=>mv h1 rfl fun _ h4=>wpList_nil<|hK3 _ _<|sqr fun _ hK6=>bu h4 (v:=.agg #[.slice none 0 0,.slice none 0 0,.slice none 0 0]) rfl (fun w=>κ) fun _ h7=>so (wn rfl) fun _ hK1=>Gk h7 rfl rfl rfl rfl rfl (z:=[.slice none 0 0,.slice none 0 0,.slice none 0 0]) rfl hS fun _ g9 w1 h2 s1 _ _=>hK1 _ _ ?_
 refine mv h2 rfl fun _ h3=>h3.sn [1,0] rfl fun h5=>hK6 _ _<|sq fun _ hK2=>?_
 have s2:=s1.ownNil 0 124 3
 have s3:Sep w1 [Bm 0 124 3 none ([]:List NodW).length 0 (([]:List NodW).flatMap Ac2),Ab g9 122 [.slice none 0 0,.slice none 0 0,.slice none 0 0],Ch.many R]:=s2
 refine wp_region_lit<|mvs 3 h5 rfl fun _ h6=>fav h6 rfl (fQ 0) fun _ h8=>ldv h8 s3 1 υ118 rfl rfl rfl rfl fun _ h9=>bu h9 (v:=.agg #[.bool true,σ [],ν 1]) rfl (fun w=>κ) fun _ h10=>so (wn rfl) fun _ hK4=>CB h10 rfl rfl rfl (E:=124) (xs:=[(0,.tmp 9)]) rfl (vs:=[(0,.agg #[.bool true,σ [],ν 1])]) rfl (z:=[.bool true,σ [],ν 1]) (fun _=>κ) s3 fun _ g1 w2 h11 s4 _ _=>hK4 _ _ ?_
 refine so (wn rfl) fun _ hK5=>Afi XK h11 rfl rfl rfl rfl ENw s4 1 rfl rfl 0 (y:=(⟨true,[],1⟩:NodW)) rfl rfl rfl (by decide) (by decide) (L':=[(⟨true,[],1⟩:NodW)]) rfl fun _ p43 c44 w3 h12 s5=>hK5 _ _ ?_
 have s6:Sep w3 [Bm 0 124 3 p43 [(⟨true,[],1⟩:NodW)].length c44 ([(⟨true,[],1⟩:NodW)].flatMap Ac2),Ab g9 122 [.slice none 0 0,.slice none 0 0,.slice none 0 0],Ch.many R]:=s5.pk [1,2,3] rfl;clear s5
 refine mv h12 rfl fun _ h13=>fav h13 rfl (fQ 0) fun _ h14=>st1 h14 s6 1 rfl rfl κ rfl rfl rfl rfl fun _ w4 h15 s7 _=>h15.sn [1,0] rfl fun h16=>hK2 _ _<|sqr fun _ hK7=>mv h16 rfl fun _ h17=>h17.sk [14,1] rfl fun h18=>mv h18 rfl fun _ h19=>h19.sk [0,1] rfl fun h20=>?_
 refine wpList_nil<|hK7 _ _<|wp_ret ?_
 try simp only [Exit.then,Exit.inBlock]
 refine By (v:=π g9) (Cx h20 rfl rfl) h20.defs ?_
 exact ⟨g9,rfl,Sep.tail_un (xs:=[]) (s7.pk [2] rfl)⟩
theorem TZ {w:World} {R:List Ch} (hS0:Sep w ([]++R)) :
  CallsR prog 6 #[] w (fun v w'=>∃ K ta tc M mx vx pg rp,v=π vx∧Sep w' ([Ab vx 39 (prC (π pg) (π K.tg) (π mx) (π rp)),Ab mx 99 [π K.tg],txP K ta tc M []]++R)∧Vol M [] sAS 0):=by
 have hS:Sep w [Ch.many R]:=Sep.tail_many (xs:=[]) hS0;clear hS0
 refine AG func6 rfl (N:=39) ntmps6 (by show 0≤39;decide) [] rfl fun _ h1=>sqr fun _ hK3=>mv h1 rfl fun _ h4=>wpList_nil<|hK3 _ _<|sqr fun _ hK6=>cl h4 rfl (cF func17) (XG hS) fun _ v1 w1 r1 h2=>?_
 obtain ⟨pgx7,pv_x8,pdx9,ppx10,rfl,s1⟩:=r1
 refine mv h2 rfl fun _ h3=>h3.sn [1,0] rfl fun h5=>hK6 _ _<|sq fun _ hK1=>sqr fun _ hK2=>mv h5 rfl fun _ h6=>bv h6 (z:=.bool false) rfl (MP _ υ33 _ _ _) fun _ h7=>h7.sn [7,1,0] rfl fun h8=>hK2 _ _<|wcF h8 rfl rfl<|h8.sk [1,0] rfl fun h9=>?_
 refine wp_skip<|hK1 _ _<|sqr fun _ hK4=>mv h9 rfl fun _ h10=>cl h10 rfl (cF func19) (XF s1 FW) fun _ v2 w2 r2 h11=>?_
 obtain ⟨lg_x32,rfl,s2⟩:=r2
 refine mv h11 rfl fun _ h12=>h12.sn [2,1,0] rfl fun h13=>hK4 _ _<|sq fun _ hK5=>sqr fun _ hK7=>mv h13 rfl fun _ h14=>bv h14 (z:=.bool false) rfl (MP _ υ55 _ _ _) fun _ h15=>h15.sn [11,2,1,0] rfl fun h16=>hK7 _ _<|wcF h16 rfl rfl<|h16.sk [2,1,0] rfl fun h17=>?_
 refine wp_skip<|hK5 _ _<|sqr fun _ hK8=>mvs 2 h17 rfl fun _ h18=>cl h18 rfl (cF func20) (XJ s2 FW) fun _ v3 w3 r3 h19=>?_
 obtain ⟨kk_x56,rfl,s3⟩:=r3
 refine mv h19 rfl fun _ h20=>h20.sn [3,2,1,0] rfl fun h21=>hK8 _ _<|sqr fun _ hK9=>mv h21 rfl fun _ h22=>cl h22 rfl (cF func21) (Nu (K:=kk_x56) s3 FW) fun _ v4 w4 r4 h23=>?_
 obtain ⟨mx_x70,rfl,s4⟩:=r4
 refine mv h23 rfl fun _ h24=>h24.sn [4,3,2,1,0] rfl fun h25=>hK9 _ _<|sq fun _ hK10=>sqr fun _ hK11=>mv h25 rfl fun _ h26=>bv h26 (z:=.bool false) rfl (MP _ υ34 _ _ _) fun _ h27=>mv h27 rfl fun _ h28=>sv h28 (wF h28 (E:=false) rfl rfl rfl) rfl rfl rfl (v:=π mx_x70) (Au h28 rfl rfl) fun _ h29=>sv h29 (wF h29 (E:=false) rfl rfl rfl) rfl rfl rfl (v:=.bool false) (BR h29 rfl rfl rfl (MP _ υ35 _ _ _)) fun _ h30=>sv1 h30 rfl (v:=.bool false) (BD h30 rfl rfl rfl) fun _ h31=>?_
 refine mv h31 rfl fun _ h32=>sv h32 (wF h32 (E:=false) rfl rfl rfl) rfl rfl rfl (v:=π mx_x70) (Au h32 rfl rfl) fun _ h33=>so (wF h33 (E:=false) rfl rfl rfl) fun _ hK12=>Be h33 rfl rfl rfl (xs:=[.tmp 24]) rfl (cF func22) rfl (vs:=[π mx_x70]) rfl (args:=#[π mx_x70]) rfl (Pp s4) fun _ v5 w5 r5 h34=>hK12 _ _ ?_
 obtain ⟨tax99,tcx100,rfl,s5⟩:=r5
 refine sv h34 (wF h34 (E:=false) rfl rfl rfl) rfl rfl rfl (v:=.bool false) (BR h34 rfl rfl rfl (cNe _ _ _ _ rfl)) fun _ h35=>sv1 h35 rfl (v:=.bool false) (BD h35 rfl rfl rfl) fun _ h36=>mv h36 rfl fun _ h37=>sv h37 (wF h37 (E:=false) rfl rfl rfl) rfl rfl rfl (v:=π kk_x56.tg) (Au h37 rfl rfl) fun _ h38=>?_
 have hv116:=Vol.com (Ok Afg 8 (Nat.le_refl _)).2 (by decide)
 obtain ⟨M117,he118⟩:∃ M',M'=cmM (Et 23168) (Dd (Et 23168) [] 8):=⟨_,rfl⟩
 rw [← he118] at hv116
 refine so (wF h38 (E:=false) rfl rfl rfl) fun _ hK13=>Be h38 rfl rfl rfl (xs:=[.tmp 29]) rfl (cF func23) rfl (vs:=[π kk_x56.tg]) rfl (args:=#[π kk_x56.tg]) rfl (Kd (s5.pk [1,0,2] rfl) hv116.1 hv116.2.1 he118) fun _ v6 w6 r6 h39=>hK13 _ _ ?_
 obtain ⟨tax119,tcx120,rfl,s6⟩:=r6
 refine sv h39 (wF h39 (E:=false) rfl rfl rfl) rfl rfl rfl (v:=.bool false) (BR h39 rfl rfl rfl (cNe _ _ _ _ rfl)) fun _ h40=>sv1 h40 rfl (v:=.bool false) (BD h40 rfl rfl rfl) fun _ h41=>h41.sn [32,4,3,2,1,0] rfl fun h42=>hK11 _ _<|wcF h42 rfl rfl<|h42.sk [4,3,2,1,0] rfl fun h43=>wp_skip<|hK10 _ _<|sqr fun _ hK14=>mvs 3 h43 rfl fun _ h44=>cl h44 rfl (cF func26) (Aae s6) fun _ v7 w7 r7 h45=>?_
 obtain ⟨rp_x141,rfl,s7⟩:=r7
 refine bu h45 (v:=.agg (prC (π pgx7) (π kk_x56.tg) (π mx_x70) (π rp_x141)).toArray) rfl (fun w=>κ) fun _ h46=>so (wn rfl) fun _ hK15=>Gk h46 rfl rfl rfl rfl rfl (z:=(prC (π pgx7) (π kk_x56.tg) (π mx_x70) (π rp_x141))) rfl s7 fun _ g1 w8 h47 s8 _ _=>hK15 _ _ ?_
 refine h47.sk [38,37,36,35,34,33,4,3,2,1] rfl fun h48=>mv h48 rfl fun _ h49=>h49.sn [0,4,3,2,1] rfl fun h50=>hK14 _ _<|wp_ret ?_
 try simp only [Exit.then,Exit.inBlock]
 refine By (v:=π g1) (Cx h50 rfl rfl) h50.defs ?_
 exact ⟨kk_x56,tax119,tcx120,M117,mx_x70,g1,pgx7,rp_x141,rfl,Sep.tail_un (xs:=[_,_,_]) (s8.pk [0,2,1,3] rfl),hv116.2.2⟩
theorem UF {w:World} {R:List Ch} (hS0:Sep w ([]++R)) :
  CallsR prog 12 #[] w (fun v w'=>v=.bool true∧Sep w' ([]++R)):=by
 have hS:Sep w [Ch.many R]:=Sep.tail_many (xs:=[]) hS0;clear hS0
 refine AG func12 rfl (N:=100) ntmps12 (by show 0≤100;decide) [] rfl fun _ h1=>sqr fun _ hK3=>mv h1 rfl fun _ h4=>wpList_nil<|hK3 _ _<|sqr fun _ hK6=>cl h4 rfl (cF func6) (TZ hS) fun _ v1 w1 r1 h2=>?_
 obtain ⟨kk_x8,ta_x9,tc_x10,M_x11,mx_x12,vx_x13,pg_x14,rp_x15,rfl,s1,hvl20⟩:=r1
 refine mv h2 rfl fun _ h3=>h3.sn [1,0] rfl fun h5=>hK6 _ _<|sq fun _ hK1=>sqr fun _ hK2=>mv h5 rfl fun _ h6=>bv h6 (z:=.bool false) rfl (MP _ υ28 _ _ _) fun _ h7=>h7.sn [15,1,0] rfl fun h8=>hK2 _ _<|wcF h8 rfl rfl<|h8.sk [1,0] rfl fun h9=>?_
 refine wp_skip<|hK1 _ _<|sqr fun _ hK4=>mvs 2 h9 rfl fun _ h10=>fav h10 rfl (fQ 2) fun _ h11=>ldv h11 s1 0 υ35 rfl rfl rfl rfl fun _ h12=>?_
 obtain ⟨P43,hv44,ho45⟩:=Xx hvl20
 refine cl h12 rfl (cF func33) (ho45 (s1.pk [1,2,0,3] rfl)) fun _ v2 w2 r2 h13=>?_
 obtain ⟨tax46,tcx47,rfl,s2⟩:=r2
 refine mv h13 rfl fun _ h14=>h14.sn [2,1,0] rfl fun h15=>hK4 _ _<|sqr fun _ hK5=>mvs 2 h15 rfl fun _ h16=>fav h16 rfl (fQ 2) fun _ h17=>ldv h17 s2 2 υ35 rfl rfl rfl rfl fun _ h18=>?_
 obtain ⟨P67,hv68,ho69⟩:=ZU hv44
 refine cl h18 rfl (cF func34) (ho69 s2) fun _ v3 w3 r3 h19=>?_
 obtain ⟨tax70,tcx71,rfl,s3⟩:=r3
 refine mvs 5 h19 rfl fun _ h20=>h20.sn [4,3,2,1,0] rfl fun h21=>hK5 _ _<|sqr fun _ hK7=>mvs 2 h21 rfl fun _ h22=>fav h22 rfl (fQ 2) fun _ h23=>ldv h23 s3 2 υ35 rfl rfl rfl rfl fun _ h24=>cl h24 rfl (cF func35) (Adn s3 (hv68).m (by decide) (ZV hv68)) fun _ v4 w4 r4 h25=>?_
 obtain ⟨rfl,s4⟩:=r4
 refine mvs 3 h25 rfl fun _ h26=>so (wn rfl) fun _ hK8=>AH h26 rfl rfl rfl rfl (z:=[ν 0,ν 0,ν 0]) (fun _=>rfl) s4 fun _ g1 w5 h27 s5 _ _=>hK8 _ _ ?_
 refine stA h27 s5 0 rfl rfl rfl κ rfl rfl rfl rfl fun _ w6 h28 s6 _=>mv h28 rfl fun _ h29=>h29.sn [6,5,4,3,2,1,0] rfl fun h30=>hK7 _ _<|sqr fun _ hK9=>mvs 2 h30 rfl fun _ h31=>fav h31 rfl (fQ 2) fun _ h32=>ldv h32 s6 3 υ35 rfl rfl rfl rfl fun _ h33=>?_
 obtain ⟨P138,hv139,ho140⟩:=UI hv68
 refine cl h33 rfl (cF func36) (ho140 (s6.pk [1,2,0,3,4] rfl)) fun _ v5 w7 r5 h34=>?_
 obtain ⟨tax141,tcx142,rfl,s7⟩:=r5
 refine mv h34 rfl fun _ h35=>h35.sn [7,6,5,4,3,2,1,0] rfl fun h36=>hK9 _ _<|sqr fun _ hK10=>mvs 2 h36 rfl fun _ h37=>fav h37 rfl (fQ 2) fun _ h38=>ldv h38 s7 3 υ35 rfl rfl rfl rfl fun _ h39=>cl h39 rfl (cF func8) (Fa s7 (hv139).m (Xy hv139)) fun _ v6 w8 r6 h40=>?_
 obtain ⟨rfl,s8⟩:=r6
 refine mvs 3 h40 rfl fun _ h41=>so (wn rfl) fun _ hK11=>AH h41 rfl rfl rfl rfl (z:=[ν 0,ν 0,ν 0,ν 0,ν 0,ν 0,ν 0,ν 0,ν 0,ν 0,ν 0,ν 0,ν 0,ν 0,ν 0]) (fun _=>rfl) s8 fun _ g2 w9 h42 s9 _ _=>hK11 _ _ ?_
 refine stA h42 s9 0 rfl rfl rfl κ rfl rfl rfl rfl fun _ w10 h43 s10 _=>mv h43 rfl fun _ h44=>h44.sn [8,7,6,5,4,3,2,1,0] rfl fun h45=>hK10 _ _<|sqr fun _ hK12=>mvs 2 h45 rfl fun _ h46=>fav h46 rfl (fQ 2) fun _ h47=>ldv h47 s10 4 υ35 rfl rfl rfl rfl fun _ h48=>?_
 obtain ⟨P201,hv202,ho203⟩:=Xw hv139
 refine cl h48 rfl (cF func37) (ho203 (s10.pk [1,2,0,3,4,5] rfl)) fun _ v7 w11 r7 h49=>?_
 obtain ⟨tax204,tcx205,rfl,s11⟩:=r7
 refine mv h49 rfl fun _ h50=>h50.sn [10,8,7,6,5,4,3,2,1,0] rfl fun h51=>hK12 _ _<|sqr fun _ hK13=>mvs 2 h51 rfl fun _ h52=>fav h52 rfl (fQ 2) fun _ h53=>ldv h53 s11 4 υ35 rfl rfl rfl rfl fun _ h54=>cl h54 rfl (cF func8) (Fa s11 (hv202).m (ZT hv202)) fun _ v8 w12 r8 h55=>?_
 obtain ⟨rfl,s12⟩:=r8
 refine mvs 3 h55 rfl fun _ h56=>so (wn rfl) fun _ hK14=>AH h56 rfl rfl rfl rfl (z:=[ν 0,ν 0,ν 0,ν 0,ν 0,ν 0,ν 0,ν 0,ν 0,ν 0,ν 0,ν 0,ν 0,ν 0,ν 0]) (fun _=>rfl) s12 fun _ g3 w13 h57 s13 _ _=>hK14 _ _ ?_
 refine stA h57 s13 0 rfl rfl rfl κ rfl rfl rfl rfl fun _ w14 h58 s14 _=>mv h58 rfl fun _ h59=>h59.sn [11,10,8,7,6,5,4,3,2,1,0] rfl fun h60=>hK13 _ _<|sqr fun _ hK15=>mv h60 rfl fun _ h61=>bv h61 (z:=.bool true) rfl (cEq _ _ _ _ rfl) fun _ h62=>mv h62 rfl fun _ h63=>sv h63 (wT h63 (E:=true) rfl rfl rfl) rfl rfl rfl (v:=ν 3) (Au h63 rfl rfl) fun _ h64=>sv h64 (wT h64 (E:=true) rfl rfl rfl) rfl rfl rfl (v:=.bool true) (BR h64 rfl rfl rfl (cEq _ _ _ _ rfl)) fun _ h65=>?_
 refine sv1 h65 rfl (v:=.bool true) (BD h65 rfl rfl rfl) fun _ h66=>mv h66 rfl fun _ h67=>sv h67 (wT h67 (E:=true) rfl rfl rfl) rfl rfl rfl (v:=ν 0) (Au h67 rfl rfl) fun _ h68=>sv h68 (wT h68 (E:=true) rfl rfl rfl) rfl rfl rfl (v:=.bool true) (BR h68 rfl rfl rfl (cEq _ _ _ _ rfl)) fun _ h69=>sv1 h69 rfl (v:=.bool true) (BD h69 rfl rfl rfl) fun _ h70=>mv h70 rfl fun _ h71=>sw h71 (wT h71 (E:=true) rfl rfl rfl) rfl rfl rfl (v:=.agg #[ν 2,ν 1,ν 1]) (rld h71 rfl rfl (ldA υ76 rfl (n:=3) κ (s14.get 4 rfl:Blk _ _ _ _) rfl rfl)) fun _ h72=>sv h72 (wT h72 (E:=true) rfl rfl rfl) rfl rfl rfl (v:=.agg #[ν 2,ν 1,ν 1]) (Sl h72 (xs:=[(0,.const (ν 2)),(1,.const (ν 1)),(2,.const (ν 1))]) rfl (vs:=[(0,ν 2),(1,ν 1),(2,ν 1)]) rfl (fun w=>κ)) fun _ h73=>sv h73 (wT h73 (E:=true) rfl rfl rfl) rfl rfl rfl (v:=.bool ((decide (2=2))&&((decide (1=1))&&(decide (1=1))))) (BR h73 rfl rfl rfl (Ih _ _ 2 1 1 2 1 1)) fun _ h74=>sv1 h74 rfl (v:=.bool ((decide (2=2))&&((decide (1=1))&&(decide (1=1))))) (BD h74 rfl rfl rfl) fun _ h75=>?_
 refine mv h75 rfl fun _ h76=>sv h76 ((wT h76 rfl rfl rfl).trans (TY (decide_eq_true ω) (TY (decide_eq_true ω) (decide_eq_true ω)))) rfl rfl rfl (v:=ν 0) (Au h76 rfl rfl) fun _ h77=>sv h77 ((wT h77 rfl rfl rfl).trans (TY (decide_eq_true ω) (TY (decide_eq_true ω) (decide_eq_true ω)))) rfl rfl rfl (v:=.bool true) (BR h77 rfl rfl rfl (cEq _ _ _ _ rfl)) fun _ h78=>sv1 h78 rfl (v:=.bool true) (Mm h78 rfl (E:=((decide (2=2))&&((decide (1=1))&&(decide (1=1))))) (b:=true) rfl (TY (decide_eq_true ω) (TY (decide_eq_true ω) (decide_eq_true ω))) rfl) fun _ h79=>mv h79 rfl fun _ h80=>sv h80 (wT h80 (E:=true) rfl rfl rfl) rfl rfl rfl (v:=ν 0) (Au h80 rfl rfl) fun _ h81=>sv h81 (wT h81 (E:=true) rfl rfl rfl) rfl rfl rfl (v:=.bool true) (BR h81 rfl rfl rfl (cEq _ _ _ _ rfl)) fun _ h82=>sv1 h82 rfl (v:=.bool true) (BD h82 rfl rfl rfl) fun _ h83=>mv h83 rfl fun _ h84=>sv h84 (wT h84 (E:=true) rfl rfl rfl) rfl rfl rfl (v:=π g2) (rfa h84 rfl rfl (fQ 0)) fun _ h85=>?_
 refine sw h85 (wT h85 (E:=true) rfl rfl rfl) rfl rfl rfl (v:=ν 1) (rld h85 rfl rfl (ldB υ3 rfl (s14.get 3 rfl:Blk _ _ _ _) rfl)) fun _ h86=>sv h86 (wT h86 (E:=true) rfl rfl rfl) rfl rfl rfl (v:=.bool true) (BR h86 rfl rfl rfl (cEq _ _ _ _ rfl)) fun _ h87=>sv1 h87 rfl (v:=.bool true) (BD h87 rfl rfl rfl) fun _ h88=>mv h88 rfl fun _ h89=>sv h89 (wT h89 (E:=true) rfl rfl rfl) rfl rfl rfl (v:=ν 0) (Au h89 rfl rfl) fun _ h90=>sv h90 (wT h90 (E:=true) rfl rfl rfl) rfl rfl rfl (v:=.bool true) (BR h90 rfl rfl rfl (cEq _ _ _ _ rfl)) fun _ h91=>sv1 h91 rfl (v:=.bool true) (BD h91 rfl rfl rfl) fun _ h92=>mv h92 rfl fun _ h93=>sv h93 (wT h93 (E:=true) rfl rfl rfl) rfl rfl rfl (v:=π g3) (rfa h93 rfl rfl (fQ 0)) fun _ h94=>sw h94 (wT h94 (E:=true) rfl rfl rfl) rfl rfl rfl (v:=ν 0) (rld h94 rfl rfl (ldB υ3 rfl (s14.get 0 rfl:Blk _ _ _ _) rfl)) fun _ h95=>?_
 refine sv h95 (wT h95 (E:=true) rfl rfl rfl) rfl rfl rfl (v:=.bool true) (BR h95 rfl rfl rfl (cEq _ _ _ _ rfl)) fun _ h96=>sv1 h96 rfl (v:=.bool true) (BD h96 rfl rfl rfl) fun _ h97=>h97.sk [99,98,97,96,95,94,93,92,91,90,89,88,87,86,85,84,83,82,81,80,79,78,77,76,75,74,73,72,71,70,69,68,67,66,65,64,63,11,10,8,7,6,5,4,3,2,1] rfl fun h98=>mv h98 rfl fun _ h99=>h99.sn [0,11,10,8,7,6,5,4,3,2,1] rfl fun h100=>hK15 _ _<|wp_ret ?_
 try simp only [Exit.then,Exit.inBlock]
 refine By (v:=.bool true) (Cx h100 rfl rfl) h100.defs ?_
 exact ⟨congrArg Value.bool rfl,Sep.tail_un (xs:=[]) (s14.pk [6] rfl)⟩
end
section
open Go.RowKit Go.WideShapes
theorem Ad7 (x0 x1 x2 x3 x4 x5 x6 x7 x8 x9 x10 x11 x12 x13 x14 x15 y0 y1 y2 y3 y4 y5 y6 y7 y8 y9 y10 y11 y12 y13 y14 y15:Int) (w:World):(Op.equalIn 10000 27 (.agg #[.int .u8 x0,.int .u8 x1,.int .u8 x2,.int .u8 x3,.int .u8 x4,.int .u8 x5,.int .u8 x6,.int .u8 x7,.int .u8 x8,.int .u8 x9,.int .u8 x10,.int .u8 x11,.int .u8 x12,.int .u8 x13,.int .u8 x14,.int .u8 x15]) (.agg #[.int .u8 y0,.int .u8 y1,.int .u8 y2,.int .u8 y3,.int .u8 y4,.int .u8 y5,.int .u8 y6,.int .u8 y7,.int .u8 y8,.int .u8 y9,.int .u8 y10,.int .u8 y11,.int .u8 y12,.int .u8 y13,.int .u8 y14,.int .u8 y15])).run prog w=.ok (decide ([x0,x1,x2,x3,x4,x5,x6,x7,x8,x9,x10,x11,x12,x13,x14,x15]=[y0,y1,y2,y3,y4,y5,y6,y7,y8,y9,y10,y11,y12,y13,y14,y15])) w:=by
  have u3:=υ5
  have a3:=Tryz.isAgg5
  have z3:=Tryz.sizeOf5
  rw [show (10000:Nat)=9999+1 from rfl,Op.equalIn]
  simp only [Sem.run_bind,run_underlying υ27,Result.andThen_ok]
  simp only [Std.Legacy.Range.forIn_eq_forIn_range',Std.Legacy.Range.size,Nat.sub_zero,Nat.add_sub_cancel,Nat.div_one,List.range'_succ,List.range'_zero,List.forIn_cons,List.forIn_nil]
  go_simp
  by_cases h0:x0=y0
  case neg=>simp [h0]
  by_cases h1:x1=y1
  case neg=>simp [h0,h1]
  by_cases h2:x2=y2
  case neg=>simp [h0,h1,h2]
  by_cases h3:x3=y3
  case neg=>simp [h0,h1,h2,h3]
  by_cases h4:x4=y4
  case neg=>simp [h0,h1,h2,h3,h4]
  by_cases h5:x5=y5
  case neg=>simp [h0,h1,h2,h3,h4,h5]
  by_cases h6:x6=y6
  case neg=>simp [h0,h1,h2,h3,h4,h5,h6]
  by_cases h7:x7=y7
  case neg=>simp [h0,h1,h2,h3,h4,h5,h6,h7]
  by_cases h8:x8=y8
  case neg=>simp [h0,h1,h2,h3,h4,h5,h6,h7,h8]
  by_cases h9:x9=y9
  case neg=>simp [h0,h1,h2,h3,h4,h5,h6,h7,h8,h9]
  by_cases h10:x10=y10
  case neg=>simp [h0,h1,h2,h3,h4,h5,h6,h7,h8,h9,h10]
  by_cases h11:x11=y11
  case neg=>simp [h0,h1,h2,h3,h4,h5,h6,h7,h8,h9,h10,h11]
  by_cases h12:x12=y12
  case neg=>simp [h0,h1,h2,h3,h4,h5,h6,h7,h8,h9,h10,h11,h12]
  by_cases h13:x13=y13
  case neg=>simp [h0,h1,h2,h3,h4,h5,h6,h7,h8,h9,h10,h11,h12,h13]
  by_cases h14:x14=y14
  case neg=>simp [h0,h1,h2,h3,h4,h5,h6,h7,h8,h9,h10,h11,h12,h13,h14]
  by_cases h15:x15=y15
  case neg=>simp [h0,h1,h2,h3,h4,h5,h6,h7,h8,h9,h10,h11,h12,h13,h14,h15]
  simp [h0,h1,h2,h3,h4,h5,h6,h7,h8,h9,h10,h11,h12,h13,h14,h15]
theorem Xn {α:Type} {l:List α} (h:l.length=16):∃ x0 x1 x2 x3 x4 x5 x6 x7 x8 x9 x10 x11 x12 x13 x14 x15,l=[x0,x1,x2,x3,x4,x5,x6,x7,x8,x9,x10,x11,x12,x13,x14,x15]:=by
  match l,h with
  | [x0,x1,x2,x3,x4,x5,x6,x7,x8,x9,x10,x11,x12,x13,x14,x15],_=>exact ⟨x0,x1,x2,x3,x4,x5,x6,x7,x8,x9,x10,x11,x12,x13,x14,x15,rfl⟩
theorem Cb {a b:UInt8} (h:((a.toNat:Nat):Int)=(b.toNat:Nat)):a=b:=UInt8.toNat_inj.1 ω
theorem Aea {xs ys:Λ} (hx:xs.length=16) (hy:ys.length=16) (w:World):(Op.equalIn 10000 27 (.agg (Ai xs)) (.agg (Ai ys))).run prog w=.ok (decide (xs=ys)) w:=by
  obtain ⟨x0,x1,x2,x3,x4,x5,x6,x7,x8,x9,x10,x11,x12,x13,x14,x15,rfl⟩:=Xn hx
  obtain ⟨y0,y1,y2,y3,y4,y5,y6,y7,y8,y9,y10,y11,y12,y13,y14,y15,rfl⟩:=Xn hy
  refine (Ad7 x0.toNat x1.toNat x2.toNat x3.toNat x4.toNat x5.toNat x6.toNat x7.toNat x8.toNat x9.toNat x10.toNat x11.toNat x12.toNat x13.toNat x14.toNat x15.toNat y0.toNat y1.toNat y2.toNat y3.toNat y4.toNat y5.toNat y6.toNat y7.toNat y8.toNat y9.toNat y10.toNat y11.toNat y12.toNat y13.toNat y14.toNat y15.toNat w).trans ?_
  congr 1
  refine decide_eq_decide.2 ⟨fun q=>?_,fun q=>by rw [List.cons.injEq] at q;simp_all⟩
  simp only [List.cons.injEq] at q ⊢
  obtain ⟨q0,q1,q2,q3,q4,q5,q6,q7,q8,q9,q10,q11,q12,q13,q14,q15,_⟩:=q
  exact ⟨Cb q0,Cb q1,Cb q2,Cb q3,Cb q4,Cb q5,Cb q6,Cb q7,Cb q8,Cb q9,Cb q10,Cb q11,Cb q12,Cb q13,Cb q14,Cb q15,trivial⟩
theorem Ab8 (x y:Operand) {xs ys:Λ} (hx:xs.length=16) (hy:ys.length=16) {t:Bool} (ht:decide (xs=ys)=t) (w:World):(do eqGuard .eql 27 x y (.agg (Ai xs)) (.agg (Ai ys));binOp .eql 27 (.agg (Ai xs)) (.agg (Ai ys)):Sem Value).run prog w=.ok (.bool t) w:=by
  subst ht
  have h:=Aea hx hy w
  simp [eqGuard,binOp,Op.equal,Op.maxDepth,Sem.run_bind,h]
end
section
def noD (x:InoT) (k:Nat):Prop:=∀ a b,a<b→b<k→¬ (x.blk a≠0∧x.blk a=x.blk b)
end
section
theorem OO (T:TypeId) {E:TypeId} (hu:prog.underlying T=some (.pointer E)) (x y:Operand) (p:Addr) (w:World):(do eqGuard .eql T x y (.pointer (some p)) (.pointer none);binOp .eql T (.pointer (some p)) (.pointer none):Sem Value).run prog w=.ok (.bool false) w:=MP T hu x y (some p) w
theorem ZK {k:Int} (h1:1≤k) (h2:k≤32):DI 4 k=true:=by
 have z:=Rx ⟨k.toNat-1,ω⟩
 rw [show (((k.toNat-1+1:Nat)):Int)=k by omega] at z;exact z
def Aha (x:InoT) (i:Int):Bool:=((EG x)&&(decide (i≥1)))&&(decide (i≤32))
section
variable {M:MemM} {P:List PtM} {s:Cg} {n:Nat}
theorem Vn {xs d:Λ} (h:xs.length=16):Fe (xs++d)=xs:=by
 unfold Fe;rw [if_neg (by rw [List.length_append];omega),List.take_append_of_le_length ω,List.take_of_length_le ω]
end
theorem XA {w:World} {R:List Ch} {mx:Nat} {K:VolK} {ta:Ω} {tc:Nat} {M:MemM} {P:List PtM} {xs:Λ} (hS0:Sep w ([Ab mx 99 [π K.tg],txP K ta tc M P]++R)) (hM:M.V.length=23168) (h:Ar M P=xs):CallsR prog 11 #[π mx] w (fun v w'=>v=.agg (Ai xs)∧Sep w' ([Ab mx 99 [π K.tg],txP K ta tc M P]++R)):=
 Calls.mono (Tu hS0 hM) fun e w' z=>by rw [h] at z;exact z
end
section
section
variable {M:MemM} {P:List PtM} {s:Cg} {n:Nat}
theorem Yy (V:Vol M P s n) {i:Int} (h:DI 4 i=true):(s 4 i).length=64:=by
  obtain ⟨q,hq⟩:=Bh h
  have z:=Oc hq (by decide) (by decide)
  rw [← V.s];unfold MH
  rw [if_pos (.inr (.inl rfl)),Cz hq,Mq (Ly V.m hq),z];rfl
def fS (s:Cg):Nat→Cg
  | 0=>Bc s 4 1 Gd
  | k+1=>if k=0 then fS s k else Bc (fS s k) 4 ((k+1:Nat):Int) Cw
theorem Ls (V:Vol M [] s 0):∀ k,k≤31→MS M [] (k+1)=0∧Vol M (Dh M [] (k+1)) (fS s (k+1)) (k+1)
  | 0,_=>by
    obtain ⟨q,hq⟩:=Bh (Rx 0)
    rw [(Pm rfl).1,(Pm rfl).2]
    exact DP V hq En.1 En.2 (by decide) ω
  | k+1,hk=>by
    have ih:=Ls V k ω
    obtain ⟨q,hq⟩:=Bh (Rx ⟨k+1,ω⟩)
    have z:=DP ih.2 hq TB Aas (by decide) ω
    rw [(Pn ω).1,(Pn ω).2,ih.1]
    refine ⟨by rw [z.1];rfl,?_⟩
    have e:fS s (k+1+1)=Bc (fS s (k+1)) 4 ((k+1+1:Nat):Int) Cw:=if_neg ω
    rw [e];exact z.2
theorem PE (V:Vol M [] s 0):∀ k,k≤8→MU M [] k=0∧Vol M (Dd M [] k) (Bc (fS s 32) 3 0 Aj) (34+2*k)
  | 0,_=>by
    have z:=Ls V 31 (Nat.le_refl _)
    have z2:=Hi z.2 (xs:=Aj) rfl ω
    obtain ⟨q,hq⟩:=Bh (show DI 1 0=true by decide +kernel)
    have z3:=z2.2.put2 (xs:=Du) hq (by decide) (by rw [Hu];have:=Hs hq (by decide);omega) (by rw [Hu];omega) ω
    refine ⟨?_,z3.2⟩
    unfold MU;rw [z.1,z2.1]
    show AC [AC [0,0],0,0,stE M (stP M (Dh M [] 32) 3 0 Aj) 1 0 Du.length]=0
    rw [z3.1];rfl
  | k+1,hk=>by
    have ih:=PE V k ω
    obtain ⟨h2,h6⟩:=Aed ⟨k,ω⟩
    obtain ⟨q,hq⟩:=Bh h2
    obtain ⟨q6,hq6⟩:=Bh h6
    have z:=ih.2.put2 (xs:=AU) hq (by decide) (by rw [Id];have:=Hs hq (by decide);omega) (by rw [Id];omega) ω
    have z2:=z.2.put2 (xs:=List.replicate 8 0) hq6 (by decide) (by have:=Hs hq6 (by decide);simp;omega) (by simp) ω
    refine ⟨?_,z2.2⟩
    unfold MU;rw [ih.1,z.1,z2.1];rfl
theorem QL {kd nm:Int} {xs:Λ} (h:(s kd nm).length=xs.length):Bc s kd nm xs kd nm=xs:=by
  unfold Bc;rw [if_pos ⟨rfl,rfl⟩,← h,List.drop_length,List.append_nil]
theorem KQ {kd nm a b:Int} {xs:Λ} (h:¬ (a=kd∧b=nm)):Bc s kd nm xs a b=s a b:=by unfold Bc;rw [if_neg h]
theorem WL (V:Vol M [] s 0):∀ k,k≤31→fS s (k+1) 4 1=Gd∧∀ j:Nat,2≤j→j≤k+1→fS s (k+1) 4 (j:Int)=Cw
  | 0,_=>by
    have e:fS s (0+1)=Bc s 4 1 Gd:=if_pos rfl
    have l:(s 4 1).length=Gd.length:=Yy V (Rx 0)
    rw [e]
    exact ⟨QL l,fun j h1 h2=>ω⟩
  | k+1,hk=>by
    have ih:=WL V k ω
    have V':=(Ls V k ω).2
    have e:fS s (k+1+1)=Bc (fS s (k+1)) 4 ((k+1+1:Nat):Int) Cw:=if_neg ω
    rw [e]
    refine ⟨(KQ (fun h=>by have:=h.2;omega)).trans ih.1,fun j h1 h2=>?_⟩
    by_cases hj:j=k+1+1
    · subst hj;exact QL (by rw [Yy V' (Rx ⟨k+1,ω⟩)];rfl)
    · exact (KQ (fun h=>by have:=h.2;omega)).trans (ih.2 j h1 ω)
structure FmtS (s:Cg):Prop where
  r:s 4 1=Gd
  z:∀ j:Nat,2≤j→j≤32→s 4 (j:Int)=Cw
  m:Fe (s 3 0)=Aj
theorem ZH (V:Vol M [] s 0):FmtS (Bc (fS s 32) 3 0 Aj):=by
  have g:=WL V 31 (Nat.le_refl _)
  refine ⟨(KQ (fun h=>by have:=h.1;omega)).trans g.1,fun j h1 h2=>(KQ (fun h=>by have:=h.1;omega)).trans (g.2 j h1 h2),?_⟩
  unfold Bc;rw [if_pos ⟨rfl,rfl⟩];exact Vn rfl
def soI (k:Nat):InoT:=if k=1 then Ez else AD
theorem rd0:rdI Cw=AD∧rdE Cw=0:=⟨κ,by decide +kernel⟩
theorem Yf:rdI Gd=Ez∧rdE Gd=0:=⟨κ,by decide +kernel⟩
theorem OH (V:Vol M P s n) (F:FmtS s) {k:Nat} (h1:1≤k) (h2:k≤32):Al M P (k:Int)=soI k∧AR M P (k:Int)=0:=by
  rw [DZ V,DK V];unfold CK CO soI
  rw [ZK ω ω]
  by_cases h:k=1
  · subst h;rw [show ((1:Nat):Int)=1 from rfl,F.r,Yf.1,Yf.2];exact ⟨rfl,rfl⟩
  · rw [F.z k ω h2,rd0.1,rd0.2,if_neg h];exact ⟨rfl,rfl⟩
theorem YF (V:Vol M P s n) (F:FmtS s):Ar M P=Aj:=(LG V).trans F.m
theorem YG (V:Vol M P s n) (F:FmtS s):An M P 1=AB∧Bp M P 1=0:=by
  have z:=OH V F (k:=1) ω ω
  have z1:Al M P 1=Ez:=z.1
  have z2:AR M P 1=0:=z.2
  have t:Bz M P Ez 4=(AB,0):=rfl
  unfold An Bp
  rw [z1,z2,t];exact ⟨rfl,rfl⟩
theorem Abb (V:Vol M P s n) (F:FmtS s):AL M P [47]=(1,0):=by
  have z:=(OH V F (k:=1) ω ω).2
  have z2:AR M P 1=0:=z
  unfold AL;rw [show BK [47]=some [] by kernel_rfl]
  show AV M P []=(1,0)
  unfold AV;rw [z2];rfl
end
theorem Abl {M:MemM} (hM:M.V.length=23168) (h:(M.V.drop 2688).take 8=List.replicate 8 0):Vol M [] (MH M []) 0:=by
  refine ⟨hM,?_,fun p hp=>(by cases hp),rfl,fun p hp=>(by cases hp),rfl⟩
  have e:GL M.V 2688 4096=0:=by
    refine NY (n:=0) ?_ (Nat.zero_le _) ω
    rw [h];rfl
  unfold Cp Ew
  rw [e,List.take_zero,JW]
theorem VA {M:MemM} (hM:M.V.length=23168):(DQ M 2688 (List.replicate 8 0)).V.length=23168∧((DQ M 2688 (List.replicate 8 0)).V.drop 2688).take 8=List.replicate 8 0:=by
  have e:(DQ M 2688 (List.replicate 8 0)).V=splice M.V 2688 (List.replicate 8 0):=rfl
  rw [e];unfold splice
  have l:(M.V.take 2688).length=2688:=by rw [List.length_take];omega
  refine ⟨by rw [List.length_append,List.length_append,l,List.length_drop,List.length_replicate];omega,?_⟩
  rw [List.drop_append_of_le_length ω,List.drop_of_length_le ω,List.nil_append,List.take_append_of_le_length (by rw [List.length_replicate];omega),List.take_of_length_le (by rw [List.length_replicate];omega)]
theorem QC {M:MemM} {q:Nat} {b:Λ} (hM:M.V.length=23168) (h:inM M (q:Int) b.length=true):(DQ M q b).V.length=23168:=by
  have e:(DQ M q b).V=splice M.V q b:=rfl
  unfold inM at h
  have h:=of_decide_eq_true h
  rw [e];unfold splice
  rw [List.length_append,List.length_append,List.length_take,List.length_drop];omega
def Vz (M:MemM) (q:Int) (b:Λ):MemM:=if inM M q b.length=true then DQ M q.toNat b else M
theorem YI {M:MemM} {q:Int} {b:Λ} (hM:M.V.length=23168) (hq:0≤q):(Vz M q b).V.length=23168:=by
  unfold Vz;split
  · next h=>exact QC (q:=q.toNat) hM (by rw [show ((q.toNat:Nat):Int)=q by omega];exact h)
  · exact hM
theorem Ado {w:World} {R:List Ch} {g v d p:Nat} {M:MemM} (hS:Sep w (FH g v d p M::R)) {at_:Int} {a:Ω} {c:Nat} {b:Λ} (hr:RowB w a c b) (ha:ET at_) :
    CallsR prog 18 #[pG g,ν at_,.slice a b.length c] w (fun x w'=>∃ i,x=ν i∧Sep w' (FH g v d p (Vz M at_ b)::R)):=
  Calls.mono (JZ (hS.get 0 rfl:MemP _ _ _ _ _ _) at_ ha a c b hr) fun e w' h=>by
    unfold GM at h;unfold Vz
    split
    · next hi=>
      rw [if_pos hi] at h
      obtain ⟨rfl,hm,t⟩:=h
      exact ⟨_,rfl,0,rfl,hS.head t (fun k _ q=>q.elim (fun q=>.inr (.inl q)) (fun q=>.inr (.inr (.inr q)))) (c':=FH g v d p _) hm fun k q=>.inl q⟩
    · next hi=>
      rw [if_neg hi] at h
      obtain ⟨rfl,e2⟩:=h
      exact ⟨_,rfl,1,rfl,hS.mono e2⟩
theorem Aer {w:World} {R:List Ch} {g v1 d p:Nat} {M:MemM} (hS:Sep w (FH g v1 d p M::R)) (hM:M.V.length=128):CallsR prog 19 #[π g,ν 0,ν 128] w (fun v w'=>∃ lg,v=π lg∧Sep w' (FH g v1 d p M::R)):=by
  have h:MemP w g v1 d p M:=hS.get 0 rfl
  refine Calls.mono (PN h 0 128 (by unfold Eg;omega) (by unfold Eg;omega) ω) fun e w' z=>?_
  unfold KU at z
  rw [if_pos (by unfold IC;omega)] at z
  obtain ⟨lg,e1,hb,hl,b⟩:=z
  exact ⟨_,e1,lg,rfl,hS.mono b⟩
def txW (tg lg g v d p:Nat) (M:MemM):Ch where
  F b:=b=tg∨b=g∨b=v∨b=d∨b=p
  P w:=Blk w tg 97 (txC g lg none 0 0)∧MemP w g v d p M
  keep h t:=⟨t.blk h.1 (fun q=>q (.inl rfl)),h.2.turns t (fun q=>q (.inr (.inl rfl))) (fun q=>q (.inr (.inr (.inl rfl)))) (fun q=>q (.inr (.inr (.inr (.inl rfl))))) (fun q=>q (.inr (.inr (.inr (.inr rfl)))))⟩
  lt h b hb:=by
    obtain ⟨_,_,_,_,_,_,h1,h2,h3,h4⟩:=CX h.2
    have:=h.1.lt
    rcases hb with e | e | e | e | e<;>omega
theorem Aes {w:World} {R:List Ch} {lg g v1 d p:Nat} {M:MemM} (hS:Sep w (FH g v1 d p M::R)):CallsR prog 20 #[π g,π lg] w (fun v w'=>∃ tg,v=π tg∧Sep w' (txW tg lg g v1 d p M::R)):=by
  have h:MemP w g v1 d p M:=hS.get 0 rfl
  refine Calls.mono (PP w g lg) fun e w' ⟨tg,e1,hb,hl,b⟩=>⟨_,e1,tg,rfl,hS.head (Turns.of_below (X:=fun _=>False) b) (fun k hk (q:False)=>q.elim) (c':=txW tg lg g v1 d p M) ⟨hb,h.mono b⟩ fun k q=>?_⟩
  rcases q with q | q | q | q | q
  · right;exact q ▸ hl
  · exact .inl (.inl q)
  · exact .inl (.inr (.inl q))
  · exact .inl (.inr (.inr (.inl q)))
  · exact .inl (.inr (.inr (.inr q)))
theorem Xo {w:World} {R:List Ch} {tg lg g v d p:Nat} {M:MemM} (hS:Sep w (txW tg lg g v d p M::R)) (hM:M.V.length=64) {at_ n:Int} (hi:inM M at_ n=false) (ha:ET at_) (hn:ET n) :
    CallsR prog 46 #[pG tg,ν at_,ν n] w (fun x w'=>x=.tuple #[.slice none 0 0,ν 1]∧Sep w' (txW tg lg g v d p M::R)):=by
  have h:Blk w tg 97 (txC g lg none 0 0)∧MemP w g v d p M:=hS.get 0 rfl
  exact Calls.mono (PH h.2 h.1 (P:=[]) (Own.nil w (w.heap.size) 148 2).row (TxOk.nil _) ω at_ n ha hn hi) fun e w' ⟨e1,e2⟩=>⟨_,e1,rfl,e2 ▸ hS⟩
end
section
open Go.Shelf
def SA:Go.Shelf.Ren:=⟨fun | 190=>89 | 125=>121 | 258=>120 | 128=>153 | 129=>154 | 302=>144 | 303=>145 | 304=>146 | 305=>147 | 306=>148 | 307=>149 | 308=>150 | 309=>151 | 310=>152 | 333=>174 | 329=>175 | 330=>176 | 334=>177 | 335=>178 | 336=>179 | 344=>187 | n=>n,fun | 31=>60 | 9=>9 | 3=>3 | 46=>191 | 0=>0 | 51=>132 | 53=>221 | 4=>4 | 183=>213 | 182=>212 | 131=>130 | 5=>5 | 218=>235 | 222=>239 | 228=>247 | 229=>248 | n=>n,fun | n=>n⟩
theorem Adj:Go.Proofs.Lays.n190 prog SA:={
  mixed:=κ
  f125:=func121.trans (congrArg some κ)
  f128:=func153.trans (congrArg some κ)
  f129:=func154.trans (congrArg some κ)
  f190:=func89.trans (congrArg some κ)
  f258:=func120.trans (congrArg some κ)
  f302:=func144.trans (congrArg some κ)
  f303:=func145.trans (congrArg some κ)
  f304:=func146.trans (congrArg some κ)
  f305:=func147.trans (congrArg some κ)
  f306:=func148.trans (congrArg some κ)
  f307:=func149.trans (congrArg some κ)
  f308:=func150.trans (congrArg some κ)
  f309:=func151.trans (congrArg some κ)
  f310:=func152.trans (congrArg some κ)
  f329:=func175.trans (congrArg some κ)
  f330:=func176.trans (congrArg some κ)
  f333:=func174.trans (congrArg some κ)
  f334:=func177.trans (congrArg some κ)
  f335:=func178.trans (congrArg some κ)
  f336:=func179.trans (congrArg some κ)
  f344:=func187.trans (congrArg some κ)
  t0:=υ0
  a0:=Tryz.isAgg0
  z0:=Tryz.sizeOf0
  v0:=Tryz.zeroValue0
  t3:=υ3
  a3:=Tryz.isAgg3
  z3:=Tryz.sizeOf3
  v3:=Tryz.zeroValue3
  t4:=υ4
  a4:=Tryz.isAgg4
  z4:=Tryz.sizeOf4
  v4:=Tryz.zeroValue4
  t5:=υ5
  a5:=Tryz.isAgg5
  z5:=Tryz.sizeOf5
  v5:=Tryz.zeroValue5
  t9:=υ9
  a9:=Tryz.isAgg9
  z9:=Tryz.sizeOf9
  v9:=Tryz.zeroValue9
  t31:=υ60
  a31:=Tryz.isAgg60
  z31:=Tryz.sizeOf60
  v31:=Tryz.zeroValue60
  t46:=υ191
  a46:=Tryz.isAgg191
  z46:=Tryz.sizeOf191
  v46:=Tryz.zeroValue191
  t51:=υ132
  a51:=Tryz.isAgg132
  z51:=Tryz.sizeOf132
  v51:=Tryz.zeroValue132
  t53:=υ221
  a53:=Tryz.isAgg221
  z53:=Tryz.sizeOf221
  v53:=Tryz.zeroValue221
  t131:=υ130
  a131:=Tryz.isAgg130
  z131:=Tryz.sizeOf130
  v131:=Tryz.zeroValue130
  t182:=υ212
  a182:=Tryz.isAgg212
  z182:=Tryz.sizeOf212
  v182:=Tryz.zeroValue212
  t183:=υ213
  a183:=Tryz.isAgg213
  z183:=Tryz.sizeOf213
  v183:=Tryz.zeroValue213
  t218:=υ235
  a218:=Tryz.isAgg235
  z218:=Tryz.sizeOf235
  v218:=Tryz.zeroValue235
  t222:=υ239
  a222:=Tryz.isAgg239
  z222:=Tryz.sizeOf239
  v222:=Tryz.zeroValue239
  t228:=υ247
  a228:=Tryz.isAgg247
  z228:=Tryz.sizeOf247
  v228:=Tryz.zeroValue247
  t229:=υ248
  a229:=Tryz.isAgg248
  z229:=Tryz.sizeOf248
  v229:=Tryz.zeroValue248 }
open Go.RowKit Go.Sort in
theorem slices_Sort_string_none (p:Ω) (cap:Nat) (w:World) :
    Calls prog 89 #[.slice p 0 cap] w fun e w'=>e=.returned (.tuple #[])∧w'=w:=Any.slices_Sort_string_none Adj p cap w
end
section
def soA:Nat→List InoT
 | 0=>List.replicate 33 AD
 | k+1=>(soA k).set (k+1) (soI (k+1))
theorem Ie:∀ k,(soA k).length=33
 | 0=>List.length_replicate
 | k+1=>by unfold soA;rw [List.length_set];exact Ie k
theorem Ae8 {m:Nat} (h:m=0):soA (m+1)=(soA m).set (m+1) (⟨2,1,0,0,0,0,0,0,0,0,0,0,0,0,0⟩:InoT):=by subst h;rfl
theorem Ae9 {m:Nat} (h:m≠0):soA (m+1)=(soA m).set (m+1) AD:=by
 show (soA m).set (m+1) (soI (m+1))=_
 unfold soI;rw [if_neg ω]
theorem Afa {m:Nat} (h:m=0) (_:m<32):(soA 32).getD (m+1) AD=(⟨2,1,0,0,0,0,0,0,0,0,0,0,0,0,0⟩:InoT):=by subst h;kernel_rfl
theorem YE:∀ j:Fin 31,Jd ((soA 32).getD (j.val+2) AD)=Jd AD:=by decide +kernel
theorem Xi {x y:InoT} (h:Jd x=Jd y):x=y:=by
 cases x;cases y
 unfold Jd at h
 simp only [List.cons.injEq,and_true] at h
 simp only [InoT.mk.injEq]
 exact h
theorem Afb {m:Nat} (h:m≠0) (h2:m<32):(soA 32).getD (m+1) AD=AD:=by
 have z:=YE ⟨m-1,ω⟩
 rw [show m-1+2=m+1 by omega] at z
 exact Xi z
theorem Yn {j:Nat} (h:j<33):((List.replicate 33 (0:Int)).map iV)[j]? = some (ν 0):=by
 rw [List.getElem?_map,List.getElem?_replicate,if_pos h];rfl
theorem Xk (g:Nat) {j:Nat} {i:Int} (hi:i=(j:Int)) (hj:j<33) (w:World):(Instr.indexAt 115 (π g) (ν i)).run prog w=.ok (.pointer (some ⟨g,j,none⟩)) w:=by
 subst hi
 have u3:=υ115
 have z3:=Tryz.sizeOf3
 have d0:(j:Int)<33:=ω
 have d1:0≤(j:Int):=ω
 go_simp
theorem PC (g:Nat) {j:Nat} {i:Int} (hi:i=(j:Int)) (hj:j<33) (w:World):(Instr.indexAt 116 (π g) (ν i)).run prog w=.ok (.pointer (some ⟨g,j*15,none⟩)) w:=by
 subst hi
 have u3:=υ116
 have u9:=υ25
 have z3:=Tryz.sizeOf25
 have d0:(j:Int)<33:=ω
 have d1:0≤(j:Int):=ω
 go_simp
theorem ST {j:Nat} (hj:j<16):(Am AB)[j*2]? = some (.string ⟨#[]⟩):=by
 have z:=(by decide +kernel:∀ j:Fin 16,(AB.getD j.val Bv).nm.data.toList=[]) ⟨j,hj⟩
 have h:=(DR AB j (by rw [Aq];exact hj)).1
 rw [show j*2=2*j by omega,h]
 have hl:j<AB.length:=by rw [Aq];exact hj
 have e:AB.getD j Bv=AB[j]:=by rw [List.getD_eq_getElem?_getD,List.getElem?_eq_getElem hl];rfl
 have z2:AB[j].nm=⟨#[]⟩:=by
  rw [← e]
  have z3:(AB.getD j Bv).nm.data.toList=[]:=z
  cases q:(AB.getD j Bv).nm with
  | mk d=>rw [q] at z3;congr;exact Array.toList_inj.1 z3
 exact congrArg (fun z=>some (Value.string z)) z2
theorem Wh {q:Nat} (h:q<4):AD.blk q=0:=by
 rcases (ω:q=0∨q=1∨q=2∨q=3) with rfl | rfl | rfl | rfl<;>rfl
theorem Wg {q:Nat} (h:q<4):(⟨2,1,0,0,0,0,0,0,0,0,0,0,0,0,0⟩:InoT).blk q=0:=by
 rcases (ω:q=0∨q=1∨q=2∨q=3) with rfl | rfl | rfl | rfl<;>rfl
theorem Af5 {k:Nat} (hk:k<16) (w:World):(Instr.index 111 (.agg (Am AB).toArray) (ν (k:Int))).run prog w=.ok (.agg #[.string ⟨#[]⟩,ν 0]) w:=by
 rcases (ω:k=0∨k=1∨k=2∨k=3∨k=4∨k=5∨k=6∨k=7∨k=8∨k=9∨k=10∨k=11∨k=12∨k=13∨k=14∨k=15) with rfl | rfl | rfl | rfl | rfl | rfl | rfl | rfl | rfl | rfl | rfl | rfl | rfl | rfl | rfl | rfl<;>kernel_rfl
theorem Yp {N:Nat} {l:List (Nat×Value)} {a:Act} (h:Kn N l a) {o:Oper} {x y:Operand} (ho:o.op=.index 111 x y) {u:Value} (hx:opv l x=some (.agg (Am AB).toArray)) (hy:opv l y=some u) {j:Nat} (hj:j<16) (hu:u=ν (j:Int)) (w:World):(execOp a.eval o).run prog w=.ok (.value (.agg #[.string ⟨#[]⟩,ν 0])) w:=by
 subst hu
 unfold execOp;rw [ho];simp only [h.op hx,h.op hy]
 exact Af (Af5 hj w)
theorem SX (T:TypeId) (x y:Operand) (w:World):(do eqGuard .neq T x y (.string ⟨#[]⟩) (.string ⟨#[]⟩);binOp .neq T (.string ⟨#[]⟩) (.string ⟨#[]⟩):Sem Value).run prog w=.ok (.bool false) w:=Zm T x y [] [] (decide_eq_false (fun q=>q rfl)) w
theorem Afe {w:World} {R:List Ch} (hS:Sep w R):CallsR prog 89 #[.slice none 0 0] w (fun v w'=>v=.tuple #[]∧Sep w' R):=
 Calls.mono (slices_Sort_string_none none 0 w) fun e w' z=>⟨_,z.1,rfl,z.2 ▸ hS⟩
theorem Abz {w:World} {R:List Ch} (hS:Sep w R):CallsR prog 16 #[.agg (Ai Aj),ν 0] w (fun v w'=>v=.agg (Ai Aj)∧Sep w' R):=
 Calls.mono (MD Aj 0 w rfl ω) fun e w' z=>⟨_,z.1,rfl,hS.mono z.2⟩
theorem Afc {M:MemM} {P:List PtM} {s:Cg} {n:Nat} (V:Vol M P s n) (F:FmtS s) {m:Nat} (h:m=0) (_:m<32):Al M P ((m+1:Nat):Int)=(⟨2,1,0,0,0,0,0,0,0,0,0,0,0,0,0⟩:InoT)∧AR M P ((m+1:Nat):Int)=0:=by
 subst h;exact OH V F (k:=1) ω ω
theorem Afd {M:MemM} {P:List PtM} {s:Cg} {n:Nat} (V:Vol M P s n) (F:FmtS s) {m:Nat} (h:m≠0) (h2:m<32):Al M P ((m+1:Nat):Int)=AD∧AR M P ((m+1:Nat):Int)=0:=by
 have z:=OH V F (k:=m+1) ω ω
 have e:soI (m+1)=AD:=if_neg ω
 rw [e] at z;exact z
theorem Aba {M:MemM} {P:List PtM} {s:Cg} {n:Nat} (V:Vol M P s n) (F:FmtS s) {m:Nat} (h:m=0):An M P ((m+1:Nat):Int)=AB∧Bp M P ((m+1:Nat):Int)=0:=by subst h;exact YG V F
theorem Abr {M:MemM} (h:M.V.length=64) {a n:Int} (hz:¬ (0≤a∧0≤n∧a≤64-n)):inM M a n=false:=by unfold inM;rw [decide_eq_false_iff_not,h];exact hz
theorem QH {w:World} {R:List Ch} {mx:Nat} {K:VolK} {ta:Ω} {tc:Nat} {M:MemM} {P:List PtM} {i:Int} {t:List EntT} {b:Int}  (hS0:Sep w ([Ab mx 99 [π K.tg],txP K ta tc M P]++R)) (hM:M.V.length=23168) (h:An M P i=t∧Bp M P i=b):CallsR prog 54 #[π mx,ν i] w (fun v w'=>v=.tuple #[.agg (Am t).toArray,ν b]∧Sep w' ([Ab mx 99 [π K.tg],txP K ta tc M P]++R)):=
 Calls.mono (OJ hS0 hM) fun e w' z=>by rw [h.1,h.2] at z;exact z
theorem XD {w:World} {R:List Ch} (hS0:Sep w ([]++R)) :
  CallsR prog 55 #[.agg ((Am AB).toArray)] w (fun v w'=>v=.slice none 0 0∧Sep w' ([]++R)):=by
 have hS:Sep w [Ch.many R]:=Sep.tail_many (xs:=[]) hS0;clear hS0
 refine AG func55 rfl (N:=22) ntmps55 (by show 1≤22;decide) [(0,.agg ((Am AB).toArray))] rfl fun _ h1=>sqr fun _ hK3=>so (wn rfl) fun _ hK1=>Gk h1 rfl rfl rfl rfl rfl (z:=Am AB) rfl hS fun _ g4 w7 h5 s8 _ _=>hK1 _ _ ?_
 refine mv h5 rfl fun _ h2=>wpList_nil<|hK3 _ _<|sqr fun _ hK2=>mv h2 rfl fun _ h3=>wpList_nil<|hK2 _ _<|sq fun _ hK4=>sqr fun _ hK5=>sw1 h3 rfl (v:=.agg ((Am AB).toArray)) (rld h3 rfl rfl (Fb υ111 (s8.get 0 rfl:Blk _ _ _ _) Aq)) fun _ h4=>mv h4 rfl fun _ h6=>wpList_nil<|hK5 _ _<|wp_block ?_
 refine CF (fun (k:Nat) a' w'=>Kn 22 [(7,ν (k:Int)),(6,.agg ((Am AB).toArray)),(3,.slice none 0 0),(2,.slice none 0 0),(1,π g4),(0,.agg ((Am AB).toArray))] a'∧Sep w' [Ab g4 111 (Am AB),Ch.many R]∧(k≤16)) (fun (k:Nat)=>16-k) 0 ⟨h6.subs rfl,s8,Nat.zero_le _⟩ ?_
 rintro k1 a1 w1 ⟨h7,s1,hk28⟩ K1 hK6
 refine sqr fun _ hK7=>bv h7 (z:=.bool (decide ((k1:Int)<16))) rfl (cLt _ _ _ _ rfl) fun _ h8=>wpList_nil<|hK7 _ _<|sq fun _ hK8=>?_
 rcases bC (decide ((k1:Int)<16)) with hc1 | hc1
 ·skip
  have hp1:(k1:Int)<16:=(dT hc1)
  refine wcT h8 rfl hc1<|h8.sk [7,6,3,2,1,0] rfl fun h9=>wp_skip<|hK8 _ _<|sq fun _ hK9=>wp_block ?_
  refine sqr fun _ hK10=>sv1 h9 rfl (v:=.agg #[.string ⟨#[]⟩,ν 0]) (Yp h9 rfl rfl rfl ω (j:=k1) rfl) fun _ h10=>so (wn rfl) fun _ hK11=>AH h10 rfl rfl rfl rfl (z:=[σ [],ν 0]) (fun _=>rfl) s1 fun _ g1 w2 h11 s2 _ _=>hK11 _ _ ?_
  refine stA h11 s2 0 rfl rfl rfl κ rfl rfl rfl rfl fun _ w3 h12 s3 _=>h12.sn [5,7,6,3,2,1,0] rfl fun h13=>hK10 _ _<|sqr fun _ hK12=>fav h13 rfl (fQ 0) fun _ h14=>ldv h14 s3 0 υ9 rfl rfl rfl rfl fun _ h15=>bv h15 (z:=.bool false) rfl (SX _ _ _) fun _ h16=>h16.sn [12,5,7,6,3,2,1,0] rfl fun h17=>hK12 _ _<|wcF h17 rfl rfl ?_
  refine h17.sk [5,7,6,3,2,1,0] rfl fun h18=>wp_skip<|hK9 _ _<|wp_region_lit<|bv h18 (z:=ν ((k1+1:Nat):Int)) rfl (DE _ _ _ ω ω ω) fun _ h19=>h19.sk [18,5,6,3,2,1,0] rfl fun h20=>mv h20 rfl fun _ h21=>h21.sk [7,5,6,3,2,1,0] rfl fun h22=>wpList_nil ?_
  exact hK6 (k1+1) _ _ ⟨h22.subs rfl,(s3.pk [1,2] rfl),ω⟩ ω
 ·skip
  have hp2:¬ ((k1:Int)<16):=(dF hc1)
  refine wcF h8 rfl hc1<|h8.sk [7,6,3,2,1,0] rfl fun h23=>wp_exit ?_
  refine hK4 _ _ ?_
  refine sqr fun _ hK13=>mv h23 rfl fun _ h24=>cl h24 rfl (cF func89) (Afe s1) fun _ v1 w4 r1 h25=>?_
  obtain ⟨rfl,s4⟩:=r1
  refine h25.sn [7,6,3,2,1,0] rfl fun h26=>hK13 _ _<|sqr fun _ hK14=>mv h26 rfl fun _ h27=>h27.sk [21,7,6,3,1,0] rfl fun h28=>mv h28 rfl fun _ h29=>h29.sn [2,7,6,3,1,0] rfl fun h30=>hK14 _ _<|wp_ret ?_
  try simp only [Exit.then,Exit.inBlock]
  refine By (v:=.slice none 0 0) (Cx h30 rfl rfl) h30.defs ?_
  exact ⟨rfl,Sep.tail_un (xs:=[]) (s4.pk [1] rfl)⟩
theorem ZP {w:World} {R:List Ch} {mx:Nat} {K:VolK} {ta:Ω} {tc:Nat} {M:MemM} {P:List PtM} {s:Cg} {n:Nat} (hS0:Sep w ([Ab mx 99 [π K.tg],txP K ta tc M P]++R)) (hM:M.V.length=23168) (hV:Vol M P s n) (hF:FmtS s) :
  CallsR prog 24 #[π mx,σ [47]] w (fun v w'=>v=.tuple #[.slice none 0 0,ν 0]∧Sep w' ([Ab mx 99 [π K.tg],txP K ta tc M P]++R)):=by
 have hS:Sep w [Ab mx 99 [π K.tg],txP K ta tc M P,Ch.many R]:=Sep.tail_many (xs:=[_,_]) hS0;clear hS0
 refine AG func24 rfl (N:=29) ntmps24 (by show 2≤29;decide) [(0,π mx),(1,σ [47])] rfl fun _ h1=>sqr fun _ hK3=>mvs 2 h1 rfl fun _ h6=>wpList_nil<|hK3 _ _<|sqr fun _ hK8=>mvs 2 h6 rfl fun _ h2=>cl h2 rfl (cF func53) (NS hS hM (by decide) (Abb hV hF)) fun _ v1 w1 r1 h3=>?_
 obtain ⟨rfl,s1⟩:=r1
 refine mvs 5 h3 rfl fun _ h4=>h4.sn [7,6,5,4,0,1] rfl fun h5=>hK8 _ _<|sq fun _ hK1=>sqr fun _ hK2=>mv h5 rfl fun _ h7=>bv h7 (z:=.bool false) rfl (cNe _ _ _ _ (show decide ((0:Int)≠0)=false from rfl)) fun _ h8=>h8.sn [16,7,6,5,4,0,1] rfl fun h9=>hK2 _ _<|wcF h9 rfl rfl<|h9.sk [7,6,5,4,0,1] rfl fun h10=>?_
 refine wp_skip<|hK1 _ _<|sqr fun _ hK4=>mvs 2 h10 rfl fun _ h11=>cl h11 rfl (cF func54) (QH s1 hM (YG hV hF)) fun _ v2 w2 r2 h12=>?_
 obtain ⟨rfl,s2⟩:=r2
 refine mvs 3 h12 rfl fun _ h13=>so (wn rfl) fun _ hK5=>AH h13 rfl rfl rfl rfl (z:=Am AB) (fun _=>rfl) s2 fun _ g1 w3 h14 s3 _ _=>hK5 _ _ ?_
 refine so (wn rfl) fun _ hK6=>Fj h14 rfl rfl s3 0 rfl Aq Aq rfl rfl (cs':=[Ab g1 111 (Am AB),Ab mx 99 [π K.tg],txP K ta tc M P,Ch.many R]) rfl fun _ w4 h15 s4 _=>hK6 _ _ ?_
 refine h15.sk [8,23,22,18,21,20,19,6,5,4,0,1] rfl fun h16=>mv h16 rfl fun _ h17=>h17.sn [7,8,6,5,4,0,1] rfl fun h18=>hK4 _ _<|sq fun _ hK7=>sqr fun _ hK9=>mv h18 rfl fun _ h19=>bv h19 (z:=.bool false) rfl (cNe _ _ _ _ (show decide ((0:Int)≠0)=false from rfl)) fun _ h20=>h20.sn [25,7,8,6,5,4,0,1] rfl fun h21=>hK9 _ _<|wcF h21 rfl rfl ?_
 refine h21.sk [7,8,6,5,4,0,1] rfl fun h22=>wp_skip<|hK7 _ _<|sqr fun _ hK10=>sw1 h22 rfl (v:=.agg ((Am AB).toArray)) (rld h22 rfl rfl (Fb υ111 (s4.get 0 rfl:Blk _ _ _ _) Aq)) fun _ h23=>cl h23 rfl (cF func55) (XD s4) fun _ v3 w5 r3 h24=>?_
 obtain ⟨rfl,s5⟩:=r3
 refine h24.sk [28,27,7,8,6,5,0,1] rfl fun h25=>mv h25 rfl fun _ h26=>h26.sk [4,28,27,7,8,6,0,1] rfl fun h27=>mv h27 rfl fun _ h28=>h28.sn [5,4,7,8,6,0,1] rfl fun h29=>hK10 _ _<|wp_ret ?_
 try simp only [Exit.then,Exit.inBlock]
 refine By (v:=.tuple #[.slice none 0 0,ν 0]) (Gc h29 rfl rfl rfl) h29.defs ?_
 exact ⟨rfl,Sep.tail_un (xs:=[_,_]) (s5.pk [1,2,3] rfl)⟩
theorem YH {w:World} {R:List Ch} {mx:Nat} {K:VolK} {ta:Ω} {tc:Nat} {M:MemM} {P:List PtM} {vx pg:Nat} {s:Cg} {n:Nat} (hS0:Sep w ([Ab vx 39 (prC (π pg) (π K.tg) (π mx) (.pointer none)),Ab mx 99 [π K.tg],txP K ta tc M P]++R)) (hM:M.V.length=23168) (hV:Vol M P s n) (hF:FmtS s) :
  CallsR prog 25 #[π vx] w (fun v w'=>v=.bool true∧Sep w' ([Ab vx 39 (prC (π pg) (π K.tg) (π mx) (.pointer none)),Ab mx 99 [π K.tg],txP K ta tc M P]++R)):=by
 have hS:Sep w [Ab vx 39 (prC (π pg) (π K.tg) (π mx) (.pointer none)),Ab mx 99 [π K.tg],txP K ta tc M P,Ch.many R]:=Sep.tail_many (xs:=[_,_,_]) hS0;clear hS0
 refine AG func25 rfl (N:=162) ntmps25 (by show 1≤162;decide) [(0,π vx)] rfl fun _ h1=>sqr fun _ hK3=>mv h1 rfl fun _ h4=>wpList_nil<|hK3 _ _<|sqr fun _ hK6=>so (wn rfl) fun _ hK1=>AH h4 rfl rfl rfl rfl (z:=(Aj).map Ac) (fun _=>rfl) hS fun _ g7 w2 h8 s1 _ _=>hK1 _ _ ?_
 refine wpList_nil<|hK6 _ _<|sqr fun _ hK2=>so (wn rfl) fun _ hK4=>AH h8 rfl rfl rfl rfl (z:=(List.replicate 33 (0:Int)).map iV) (fun _=>κ) s1 fun _ g1 w3 h2 s2 _ _=>hK4 _ _ ?_
 refine wpList_nil<|hK2 _ _<|sqr fun _ hK5=>so (wn rfl) fun _ hK7=>AH h2 rfl rfl rfl rfl (z:=(soA 0).flatMap Ak) (fun _=>κ) s2 fun _ g2 w4 h3 s3 _ _=>hK7 _ _ ?_
 refine wpList_nil<|hK5 _ _<|sq fun _ hK8=>sqr fun _ hK9=>mv h3 rfl fun _ h5=>wpList_nil<|hK9 _ _<|wp_block ?_
 refine CF (fun (m:Nat) a' w'=>Kn 162 [(6,ν ((m+1:Nat):Int)),(5,π g2),(4,π g1),(3,π g7),(2,.bool false),(0,π vx)] a'∧Sep w' [Ab g2 116 ((soA m).flatMap Ak),Ab g1 115 ((List.replicate 33 0).map iV),Ab g7 27 ((Aj).map Ac),Ab vx 39 (prC (π pg) (π K.tg) (π mx) (.pointer none)),Ab mx 99 [π K.tg],txP K ta tc M P,Ch.many R]∧(m≤32)∧((soA m).length=33)) (fun (m:Nat)=>32-m) 0 ⟨h5.subs rfl,s3,Nat.zero_le _,Ie 0⟩ ?_
 rintro m1 a1 w5 ⟨h6,s4,hm1,hl43⟩ K1 hK10
 refine sq fun _ hK11=>sqr fun _ hK12=>mv h6 rfl fun _ h7=>bv h7 (z:=.bool (decide (((m1+1:Nat):Int)≤32))) rfl (cLe _ _ _ _ rfl) fun _ h9=>h9.sn [17,6,5,4,3,2,0] rfl fun h10=>hK12 _ _ ?_
 rcases bC (decide (((m1+1:Nat):Int)≤32)) with hc1 | hc1
 ·skip
  have hp1:((m1+1:Nat):Int)≤32:=(dT hc1)
  refine wcT h10 rfl hc1<|h10.sk [6,5,4,3,2,0] rfl fun h11=>wp_skip<|hK11 _ _<|sq fun _ hK13=>wp_block ?_
  refine sq fun _ hK14=>?_
  rcases bC (decide (m1=0)) with hc2 | hc2
  ·skip
   have hp2:m1=0:=(dT hc2)
   refine wp_region_lit<|mvs 2 h11 rfl fun _ h12=>fav h12 rfl (fQ 2) fun _ h13=>ldv h13 s4 3 υ35 rfl rfl rfl rfl fun _ h14=>mv h14 rfl fun _ h15=>cl h15 rfl (cF func8) (Fa (i:=((m1+1:Nat):Int)) (s4.pk [4,5,0,1,2,3,6] rfl) hM (Afc hV hF (m:=m1) ω ω)) fun _ v1 w6 r1 h16=>?_
   obtain ⟨rfl,s5⟩:=r1
   refine mvs 3 h16 rfl fun _ h17=>so (wn rfl) fun _ hK15=>AH h17 rfl rfl rfl rfl (z:=[ν 0,ν 0,ν 0,ν 0,ν 0,ν 0,ν 0,ν 0,ν 0,ν 0,ν 0,ν 0,ν 0,ν 0,ν 0]) (fun _=>rfl) s5 fun _ g3 w7 h18 s6 _ _=>hK15 _ _ ?_
   refine stA h18 s6 0 rfl rfl rfl κ rfl rfl rfl rfl fun _ w8 h19 s7 _=>mv h19 rfl fun _ h20=>h20.sn [8,7,6,5,4,3,2,0] rfl fun h21=>hK14 _ _<|sq fun _ hK16=>sqr fun _ hK17=>mv h21 rfl fun _ h22=>bv h22 (z:=.bool false) rfl (cNe _ _ _ _ (show decide ((0:Int)≠0)=false from rfl)) fun _ h23=>h23.sn [30,8,7,6,5,4,3,2,0] rfl fun h24=>hK17 _ _<|wcF h24 rfl rfl ?_
   refine h24.sk [8,7,6,5,4,3,2,0] rfl fun h25=>wp_skip<|hK16 _ _<|sqr fun _ hK18=>mv h25 rfl fun _ h26=>sw1 h26 rfl (v:=.agg (Ak (⟨2,1,0,0,0,0,0,0,0,0,0,0,0,0,0⟩:InoT)).toArray) (rld h26 rfl rfl (ldA υ25 rfl (n:=15) κ (s7.get 0 rfl:Blk _ _ _ _) rfl rfl)) fun _ h27=>sv1 h27 rfl (v:=.pointer (some ⟨g2,(m1+1)*15,none⟩)) (Bq h27 rfl rfl rfl (fun w=>PC g2 (j:=m1+1) ω ω w)) fun _ h28=>so (wn rfl) fun _ hK19=>FN h28 rfl rfl s7 3 rfl rfl rfl (Ak (⟨2,1,0,0,0,0,0,0,0,0,0,0,0,0,0⟩:InoT)) rfl κ rfl (by rw [RM EX];show (m1+1)*15+15≤_;omega) (L':=((soA m1).set (m1+1) (⟨2,1,0,0,0,0,0,0,0,0,0,0,0,0,0⟩:InoT)).flatMap Ak) (Xv EX ω rfl) (cs':=[Ab g3 25 (Ak (⟨2,1,0,0,0,0,0,0,0,0,0,0,0,0,0⟩:InoT)),Ab mx 99 [π K.tg],txP K ta tc M P,Ab g2 116 (((soA m1).set (m1+1) (⟨2,1,0,0,0,0,0,0,0,0,0,0,0,0,0⟩:InoT)).flatMap Ak),Ab g1 115 ((List.replicate 33 0).map iV),Ab g7 27 ((Aj).map Ac),Ab vx 39 (prC (π pg) (π K.tg) (π mx) (.pointer none)),Ch.many R]) rfl fun _ w9 h29 s8 _=>hK19 _ _ ?_
   refine h29.sn [8,7,6,5,4,3,2,0] rfl fun h30=>hK18 _ _<|sq fun _ hK20=>sqr fun _ hK21=>mv h30 rfl fun _ h31=>wpList_nil<|hK21 _ _<|wp_block ?_
   refine CF (fun (k:Nat) a' w'=>Kn 162 [(9,ν (k:Int)),(8,ν 0),(7,π g3),(6,ν ((m1+1:Nat):Int)),(5,π g2),(4,π g1),(3,π g7),(2,.bool false),(0,π vx)] a'∧Sep w' [Ab g3 25 (Ak (⟨2,1,0,0,0,0,0,0,0,0,0,0,0,0,0⟩:InoT)),Ab mx 99 [π K.tg],txP K ta tc M P,Ab g2 116 (((soA m1).set (m1+1) (⟨2,1,0,0,0,0,0,0,0,0,0,0,0,0,0⟩:InoT)).flatMap Ak),Ab g1 115 ((List.replicate 33 0).map iV),Ab g7 27 ((Aj).map Ac),Ab vx 39 (prC (π pg) (π K.tg) (π mx) (.pointer none)),Ch.many R]∧(k≤4)) (fun (k:Nat)=>4-k) 0 ⟨h31.subs rfl,s8,Nat.zero_le _⟩ ?_
   rintro k1 a2 w10 ⟨h32,s9,hk130⟩ K2 hK22
   refine sq fun _ hK23=>sqr fun _ hK24=>mv h32 rfl fun _ h33=>bv h33 (z:=.bool (decide ((k1:Int)<4))) rfl (cLt _ _ _ _ rfl) fun _ h34=>h34.sn [35,9,8,7,6,5,4,3,2,0] rfl fun h35=>hK24 _ _ ?_
   rcases bC (decide ((k1:Int)<4)) with hc3 | hc3
   ·skip
    have hp3:(k1:Int)<4:=(dT hc3)
    refine wcT h35 rfl hc3<|h35.sk [9,8,7,6,5,4,3,2,0] rfl fun h36=>wp_skip<|hK23 _ _<|sq fun _ hK25=>wp_block ?_
    refine sq fun _ hK26=>sq fun _ hK27=>?_
    have s10:=s9.drew
    refine wp_region_held_drew (S:=fun w'=>Sep w' [Ab g3 25 (Ak (⟨2,1,0,0,0,0,0,0,0,0,0,0,0,0,0⟩:InoT)),Ab mx 99 [π K.tg],txP K ta tc M P,Ab g2 116 (((soA m1).set (m1+1) (⟨2,1,0,0,0,0,0,0,0,0,0,0,0,0,0⟩:InoT)).flatMap Ak),Ab g1 115 ((List.replicate 33 0).map iV),Ab g7 27 ((Aj).map Ac),Ab vx 39 (prC (π pg) (π K.tg) (π mx) (.pointer none)),Ch.many R]) κ s10 (fun hq1=>?_)
    refine tv1 hq1 h36 0 rfl rfl (v:=ν (k1:Int)) (fun w1 _=>(Au h36 rfl rfl) w1) fun _ h37=>?_
    refine tv1 hq1 h37 1 rfl rfl (v:=.pointer (some ⟨g3,3,none⟩)) (fun w1 _=>(rfa h37 rfl rfl (fQ 3)) w1) fun _ h38=>?_
    refine tv1 hq1 h38 2 rfl rfl (v:=.pointer (some ⟨g3,3+k1,none⟩)) (fun w1 _=>(Bq h38 rfl rfl rfl (fun w=>Oj g3 k1 ω ω w)) w1) fun _ h39=>?_
    refine tv1 hq1 h39 3 rfl rfl (v:=ν 0) (fun w1 hSw=>(rld h39 rfl rfl (ldB υ3 rfl (hSw.get 0 rfl:Blk _ _ _ _) ((EW (⟨2,1,0,0,0,0,0,0,0,0,0,0,0,0,0⟩:InoT) ω).trans (congrArg (fun z=>some (Value.int .i64 z)) (Wg ω)))))) fun _ h40=>?_
    refine tv1 hq1 h40 4 rfl rfl (v:=.bool false) (fun w1 _=>BR h40 rfl rfl rfl (cNe _ _ _ _ (show decide ((0:Int)≠0)=false from rfl)) w1) fun _ h41=>?_
    refine tv1 hq1 h41 5 rfl rfl (v:=.bool false) (fun w1 _=>(Au h41 rfl rfl) w1) fun _ h42=>?_
    refine tu hq1 h42 6 rfl rfl rfl rfl κ κ κ (fun _ _ _ _ h=>h) (wT h42 (E:=false) rfl rfl rfl) fun _ h43=>?_
    refine tu hq1 h43 7 rfl rfl rfl rfl κ κ κ (fun _ _ _ _ h=>h) (wT h43 (E:=false) rfl rfl rfl) fun _ h44=>?_
    refine tu hq1 h44 8 rfl rfl rfl rfl κ κ κ (fun _ _ _ _ h=>h) (wT h44 (E:=false) rfl rfl rfl) fun _ h45=>?_
    refine tu hq1 h45 9 rfl rfl rfl rfl κ κ κ (fun _ _ _ _ h=>h) (wT h45 (E:=false) rfl rfl rfl) fun _ h46=>?_
    refine tu hq1 h46 10 rfl rfl rfl rfl κ κ κ (fun _ _ _ _ h=>h) (wT h46 (E:=false) rfl rfl rfl) fun _ h47=>?_
    refine tu hq1 h47 11 rfl rfl rfl rfl κ κ κ (fun _ _ _ _ h=>h) (wT h47 (E:=false) rfl rfl rfl) fun _ h48=>?_
    refine tv1 hq1 h48 12 rfl rfl (v:=.bool false) (fun w1 _=>(BD h48 rfl rfl rfl) w1) fun _ h49=>?_
    refine h49.sk [50,9,8,7,6,5,4,3,2,0] rfl fun h50=>?_
    refine wpAnyH_done κ ?_ _
    refine hK27 _ _ ?_
    refine wcF h50 rfl rfl<|h50.sk [9,8,7,6,5,4,3,2,0] rfl fun h51=>wp_skip<|hK26 _ _ ?_
    have s11:=s10.drew
    refine wp_region_held_drew (S:=fun w'=>Sep w' [Ab g3 25 (Ak (⟨2,1,0,0,0,0,0,0,0,0,0,0,0,0,0⟩:InoT)),Ab mx 99 [π K.tg],txP K ta tc M P,Ab g2 116 (((soA m1).set (m1+1) (⟨2,1,0,0,0,0,0,0,0,0,0,0,0,0,0⟩:InoT)).flatMap Ak),Ab g1 115 ((List.replicate 33 0).map iV),Ab vx 39 (prC (π pg) (π K.tg) (π mx) (.pointer none)),Ch.many R]) κ (s11.pk [0,1,2,3,4,6,7] rfl) (fun hq2=>?_)
    refine tv1 hq2 h51 1 rfl rfl (v:=ν (k1:Int)) (fun w1 _=>(Au h51 rfl rfl) w1) fun _ h52=>?_
    refine tv1 hq2 h52 2 rfl rfl (v:=.pointer (some ⟨g3,3,none⟩)) (fun w1 _=>(rfa h52 rfl rfl (fQ 3)) w1) fun _ h53=>?_
    refine tv1 hq2 h53 3 rfl rfl (v:=.pointer (some ⟨g3,3+k1,none⟩)) (fun w1 _=>(Bq h53 rfl rfl rfl (fun w=>Oj g3 k1 ω ω w)) w1) fun _ h54=>?_
    refine tv1 hq2 h54 4 rfl rfl (v:=ν 0) (fun w1 hSw=>(rld h54 rfl rfl (ldB υ3 rfl (hSw.get 0 rfl:Blk _ _ _ _) ((EW (⟨2,1,0,0,0,0,0,0,0,0,0,0,0,0,0⟩:InoT) ω).trans (congrArg (fun z=>some (Value.int .i64 z)) (Wg ω)))))) fun _ h55=>?_
    refine to_ 0 rfl (wn rfl) κ fun _ hK28=>OM h55 rfl rfl rfl (v:=.agg (Ai Aj)) (w':=w10.drew.drew) ((rld h55 rfl rfl (Il υ27 (s11.get 5 rfl:Blk _ _ _ _) (Ca _ rfl)))) fun _ h56=>hK28 _ _ (s11.pk [0,1,2,3,4,6,7] rfl) fun hq3=>?_
    refine to_ 5 rfl (wn rfl) κ fun _ hK29=>Be h56 rfl rfl rfl (xs:=[.tmp 51,.tmp 55]) rfl (cF func16) rfl (vs:=[.agg (Ai Aj),ν 0]) rfl (args:=#[.agg (Ai Aj),ν 0]) rfl (Abz s11) fun _ v2 w11 r2 h57=>?_
    obtain ⟨rfl,s12⟩:=r2
    refine hK29 _ _ (s12.pk [0,1,2,3,4,6,7] rfl) fun hq4=>?_
    refine to_ 6 rfl (wn rfl) κ fun _ hK30=>Mz h57 rfl rfl s12 5 rfl (Ca _ rfl) (Ca _ rfl) rfl rfl (cs':=[Ab g3 25 (Ak (⟨2,1,0,0,0,0,0,0,0,0,0,0,0,0,0⟩:InoT)),Ab mx 99 [π K.tg],txP K ta tc M P,Ab g2 116 (((soA m1).set (m1+1) (⟨2,1,0,0,0,0,0,0,0,0,0,0,0,0,0⟩:InoT)).flatMap Ak),Ab g1 115 ((List.replicate 33 0).map iV),Ab g7 27 ((Aj).map Ac),Ab vx 39 (prC (π pg) (π K.tg) (π mx) (.pointer none)),Ch.many R]) rfl fun _ w12 h58 s13 _=>?_
    refine hK30 _ _ (s13.pk [0,1,2,3,4,6,7] rfl) fun hq5=>h58.sk [9,8,7,6,5,4,3,2,0] rfl fun h59=>?_
    refine wpAnyH_done κ ?_ _
    refine hK25 _ _ ?_
    refine wp_region_lit<|mv h59 rfl fun _ h60=>bv h60 (z:=ν ((k1+1:Nat):Int)) rfl (DE _ _ _ ω ω ω) fun _ h61=>h61.sk [37,36,8,7,6,5,4,3,2,0] rfl fun h62=>mv h62 rfl fun _ h63=>h63.sk [9,8,7,6,5,4,3,2,0] rfl fun h64=>wpList_nil ?_
    exact hK22 (k1+1) _ _ ⟨h64.subs rfl,s13,ω⟩ ω
   ·skip
    have hp4:¬ ((k1:Int)<4):=(dF hc3)
    refine wcF h35 rfl hc3<|h35.sk [9,8,7,6,5,4,3,2,0] rfl fun h65=>wp_exit ?_
    refine hK20 _ _ ?_
    refine sq fun _ hK31=>sqr fun _ hK32=>fav h65 rfl (fQ 0) fun _ h66=>ldv h66 s9 0 υ3 rfl rfl rfl rfl fun _ h67=>bv h67 (z:=.bool false) rfl (cNe _ _ _ _ (show decide ((2:Int)≠2)=false from rfl)) fun _ h68=>h68.sn [59,9,8,7,6,5,4,3,2,0] rfl fun h69=>hK32 _ _<|wcF h69 rfl rfl<|h69.sk [9,8,7,6,5,4,3,2,0] rfl fun h70=>wp_skip<|hK31 _ _<|sq fun _ hK33=>wp_region_lit ?_
    refine mvs 2 h70 rfl fun _ h71=>fav h71 rfl (fQ 2) fun _ h72=>ldv h72 s9 6 υ35 rfl rfl rfl rfl fun _ h73=>mv h73 rfl fun _ h74=>cl h74 rfl (cF func54) (QH (s9.pk [1,2,0,3,4,5,6,7] rfl) hM (Aba hV hF (m:=m1) ω)) fun _ v3 w13 r3 h75=>?_
    obtain ⟨rfl,s14⟩:=r3
    refine mvs 3 h75 rfl fun _ h76=>so (wn rfl) fun _ hK34=>AH h76 rfl rfl rfl rfl (z:=Am AB) (fun _=>rfl) s14 fun _ g4 w14 h77 s15 _ _=>hK34 _ _ ?_
    refine so (wn rfl) fun _ hK35=>Fj h77 rfl rfl s15 0 rfl Aq Aq rfl rfl (cs':=[Ab g4 111 (Am AB),Ab mx 99 [π K.tg],txP K ta tc M P,Ab g3 25 (Ak (⟨2,1,0,0,0,0,0,0,0,0,0,0,0,0,0⟩:InoT)),Ab g2 116 (((soA m1).set (m1+1) (⟨2,1,0,0,0,0,0,0,0,0,0,0,0,0,0⟩:InoT)).flatMap Ak),Ab g1 115 ((List.replicate 33 0).map iV),Ab g7 27 ((Aj).map Ac),Ab vx 39 (prC (π pg) (π K.tg) (π mx) (.pointer none)),Ch.many R]) rfl fun _ w15 h78 s16 _=>hK35 _ _ ?_
    refine mv h78 rfl fun _ h79=>h79.sn [11,10,9,8,7,6,5,4,3,2,0] rfl fun h80=>hK33 _ _<|sq fun _ hK36=>sqr fun _ hK37=>mv h80 rfl fun _ h81=>bv h81 (z:=.bool false) rfl (cNe _ _ _ _ (show decide ((0:Int)≠0)=false from rfl)) fun _ h82=>h82.sn [70,11,10,9,8,7,6,5,4,3,2,0] rfl fun h83=>hK37 _ _<|wcF h83 rfl rfl<|h83.sk [11,10,9,8,7,6,5,4,3,2,0] rfl fun h84=>?_
    refine wp_skip<|hK36 _ _<|sqr fun _ hK38=>mv h84 rfl fun _ h85=>wpList_nil<|hK38 _ _<|sq fun _ hK39=>sqr fun _ hK40=>mv h85 rfl fun _ h86=>wpList_nil<|hK40 _ _<|wp_block ?_
    refine CF (fun (n:Nat) a' w'=>Kn 162 [(13,ν (n:Int)),(12,ν 0),(11,ν 0),(10,π g4),(9,ν (k1:Int)),(8,ν 0),(7,π g3),(6,ν ((m1+1:Nat):Int)),(5,π g2),(4,π g1),(3,π g7),(2,.bool false),(0,π vx)] a'∧Sep w' [Ab g4 111 (Am AB),Ab mx 99 [π K.tg],txP K ta tc M P,Ab g3 25 (Ak (⟨2,1,0,0,0,0,0,0,0,0,0,0,0,0,0⟩:InoT)),Ab g2 116 (((soA m1).set (m1+1) (⟨2,1,0,0,0,0,0,0,0,0,0,0,0,0,0⟩:InoT)).flatMap Ak),Ab g1 115 ((List.replicate 33 0).map iV),Ab g7 27 ((Aj).map Ac),Ab vx 39 (prC (π pg) (π K.tg) (π mx) (.pointer none)),Ch.many R]∧(n≤16)) (fun (n:Nat)=>16-n) 0 ⟨h86.subs rfl,s16,Nat.zero_le _⟩ ?_
    rintro n287 a3 w16 ⟨h87,s17,hn286⟩ K3 hK41
    refine sq fun _ hK42=>sqr fun _ hK43=>mv h87 rfl fun _ h88=>bv h88 (z:=.bool (decide ((n287:Int)<16))) rfl (cLt _ _ _ _ rfl) fun _ h89=>h89.sn [72,13,12,11,10,9,8,7,6,5,4,3,2,0] rfl fun h90=>hK43 _ _ ?_
    rcases bC (decide ((n287:Int)<16)) with hc4 | hc4
    ·skip
     have hp5:(n287:Int)<16:=(dT hc4)
     refine wcT h90 rfl hc4<|h90.sk [13,12,11,10,9,8,7,6,5,4,3,2,0] rfl fun h91=>wp_skip<|hK42 _ _<|sq fun _ hK44=>wp_block ?_
     refine sqr fun _ hK45=>mv h91 rfl fun _ h92=>sv1 h92 rfl (v:=.pointer (some ⟨g4,n287*2,none⟩)) (Bq h92 rfl rfl rfl (fun w=>Abt g4 n287 ω ω w)) fun _ h93=>sv1 h93 rfl (v:=.pointer (some ⟨g4,n287*2+0,none⟩)) (rfa h93 rfl rfl (fQ 0)) fun _ h94=>sw1 h94 rfl (v:=.string ⟨#[]⟩) (rld h94 rfl rfl (ldB υ9 rfl (s17.get 0 rfl:Blk _ _ _ _) (ST ω))) fun _ h95=>bv h95 (z:=.bool false) rfl (SX _ _ _) fun _ h96=>h96.sn [79,13,12,11,10,9,8,7,6,5,4,3,2,0] rfl fun h97=>hK45 _ _<|wcF h97 rfl rfl<|h97.sk [13,12,11,10,9,8,7,6,5,4,3,2,0] rfl fun h98=>?_
     refine wp_skip<|hK44 _ _<|wp_region_lit<|mv h98 rfl fun _ h99=>bv h99 (z:=ν ((n287+1:Nat):Int)) rfl (DE _ _ _ ω ω ω) fun _ h100=>h100.sk [74,73,12,11,10,9,8,7,6,5,4,3,2,0] rfl fun h101=>mv h101 rfl fun _ h102=>h102.sk [13,12,11,10,9,8,7,6,5,4,3,2,0] rfl fun h103=>wpList_nil ?_
     exact hK41 (n287+1) _ _ ⟨h103.subs rfl,s17,ω⟩ ω
    ·skip
     have hp6:¬ ((n287:Int)<16):=(dF hc4)
     refine wcF h90 rfl hc4<|h90.sk [13,12,11,10,9,8,7,6,5,4,3,2,0] rfl fun h104=>wp_exit ?_
     refine hK39 _ _ ?_
     refine sqr fun _ hK46=>mv h104 rfl fun _ h105=>fav h105 rfl (fQ 2) fun _ h106=>ldv h106 s17 3 υ3 rfl rfl rfl rfl fun _ h107=>bv h107 (z:=.bool false) rfl (cNe _ _ _ _ (show decide ((0:Int)≠0)=false from rfl)) fun _ h108=>h108.sn [93,13,12,11,10,9,8,7,6,5,4,3,2,0] rfl fun h109=>hK46 _ _<|wcF h109 rfl rfl<|h109.sk [13,12,11,10,9,8,7,6,5,4,3,2,0] rfl fun h110=>wp_skip<|hK13 _ _ ?_
     refine wp_region_lit<|mv h110 rfl fun _ h111=>bv h111 (z:=ν ((m1+2:Nat):Int)) rfl (DE _ _ _ ω ω ω) fun _ h112=>h112.sk [19,18,13,12,11,10,9,8,7,5,4,3,2,0] rfl fun h113=>mv h113 rfl fun _ h114=>h114.sk [6,13,12,11,10,9,8,7,5,4,3,2,0] rfl fun h115=>wpList_nil ?_
     exact hK10 (m1+1) _ _ ⟨h115.subs rfl,(show Sep _ [Ab g2 116 ((soA (m1+1)).flatMap Ak),Ab g1 115 ((List.replicate 33 0).map iV),Ab g7 27 ((Aj).map Ac),Ab vx 39 (prC (π pg) (π K.tg) (π mx) (.pointer none)),Ab mx 99 [π K.tg],txP K ta tc M P,Ch.many R] from by rw [Ae8 (m:=m1) ω];exact (s17.pk [4,5,6,7,1,2,8] rfl)),ω,Ie _⟩ ω
  ·skip
   have hp7:¬ (m1=0):=(dF hc2)
   refine wp_region_lit<|mvs 2 h11 rfl fun _ h116=>fav h116 rfl (fQ 2) fun _ h117=>ldv h117 s4 3 υ35 rfl rfl rfl rfl fun _ h118=>mv h118 rfl fun _ h119=>cl h119 rfl (cF func8) (Fa (i:=((m1+1:Nat):Int)) (s4.pk [4,5,0,1,2,3,6] rfl) hM (Afd hV hF (m:=m1) ω ω)) fun _ v4 w17 r4 h120=>?_
   obtain ⟨rfl,s18⟩:=r4
   refine mvs 3 h120 rfl fun _ h121=>so (wn rfl) fun _ hK47=>AH h121 rfl rfl rfl rfl (z:=[ν 0,ν 0,ν 0,ν 0,ν 0,ν 0,ν 0,ν 0,ν 0,ν 0,ν 0,ν 0,ν 0,ν 0,ν 0]) (fun _=>rfl) s18 fun _ g5 w18 h122 s19 _ _=>hK47 _ _ ?_
   refine stA h122 s19 0 rfl rfl rfl κ rfl rfl rfl rfl fun _ w19 h123 s20 _=>mv h123 rfl fun _ h124=>h124.sn [8,7,6,5,4,3,2,0] rfl fun h125=>hK14 _ _<|sq fun _ hK48=>sqr fun _ hK49=>mv h125 rfl fun _ h126=>bv h126 (z:=.bool false) rfl (cNe _ _ _ _ (show decide ((0:Int)≠0)=false from rfl)) fun _ h127=>h127.sn [30,8,7,6,5,4,3,2,0] rfl fun h128=>hK49 _ _<|wcF h128 rfl rfl ?_
   refine h128.sk [8,7,6,5,4,3,2,0] rfl fun h129=>wp_skip<|hK48 _ _<|sqr fun _ hK50=>mv h129 rfl fun _ h130=>sw1 h130 rfl (v:=.agg (Ak AD).toArray) (rld h130 rfl rfl (ldA υ25 rfl (n:=15) κ (s20.get 0 rfl:Blk _ _ _ _) rfl rfl)) fun _ h131=>sv1 h131 rfl (v:=.pointer (some ⟨g2,(m1+1)*15,none⟩)) (Bq h131 rfl rfl rfl (fun w=>PC g2 (j:=m1+1) ω ω w)) fun _ h132=>so (wn rfl) fun _ hK51=>FN h132 rfl rfl s20 3 rfl rfl rfl (Ak AD) rfl κ rfl (by rw [RM EX];show (m1+1)*15+15≤_;omega) (L':=((soA m1).set (m1+1) AD).flatMap Ak) (Xv EX ω rfl) (cs':=[Ab g5 25 (Ak AD),Ab mx 99 [π K.tg],txP K ta tc M P,Ab g2 116 (((soA m1).set (m1+1) AD).flatMap Ak),Ab g1 115 ((List.replicate 33 0).map iV),Ab g7 27 ((Aj).map Ac),Ab vx 39 (prC (π pg) (π K.tg) (π mx) (.pointer none)),Ch.many R]) rfl fun _ w20 h133 s21 _=>hK51 _ _ ?_
   refine h133.sn [8,7,6,5,4,3,2,0] rfl fun h134=>hK50 _ _<|sq fun _ hK52=>sqr fun _ hK53=>mv h134 rfl fun _ h135=>wpList_nil<|hK53 _ _<|wp_block ?_
   refine CF (fun (k:Nat) a' w'=>Kn 162 [(9,ν (k:Int)),(8,ν 0),(7,π g5),(6,ν ((m1+1:Nat):Int)),(5,π g2),(4,π g1),(3,π g7),(2,.bool false),(0,π vx)] a'∧Sep w' [Ab g5 25 (Ak AD),Ab mx 99 [π K.tg],txP K ta tc M P,Ab g2 116 (((soA m1).set (m1+1) AD).flatMap Ak),Ab g1 115 ((List.replicate 33 0).map iV),Ab g7 27 ((Aj).map Ac),Ab vx 39 (prC (π pg) (π K.tg) (π mx) (.pointer none)),Ch.many R]∧(k≤4)) (fun (k:Nat)=>4-k) 0 ⟨h135.subs rfl,s21,Nat.zero_le _⟩ ?_
   rintro k2 a4 w21 ⟨h136,s22,hk413⟩ K4 hK54
   refine sq fun _ hK55=>sqr fun _ hK56=>mv h136 rfl fun _ h137=>bv h137 (z:=.bool (decide ((k2:Int)<4))) rfl (cLt _ _ _ _ rfl) fun _ h138=>h138.sn [35,9,8,7,6,5,4,3,2,0] rfl fun h139=>hK56 _ _ ?_
   rcases bC (decide ((k2:Int)<4)) with hc5 | hc5
   ·skip
    have hp8:(k2:Int)<4:=(dT hc5)
    refine wcT h139 rfl hc5<|h139.sk [9,8,7,6,5,4,3,2,0] rfl fun h140=>wp_skip<|hK55 _ _<|sq fun _ hK57=>wp_block ?_
    refine sq fun _ hK58=>sq fun _ hK59=>?_
    have s23:=s22.drew
    refine wp_region_held_drew (S:=fun w'=>Sep w' [Ab g5 25 (Ak AD),Ab mx 99 [π K.tg],txP K ta tc M P,Ab g2 116 (((soA m1).set (m1+1) AD).flatMap Ak),Ab g1 115 ((List.replicate 33 0).map iV),Ab g7 27 ((Aj).map Ac),Ab vx 39 (prC (π pg) (π K.tg) (π mx) (.pointer none)),Ch.many R]) κ s23 (fun hq6=>?_)
    refine tv1 hq6 h140 0 rfl rfl (v:=ν (k2:Int)) (fun w1 _=>(Au h140 rfl rfl) w1) fun _ h141=>?_
    refine tv1 hq6 h141 1 rfl rfl (v:=.pointer (some ⟨g5,3,none⟩)) (fun w1 _=>(rfa h141 rfl rfl (fQ 3)) w1) fun _ h142=>?_
    refine tv1 hq6 h142 2 rfl rfl (v:=.pointer (some ⟨g5,3+k2,none⟩)) (fun w1 _=>(Bq h142 rfl rfl rfl (fun w=>Oj g5 k2 ω ω w)) w1) fun _ h143=>?_
    refine tv1 hq6 h143 3 rfl rfl (v:=ν 0) (fun w1 hSw=>(rld h143 rfl rfl (ldB υ3 rfl (hSw.get 0 rfl:Blk _ _ _ _) ((EW AD ω).trans (congrArg (fun z=>some (Value.int .i64 z)) (Wh ω)))))) fun _ h144=>?_
    refine tv1 hq6 h144 4 rfl rfl (v:=.bool false) (fun w1 _=>BR h144 rfl rfl rfl (cNe _ _ _ _ (show decide ((0:Int)≠0)=false from rfl)) w1) fun _ h145=>?_
    refine tv1 hq6 h145 5 rfl rfl (v:=.bool false) (fun w1 _=>(Au h145 rfl rfl) w1) fun _ h146=>?_
    refine tu hq6 h146 6 rfl rfl rfl rfl κ κ κ (fun _ _ _ _ h=>h) (wT h146 (E:=false) rfl rfl rfl) fun _ h147=>?_
    refine tu hq6 h147 7 rfl rfl rfl rfl κ κ κ (fun _ _ _ _ h=>h) (wT h147 (E:=false) rfl rfl rfl) fun _ h148=>?_
    refine tu hq6 h148 8 rfl rfl rfl rfl κ κ κ (fun _ _ _ _ h=>h) (wT h148 (E:=false) rfl rfl rfl) fun _ h149=>?_
    refine tu hq6 h149 9 rfl rfl rfl rfl κ κ κ (fun _ _ _ _ h=>h) (wT h149 (E:=false) rfl rfl rfl) fun _ h150=>?_
    refine tu hq6 h150 10 rfl rfl rfl rfl κ κ κ (fun _ _ _ _ h=>h) (wT h150 (E:=false) rfl rfl rfl) fun _ h151=>?_
    refine tu hq6 h151 11 rfl rfl rfl rfl κ κ κ (fun _ _ _ _ h=>h) (wT h151 (E:=false) rfl rfl rfl) fun _ h152=>?_
    refine tv1 hq6 h152 12 rfl rfl (v:=.bool false) (fun w1 _=>(BD h152 rfl rfl rfl) w1) fun _ h153=>?_
    refine h153.sk [50,9,8,7,6,5,4,3,2,0] rfl fun h154=>?_
    refine wpAnyH_done κ ?_ _
    refine hK59 _ _ ?_
    refine wcF h154 rfl rfl<|h154.sk [9,8,7,6,5,4,3,2,0] rfl fun h155=>wp_skip<|hK58 _ _ ?_
    have s24:=s23.drew
    refine wp_region_held_drew (S:=fun w'=>Sep w' [Ab g5 25 (Ak AD),Ab mx 99 [π K.tg],txP K ta tc M P,Ab g2 116 (((soA m1).set (m1+1) AD).flatMap Ak),Ab g1 115 ((List.replicate 33 0).map iV),Ab vx 39 (prC (π pg) (π K.tg) (π mx) (.pointer none)),Ch.many R]) κ (s24.pk [0,1,2,3,4,6,7] rfl) (fun hq7=>?_)
    refine tv1 hq7 h155 1 rfl rfl (v:=ν (k2:Int)) (fun w1 _=>(Au h155 rfl rfl) w1) fun _ h156=>?_
    refine tv1 hq7 h156 2 rfl rfl (v:=.pointer (some ⟨g5,3,none⟩)) (fun w1 _=>(rfa h156 rfl rfl (fQ 3)) w1) fun _ h157=>?_
    refine tv1 hq7 h157 3 rfl rfl (v:=.pointer (some ⟨g5,3+k2,none⟩)) (fun w1 _=>(Bq h157 rfl rfl rfl (fun w=>Oj g5 k2 ω ω w)) w1) fun _ h158=>?_
    refine tv1 hq7 h158 4 rfl rfl (v:=ν 0) (fun w1 hSw=>(rld h158 rfl rfl (ldB υ3 rfl (hSw.get 0 rfl:Blk _ _ _ _) ((EW AD ω).trans (congrArg (fun z=>some (Value.int .i64 z)) (Wh ω)))))) fun _ h159=>?_
    refine to_ 0 rfl (wn rfl) κ fun _ hK60=>OM h159 rfl rfl rfl (v:=.agg (Ai Aj)) (w':=w21.drew.drew) ((rld h159 rfl rfl (Il υ27 (s24.get 5 rfl:Blk _ _ _ _) (Ca _ rfl)))) fun _ h160=>hK60 _ _ (s24.pk [0,1,2,3,4,6,7] rfl) fun hq8=>?_
    refine to_ 5 rfl (wn rfl) κ fun _ hK61=>Be h160 rfl rfl rfl (xs:=[.tmp 51,.tmp 55]) rfl (cF func16) rfl (vs:=[.agg (Ai Aj),ν 0]) rfl (args:=#[.agg (Ai Aj),ν 0]) rfl (Abz s24) fun _ v5 w22 r5 h161=>?_
    obtain ⟨rfl,s25⟩:=r5
    refine hK61 _ _ (s25.pk [0,1,2,3,4,6,7] rfl) fun hq9=>?_
    refine to_ 6 rfl (wn rfl) κ fun _ hK62=>Mz h161 rfl rfl s25 5 rfl (Ca _ rfl) (Ca _ rfl) rfl rfl (cs':=[Ab g5 25 (Ak AD),Ab mx 99 [π K.tg],txP K ta tc M P,Ab g2 116 (((soA m1).set (m1+1) AD).flatMap Ak),Ab g1 115 ((List.replicate 33 0).map iV),Ab g7 27 ((Aj).map Ac),Ab vx 39 (prC (π pg) (π K.tg) (π mx) (.pointer none)),Ch.many R]) rfl fun _ w23 h162 s26 _=>?_
    refine hK62 _ _ (s26.pk [0,1,2,3,4,6,7] rfl) fun hq10=>h162.sk [9,8,7,6,5,4,3,2,0] rfl fun h163=>?_
    refine wpAnyH_done κ ?_ _
    refine hK57 _ _ ?_
    refine wp_region_lit<|mv h163 rfl fun _ h164=>bv h164 (z:=ν ((k2+1:Nat):Int)) rfl (DE _ _ _ ω ω ω) fun _ h165=>h165.sk [37,36,8,7,6,5,4,3,2,0] rfl fun h166=>mv h166 rfl fun _ h167=>h167.sk [9,8,7,6,5,4,3,2,0] rfl fun h168=>wpList_nil ?_
    exact hK54 (k2+1) _ _ ⟨h168.subs rfl,s26,ω⟩ ω
   ·skip
    have hp9:¬ ((k2:Int)<4):=(dF hc5)
    refine wcF h139 rfl hc5<|h139.sk [9,8,7,6,5,4,3,2,0] rfl fun h169=>wp_exit ?_
    refine hK52 _ _ ?_
    refine sq fun _ hK63=>sqr fun _ hK64=>fav h169 rfl (fQ 0) fun _ h170=>ldv h170 s22 0 υ3 rfl rfl rfl rfl fun _ h171=>bv h171 (z:=.bool true) rfl (cNe _ _ _ _ (show decide ((0:Int)≠2)=true from rfl)) fun _ h172=>h172.sn [59,9,8,7,6,5,4,3,2,0] rfl fun h173=>hK64 _ _<|wcT h173 rfl rfl<|h173.sk [9,8,7,6,5,4,3,2,0] rfl fun h174=>wp_exit ?_
    refine hK13 _ _ ?_
    refine wp_region_lit<|mv h174 rfl fun _ h175=>bv h175 (z:=ν ((m1+2:Nat):Int)) rfl (DE _ _ _ ω ω ω) fun _ h176=>h176.sk [19,18,9,8,7,5,4,3,2,0] rfl fun h177=>mv h177 rfl fun _ h178=>h178.sk [6,9,8,7,5,4,3,2,0] rfl fun h179=>wpList_nil ?_
    exact hK10 (m1+1) _ _ ⟨h179.subs rfl,(show Sep _ [Ab g2 116 ((soA (m1+1)).flatMap Ak),Ab g1 115 ((List.replicate 33 0).map iV),Ab g7 27 ((Aj).map Ac),Ab vx 39 (prC (π pg) (π K.tg) (π mx) (.pointer none)),Ab mx 99 [π K.tg],txP K ta tc M P,Ch.many R] from by rw [Ae9 (m:=m1) ω];exact (s22.pk [3,4,5,6,1,2,7] rfl)),ω,Ie _⟩ ω
 ·skip
  have hp10:¬ (((m1+1:Nat):Int)≤32):=(dF hc1)
  refine wcF h10 rfl hc1<|h10.sk [6,5,4,3,2,0] rfl fun h180=>wp_exit ?_
  refine hK8 _ _ ?_
  refine sq fun _ hK65=>sqr fun _ hK66=>mv h180 rfl fun _ h181=>wpList_nil<|hK66 _ _<|wp_block ?_
  obtain rfl:m1=32:=ω
  refine CF (fun (q:Nat) a' w'=>Kn 162 [(14,ν ((q+1:Nat):Int)),(5,π g2),(4,π g1),(3,π g7),(2,.bool false),(0,π vx)] a'∧Sep w' [Ab g2 116 ((soA 32).flatMap Ak),Ab g1 115 ((List.replicate 33 0).map iV),Ab g7 27 ((Aj).map Ac),Ab vx 39 (prC (π pg) (π K.tg) (π mx) (.pointer none)),Ab mx 99 [π K.tg],txP K ta tc M P,Ch.many R]∧(q≤32)) (fun (q:Nat)=>32-q) 0 ⟨h181.subs rfl,s4,Nat.zero_le _⟩ ?_
  rintro q528 a5 w24 ⟨h182,s27,hq11⟩ K5 hK67
  refine sq fun _ hK68=>sqr fun _ hK69=>mv h182 rfl fun _ h183=>bv h183 (z:=.bool (decide (((q528+1:Nat):Int)≤32))) rfl (cLe _ _ _ _ rfl) fun _ h184=>h184.sn [95,14,5,4,3,2,0] rfl fun h185=>hK69 _ _ ?_
  rcases bC (decide (((q528+1:Nat):Int)≤32)) with hc6 | hc6
  ·skip
   have hp11:((q528+1:Nat):Int)≤32:=(dT hc6)
   refine wcT h185 rfl hc6<|h185.sk [14,5,4,3,2,0] rfl fun h186=>wp_skip<|hK68 _ _<|sq fun _ hK70=>wp_block ?_
   refine sq fun _ hK71=>?_
   rcases bC (decide (q528=0)) with hc7 | hc7
   ·skip
    have hp12:q528=0:=(dT hc7)
    refine wp_region_lit<|mv h186 rfl fun _ h187=>sv1 h187 rfl (v:=.pointer (some ⟨g2,(q528+1)*15,none⟩)) (Bq h187 rfl rfl rfl (fun w=>PC g2 (j:=q528+1) ω ω w)) fun _ h188=>sw1 h188 rfl (v:=.agg (Ak (⟨2,1,0,0,0,0,0,0,0,0,0,0,0,0,0⟩:InoT)).toArray) (rld h188 rfl rfl (ldA υ25 rfl (n:=15) κ (s27.get 0 rfl:Blk _ _ _ _) ((Xu EX AD (by rw [Ie];omega) rfl).trans (congrArg Ak (Afa ω ω))) rfl)) fun _ h189=>so (wn rfl) fun _ hK72=>AH h189 rfl rfl rfl rfl (z:=[ν 0,ν 0,ν 0,ν 0,ν 0,ν 0,ν 0,ν 0,ν 0,ν 0,ν 0,ν 0,ν 0,ν 0,ν 0]) (fun _=>rfl) s27 fun _ g6 w25 h190 s28 _ _=>hK72 _ _ ?_
    refine stA h190 s28 0 rfl rfl rfl κ rfl rfl rfl rfl fun _ w26 h191 s29 _=>h191.sn [15,14,5,4,3,2,0] rfl fun h192=>hK71 _ _<|sq fun _ hK73=>sqr fun _ hK74=>fav h192 rfl (fQ 0) fun _ h193=>ldv h193 s29 0 υ3 rfl rfl rfl rfl fun _ h194=>bv h194 (z:=.bool false) rfl (cEq _ _ _ _ (show decide ((2:Int)=0)=false from rfl)) fun _ h195=>mv h195 rfl fun _ h196=>su h196 (wT h196 (E:=false) rfl rfl rfl) rfl rfl rfl fun _ h197=>su h197 (wT h197 (E:=false) rfl rfl rfl) rfl rfl rfl fun _ h198=>?_
    refine su h198 (wT h198 (E:=false) rfl rfl rfl) rfl rfl rfl fun _ h199=>su h199 (wT h199 (E:=false) rfl rfl rfl) rfl rfl rfl fun _ h200=>sv1 h200 rfl (v:=.bool false) (BD h200 rfl rfl rfl) fun _ h201=>h201.sn [109,15,14,5,4,3,2,0] rfl fun h202=>hK74 _ _<|wcF h202 rfl rfl<|h202.sk [15,14,5,4,3,2,0] rfl fun h203=>wp_skip<|hK73 _ _<|sq fun _ hK75=>sqr fun _ hK76=>fav h203 rfl (fQ 0) fun _ h204=>?_
    refine ldv h204 s29 0 υ3 rfl rfl rfl rfl fun _ h205=>bv h205 (z:=.bool true) rfl (cEq _ _ _ _ (show decide ((2:Int)=2)=true from rfl)) fun _ h206=>mv h206 rfl fun _ h207=>sv h207 (wT h207 (E:=true) rfl rfl rfl) rfl rfl rfl (v:=ν ((q528+1:Nat):Int)) (Au h207 rfl rfl) fun _ h208=>sv h208 (wT h208 (E:=true) rfl rfl rfl) rfl rfl rfl (v:=.bool true) (BR h208 rfl rfl rfl (cEq _ _ _ _ (decide_eq_true ω))) fun _ h209=>sv h209 (wT h209 (E:=true) rfl rfl rfl) rfl rfl rfl (v:=ν ((q528+1:Nat):Int)) (Au h209 rfl rfl) fun _ h210=>sv h210 (wT h210 (E:=true) rfl rfl rfl) rfl rfl rfl (v:=.pointer (some ⟨g1,q528+1,none⟩)) (Bq h210 rfl rfl rfl (fun w=>Xk g1 (j:=q528+1) ω ω w)) fun _ h211=>sw h211 (wT h211 (E:=true) rfl rfl rfl) rfl rfl rfl (v:=ν 0) (rld h211 rfl rfl (ldB υ3 rfl (s29.get 2 rfl:Blk _ _ _ _) (Yn ω))) fun _ h212=>sv h212 (wT h212 (E:=true) rfl rfl rfl) rfl rfl rfl (v:=.bool true) (BR h212 rfl rfl rfl (cEq _ _ _ _ (show decide ((0:Int)=0)=true from rfl))) fun _ h213=>sv h213 (wT h213 (E:=true) rfl rfl rfl) rfl rfl rfl (v:=.bool false) (BR h213 rfl rfl rfl (Aca _ υ4 _ _ _)) fun _ h214=>?_
    refine sv h214 (wT h214 (E:=true) rfl rfl rfl) rfl rfl rfl (v:=.bool false) (Au h214 rfl rfl) fun _ h215=>sv h215 (wF h215 (E:=false) rfl rfl rfl) rfl rfl rfl (v:=ν ((q528+1:Nat):Int)) (Au h215 rfl rfl) fun _ h216=>sv h216 (wF h216 (E:=false) rfl rfl rfl) rfl rfl rfl (v:=.pointer (some ⟨g1,q528+1,none⟩)) (Bq h216 rfl rfl rfl (fun w=>Xk g1 (j:=q528+1) ω ω w)) fun _ h217=>sw h217 (wF h217 (E:=false) rfl rfl rfl) rfl rfl rfl (v:=ν 0) (rld h217 rfl rfl (ldB υ3 rfl (s29.get 2 rfl:Blk _ _ _ _) (Yn ω))) fun _ h218=>sv h218 (wF h218 (E:=false) rfl rfl rfl) rfl rfl rfl (v:=.bool false) (BR h218 rfl rfl rfl (cGt _ _ _ _ (show decide ((0:Int)>1)=false from rfl))) fun _ h219=>sv h219 (wT h219 (E:=true) rfl rfl rfl) rfl rfl rfl (v:=.bool false) (BD h219 rfl rfl rfl) fun _ h220=>sv1 h220 rfl (v:=.bool false) (BD h220 rfl rfl rfl) fun _ h221=>h221.sn [127,15,14,5,4,3,2,0] rfl fun h222=>hK76 _ _<|wcF h222 rfl rfl ?_
    refine h222.sk [15,14,5,4,3,2,0] rfl fun h223=>wp_skip<|hK75 _ _<|sq fun _ hK77=>?_
    have s30:=s29.drew
    refine wp_region_held_drew (S:=fun w'=>Sep w' [Ab g6 25 (Ak (⟨2,1,0,0,0,0,0,0,0,0,0,0,0,0,0⟩:InoT)),Ab g2 116 ((soA 32).flatMap Ak),Ab g1 115 ((List.replicate 33 0).map iV),Ab g7 27 ((Aj).map Ac),Ab vx 39 (prC (π pg) (π K.tg) (π mx) (.pointer none)),Ab mx 99 [π K.tg],txP K ta tc M P,Ch.many R]) κ s30 (fun hq12=>?_)
    refine tv1 hq12 h223 0 rfl rfl (v:=π g6) (fun w1 _=>(rfa h223 rfl rfl (fQ 0)) w1) fun _ h224=>?_
    refine tv1 hq12 h224 1 rfl rfl (v:=ν 2) (fun w1 hSw=>(rld h224 rfl rfl (ldB υ3 rfl (hSw.get 0 rfl:Blk _ _ _ _) rfl))) fun _ h225=>?_
    refine tv1 hq12 h225 2 rfl rfl (v:=.bool false) (fun w1 _=>BR h225 rfl rfl rfl (cEq _ _ _ _ (show decide ((2:Int)=1)=false from rfl)) w1) fun _ h226=>?_
    refine tv1 hq12 h226 3 rfl rfl (v:=.bool false) (fun w1 _=>(Au h226 rfl rfl) w1) fun _ h227=>?_
    refine tu hq12 h227 4 rfl rfl rfl rfl κ κ κ (fun _ _ _ _ h=>h) (wT h227 (E:=false) rfl rfl rfl) fun _ h228=>?_
    refine tu hq12 h228 5 rfl rfl rfl rfl κ κ κ (fun _ _ _ _ h=>h) (wT h228 (E:=false) rfl rfl rfl) fun _ h229=>?_
    refine tu hq12 h229 6 rfl rfl rfl rfl κ κ κ (fun _ _ _ _ h=>h) (wT h229 (E:=false) rfl rfl rfl) fun _ h230=>?_
    refine tu hq12 h230 7 rfl rfl rfl rfl κ κ κ (fun _ _ _ _ h=>h) (wT h230 (E:=false) rfl rfl rfl) fun _ h231=>?_
    refine tu hq12 h231 8 rfl rfl rfl rfl κ κ κ (fun _ _ _ _ h=>h) (wT h231 (E:=false) rfl rfl rfl) fun _ h232=>?_
    refine tu hq12 h232 9 rfl rfl rfl rfl κ κ κ (fun _ _ _ _ h=>h) (wT h232 (E:=false) rfl rfl rfl) fun _ h233=>?_
    refine tu hq12 h233 10 rfl rfl rfl rfl κ κ κ (fun _ _ _ _ h=>h) (wT h233 (E:=false) rfl rfl rfl) fun _ h234=>?_
    refine tu hq12 h234 11 rfl rfl rfl rfl κ κ κ (fun _ _ _ _ h=>h) (wgu h234 rfl rfl rfl) fun _ h235=>?_
    refine tu hq12 h235 12 rfl rfl rfl rfl κ κ κ (fun _ _ _ _ h=>h) (wgu h235 rfl rfl rfl) fun _ h236=>?_
    refine tu hq12 h236 13 rfl rfl rfl rfl κ κ κ (fun _ _ _ _ h=>h) (wgu h236 rfl rfl rfl) fun _ h237=>?_
    refine tu hq12 h237 14 rfl rfl rfl rfl κ κ κ (fun _ _ _ _ h=>h) (wgu h237 rfl rfl rfl) fun _ h238=>?_
    refine tu hq12 h238 15 rfl rfl rfl rfl κ κ κ (fun _ _ _ _ h=>h) (wgu h238 rfl rfl rfl) fun _ h239=>?_
    refine tu hq12 h239 16 rfl rfl rfl rfl κ κ κ (fun _ _ _ _ h=>h) (wgu h239 rfl rfl rfl) fun _ h240=>?_
    refine tu hq12 h240 17 rfl rfl rfl rfl κ κ κ (fun _ _ _ _ h=>h) (wgu h240 rfl rfl rfl) fun _ h241=>?_
    refine tu hq12 h241 18 rfl rfl rfl rfl κ κ κ (fun _ _ _ _ h=>h) (wgu h241 rfl rfl rfl) fun _ h242=>?_
    refine tu hq12 h242 19 rfl rfl rfl rfl κ κ κ (fun _ _ _ _ h=>h) (wT h242 (E:=false) rfl rfl rfl) fun _ h243=>?_
    refine tv1 hq12 h243 20 rfl rfl (v:=.bool false) (fun w1 _=>(BD h243 rfl rfl rfl) w1) fun _ h244=>?_
    refine h244.sk [148,15,14,5,4,3,2,0] rfl fun h245=>?_
    refine wpAnyH_done κ ?_ _
    refine hK77 _ _ ?_
    refine wcF h245 rfl rfl<|h245.sk [15,14,5,4,3,2,0] rfl fun h246=>wp_skip<|hK70 _ _<|wp_region_lit<|mv h246 rfl fun _ h247=>bv h247 (z:=ν ((q528+2:Nat):Int)) rfl (DE _ _ _ ω ω ω) fun _ h248=>h248.sk [97,96,15,5,4,3,2,0] rfl fun h249=>mv h249 rfl fun _ h250=>h250.sk [14,15,5,4,3,2,0] rfl fun h251=>wpList_nil ?_
    exact hK67 (q528+1) _ _ ⟨h251.subs rfl,(s30.pk [1,2,3,4,5,6,7] rfl),ω⟩ ω
   ·skip
    have hp13:¬ (q528=0):=(dF hc7)
    refine wp_region_lit<|mv h186 rfl fun _ h252=>sv1 h252 rfl (v:=.pointer (some ⟨g2,(q528+1)*15,none⟩)) (Bq h252 rfl rfl rfl (fun w=>PC g2 (j:=q528+1) ω ω w)) fun _ h253=>sw1 h253 rfl (v:=.agg (Ak AD).toArray) (rld h253 rfl rfl (ldA υ25 rfl (n:=15) κ (s27.get 0 rfl:Blk _ _ _ _) ((Xu EX AD (by rw [Ie];omega) rfl).trans (congrArg Ak (Afb ω ω))) rfl)) fun _ h254=>so (wn rfl) fun _ hK78=>AH h254 rfl rfl rfl rfl (z:=[ν 0,ν 0,ν 0,ν 0,ν 0,ν 0,ν 0,ν 0,ν 0,ν 0,ν 0,ν 0,ν 0,ν 0,ν 0]) (fun _=>rfl) s27 fun _ g8 w27 h255 s31 _ _=>hK78 _ _ ?_
    refine stA h255 s31 0 rfl rfl rfl κ rfl rfl rfl rfl fun _ w28 h256 s32 _=>h256.sn [15,14,5,4,3,2,0] rfl fun h257=>hK71 _ _<|sq fun _ hK79=>sqr fun _ hK80=>fav h257 rfl (fQ 0) fun _ h258=>ldv h258 s32 0 υ3 rfl rfl rfl rfl fun _ h259=>bv h259 (z:=.bool true) rfl (cEq _ _ _ _ (show decide ((0:Int)=0)=true from rfl)) fun _ h260=>mv h260 rfl fun _ h261=>sv h261 (wT h261 (E:=true) rfl rfl rfl) rfl rfl rfl (v:=ν ((q528+1:Nat):Int)) (Au h261 rfl rfl) fun _ h262=>sv h262 (wT h262 (E:=true) rfl rfl rfl) rfl rfl rfl (v:=.pointer (some ⟨g1,q528+1,none⟩)) (Bq h262 rfl rfl rfl (fun w=>Xk g1 (j:=q528+1) ω ω w)) fun _ h263=>?_
    refine sw h263 (wT h263 (E:=true) rfl rfl rfl) rfl rfl rfl (v:=ν 0) (rld h263 rfl rfl (ldB υ3 rfl (s32.get 2 rfl:Blk _ _ _ _) (Yn ω))) fun _ h264=>sv h264 (wT h264 (E:=true) rfl rfl rfl) rfl rfl rfl (v:=.bool false) (BR h264 rfl rfl rfl (cNe _ _ _ _ (show decide ((0:Int)≠0)=false from rfl))) fun _ h265=>sv1 h265 rfl (v:=.bool false) (BD h265 rfl rfl rfl) fun _ h266=>h266.sn [109,15,14,5,4,3,2,0] rfl fun h267=>hK80 _ _<|wcF h267 rfl rfl<|h267.sk [15,14,5,4,3,2,0] rfl fun h268=>wp_skip<|hK79 _ _<|sq fun _ hK81=>sqr fun _ hK82=>fav h268 rfl (fQ 0) fun _ h269=>?_
    refine ldv h269 s32 0 υ3 rfl rfl rfl rfl fun _ h270=>bv h270 (z:=.bool false) rfl (cEq _ _ _ _ (show decide ((0:Int)=2)=false from rfl)) fun _ h271=>mv h271 rfl fun _ h272=>su h272 (wT h272 (E:=false) rfl rfl rfl) rfl rfl rfl fun _ h273=>su h273 (wT h273 (E:=false) rfl rfl rfl) rfl rfl rfl fun _ h274=>su h274 (wT h274 (E:=false) rfl rfl rfl) rfl rfl rfl fun _ h275=>su h275 (wT h275 (E:=false) rfl rfl rfl) rfl rfl rfl fun _ h276=>su h276 (wT h276 (E:=false) rfl rfl rfl) rfl rfl rfl fun _ h277=>su h277 (wT h277 (E:=false) rfl rfl rfl) rfl rfl rfl fun _ h278=>su h278 (wT h278 (E:=false) rfl rfl rfl) rfl rfl rfl fun _ h279=>?_
    refine su h279 (wT h279 (E:=false) rfl rfl rfl) rfl rfl rfl fun _ h280=>su h280 (wgu h280 rfl rfl rfl) rfl rfl rfl fun _ h281=>su h281 (wgu h281 rfl rfl rfl) rfl rfl rfl fun _ h282=>su h282 (wgu h282 rfl rfl rfl) rfl rfl rfl fun _ h283=>su h283 (wgu h283 rfl rfl rfl) rfl rfl rfl fun _ h284=>su h284 (wT h284 (E:=false) rfl rfl rfl) rfl rfl rfl fun _ h285=>sv1 h285 rfl (v:=.bool false) (BD h285 rfl rfl rfl) fun _ h286=>h286.sn [127,15,14,5,4,3,2,0] rfl fun h287=>hK82 _ _<|wcF h287 rfl rfl ?_
    refine h287.sk [15,14,5,4,3,2,0] rfl fun h288=>wp_skip<|hK81 _ _<|sq fun _ hK83=>?_
    have s33:=s32.drew
    refine wp_region_held_drew (S:=fun w'=>Sep w' [Ab g8 25 (Ak AD),Ab g2 116 ((soA 32).flatMap Ak),Ab g1 115 ((List.replicate 33 0).map iV),Ab g7 27 ((Aj).map Ac),Ab vx 39 (prC (π pg) (π K.tg) (π mx) (.pointer none)),Ab mx 99 [π K.tg],txP K ta tc M P,Ch.many R]) κ s33 (fun hq13=>?_)
    refine tv1 hq13 h288 0 rfl rfl (v:=π g8) (fun w1 _=>(rfa h288 rfl rfl (fQ 0)) w1) fun _ h289=>?_
    refine tv1 hq13 h289 1 rfl rfl (v:=ν 0) (fun w1 hSw=>(rld h289 rfl rfl (ldB υ3 rfl (hSw.get 0 rfl:Blk _ _ _ _) rfl))) fun _ h290=>?_
    refine tv1 hq13 h290 2 rfl rfl (v:=.bool false) (fun w1 _=>BR h290 rfl rfl rfl (cEq _ _ _ _ (show decide ((0:Int)=1)=false from rfl)) w1) fun _ h291=>?_
    refine tv1 hq13 h291 3 rfl rfl (v:=.bool false) (fun w1 _=>(Au h291 rfl rfl) w1) fun _ h292=>?_
    refine tu hq13 h292 4 rfl rfl rfl rfl κ κ κ (fun _ _ _ _ h=>h) (wT h292 (E:=false) rfl rfl rfl) fun _ h293=>?_
    refine tu hq13 h293 5 rfl rfl rfl rfl κ κ κ (fun _ _ _ _ h=>h) (wT h293 (E:=false) rfl rfl rfl) fun _ h294=>?_
    refine tu hq13 h294 6 rfl rfl rfl rfl κ κ κ (fun _ _ _ _ h=>h) (wT h294 (E:=false) rfl rfl rfl) fun _ h295=>?_
    refine tu hq13 h295 7 rfl rfl rfl rfl κ κ κ (fun _ _ _ _ h=>h) (wT h295 (E:=false) rfl rfl rfl) fun _ h296=>?_
    refine tu hq13 h296 8 rfl rfl rfl rfl κ κ κ (fun _ _ _ _ h=>h) (wT h296 (E:=false) rfl rfl rfl) fun _ h297=>?_
    refine tu hq13 h297 9 rfl rfl rfl rfl κ κ κ (fun _ _ _ _ h=>h) (wT h297 (E:=false) rfl rfl rfl) fun _ h298=>?_
    refine tu hq13 h298 10 rfl rfl rfl rfl κ κ κ (fun _ _ _ _ h=>h) (wT h298 (E:=false) rfl rfl rfl) fun _ h299=>?_
    refine tu hq13 h299 11 rfl rfl rfl rfl κ κ κ (fun _ _ _ _ h=>h) (wgu h299 rfl rfl rfl) fun _ h300=>?_
    refine tu hq13 h300 12 rfl rfl rfl rfl κ κ κ (fun _ _ _ _ h=>h) (wgu h300 rfl rfl rfl) fun _ h301=>?_
    refine tu hq13 h301 13 rfl rfl rfl rfl κ κ κ (fun _ _ _ _ h=>h) (wgu h301 rfl rfl rfl) fun _ h302=>?_
    refine tu hq13 h302 14 rfl rfl rfl rfl κ κ κ (fun _ _ _ _ h=>h) (wgu h302 rfl rfl rfl) fun _ h303=>?_
    refine tu hq13 h303 15 rfl rfl rfl rfl κ κ κ (fun _ _ _ _ h=>h) (wgu h303 rfl rfl rfl) fun _ h304=>?_
    refine tu hq13 h304 16 rfl rfl rfl rfl κ κ κ (fun _ _ _ _ h=>h) (wgu h304 rfl rfl rfl) fun _ h305=>?_
    refine tu hq13 h305 17 rfl rfl rfl rfl κ κ κ (fun _ _ _ _ h=>h) (wgu h305 rfl rfl rfl) fun _ h306=>?_
    refine tu hq13 h306 18 rfl rfl rfl rfl κ κ κ (fun _ _ _ _ h=>h) (wgu h306 rfl rfl rfl) fun _ h307=>?_
    refine tu hq13 h307 19 rfl rfl rfl rfl κ κ κ (fun _ _ _ _ h=>h) (wT h307 (E:=false) rfl rfl rfl) fun _ h308=>?_
    refine tv1 hq13 h308 20 rfl rfl (v:=.bool false) (fun w1 _=>(BD h308 rfl rfl rfl) w1) fun _ h309=>?_
    refine h309.sk [148,15,14,5,4,3,2,0] rfl fun h310=>?_
    refine wpAnyH_done κ ?_ _
    refine hK83 _ _ ?_
    refine wcF h310 rfl rfl<|h310.sk [15,14,5,4,3,2,0] rfl fun h311=>wp_skip<|hK70 _ _<|wp_region_lit<|mv h311 rfl fun _ h312=>bv h312 (z:=ν ((q528+2:Nat):Int)) rfl (DE _ _ _ ω ω ω) fun _ h313=>h313.sk [97,96,15,5,4,3,2,0] rfl fun h314=>mv h314 rfl fun _ h315=>h315.sk [14,15,5,4,3,2,0] rfl fun h316=>wpList_nil ?_
    exact hK67 (q528+1) _ _ ⟨h316.subs rfl,(s33.pk [1,2,3,4,5,6,7] rfl),ω⟩ ω
  ·skip
   have hp14:¬ (((q528+1:Nat):Int)≤32):=(dF hc6)
   refine wcF h185 rfl hc6<|h185.sk [14,5,4,3,2,0] rfl fun h317=>wp_exit ?_
   refine hK65 _ _ ?_
   refine sq fun _ hK84=>?_
   have s34:=s27.drew
   refine wp_region_held_drew (S:=fun w'=>Sep w' [Ab g2 116 ((soA 32).flatMap Ak),Ab g1 115 ((List.replicate 33 0).map iV),Ab g7 27 ((Aj).map Ac),Ab vx 39 (prC (π pg) (π K.tg) (π mx) (.pointer none)),Ab mx 99 [π K.tg],txP K ta tc M P,Ch.many R]) κ s34 (fun hq14=>?_)
   refine tv1 hq14 h317 0 rfl rfl (v:=π vx) (fun w1 _=>(Au h317 rfl rfl) w1) fun _ h318=>?_
   refine tv1 hq14 h318 1 rfl rfl (v:=π vx) (fun w1 _=>(Mf h318 rfl rfl) w1) fun _ h319=>?_
   refine tv1 hq14 h319 2 rfl rfl (v:=.pointer (some ⟨vx,2,none⟩)) (fun w1 _=>(rfa h319 rfl rfl (fQ 2)) w1) fun _ h320=>?_
   refine tv1 hq14 h320 3 rfl rfl (v:=π mx) (fun w1 hSw=>(rld h320 rfl rfl (ldB υ35 rfl (hSw.get 3 rfl:Blk _ _ _ _) rfl))) fun _ h321=>?_
   refine tv1 hq14 h321 5 rfl rfl (v:=.agg (Ai Aj)) (fun w1 hSw=>(rld h321 rfl rfl (Il υ27 (hSw.get 2 rfl:Blk _ _ _ _) (Ca _ rfl)))) fun _ h322=>?_
   refine to_ 4 rfl (wn rfl) κ fun _ hK85=>Be h322 rfl rfl rfl (xs:=[.tmp 152]) rfl (cF func11) rfl (vs:=[π mx]) rfl (args:=#[π mx]) rfl (XA (s34.pk [4,5,0,1,2,3,6] rfl) hM (YF hV hF)) fun _ v6 w29 r6 h323=>?_
   obtain ⟨rfl,s35⟩:=r6
   refine hK85 _ _ (s35.pk [2,3,4,5,0,1,6] rfl) fun hq15=>?_
   refine tv1 hq15 h323 6 rfl rfl (v:=.bool true) (fun w1 _=>BR h323 rfl rfl rfl (Ab8 _ _ (Ca _ (by first | rfl | exact AJ _)) (Ca _ (by first | rfl | exact AJ _)) (decide_eq_true rfl)) w1) fun _ h324=>?_
   refine tv1 hq15 h324 7 rfl rfl (v:=.bool true) (fun w1 _=>(Au h324 rfl rfl) w1) fun _ h325=>?_
   refine tv hq15 h325 8 rfl rfl rfl rfl κ κ κ (fun _ _ _ _ h=>h) (wT h325 (E:=true) rfl rfl rfl) (v:=.pointer (some ⟨g2,15,none⟩)) (fun w1 _=>(Bq h325 rfl rfl rfl (fun w=>PC g2 (j:=1) ω ω w)) w1) fun _ h326=>?_
   refine tv hq15 h326 9 rfl rfl rfl rfl κ κ κ (fun _ _ _ _ h=>h) (wT h326 (E:=true) rfl rfl rfl) (v:=.pointer (some ⟨g2,15,none⟩)) (fun w1 _=>(rfa h326 rfl rfl (fQ 0)) w1) fun _ h327=>?_
   refine tv hq15 h327 10 rfl rfl rfl rfl κ κ κ (fun _ _ _ _ h=>h) (wT h327 (E:=true) rfl rfl rfl) (v:=ν 2) (fun w1 hSw=>(rld h327 rfl rfl (ldB υ3 rfl (hSw.get 0 rfl:Blk _ _ _ _) ((RL EX (j:=1) (k:=0) AD (by decide) (by decide) rfl).trans κ)))) fun _ h328=>?_
   refine tv hq15 h328 11 rfl rfl rfl rfl κ κ κ (fun _ _ _ _ h=>h) (wT h328 (E:=true) rfl rfl rfl) (v:=.bool true) (fun w1 _=>BR h328 rfl rfl rfl (cEq _ _ _ _ (show decide ((2:Int)=2)=true from rfl)) w1) fun _ h329=>?_
   refine tv1 hq15 h329 12 rfl rfl (v:=.bool true) (fun w1 _=>(BD h329 rfl rfl rfl) w1) fun _ h330=>?_
   refine h330.sk [161,160,159,158,157,156,155,153,154,152,151,150,149,14,5,4,3,0] rfl fun h331=>?_
   refine tv1 hq15 h331 13 rfl rfl (v:=.bool true) (fun w1 _=>(BH h331 rfl rfl) w1) fun _ h332=>?_
   refine h332.sk [2,14,5,4,3,0] rfl fun h333=>?_
   refine wpAnyH_done κ ?_ _
   refine hK84 _ _ ?_
   refine wp_ret ?_
   try simp only [Exit.then,Exit.inBlock]
   refine By (v:=.bool true) (Cx h333 rfl rfl) h333.defs ?_
   exact ⟨congrArg Value.bool rfl,Sep.tail_un (xs:=[_,_,_]) (s35.pk [5,0,1,6] rfl)⟩
theorem RT {w:World} {R:List Ch} {tg lg g v d p:Nat} {M:MemM} (hS0:Sep w ([txW tg lg g v d p M]++R)) (hM64:M.V.length=64) :
  CallsR prog 21 #[π tg] w (fun v w'=>v=.pointer none∧Sep w' ([]++R)):=by
 have hS:Sep w [txW tg lg g v d p M,Ch.many R]:=Sep.tail_many (xs:=[_]) hS0;clear hS0
 refine AG func21 rfl (N:=30) ntmps21 (by show 1≤30;decide) [(0,π tg)] rfl fun _ h1=>sqr fun _ hK3=>mv h1 rfl fun _ h4=>wpList_nil<|hK3 _ _<|sq fun _ hK6=>sqr fun _ hK7=>mv h4 rfl fun _ h8=>bv h8 (z:=.bool false) rfl (OO _ υ34 _ _ ⟨tg,0,none⟩) fun _ h2=>h2.sn [8,2,0] rfl fun h3=>hK7 _ _<|wcF h3 rfl rfl ?_
 refine h3.sk [2,0] rfl fun h5=>wp_skip<|hK6 _ _<|sqr fun _ hK1=>mv h5 rfl fun _ h6=>cl h6 rfl (cF func47) (AS hS (Ic _)) fun _ v1 w1 r1 h7=>?_
 obtain ⟨rfl,s1⟩:=r1
 refine cl h7 rfl (cF func46) (Xo (at_:=0) (n:=23168) s1 hM64 (Abr hM64 (by decide)) (by unfold ET;omega) (by unfold ET;omega)) fun _ v2 w2 r2 h9=>?_
 obtain ⟨rfl,s2⟩:=r2
 refine mvs 5 h9 rfl fun _ h10=>h10.sn [4,2,0] rfl fun h11=>hK1 _ _<|sqr fun _ hK2=>mv h11 rfl fun _ h12=>cl h12 rfl (cF func47) (AS s2 (Ic _)) fun _ v3 w3 r3 h13=>?_
 obtain ⟨rfl,s3⟩:=r3
 refine cl h13 rfl (cF func46) (Xo (at_:=23168) (n:=1) s3 hM64 (Abr hM64 (by decide)) (by unfold ET;omega) (by unfold ET;omega)) fun _ v4 w4 r4 h14=>?_
 obtain ⟨rfl,s4⟩:=r4
 refine mvs 5 h14 rfl fun _ h15=>h15.sn [6,4,2,0] rfl fun h16=>hK2 _ _<|sq fun _ hK4=>sqr fun _ hK5=>mv h16 rfl fun _ h17=>bv h17 (z:=.bool true) rfl (cNe _ _ _ _ (show decide ((1:Int)≠0)=true from rfl)) fun _ h18=>mv h18 rfl fun _ h19=>su h19 (wF h19 (E:=true) rfl rfl rfl) rfl rfl rfl fun _ h20=>su h20 (wF h20 (E:=true) rfl rfl rfl) rfl rfl rfl fun _ h21=>sv1 h21 rfl (v:=.bool true) (BD h21 rfl rfl rfl) fun _ h22=>?_
 refine h22.sn [26,6,4,2,0] rfl fun h23=>hK5 _ _<|wcT h23 rfl rfl<|h23.sk [6,4,2,0] rfl fun h24=>sqr fun _ hK8=>h24.sk [6,4,0] rfl fun h25=>mv h25 rfl fun _ h26=>wpList_nil<|hK8 _ _<|wp_ret ?_
 try simp only [Exit.then,Exit.inBlock]
 refine By (v:=.pointer none) (Cx h26 rfl rfl) h26.defs ?_
 exact ⟨rfl,Sep.tail_un (xs:=[]) (s4.pk [1] rfl)⟩
theorem RS {w:World} {R:List Ch} (hS0:Sep w ([]++R)) :
  CallsR prog 21 #[.pointer none] w (fun v w'=>v=.pointer none∧Sep w' ([]++R)):=by
 have hS:Sep w [Ch.many R]:=Sep.tail_many (xs:=[]) hS0;clear hS0
 refine AG func21 rfl (N:=30) ntmps21 (by show 1≤30;decide) [(0,.pointer none)] rfl fun _ h1=>sqr fun _ hK3=>mv h1 rfl fun _ h4=>wpList_nil<|hK3 _ _<|sq fun _ hK6=>sqr fun _ hK7=>mv h4 rfl fun _ h8=>bv h8 (z:=.bool true) rfl (MP _ υ34 _ _ _) fun _ h2=>h2.sn [8,2,0] rfl fun h3=>hK7 _ _<|wcT h3 rfl rfl ?_
 refine h3.sk [2,0] rfl fun h5=>sqr fun _ hK1=>h5.sk [0] rfl fun h6=>mv h6 rfl fun _ h7=>wpList_nil<|hK1 _ _<|wp_ret ?_
 try simp only [Exit.then,Exit.inBlock]
 refine By (v:=.pointer none) (Cx h7 rfl rfl) h7.defs ?_
 exact ⟨rfl,Sep.tail_un (xs:=[]) hS⟩
end
end Go.Proofs.YthiplgahhejmcaaGreatDoor
