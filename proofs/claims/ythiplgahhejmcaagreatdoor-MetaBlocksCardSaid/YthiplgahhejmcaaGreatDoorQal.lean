/- Parts of the proof. -/
import Derived.Test.YthiplgahhejmcaaGreatDoorQak
namespace Go.Proofs.YthiplgahhejmcaaGreatDoor
open Go.RowKit
open _root_.Go.Proofs.Tryz
set_option linter.unusedSimpArgs false
set_option linter.unusedVariables false
set_option linter.unusedSectionVars false
set_option maxRecDepth 100000
set_option maxHeartbeats 8000000
section
def s0S:CK:=fun kd nm=>if (kd=3∨kd=4∨kd=7)∧DL kd nm=true then Dk else []
theorem Rw:(Gf 23168).V=List.replicate 23168 0:=rfl
theorem GT:(Gf 23168).V.length=23168:=by rw [Rw,List.length_replicate]
theorem We:GJ (Gf 23168).V 2688 4096=0:=by
  refine SM (n:=0) ?_ (Nat.zero_le _) ω
  rw [Rw,List.drop_replicate,List.take_replicate];rfl
theorem Ads:Vol (Gf 23168) [] s0S 0:=by
  refine ⟨GT,?_,fun p hp=>(by cases hp),rfl,fun p hp=>(by cases hp),?_⟩
  · unfold Cu EG
    rw [We,List.take_zero,Nq]
  · funext a b
    unfold Qu s0S
    by_cases ha:a=3∨a=4∨a=7
    · rw [if_pos ha]
      cases hf:BD a b with
      | none=>rw [CR hf,if_neg (fun e=>by unfold DL at e;rw [hf] at e;cases e.2)]
      | some q=>
        have hi:=Et hf
        have h64:=SS hf ω ω
        rw [CS hf,if_pos ⟨ha,by unfold DL;rw [hf];rfl⟩]
        show ((Gf 23168).V.drop _).take _=_
        rw [Rw,List.drop_replicate,List.take_replicate,h64]
        unfold Dk;congr 1;show min (64:Int).toNat _=64
        have:(64:Int).toNat=64:=rfl
        omega
    · rw [if_neg ha,if_neg (fun e=>ha e.1)]
theorem NH {s:CK} {kd nm:Int} {xs:Λ} (h:xs++(s kd nm).drop xs.length=s kd nm):Br s kd nm xs=s:=by
  funext a b
  unfold Br
  split
  · next e=>rw [e.1,e.2];exact h
  · rfl
def Nt:Λ:=2::1::(List.replicate 58 0++[166,151,136,35])
def sAS:CK:=Br s0S 4 1 Nt
theorem FQ:DM Gz=0∧De Gz=Nt:=⟨by decide +kernel,by decide +kernel⟩
theorem Acw:∀ j:Fin 32,DL 4 (((j.val+1:Nat)):Int)=true:=by decide +kernel
theorem Aed:∀ j:Fin 8,DL 2 (((j.val+1:Nat)):Int)=true∧DL 6 (((j.val+1:Nat)):Int)=true:=by decide +kernel
theorem Aeq:∀ j:Fin 31,sAS 4 ((((j.val+1)+1:Nat)):Int)=Dk:=by decide +kernel
theorem Aeu:(Bv.all fun x=>!decide (x.k=2∨x.k=6∨x.k=1)||decide (64≤x.s))=true:=by decide +kernel
theorem NU {kd nm:Int} {q:PartT} (h:BD kd nm=some q) (hk:kd=2∨kd=6∨kd=1):64≤q.s:=by
  have k:=Lf h
  have z:=List.all_eq_true.1 Aeu q k.1
  rw [decide_eq_true (by rw [k.2.1];exact hk)] at z
  exact of_decide_eq_true (by simpa using z)
section
variable {M:MemM}
theorem SV (V:Vol M [] s0S 0):∀ k,k≤31→NW M [] (k+1)=0∧Vol M (DA M [] (k+1)) sAS (k+1)
  | 0,_=>by
    obtain ⟨q,hq⟩:=BU (Acw 0)
    rw [(Wr rfl).1,(Wr rfl).2]
    exact ET V hq FQ.1 FQ.2 (by decide) ω
  | k+1,hk=>by
    have ih:=SV V k ω
    obtain ⟨q,hq⟩:=BU (Acw ⟨k+1,ω⟩)
    have z:=ET ih.2 hq Xv Abr (by decide) ω
    rw [(Ws ω).1,(Ws ω).2,ih.1]
    refine ⟨by rw [z.1];rfl,?_⟩
    have e:Br sAS 4 ((k+1+1:Nat):Int) Dk=sAS:=NH (by rw [Aeq ⟨k,ω⟩];decide)
    rw [← e];exact z.2
theorem NA:AV.length=64:=by decide +kernel
theorem Nb:DN.length=64:=by decide +kernel
theorem Od (V:Vol M [] s0S 0):∀ k,k≤8→Uk M [] k=0∧Vol M (DB M [] k) sAS (34+2*k)
  | 0,_=>by
    have z:=SV V 31 (Nat.le_refl _)
    have z2:=Hb z.2 (xs:=AA) rfl ω
    have e:Br sAS 3 0 AA=sAS:=NH (by decide +kernel)
    rw [e] at z2
    obtain ⟨q,hq⟩:=BU (show DL 1 0=true by decide +kernel)
    have z3:=z2.2.put2 (xs:=DN) hq (by decide) (by rw [Nb];have:=NU hq (by decide);omega) (by rw [Nb];omega) ω
    refine ⟨?_,z3.2⟩
    unfold Uk;rw [z.1,z2.1]
    show AD [AD [0,0],0,0,stE M (stP M (DA M [] 32) 3 0 AA) 1 0 DN.length]=0
    rw [z3.1];rfl
  | k+1,hk=>by
    have ih:=Od V k ω
    obtain ⟨h2,h6⟩:=Aed ⟨k,ω⟩
    obtain ⟨q,hq⟩:=BU h2
    obtain ⟨q6,hq6⟩:=BU h6
    have z:=ih.2.put2 (xs:=AV) hq (by decide) (by rw [NA];have:=NU hq (by decide);omega) (by rw [NA];omega) ω
    have z2:=z.2.put2 (xs:=List.replicate 8 0) hq6 (by decide) (by have:=NU hq6 (by decide);simp;omega) (by simp) ω
    refine ⟨?_,z2.2⟩
    unfold Uk;rw [ih.1,z.1,z2.1];rfl
end
end
section
abbrev mtC (mx:Nat) (K:VolK):Ch:=Ad mx 99 [π K.tg]
abbrev opX:InoT:=⟨1,1,0,0,0,0,0,1,0,0,0,0,0,0,0⟩
section
variable {M:MemM} {P:List PtM} {s:CK} {c:Nat}
theorem KI (V:Vol M P s c) {X:Λ} {L:List ByteArray} {a b:Int} (hp:BL X=some L) (hw:Fx s L=(a,b)):AL M P X=(a,b):=by
  unfold AL;rw [hp];exact (Tw V _).trans hw
theorem Zo (V:Vol M P s c) {X:Λ} {L:List ByteArray} (hp:BL X=some L) (hw:Fx s L=(0,10)):Er M P X=(0,AQ,10):=by
  unfold Er;rw [KI V hp hw];rfl
theorem Te (V:Vol M P s c) {X:Λ} {L:List ByteArray} {i:Int} {x:InoT} (hp:BL X=some L) (hw:Fx s L=(i,0)) (he:Db s i=0) (hx:CN s i=x):Er M P X=(i,x,0):=by
  unfold Er;rw [KI V hp hw]
  dsimp only
  rw [if_neg (by show ¬ (0:Int)≠0;decide),if_neg (by rw [DU V,he];decide),En V,hx]
theorem LK (V:Vol M P s c) {X:Λ} {A:List ByteArray} {nm:ByteArray} {p:Int} (hp:BL X=some (A++[nm])) (ha:Fx s A=(p,0)) (h1:Db s p=0) (h2:(CN s p).k=2):DW M P X=(p,nm,0):=by
  have e:AX M P A=(p,0):=(Tw V _).trans ha
  rw [Fj hp,e,if_neg (by show ¬ (0:Int)≠0;decide),if_neg (by show ¬ AW M P p≠0;rw [DU V,h1];decide),if_neg (by show ¬ (Am M P p).k≠2;rw [En V,h2];decide)]
theorem Ta {X:Λ} {A:List ByteArray} {nm:ByteArray} (hp:BL X=some (A++[nm])):(Fh X).isSome=true:=by
  unfold Fh;rw [hp];show ((A++[nm]).getLast?).isSome=true;rw [List.getLast?_concat];rfl
structure NewS (s:CK) (X:Λ) (A:List ByteArray) (nm:ByteArray) (p:Int) (xx:InoT) (ob:Λ) (k j:Nat) (x:InoT) (t:List EntT) (bs rb:Λ) (y:InoT) (b:Int):Prop where
  hX:X.length≤1000
  hp:BL X=some (A++[nm])
  hw:Fx s (A++[nm])=(0,10)
  ha:Fx s A=(p,0)
  hi:Db s p=0∧(CN s p).k=2
  h32:k<32
  kn:∀ j:Nat,j<k→¬ (Db s ((j:Int)+1)=0∧(CN s ((j:Int)+1)).k=0)
  ko:Db s ((k:Int)+1)=0∧(CN s ((k:Int)+1)).k=0
  hk:DL 4 ((k:Int)+1)=true
  hs:nm.size≤1000
  te:Gp (Br s 4 ((k:Int)+1) ob) p=0
  ie:Db (Br s 4 ((k:Int)+1) ob) p=0
  ex:CN (Br s 4 ((k:Int)+1) ob) p=x
  et:Dm (Br s 4 ((k:Int)+1) ob) p=t
  xs:0≤x.s∧x.s≤1000
  hj:j<16
  pl:Fv t nm=(j:Int)
  hu:FV (Eo t (j:Int) ⟨nm,(k:Int)+1⟩) ((j / 4:Nat):Int)=true
  hbf:Ih (Eo t (j:Int) ⟨nm,(k:Int)+1⟩) ((j / 4:Nat):Int)=some bs
  bl:bs.length≤64
  hx:DM xx=0∧De xx=ob∧ob.length≤64
  hy:DM y=0∧De y=rb∧rb.length≤64
  hb:y.blk (j / 4)=b∧DL 7 b=true
  hpp:DL 4 p=true
variable {X:Λ} {A:List ByteArray} {nm:ByteArray} {p:Int} {xx:InoT} {ob:Λ} {k j:Nat} {x y:InoT} {t:List EntT} {bs rb ms:Λ} {b:Int}
theorem Pz (V:Vol M P s c) (hc:c≤50) (H:NewS s X A nm p xx ob k j x t bs rb y b) (hk:x.blk (j / 4)=0) (hy:Rj (x.setB (j / 4) b)=y) (hm:Ir (Br s 4 ((k:Int)+1) ob)=ms) (hf:Al ms 1=b) (hr:¬ 128-((Cm ms 128).length:Int)≤max 0 0) :
    ∃ P',Vol M P' (Br (Br (Br (Br (Br s 4 ((k:Int)+1) ob) 3 0 (AS ms b)) 7 b (List.replicate 64 0)) 7 b bs) 4 p rb) (c+5)∧AD [By M P ((k:Int)+1) xx,0]=0∧∀ {w:World} {R:List Ch} {mx:Nat} {K:VolK} {ta:Ω} {tc:Nat} (_:Sep w ([mtC mx K,txP K ta tc M (BP M P ((k:Int)+1) xx)]++R)),
      CallsR prog 102 #[π mx,ν p,.string nm,ν ((k:Int)+1),ν 0] w fun v w'=>∃ ta' tc',v=ν 0∧Sep w' ([mtC mx K,txP K ta' tc' M P']++R):=by
  obtain ⟨q,hq⟩:=BU H.hk
  obtain ⟨q7,hq7⟩:=BU H.hb.2
  obtain ⟨q1,hq1⟩:=BU H.hpp
  have z:=ET V hq H.hx.1 H.hx.2.1 H.hx.2.2 ω
  have d:=ZY z.2 H.te H.ie H.ex H.et
  have zb:=MP z.2 (sp:=0) hm hf hr hq7 ω
  have hb7:BD 7 (y.blk (j / 4))=some q7:=by rw [H.hb.1];exact hq7
  have z2:=YF zb.2.2 (p:=p) hb7 H.bl hq1 H.hy.1 H.hy.2.1 H.hy.2.2 ω
  rw [H.hb.1] at z2
  have eA:VC M (BP M P ((k:Int)+1) xx) p 0 j bs=Wg M (bP M (BP M P ((k:Int)+1) xx) 0) p y j bs:=by unfold VC;rw [d.2.1,zb.1,hy]
  have eB:VB M (BP M P ((k:Int)+1) xx) p 0 j bs=0:=by unfold VB;rw [d.2.1,zb.1,hy];exact z2.1
  refine ⟨_,z2.2,by rw [z.1];rfl,fun hS=>?_⟩
  rw [← eA]
  have Z:=Aaj (spare:=0) hS V.m H.hs (by decide) H.hj d.1 (by rw [d.2.1];exact H.xs) (by rw [d.2.2];exact H.pl) (by rw [d.2.1];exact hk) zb.2.1 (by rw [d.2.2];exact H.hu) (by rw [d.2.2];exact H.hbf) H.bl
  rw [eB] at Z;exact Z
theorem Zi (V:Vol M P s c) (hc:c≤50) (H:NewS s X A nm p Gz ob k j x t bs rb y b) (hk:x.blk (j / 4)=0) (hy:Rj (x.setB (j / 4) b)=y) (hm:Ir (Br s 4 ((k:Int)+1) ob)=ms) (hf:Al ms 1=b) (hr:¬ 128-((Cm ms 128).length:Int)≤max 0 0) :
    ∃ P',Vol M P' (Br (Br (Br (Br (Br s 4 ((k:Int)+1) ob) 3 0 (AS ms b)) 7 b (List.replicate 64 0)) 7 b bs) 4 p rb) (c+5)∧∀ {w:World} {R:List Ch} {mx:Nat} {K:VolK} {ta:Ω} {tc:Nat} (_:Sep w ([mtC mx K,txP K ta tc M P]++R)),
      CallsR prog 33 #[π mx,σ X,ν 0] w fun v w'=>∃ ta' tc',v=ν 0∧Sep w' ([mtC mx K,txP K ta' tc' M P']++R):=by
  obtain ⟨P',V',e,ad⟩:=Pz V hc H hk hy hm hf hr
  exact ⟨P',V',fun hS=>Zj hS V.m H.hX (Ta H.hp) (KI V H.hp H.hw) (LK V H.hp H.ha H.hi.1 H.hi.2) (Xi V H.h32 H.kn H.ko) (fun h=>ad h) e⟩
theorem Abq (V:Vol M P s c) (hc:c≤50) (H:NewS s X A nm p opX ob k j x t bs rb y b) (hk:x.blk (j / 4)=0) (hy:Rj (x.setB (j / 4) b)=y) (hm:Ir (Br s 4 ((k:Int)+1) ob)=ms) (hf:Al ms 1=b) (hr:¬ 128-((Cm ms 128).length:Int)≤max 0 0) :
    ∃ P',Vol M P' (Br (Br (Br (Br (Br s 4 ((k:Int)+1) ob) 3 0 (AS ms b)) 7 b (List.replicate 64 0)) 7 b bs) 4 p rb) (c+5)∧∀ {w:World} {R:List Ch} {mx:Nat} {K:VolK} {ta:Ω} {tc:Nat} (_:Sep w ([mtC mx K,txP K ta tc M P]++R)),
      CallsR prog 34 #[π mx,ν 1,σ X,ν 1,.bool false,ν 0] w fun v w'=>∃ ta' tc',v=.tuple #[ν ((k:Int)+1),ν 0]∧Sep w' ([mtC mx K,txP K ta' tc' M P']++R):=by
  obtain ⟨P',V',e,ad⟩:=Pz V hc H hk hy hm hf hr
  exact ⟨P',V',fun hS=>Zr hS V.m H.hX (Zo V H.hp H.hw) (LK V H.hp H.ha H.hi.1 H.hi.2) (Xi V H.h32 H.kn H.ko) (fun h=>ad h) e⟩
structure GoS (s s1:CK) (X:Λ) (A:List ByteArray) (nm:ByteArray) (i p:Int) (x dx:InoT) (t:List EntT) (j:Nat) (rb xb:Λ) (y:InoT):Prop where
  hX:X.length≤1000
  hp:BL X=some (A++[nm])
  hw:Fx s (A++[nm])=(i,0)
  ha:Fx s A=(p,0)
  hi:Db s p=0∧(CN s p).k=2
  ei:Db s i=0
  xi:CN s i=x
  xk:x.k=1
  te:Gp s p=0
  dxe:CN s p=dx
  dt:Dm s p=t
  tl:t.length=16
  hs:nm.size≤1000
  hj:j<16
  ds:0≤dx.s∧dx.s≤1000
  hf:AP t nm=(j:Int)
  bk:0≤(GH dx).blk (j / 4)∧(GH dx).blk (j / 4)≤1000
  hu:FV (Eo t (j:Int) ⟨⟨#[]⟩,0⟩) (((j / 4:Nat):Nat):Int)=false
  hy:(GH dx).setB (j / 4) 0=y
  py:DM y=0∧De y=rb∧rb.length≤64
  es1:Br (Br s 3 0 (CM (Ir s) ((GH dx).blk (j / 4)))) 4 p rb=s1
  e1:Db s1 i=0
  x1:CN s1 i=x
  xl:0≤x.l∧x.l≤1000
  hg:Gw (Ko x)=false
  px:DM (Ko x)=0∧De (Ko x)=xb∧xb.length≤64
  h4:DL 4 p=true∧DL 4 i=true
theorem Ye {s1:CK} {i:Int} {dx:InoT} {xb:Λ} (V:Vol M P s c) (hc:c≤50) (H:GoS s s1 X A nm i p x dx t j rb xb y) :
    ∃ P',Vol M P' (Br s1 4 i xb) (c+3)∧∀ {w:World} {R:List Ch} {mx:Nat} {K:VolK} {ta:Ω} {tc:Nat} (_:Sep w ([mtC mx K,txP K ta tc M P]++R)),
      CallsR prog 36 #[π mx,σ X] w fun v w'=>∃ ta' tc',v=ν 0∧Sep w' ([mtC mx K,txP K ta' tc' M P']++R):=by
  obtain ⟨qp,hqp⟩:=BU H.h4.1
  obtain ⟨qi,hqi⟩:=BU H.h4.2
  have d:=ZY V H.te H.hi.1 H.dxe H.dt
  have z:=Hb V (xs:=CM (Ir s) ((GH dx).blk (j / 4))) (by rw [Ay];exact Ak _) ω
  have z2:=ET z.2 hqp H.py.1 H.py.2.1 H.py.2.2 ω
  rw [H.es1] at z2
  have z3:=ET z2.2 hqi H.px.1 H.px.2.1 H.px.2.2 ω
  have eE:XF M P p (GH dx) j=0:=by unfold XF;rw [H.hy,Iq V,z.1,z2.1];rfl
  have eP:RQ M P p (GH dx) j=BP M (stP M P 3 0 (CM (Ir s) ((GH dx).blk (j / 4)))) p y:=by unfold RQ;rw [H.hy,Iq V]
  have hlos:∀ {w:World} {R:List Ch} {mx:Nat} {K:VolK} {ta:Ω} {tc:Nat},Sep w ([mtC mx K,txP K ta tc M (RQ M P p (GH dx) j)]++R)→CallsR prog 73 #[π mx,ν i] w fun v w'=>∃ ta' tc',v=ν (By M (RQ M P p (GH dx) j) i (Ko x))∧Sep w' ([mtC mx K,txP K ta' tc' M (BP M (RQ M P p (GH dx) j) i (Ko x))]++R):=
    fun h=>Aa9 h V.m (by rw [eP];exact ⟨(En z2.2 i).trans H.x1,(DU z2.2 i).trans H.e1⟩) H.xl H.hg
  refine ⟨_,z3.2,fun hS=>?_⟩
  have Z:=Yf hS V.m H.hX (Ta H.hp) (Te V H.hp H.hw H.ei H.xi) H.xk (KI V H.hp H.hw) (LK V H.hp H.ha H.hi.1 H.hi.2)
    (fun h=>XG h V.m H.hs ⟨d.2.1,d.2.2,d.1⟩ H.tl H.hj H.ds H.hf H.bk H.hu) (fun h=>hlos h)
  rw [eE,eP,z3.1] at Z
  exact Z
theorem Yy {i:Int} (V:Vol M P s c) (hc:c≤50) (h4:DL 4 i=true) (he:Db s i=0) (hx:CN s i=x) (ho:x.o0=1) (hg:Gw (x.setO 0 (x.o0-1))=true) (hb:RD x) :
    ∃ P',Vol M P' (Br (Br s 4 i Dk) 3 0 (woX (Ir (Br s 4 i Dk)) x 4)) (c+2)∧∀ {w:World} {R:List Ch} {mx:Nat} {K:VolK} {ta:Ω} {tc:Nat} (_:Sep w ([mtC mx K,txP K ta tc M P]++R)),
      CallsR prog 37 #[π mx,ν 1,ν i] w fun v w'=>∃ ta' tc',v=ν 0∧Sep w' ([mtC mx K,txP K ta' tc' M P']++R):=by
  obtain ⟨qi,hqi⟩:=BU h4
  have z:=ET V hqi Xv Abr (by decide) ω
  have z2:=Hb z.2 (xs:=woX (Ir (Br s 4 i Dk)) x 4) (by rw [Cf];exact Ak _) ω
  have eE:Lk M P i=0:=by unfold Lk;rw [z.1,z2.1];rfl
  have eP:Pe M P i x=stP M (BP M P i AQ) 3 0 (woX (Ir (Br s 4 i Dk)) x 4):=by unfold Pe;rw [Iq z.2]
  refine ⟨_,z2.2,fun hS=>?_⟩
  have Z:=Yz hS V.m ⟨(En V i).trans hx,(DU V i).trans he⟩ ho hg hb
  rw [eE,eP] at Z
  exact Z
end
end
section
def nmF (i:UInt8):ByteArray:=⟨#[i]⟩
def opB:Λ:=[1,1,0,0,0,0,0,0,1]++(List.replicate 51 0++[123,254,65,206])
def d1X (b0 b3:Int):InoT:=⟨2,1,1,b0,0,0,b3,0,0,0,0,0,0,0,0⟩
def r1B:Λ:=[2,1,1,0,0,0,0,1]++(List.replicate 52 0++[116,40,151,23])
def d1B:Λ:=[2,1,1,0,0,0,0,2]++(List.replicate 52 0++[183,248,254,148])
def foB:Λ:=[1,0,0,0,0,0,0,0,1]++(List.replicate 51 0++[138,251,13,167])
def Aco:Λ:=List.replicate 32 0++(2::1::100::List.replicate 13 0)++List.replicate 16 0
def Acn:Λ:=List.replicate 32 0++(3::1::97::List.replicate 13 0)++List.replicate 16 0
def m1S:CK:=Br (Br (Br (Br (Br sAS 4 2 Nt) 3 0 (AS AA 1)) 7 1 (List.replicate 64 0)) 7 1 Aco) 4 1 r1B
def m2S:CK:=Br (Br (Br (Br (Br m1S 4 3 opB) 3 0 (AS (AS AA 1) 2)) 7 2 (List.replicate 64 0)) 7 2 Acn) 4 2 d1B
def m3S:CK:=Br (Br m2S 3 0 (CM (Ir m2S) 2)) 4 2 Nt
def m4S:CK:=Br m3S 4 3 foB
def m5S:CK:=Br (Br m4S 4 3 Dk) 3 0 (woX (Ir (Br m4S 4 3 Dk)) (Ko opX) 4)
theorem mk1:NewS sAS [47,100] [] (nmF 100) 1 Gz Nt 1 14 Gz AY Aco r1B (d1X 0 1) 1 where
  hX:=by decide
  hp:=κ
  hw:=by decide +kernel
  ha:=by decide +kernel
  hi:=by decide +kernel
  h32:=by decide
  kn:=fun j hj=>(by decide +kernel:∀ j:Fin 1,¬ (Db sAS ((j.val:Int)+1)=0∧(CN sAS ((j.val:Int)+1)).k=0)) ⟨j,hj⟩
  ko:=by decide +kernel
  hk:=by decide +kernel
  hs:=by decide
  te:=by decide +kernel
  ie:=by decide +kernel
  ex:=κ
  et:=κ
  xs:=by decide
  hj:=by decide
  pl:=by decide +kernel
  hu:=by decide +kernel
  hbf:=by decide +kernel
  bl:=by decide
  hx:=⟨FQ.1,FQ.2,by decide⟩
  hy:=by decide +kernel
  hb:=by decide +kernel
  hpp:=by decide +kernel
theorem mk2:NewS m1S [47,100,47,97] [nmF 100] (nmF 97) 2 opX opB 2 14 Gz AY Acn d1B (d1X 0 2) 2 where
  hX:=by decide
  hp:=κ
  hw:=by decide +kernel
  ha:=by decide +kernel
  hi:=by decide +kernel
  h32:=by decide
  kn:=fun j hj=>(by decide +kernel:∀ j:Fin 2,¬ (Db m1S ((j.val:Int)+1)=0∧(CN m1S ((j.val:Int)+1)).k=0)) ⟨j,hj⟩
  ko:=by decide +kernel
  hk:=by decide +kernel
  hs:=by decide
  te:=by decide +kernel
  ie:=by decide +kernel
  ex:=κ
  et:=κ
  xs:=by decide
  hj:=by decide
  pl:=by decide +kernel
  hu:=by decide +kernel
  hbf:=by decide +kernel
  bl:=by decide
  hx:=by decide +kernel
  hy:=by decide +kernel
  hb:=by decide +kernel
  hpp:=by decide +kernel
theorem go3:GoS m2S m3S [47,100,47,97] [nmF 100] (nmF 97) 3 2 opX (d1X 0 2) (Eo AY 14 ⟨nmF 97,3⟩) 14 Nt foB Gz where
  hX:=by decide
  hp:=κ
  hw:=by decide +kernel
  ha:=by decide +kernel
  hi:=by decide +kernel
  ei:=by decide +kernel
  xi:=κ
  xk:=rfl
  te:=by decide +kernel
  dxe:=κ
  dt:=κ
  tl:=by decide +kernel
  hs:=by decide
  hj:=by decide
  ds:=by decide
  hf:=by decide +kernel
  bk:=by decide
  hu:=by decide +kernel
  hy:=rfl
  py:=⟨FQ.1,FQ.2,by decide⟩
  es1:=rfl
  e1:=by decide +kernel
  x1:=κ
  xl:=by decide
  hg:=by decide +kernel
  px:=by decide +kernel
  h4:=by decide +kernel
section
variable {M:MemM} {P:List PtM}
theorem WV (V:Vol M P sAS 0):∃ P',Vol M P' m1S 5∧∀ {w:World} {R:List Ch} {mx:Nat} {K:VolK} {ta:Ω} {tc:Nat} (_:Sep w ([mtC mx K,txP K ta tc M P]++R)),
      CallsR prog 33 #[π mx,σ [47,100],ν 0] w fun v w'=>∃ ta' tc',v=ν 0∧Sep w' ([mtC mx K,txP K ta' tc' M P']++R):=
  Zi (ms:=AA) V (by decide) mk1 (by decide) κ (by decide +kernel) (by decide +kernel) (by decide +kernel)
theorem Zb (V:Vol M P m1S 5):∃ P',Vol M P' m2S 10∧∀ {w:World} {R:List Ch} {mx:Nat} {K:VolK} {ta:Ω} {tc:Nat} (_:Sep w ([mtC mx K,txP K ta tc M P]++R)),
      CallsR prog 34 #[π mx,ν 1,σ [47,100,47,97],ν 1,.bool false,ν 0] w fun v w'=>∃ ta' tc',v=.tuple #[ν 3,ν 0]∧Sep w' ([mtC mx K,txP K ta' tc' M P']++R):=
  Abq (ms:=AS AA 1) V (by decide) mk2 (by decide) κ (by decide +kernel) (by decide +kernel) (by decide +kernel)
theorem Zc (V:Vol M P m2S 10):Er M P [47,100]=(2,d1X 0 2,0):=
  Te V (L:=[nmF 100]) κ (by decide +kernel) (by decide +kernel) κ
theorem Un (V:Vol M P m2S 10):∃ P',Vol M P' m4S 13∧∀ {w:World} {R:List Ch} {mx:Nat} {K:VolK} {ta:Ω} {tc:Nat} (_:Sep w ([mtC mx K,txP K ta tc M P]++R)),
      CallsR prog 36 #[π mx,σ [47,100,47,97]] w fun v w'=>∃ ta' tc',v=ν 0∧Sep w' ([mtC mx K,txP K ta' tc' M P']++R):=
  Ye V (by decide) go3
theorem WW (V:Vol M P m4S 13):Am M P 3=Ko opX∧AW M P 3=0:=⟨(En V 3).trans κ,(DU V 3).trans (by decide +kernel)⟩
theorem WU (V:Vol M P m4S 13):∃ P',Vol M P' m5S 15∧∀ {w:World} {R:List Ch} {mx:Nat} {K:VolK} {ta:Ω} {tc:Nat} (_:Sep w ([mtC mx K,txP K ta tc M P]++R)),
      CallsR prog 37 #[π mx,ν 1,ν 3] w fun v w'=>∃ ta' tc',v=ν 0∧Sep w' ([mtC mx K,txP K ta' tc' M P']++R):=
  Yy V (by decide) (by decide +kernel) (by decide +kernel) κ rfl (by decide +kernel) (by unfold RD;decide)
theorem Za (V:Vol M P m5S 15):Am M P 3=AQ∧AW M P 3=0:=⟨(En V 3).trans κ,(DU V 3).trans (by decide +kernel)⟩
end
end
section
def Rp (lg g v d p:Nat) (M:MemM):Ch where
 F b:=b=lg∨b=g∨b=v∨b=d∨b=p
 P w:=LogP w lg g v d p 2688 4096 M∧g<lg∧v<lg∧d<lg∧p<lg
 keep h t:=⟨EL h.1 t (fun q=>q (.inl rfl)) (fun q=>q (.inr (.inl rfl))) (fun q=>q (.inr (.inr (.inl rfl)))) (fun q=>q (.inr (.inr (.inr (.inl rfl))))) (fun q=>q (.inr (.inr (.inr (.inr rfl))))),h.2⟩
 lt h b hb:=by
  obtain ⟨h1,h2,h3,h4,h5⟩:=h.1.lt
  rcases hb with e | e | e | e | e<;>omega
theorem Abh {w:World} {R:List Ch} (hS:Sep w R):CallsR prog 17 #[ν 23168] w (fun v w'=>∃ g v1 d p,v=π g∧Sep w' (Abd g v1 d p (Gf 23168)::R)):=
 Calls.mono (Xd 23168 w ω) fun e w' z=>by
  unfold Tz at z
  rw [if_pos (by decide)] at z
  obtain ⟨g,v,d,p,e1,m,⟨h1,h2,h3,h4⟩,b⟩:=z
  exact ⟨_,e1,g,v,d,p,rfl,hS.push b (c:=Abd g v d p (Gf 23168)) m fun k hk=>by rcases hk with e | e | e | e<;>omega⟩
theorem Abg {w:World} {R:List Ch} {g v1 d p:Nat} {M:MemM} (hS:Sep w (Abd g v1 d p M::R)) (hM:M.V.length=23168):CallsR prog 19 #[π g,ν 2688,ν 4096] w (fun v w'=>∃ lg,v=π lg∧Sep w' (Rp lg g v1 d p M::R)):=by
 have h:MemP w g v1 d p M:=hS.get 0 rfl
 refine Calls.mono (Xc h 2688 4096 (by unfold Ev;omega) (by unfold Ev;omega) ω) fun e w' z=>?_
 unfold MJ at z
 rw [if_pos (by unfold IY;omega)] at z
 obtain ⟨lg,e1,hb,hl,b⟩:=z
 obtain ⟨_,_,_,_,_,_,h1,h2,h3,h4⟩:=Dt h
 refine ⟨_,e1,lg,rfl,hS.head (Turns.of_below (X:=fun _=>False) b) (fun k hk (q:False)=>q.elim) (c':=Rp lg g v1 d p M) ⟨⟨hb,h.mono b⟩,ω⟩ fun k q=>?_⟩
 rcases q with q | q | q | q | q
 ·right;omega
 ·exact .inl (.inl q)
 ·exact .inl (.inr (.inl q))
 ·exact .inl (.inr (.inr (.inl q)))
 ·exact .inl (.inr (.inr (.inr q)))
theorem Abi {w:World} {R:List Ch} {lg g v1 d p:Nat} {M:MemM} (hS:Sep w (Rp lg g v1 d p M::R)) (hM:M.V.length=23168):CallsR prog 20 #[π g,π lg] w (fun v w'=>∃ K:VolK,v=π K.tg∧Sep w' (txP K none 0 M []::R)):=by
 have h:LogP w lg g v1 d p 2688 4096 M∧g<lg∧v1<lg∧d<lg∧p<lg:=hS.get 0 rfl
 refine Calls.mono (Xe w g lg) fun e w' ⟨tg,e1,hb,hl,b⟩=>⟨_,e1,⟨tg,lg,g,v1,d,p⟩,rfl,hS.head (Turns.of_below (X:=fun _=>False) b) (fun k hk (q:False)=>q.elim) (c':=txP ⟨tg,lg,g,v1,d,p⟩ none 0 M []) ?_ fun k q=>?_⟩
 ·have l:=h.1.lt
  exact ⟨h.1.mono b,hb,Own.nil _ _ _ _,TxOk.nil _,hM,by dsimp only;omega⟩
 ·rcases q with (q | q | q | q | q | q) | q
  ·right;exact q ▸ hl
  ·exact .inl (.inl q)
  ·exact .inl (.inr (.inl q))
  ·exact .inl (.inr (.inr (.inl q)))
  ·exact .inl (.inr (.inr (.inr (.inl q))))
  ·exact .inl (.inr (.inr (.inr (.inr q))))
  ·cases q
theorem Pd {w:World} {R:List Ch} {mx:Nat} {K:VolK} {ta:Ω} {tc:Nat} (hS:Sep w ([mtC mx K,txP K ta tc (Gf 23168) []]++R)):CallsR prog 22 #[π mx] w (fun v w'=>∃ ta' tc',v=ν 0∧Sep w' ([mtC mx K,txP K ta' tc' (Gf 23168) (DB (Gf 23168) [] 8)]++R)):=
 Calls.mono (Wt hS GT) fun e w' z=>by rw [(Od Ads 8 (Nat.le_refl _)).1] at z;exact z
theorem OP {w:World} {R:List Ch} {K:VolK} {ta:Ω} {tc:Nat} {M M':MemM} {P:List PtM} (hS:Sep w (txP K ta tc M P::R)) (h1:cmE M P=0) (h2:cmP M P=[]) (h3:M'=cmM M P):CallsR prog 23 #[pG K.tg] w (fun x w'=>∃ ta' tc',x=ν 0∧Sep w' (txP K ta' tc' M' []::R)):=
 Calls.mono (VQ hS) fun e w' z=>by rw [h1,h2,← h3] at z;exact z
structure NodW where
 dir:Bool
 data:Λ
 links:Int
def Abk (x:NodW):List Value:=[.bool x.dir,σ x.data,ν x.links]
theorem Xf (x:NodW):(Abk x).length=3:=rfl
def Afj:NodW:=⟨false,[],0⟩
theorem ENw:ElemT prog 118 124 3 32:=MV υ118 (z:=.agg #[.bool false,.string ⟨#[]⟩,ν 0]) κ rfl ω
def prC (a b c d:Value):List Value:=[a,b,c,d]++List.replicate 64 (ν 0)
theorem Ii (x0:Int) (x1:Int) (x2:Int) (y0:Int) (y1:Int) (y2:Int) (w:World):(Op.equalIn 10000 76 (.agg #[ν x0,ν x1,ν x2]) (.agg #[ν y0,ν y1,ν y2])).run prog w=.ok (decide (x0=y0)&&(decide (x1=y1)&&decide (x2=y2))) w:=by
 have u3:=υ3
 have a3:=Tryz.isAgg3
 have z3:=Tryz.sizeOf3
 have hS:prog.underlying 76=some (.struct (prog.fieldsOf 76)):=κ
 have hp:prog.stoodInHeld 76=false:=κ
 rw [show (10000:Nat)=9999+1 from rfl,run_equalIn_agg w 9999 76 _ _ hS hp]
 simp only [Program.fieldsOf,υ76]
 go_simp
 by_cases h0:x0=y0
 case neg=>simp [h0]
 by_cases h1:x1=y1
 case neg=>simp [h0,h1]
 by_cases h2:x2=y2
 case neg=>simp [h0,h1,h2]
 simp [h0,h1,h2]
theorem Hx (o p:Operand) (x0:Int) (x1:Int) (x2:Int) (y0:Int) (y1:Int) (y2:Int) (w:World):(do eqGuard .eql 76 o p (.agg #[ν x0,ν x1,ν x2]) (.agg #[ν y0,ν y1,ν y2]);binOp .eql 76 (.agg #[ν x0,ν x1,ν x2]) (.agg #[ν y0,ν y1,ν y2]):Sem Value).run prog w=.ok (.bool ((decide (x0=y0)&&(decide (x1=y1)&&decide (x2=y2))))) w:=by
 have e:(Op.equal 76 (.agg #[ν x0,ν x1,ν x2]) (.agg #[ν y0,ν y1,ν y2])).run prog w=.ok (decide (x0=y0)&&(decide (x1=y1)&&decide (x2=y2))) w:=Ii x0 x1 x2 y0 y1 y2 w
 rw [Sem.run_bind,run_eqGuard_agg (P:=prog) w .eql 76 o p _ _ κ]
 show (binOp .eql 76 _ _).run prog w=_
 simp only [binOp,Sem.run_bind,e]
 rfl
theorem Zl {w:World} {R:List Ch} (hS0:Sep w ([]++R)) :
  CallsR prog 26 #[] w (fun v w'=>∃ rp,v=π rp∧Sep w' ([]++R)):=by
 have hS:Sep w [Ch.many R]:=Sep.tail_many (xs:=[]) hS0;clear hS0
 refine AN func26 rfl (N:=15) ntmps26 (by show 0≤15;decide) [] rfl fun _ h1=>sqr fun _ hK3=>mv h1 rfl fun _ h4=>wpList_nil<|hK3 _ _<|sqr fun _ hK6=>bu h4 (v:=.agg #[.slice none 0 0,.slice none 0 0,.slice none 0 0]) rfl (fun w=>κ) fun _ h7=>so (wn rfl) fun _ hK1=>Gs h7 rfl rfl rfl rfl rfl (z:=[.slice none 0 0,.slice none 0 0,.slice none 0 0]) rfl hS fun _ g9 w1 h2 s1 _ _=>hK1 _ _ ?_
 refine mv h2 rfl fun _ h3=>h3.sn [1,0] rfl fun h5=>hK6 _ _<|sq fun _ hK2=>?_
 have s2:=s1.ownNil 0 124 3
 have s3:Sep w1 [Bo 0 124 3 none ([]:List NodW).length 0 (([]:List NodW).flatMap Abk),Ad g9 122 [.slice none 0 0,.slice none 0 0,.slice none 0 0],Ch.many R]:=s2
 refine wp_region_lit<|mvs 3 h5 rfl fun _ h6=>fav h6 rfl (fQ 0) fun _ h8=>ldv h8 s3 1 υ118 rfl rfl rfl rfl fun _ h9=>bu h9 (v:=.agg #[.bool true,σ [],ν 1]) rfl (fun w=>κ) fun _ h10=>so (wn rfl) fun _ hK4=>CA h10 rfl rfl rfl (E:=124) (xs:=[(0,.tmp 9)]) rfl (vs:=[(0,.agg #[.bool true,σ [],ν 1])]) rfl (z:=[.bool true,σ [],ν 1]) (fun _=>κ) s3 fun _ g1 w2 h11 s4 _ _=>hK4 _ _ ?_
 refine so (wn rfl) fun _ hK5=>Adu Xf h11 rfl rfl rfl rfl ENw s4 1 rfl rfl 0 (y:=(⟨true,[],1⟩:NodW)) rfl rfl rfl (by decide) (by decide) (L':=[(⟨true,[],1⟩:NodW)]) rfl fun _ p43 c44 w3 h12 s5=>hK5 _ _ ?_
 have s6:Sep w3 [Bo 0 124 3 p43 [(⟨true,[],1⟩:NodW)].length c44 ([(⟨true,[],1⟩:NodW)].flatMap Abk),Ad g9 122 [.slice none 0 0,.slice none 0 0,.slice none 0 0],Ch.many R]:=s5.pk [1,2,3] rfl;clear s5
 refine mv h12 rfl fun _ h13=>fav h13 rfl (fQ 0) fun _ h14=>st1 h14 s6 1 rfl rfl κ rfl rfl rfl rfl fun _ w4 h15 s7 _=>h15.sn [1,0] rfl fun h16=>hK2 _ _<|sqr fun _ hK7=>mv h16 rfl fun _ h17=>h17.sk [14,1] rfl fun h18=>mv h18 rfl fun _ h19=>h19.sk [0,1] rfl fun h20=>?_
 refine wpList_nil<|hK7 _ _<|wp_ret ?_
 try simp only [Exit.then,Exit.inBlock]
 refine Bz (v:=π g9) (Cx h20 rfl rfl) h20.defs ?_
 exact ⟨g9,rfl,Sep.tail_un (xs:=[]) (s7.pk [2] rfl)⟩
theorem MN {w:World} {R:List Ch} (hS0:Sep w ([]++R)) :
  CallsR prog 6 #[] w (fun v w'=>∃ K ta tc M mx vx pg rp,v=π vx∧Sep w' ([Ad vx 39 (prC (π pg) (π K.tg) (π mx) (π rp)),Ad mx 99 [π K.tg],txP K ta tc M []]++R)∧Vol M [] sAS 0):=by
 have hS:Sep w [Ch.many R]:=Sep.tail_many (xs:=[]) hS0;clear hS0
 refine AN func6 rfl (N:=39) ntmps6 (by show 0≤39;decide) [] rfl fun _ h1=>sqr fun _ hK3=>mv h1 rfl fun _ h4=>wpList_nil<|hK3 _ _<|sqr fun _ hK6=>cl h4 rfl (cF func17) (Abh hS) fun _ v1 w1 r1 h2=>?_
 obtain ⟨pgx7,pv_x8,pdx9,ppx10,rfl,s1⟩:=r1
 refine mv h2 rfl fun _ h3=>h3.sn [1,0] rfl fun h5=>hK6 _ _<|sq fun _ hK1=>sqr fun _ hK2=>mv h5 rfl fun _ h6=>bv h6 (z:=.bool false) rfl (QD _ υ33 _ _ _) fun _ h7=>h7.sn [7,1,0] rfl fun h8=>hK2 _ _<|wcF h8 rfl rfl<|h8.sk [1,0] rfl fun h9=>?_
 refine wp_skip<|hK1 _ _<|sqr fun _ hK4=>mv h9 rfl fun _ h10=>cl h10 rfl (cF func19) (Abg s1 GT) fun _ v2 w2 r2 h11=>?_
 obtain ⟨lg_x32,rfl,s2⟩:=r2
 refine mv h11 rfl fun _ h12=>h12.sn [2,1,0] rfl fun h13=>hK4 _ _<|sq fun _ hK5=>sqr fun _ hK7=>mv h13 rfl fun _ h14=>bv h14 (z:=.bool false) rfl (QD _ υ55 _ _ _) fun _ h15=>h15.sn [11,2,1,0] rfl fun h16=>hK7 _ _<|wcF h16 rfl rfl<|h16.sk [2,1,0] rfl fun h17=>?_
 refine wp_skip<|hK5 _ _<|sqr fun _ hK8=>mvs 2 h17 rfl fun _ h18=>cl h18 rfl (cF func20) (Abi s2 GT) fun _ v3 w3 r3 h19=>?_
 obtain ⟨kk_x56,rfl,s3⟩:=r3
 refine mv h19 rfl fun _ h20=>h20.sn [3,2,1,0] rfl fun h21=>hK8 _ _<|sqr fun _ hK9=>mv h21 rfl fun _ h22=>cl h22 rfl (cF func21) (Ut (K:=kk_x56) s3 GT) fun _ v4 w4 r4 h23=>?_
 obtain ⟨mx_x70,rfl,s4⟩:=r4
 refine mv h23 rfl fun _ h24=>h24.sn [4,3,2,1,0] rfl fun h25=>hK9 _ _<|sq fun _ hK10=>sqr fun _ hK11=>mv h25 rfl fun _ h26=>bv h26 (z:=.bool false) rfl (QD _ υ34 _ _ _) fun _ h27=>mv h27 rfl fun _ h28=>sv h28 (wF h28 (E:=false) rfl rfl rfl) rfl rfl rfl (v:=π mx_x70) (Au h28 rfl rfl) fun _ h29=>sv h29 (wF h29 (E:=false) rfl rfl rfl) rfl rfl rfl (v:=.bool false) (Ce h29 rfl rfl rfl (QD _ υ35 _ _ _)) fun _ h30=>sv1 h30 rfl (v:=.bool false) (BW h30 rfl rfl rfl) fun _ h31=>?_
 refine mv h31 rfl fun _ h32=>sv h32 (wF h32 (E:=false) rfl rfl rfl) rfl rfl rfl (v:=π mx_x70) (Au h32 rfl rfl) fun _ h33=>so (wF h33 (E:=false) rfl rfl rfl) fun _ hK12=>AU h33 rfl rfl rfl (xs:=[.tmp 24]) rfl (cF func22) rfl (vs:=[π mx_x70]) rfl (args:=#[π mx_x70]) rfl (Pd s4) fun _ v5 w5 r5 h34=>hK12 _ _ ?_
 obtain ⟨tax99,tcx100,rfl,s5⟩:=r5
 refine sv h34 (wF h34 (E:=false) rfl rfl rfl) rfl rfl rfl (v:=.bool false) (Ce h34 rfl rfl rfl (cNe _ _ _ _ rfl)) fun _ h35=>sv1 h35 rfl (v:=.bool false) (BW h35 rfl rfl rfl) fun _ h36=>mv h36 rfl fun _ h37=>sv h37 (wF h37 (E:=false) rfl rfl rfl) rfl rfl rfl (v:=π kk_x56.tg) (Au h37 rfl rfl) fun _ h38=>?_
 have hv116:=Vol.com (Od Ads 8 (Nat.le_refl _)).2 (by decide)
 obtain ⟨M117,he118⟩:∃ M',M'=cmM (Gf 23168) (DB (Gf 23168) [] 8):=⟨_,rfl⟩
 rw [← he118] at hv116
 refine so (wF h38 (E:=false) rfl rfl rfl) fun _ hK13=>AU h38 rfl rfl rfl (xs:=[.tmp 29]) rfl (cF func23) rfl (vs:=[π kk_x56.tg]) rfl (args:=#[π kk_x56.tg]) rfl (OP (s5.pk [1,0,2] rfl) hv116.1 hv116.2.1 he118) fun _ v6 w6 r6 h39=>hK13 _ _ ?_
 obtain ⟨tax119,tcx120,rfl,s6⟩:=r6
 refine sv h39 (wF h39 (E:=false) rfl rfl rfl) rfl rfl rfl (v:=.bool false) (Ce h39 rfl rfl rfl (cNe _ _ _ _ rfl)) fun _ h40=>sv1 h40 rfl (v:=.bool false) (BW h40 rfl rfl rfl) fun _ h41=>h41.sn [32,4,3,2,1,0] rfl fun h42=>hK11 _ _<|wcF h42 rfl rfl<|h42.sk [4,3,2,1,0] rfl fun h43=>wp_skip<|hK10 _ _<|sqr fun _ hK14=>mvs 3 h43 rfl fun _ h44=>cl h44 rfl (cF func26) (Zl s6) fun _ v7 w7 r7 h45=>?_
 obtain ⟨rp_x141,rfl,s7⟩:=r7
 refine bu h45 (v:=.agg (prC (π pgx7) (π kk_x56.tg) (π mx_x70) (π rp_x141)).toArray) rfl (fun w=>κ) fun _ h46=>so (wn rfl) fun _ hK15=>Gs h46 rfl rfl rfl rfl rfl (z:=(prC (π pgx7) (π kk_x56.tg) (π mx_x70) (π rp_x141))) rfl s7 fun _ g1 w8 h47 s8 _ _=>hK15 _ _ ?_
 refine h47.sk [38,37,36,35,34,33,4,3,2,1] rfl fun h48=>mv h48 rfl fun _ h49=>h49.sn [0,4,3,2,1] rfl fun h50=>hK14 _ _<|wp_ret ?_
 try simp only [Exit.then,Exit.inBlock]
 refine Bz (v:=π g1) (Cx h50 rfl rfl) h50.defs ?_
 exact ⟨kk_x56,tax119,tcx120,M117,mx_x70,g1,pgx7,rp_x141,rfl,Sep.tail_un (xs:=[_,_,_]) (s8.pk [0,2,1,3] rfl),hv116.2.2⟩
theorem Hm {w:World} {R:List Ch} (hS0:Sep w ([]++R)) :
  CallsR prog 12 #[] w (fun v w'=>v=.bool true∧Sep w' ([]++R)):=by
 have hS:Sep w [Ch.many R]:=Sep.tail_many (xs:=[]) hS0;clear hS0
 refine AN func12 rfl (N:=100) ntmps12 (by show 0≤100;decide) [] rfl fun _ h1=>sqr fun _ hK3=>mv h1 rfl fun _ h4=>wpList_nil<|hK3 _ _<|sqr fun _ hK6=>cl h4 rfl (cF func6) (MN hS) fun _ v1 w1 r1 h2=>?_
 obtain ⟨kk_x8,ta_x9,tc_x10,M_x11,mx_x12,vx_x13,pg_x14,rp_x15,rfl,s1,hvl20⟩:=r1
 refine mv h2 rfl fun _ h3=>h3.sn [1,0] rfl fun h5=>hK6 _ _<|sq fun _ hK1=>sqr fun _ hK2=>mv h5 rfl fun _ h6=>bv h6 (z:=.bool false) rfl (QD _ υ28 _ _ _) fun _ h7=>h7.sn [15,1,0] rfl fun h8=>hK2 _ _<|wcF h8 rfl rfl<|h8.sk [1,0] rfl fun h9=>?_
 refine wp_skip<|hK1 _ _<|sqr fun _ hK4=>mvs 2 h9 rfl fun _ h10=>fav h10 rfl (fQ 2) fun _ h11=>ldv h11 s1 0 υ35 rfl rfl rfl rfl fun _ h12=>?_
 obtain ⟨P43,hv44,ho45⟩:=WV hvl20
 refine cl h12 rfl (cF func33) (ho45 (s1.pk [1,2,0,3] rfl)) fun _ v2 w2 r2 h13=>?_
 obtain ⟨tax46,tcx47,rfl,s2⟩:=r2
 refine mv h13 rfl fun _ h14=>h14.sn [2,1,0] rfl fun h15=>hK4 _ _<|sqr fun _ hK5=>mvs 2 h15 rfl fun _ h16=>fav h16 rfl (fQ 2) fun _ h17=>ldv h17 s2 2 υ35 rfl rfl rfl rfl fun _ h18=>?_
 obtain ⟨P67,hv68,ho69⟩:=Zb hv44
 refine cl h18 rfl (cF func34) (ho69 s2) fun _ v3 w3 r3 h19=>?_
 obtain ⟨tax70,tcx71,rfl,s3⟩:=r3
 refine mvs 5 h19 rfl fun _ h20=>h20.sn [4,3,2,1,0] rfl fun h21=>hK5 _ _<|sqr fun _ hK7=>mvs 2 h21 rfl fun _ h22=>fav h22 rfl (fQ 2) fun _ h23=>ldv h23 s3 2 υ35 rfl rfl rfl rfl fun _ h24=>cl h24 rfl (cF func35) (Ab5 s3 (hv68).m (by decide) (Zc hv68)) fun _ v4 w4 r4 h25=>?_
 obtain ⟨rfl,s4⟩:=r4
 refine mvs 3 h25 rfl fun _ h26=>so (wn rfl) fun _ hK8=>AR h26 rfl rfl rfl rfl (z:=[ν 0,ν 0,ν 0]) (fun _=>rfl) s4 fun _ g1 w5 h27 s5 _ _=>hK8 _ _ ?_
 refine stA h27 s5 0 rfl rfl rfl κ rfl rfl rfl rfl fun _ w6 h28 s6 _=>mv h28 rfl fun _ h29=>h29.sn [6,5,4,3,2,1,0] rfl fun h30=>hK7 _ _<|sqr fun _ hK9=>mvs 2 h30 rfl fun _ h31=>fav h31 rfl (fQ 2) fun _ h32=>ldv h32 s6 3 υ35 rfl rfl rfl rfl fun _ h33=>?_
 obtain ⟨P138,hv139,ho140⟩:=Un hv68
 refine cl h33 rfl (cF func36) (ho140 (s6.pk [1,2,0,3,4] rfl)) fun _ v5 w7 r5 h34=>?_
 obtain ⟨tax141,tcx142,rfl,s7⟩:=r5
 refine mv h34 rfl fun _ h35=>h35.sn [7,6,5,4,3,2,1,0] rfl fun h36=>hK9 _ _<|sqr fun _ hK10=>mvs 2 h36 rfl fun _ h37=>fav h37 rfl (fQ 2) fun _ h38=>ldv h38 s7 3 υ35 rfl rfl rfl rfl fun _ h39=>cl h39 rfl (cF func8) (GQ s7 (hv139).m (WW hv139)) fun _ v6 w8 r6 h40=>?_
 obtain ⟨rfl,s8⟩:=r6
 refine mvs 3 h40 rfl fun _ h41=>so (wn rfl) fun _ hK11=>AR h41 rfl rfl rfl rfl (z:=[ν 0,ν 0,ν 0,ν 0,ν 0,ν 0,ν 0,ν 0,ν 0,ν 0,ν 0,ν 0,ν 0,ν 0,ν 0]) (fun _=>rfl) s8 fun _ g2 w9 h42 s9 _ _=>hK11 _ _ ?_
 refine stA h42 s9 0 rfl rfl rfl κ rfl rfl rfl rfl fun _ w10 h43 s10 _=>mv h43 rfl fun _ h44=>h44.sn [8,7,6,5,4,3,2,1,0] rfl fun h45=>hK10 _ _<|sqr fun _ hK12=>mvs 2 h45 rfl fun _ h46=>fav h46 rfl (fQ 2) fun _ h47=>ldv h47 s10 4 υ35 rfl rfl rfl rfl fun _ h48=>?_
 obtain ⟨P201,hv202,ho203⟩:=WU hv139
 refine cl h48 rfl (cF func37) (ho203 (s10.pk [1,2,0,3,4,5] rfl)) fun _ v7 w11 r7 h49=>?_
 obtain ⟨tax204,tcx205,rfl,s11⟩:=r7
 refine mv h49 rfl fun _ h50=>h50.sn [10,8,7,6,5,4,3,2,1,0] rfl fun h51=>hK12 _ _<|sqr fun _ hK13=>mvs 2 h51 rfl fun _ h52=>fav h52 rfl (fQ 2) fun _ h53=>ldv h53 s11 4 υ35 rfl rfl rfl rfl fun _ h54=>cl h54 rfl (cF func8) (GQ s11 (hv202).m (Za hv202)) fun _ v8 w12 r8 h55=>?_
 obtain ⟨rfl,s12⟩:=r8
 refine mvs 3 h55 rfl fun _ h56=>so (wn rfl) fun _ hK14=>AR h56 rfl rfl rfl rfl (z:=[ν 0,ν 0,ν 0,ν 0,ν 0,ν 0,ν 0,ν 0,ν 0,ν 0,ν 0,ν 0,ν 0,ν 0,ν 0]) (fun _=>rfl) s12 fun _ g3 w13 h57 s13 _ _=>hK14 _ _ ?_
 refine stA h57 s13 0 rfl rfl rfl κ rfl rfl rfl rfl fun _ w14 h58 s14 _=>mv h58 rfl fun _ h59=>h59.sn [11,10,8,7,6,5,4,3,2,1,0] rfl fun h60=>hK13 _ _<|sqr fun _ hK15=>mv h60 rfl fun _ h61=>bv h61 (z:=.bool true) rfl (cEq _ _ _ _ rfl) fun _ h62=>mv h62 rfl fun _ h63=>sv h63 (wT h63 (E:=true) rfl rfl rfl) rfl rfl rfl (v:=ν 3) (Au h63 rfl rfl) fun _ h64=>sv h64 (wT h64 (E:=true) rfl rfl rfl) rfl rfl rfl (v:=.bool true) (Ce h64 rfl rfl rfl (cEq _ _ _ _ rfl)) fun _ h65=>?_
 refine sv1 h65 rfl (v:=.bool true) (BW h65 rfl rfl rfl) fun _ h66=>mv h66 rfl fun _ h67=>sv h67 (wT h67 (E:=true) rfl rfl rfl) rfl rfl rfl (v:=ν 0) (Au h67 rfl rfl) fun _ h68=>sv h68 (wT h68 (E:=true) rfl rfl rfl) rfl rfl rfl (v:=.bool true) (Ce h68 rfl rfl rfl (cEq _ _ _ _ rfl)) fun _ h69=>sv1 h69 rfl (v:=.bool true) (BW h69 rfl rfl rfl) fun _ h70=>mv h70 rfl fun _ h71=>sw h71 (wT h71 (E:=true) rfl rfl rfl) rfl rfl rfl (v:=.agg #[ν 2,ν 1,ν 1]) (rld h71 rfl rfl (ldA υ76 rfl (n:=3) κ (s14.get 4 rfl:Blk _ _ _ _) rfl rfl)) fun _ h72=>sv h72 (wT h72 (E:=true) rfl rfl rfl) rfl rfl rfl (v:=.agg #[ν 2,ν 1,ν 1]) (RP h72 (xs:=[(0,.const (ν 2)),(1,.const (ν 1)),(2,.const (ν 1))]) rfl (vs:=[(0,ν 2),(1,ν 1),(2,ν 1)]) rfl (fun w=>κ)) fun _ h73=>sv h73 (wT h73 (E:=true) rfl rfl rfl) rfl rfl rfl (v:=.bool ((decide (2=2))&&((decide (1=1))&&(decide (1=1))))) (Ce h73 rfl rfl rfl (Hx _ _ 2 1 1 2 1 1)) fun _ h74=>sv1 h74 rfl (v:=.bool ((decide (2=2))&&((decide (1=1))&&(decide (1=1))))) (BW h74 rfl rfl rfl) fun _ h75=>?_
 refine mv h75 rfl fun _ h76=>sv h76 ((wT h76 rfl rfl rfl).trans (TG (decide_eq_true ω) (TG (decide_eq_true ω) (decide_eq_true ω)))) rfl rfl rfl (v:=ν 0) (Au h76 rfl rfl) fun _ h77=>sv h77 ((wT h77 rfl rfl rfl).trans (TG (decide_eq_true ω) (TG (decide_eq_true ω) (decide_eq_true ω)))) rfl rfl rfl (v:=.bool true) (Ce h77 rfl rfl rfl (cEq _ _ _ _ rfl)) fun _ h78=>sv1 h78 rfl (v:=.bool true) (Mb h78 rfl (E:=((decide (2=2))&&((decide (1=1))&&(decide (1=1))))) (b:=true) rfl (TG (decide_eq_true ω) (TG (decide_eq_true ω) (decide_eq_true ω))) rfl) fun _ h79=>mv h79 rfl fun _ h80=>sv h80 (wT h80 (E:=true) rfl rfl rfl) rfl rfl rfl (v:=ν 0) (Au h80 rfl rfl) fun _ h81=>sv h81 (wT h81 (E:=true) rfl rfl rfl) rfl rfl rfl (v:=.bool true) (Ce h81 rfl rfl rfl (cEq _ _ _ _ rfl)) fun _ h82=>sv1 h82 rfl (v:=.bool true) (BW h82 rfl rfl rfl) fun _ h83=>mv h83 rfl fun _ h84=>sv h84 (wT h84 (E:=true) rfl rfl rfl) rfl rfl rfl (v:=π g2) (rfa h84 rfl rfl (fQ 0)) fun _ h85=>?_
 refine sw h85 (wT h85 (E:=true) rfl rfl rfl) rfl rfl rfl (v:=ν 1) (rld h85 rfl rfl (ldB υ3 rfl (s14.get 3 rfl:Blk _ _ _ _) rfl)) fun _ h86=>sv h86 (wT h86 (E:=true) rfl rfl rfl) rfl rfl rfl (v:=.bool true) (Ce h86 rfl rfl rfl (cEq _ _ _ _ rfl)) fun _ h87=>sv1 h87 rfl (v:=.bool true) (BW h87 rfl rfl rfl) fun _ h88=>mv h88 rfl fun _ h89=>sv h89 (wT h89 (E:=true) rfl rfl rfl) rfl rfl rfl (v:=ν 0) (Au h89 rfl rfl) fun _ h90=>sv h90 (wT h90 (E:=true) rfl rfl rfl) rfl rfl rfl (v:=.bool true) (Ce h90 rfl rfl rfl (cEq _ _ _ _ rfl)) fun _ h91=>sv1 h91 rfl (v:=.bool true) (BW h91 rfl rfl rfl) fun _ h92=>mv h92 rfl fun _ h93=>sv h93 (wT h93 (E:=true) rfl rfl rfl) rfl rfl rfl (v:=π g3) (rfa h93 rfl rfl (fQ 0)) fun _ h94=>sw h94 (wT h94 (E:=true) rfl rfl rfl) rfl rfl rfl (v:=ν 0) (rld h94 rfl rfl (ldB υ3 rfl (s14.get 0 rfl:Blk _ _ _ _) rfl)) fun _ h95=>?_
 refine sv h95 (wT h95 (E:=true) rfl rfl rfl) rfl rfl rfl (v:=.bool true) (Ce h95 rfl rfl rfl (cEq _ _ _ _ rfl)) fun _ h96=>sv1 h96 rfl (v:=.bool true) (BW h96 rfl rfl rfl) fun _ h97=>h97.sk [99,98,97,96,95,94,93,92,91,90,89,88,87,86,85,84,83,82,81,80,79,78,77,76,75,74,73,72,71,70,69,68,67,66,65,64,63,11,10,8,7,6,5,4,3,2,1] rfl fun h98=>mv h98 rfl fun _ h99=>h99.sn [0,11,10,8,7,6,5,4,3,2,1] rfl fun h100=>hK15 _ _<|wp_ret ?_
 try simp only [Exit.then,Exit.inBlock]
 refine Bz (v:=.bool true) (Cx h100 rfl rfl) h100.defs ?_
 exact ⟨congrArg Value.bool rfl,Sep.tail_un (xs:=[]) (s14.pk [6] rfl)⟩
end
section
open Go.RowKit Go.WideShapes
theorem Acp (x0 x1 x2 x3 x4 x5 x6 x7 x8 x9 x10 x11 x12 x13 x14 x15 y0 y1 y2 y3 y4 y5 y6 y7 y8 y9 y10 y11 y12 y13 y14 y15:Int) (w:World):(Op.equalIn 10000 27 (.agg #[.int .u8 x0,.int .u8 x1,.int .u8 x2,.int .u8 x3,.int .u8 x4,.int .u8 x5,.int .u8 x6,.int .u8 x7,.int .u8 x8,.int .u8 x9,.int .u8 x10,.int .u8 x11,.int .u8 x12,.int .u8 x13,.int .u8 x14,.int .u8 x15]) (.agg #[.int .u8 y0,.int .u8 y1,.int .u8 y2,.int .u8 y3,.int .u8 y4,.int .u8 y5,.int .u8 y6,.int .u8 y7,.int .u8 y8,.int .u8 y9,.int .u8 y10,.int .u8 y11,.int .u8 y12,.int .u8 y13,.int .u8 y14,.int .u8 y15])).run prog w=.ok (decide ([x0,x1,x2,x3,x4,x5,x6,x7,x8,x9,x10,x11,x12,x13,x14,x15]=[y0,y1,y2,y3,y4,y5,y6,y7,y8,y9,y10,y11,y12,y13,y14,y15])) w:=by
  have u3:=υ5
  have a3:=Tryz.isAgg5
  have z3:=Tryz.sizeOf5
  rw [show (10000:Nat)=9999+1 from rfl,Op.equalIn]
  simp only [Sem.run_bind,run_underlying υ27,Result.andThen_ok]
  simp only [Std.Legacy.Range.forIn_eq_forIn_range',Std.Legacy.Range.size,Nat.sub_zero,Nat.add_sub_cancel,Nat.div_one,List.range'_succ,List.range'_zero,List.forIn_cons,List.forIn_nil]
  go_simp
  by_cases h0:x0=y0
  case neg=>simp [h0]
  by_cases h1:x1=y1
  case neg=>simp [h0,h1]
  by_cases h2:x2=y2
  case neg=>simp [h0,h1,h2]
  by_cases h3:x3=y3
  case neg=>simp [h0,h1,h2,h3]
  by_cases h4:x4=y4
  case neg=>simp [h0,h1,h2,h3,h4]
  by_cases h5:x5=y5
  case neg=>simp [h0,h1,h2,h3,h4,h5]
  by_cases h6:x6=y6
  case neg=>simp [h0,h1,h2,h3,h4,h5,h6]
  by_cases h7:x7=y7
  case neg=>simp [h0,h1,h2,h3,h4,h5,h6,h7]
  by_cases h8:x8=y8
  case neg=>simp [h0,h1,h2,h3,h4,h5,h6,h7,h8]
  by_cases h9:x9=y9
  case neg=>simp [h0,h1,h2,h3,h4,h5,h6,h7,h8,h9]
  by_cases h10:x10=y10
  case neg=>simp [h0,h1,h2,h3,h4,h5,h6,h7,h8,h9,h10]
  by_cases h11:x11=y11
  case neg=>simp [h0,h1,h2,h3,h4,h5,h6,h7,h8,h9,h10,h11]
  by_cases h12:x12=y12
  case neg=>simp [h0,h1,h2,h3,h4,h5,h6,h7,h8,h9,h10,h11,h12]
  by_cases h13:x13=y13
  case neg=>simp [h0,h1,h2,h3,h4,h5,h6,h7,h8,h9,h10,h11,h12,h13]
  by_cases h14:x14=y14
  case neg=>simp [h0,h1,h2,h3,h4,h5,h6,h7,h8,h9,h10,h11,h12,h13,h14]
  by_cases h15:x15=y15
  case neg=>simp [h0,h1,h2,h3,h4,h5,h6,h7,h8,h9,h10,h11,h12,h13,h14,h15]
  simp [h0,h1,h2,h3,h4,h5,h6,h7,h8,h9,h10,h11,h12,h13,h14,h15]
theorem WN {α:Type} {l:List α} (h:l.length=16):∃ x0 x1 x2 x3 x4 x5 x6 x7 x8 x9 x10 x11 x12 x13 x14 x15,l=[x0,x1,x2,x3,x4,x5,x6,x7,x8,x9,x10,x11,x12,x13,x14,x15]:=by
  match l,h with
  | [x0,x1,x2,x3,x4,x5,x6,x7,x8,x9,x10,x11,x12,x13,x14,x15],_=>exact ⟨x0,x1,x2,x3,x4,x5,x6,x7,x8,x9,x10,x11,x12,x13,x14,x15,rfl⟩
theorem Ca {a b:UInt8} (h:((a.toNat:Nat):Int)=(b.toNat:Nat)):a=b:=UInt8.toNat_inj.1 ω
theorem Acs {xs ys:Λ} (hx:xs.length=16) (hy:ys.length=16) (w:World):(Op.equalIn 10000 27 (.agg (Af xs)) (.agg (Af ys))).run prog w=.ok (decide (xs=ys)) w:=by
  obtain ⟨x0,x1,x2,x3,x4,x5,x6,x7,x8,x9,x10,x11,x12,x13,x14,x15,rfl⟩:=WN hx
  obtain ⟨y0,y1,y2,y3,y4,y5,y6,y7,y8,y9,y10,y11,y12,y13,y14,y15,rfl⟩:=WN hy
  refine (Acp x0.toNat x1.toNat x2.toNat x3.toNat x4.toNat x5.toNat x6.toNat x7.toNat x8.toNat x9.toNat x10.toNat x11.toNat x12.toNat x13.toNat x14.toNat x15.toNat y0.toNat y1.toNat y2.toNat y3.toNat y4.toNat y5.toNat y6.toNat y7.toNat y8.toNat y9.toNat y10.toNat y11.toNat y12.toNat y13.toNat y14.toNat y15.toNat w).trans ?_
  congr 1
  refine decide_eq_decide.2 ⟨fun q=>?_,fun q=>by rw [List.cons.injEq] at q;simp_all⟩
  simp only [List.cons.injEq] at q ⊢
  obtain ⟨q0,q1,q2,q3,q4,q5,q6,q7,q8,q9,q10,q11,q12,q13,q14,q15,_⟩:=q
  exact ⟨Ca q0,Ca q1,Ca q2,Ca q3,Ca q4,Ca q5,Ca q6,Ca q7,Ca q8,Ca q9,Ca q10,Ca q11,Ca q12,Ca q13,Ca q14,Ca q15,trivial⟩
theorem NO (x y:Operand) {xs ys:Λ} (hx:xs.length=16) (hy:ys.length=16) {t:Bool} (ht:decide (xs=ys)=t) (w:World):(do eqGuard .eql 27 x y (.agg (Af xs)) (.agg (Af ys));binOp .eql 27 (.agg (Af xs)) (.agg (Af ys)):Sem Value).run prog w=.ok (.bool t) w:=by
  subst ht
  have h:=Acs hx hy w
  simp [eqGuard,binOp,Op.equal,Op.maxDepth,Sem.run_bind,h]
end
section
theorem Ace (T:TypeId) {E:TypeId} (hu:prog.underlying T=some (.pointer E)) (x y:Operand) (p:Addr) (w:World):(do eqGuard .eql T x y (.pointer (some p)) (.pointer none);binOp .eql T (.pointer (some p)) (.pointer none):Sem Value).run prog w=.ok (.bool false) w:=QD T hu x y (some p) w
theorem YS {k:Int} (h1:1≤k) (h2:k≤128):DL 7 k=true:=by
 have z:=(by decide +kernel:∀ j:Fin 128,DL 7 (((j.val+1:Nat)):Int)=true) ⟨k.toNat-1,ω⟩
 rw [show (((k.toNat-1+1:Nat)):Int)=k by omega] at z;exact z
def Afi (x:InoT) (i:Int):Bool:=((Ey x)&&(decide (i≥1)))&&(decide (i≤32))
section
variable {M:MemM} {P:List PtM} {s:CK} {n:Nat}
theorem Nr {xs d:Λ} (h:xs.length=16):Fk (xs++d)=xs:=by
 unfold Fk;rw [if_neg (by rw [List.length_append];omega),List.take_append_of_le_length ω,List.take_of_length_le ω]
theorem WX (V:Vol M P s n) {xs:Λ} (h:xs.length=16) (hn:n<64):stE M P 3 0 16=0∧Ar M (stP M P 3 0 xs)=xs∧Vol M (stP M P 3 0 xs) (Br s 3 0 xs) (n+1):=by
 have z:=Hb V h hn
 refine ⟨z.1,?_,z.2⟩
 rw [Iq z.2];unfold Ir Br;rw [if_pos ⟨rfl,rfl⟩];exact Nr h
theorem OH (V:Vol M P s n) {xs:Λ} {sp:Int} (hm:Ar M P=xs) (hr:128-((Cm xs 128).length:Int)≤max sp 0):bN M P sp=0∧bE M P sp=18∧bP M P sp=P:=by
 have h:CG M P sp:=by unfold CG;rw [hm];exact hr
 unfold bN bE bP;rw [if_pos h,if_pos h,if_pos h];exact ⟨rfl,rfl,rfl⟩
theorem Ia {xs:Λ}:∀ k i:Nat,(∃ j,i≤j∧j<i+k∧Ig xs j=false)→1≤Cw xs 1 k i
 | 0,i,⟨j,h1,h2,_⟩=>ω
 | k+1,i,⟨j,h1,h2,h3⟩=>by
  unfold Cw
  split
  ·omega
  ·next hn=>
   refine Ia k (i+1) ⟨j,?_,ω,h3⟩
   rcases Nat.eq_or_lt_of_le h1 with e | e
   ·subst e;exact absurd ⟨ω,h3⟩ hn
   ·omega
theorem QX {xs:Λ} (h:(Cm xs 128).length<128):1≤Al xs 1:=by
 refine Ia 128 0 ?_
 refine Classical.byContradiction fun hn=>?_
 have e:Cm xs 128=List.range 128:=by
  unfold Cm
  refine List.filter_eq_self.2 fun j hj=>?_
  rw [List.mem_range] at hj
  cases hb:Ig xs j with
  | true=>rfl
  | false=>exact absurd ⟨j,Nat.zero_le _,ω,hb⟩ hn
 rw [e,List.length_range] at h;omega
theorem MQ (V:Vol M P s n) {xs:Λ} {sp:Int} (hm:Ar M P=xs) (h1:xs.length=16) (hr:¬ 128-((Cm xs 128).length:Int)≤max sp 0) (hn:n<60:=by decide) :
  (bN M P sp=Al xs 1∧bE M P sp=0∧bP M P sp=bP M P sp)∧Ar M (bP M P sp)=AS xs (Al xs 1)∧Vol M (bP M P sp) (Br (Br s 3 0 (AS xs (Al xs 1))) 7 (Al xs 1) (List.replicate 64 0)) (n+2):=by
 have bd:=JG xs
 obtain ⟨q,hq⟩:=BU (YS (QX (xs:=xs) ω) bd.2)
 have z:=MP V ((Iq V).symm.trans hm) rfl hr hq ω
 refine ⟨⟨z.1,z.2.1,rfl⟩,?_,z.2.2⟩
 rw [Iq z.2.2];unfold Ir
 have u:Br (Br s 3 0 (AS xs (Al xs 1))) 7 (Al xs 1) (List.replicate 64 0) 3 0=AS xs (Al xs 1)++(s 3 0).drop (AS xs (Al xs 1)).length:=by
  unfold Br;rw [if_neg (fun h=>by have:=h.1;omega),if_pos ⟨rfl,rfl⟩]
 rw [u];exact Nr (by rw [Aj];exact h1)
end
theorem UZ {w:World} {R:List Ch} {mx:Nat} {K:VolK} {ta:Ω} {tc:Nat} {M:MemM} {P:List PtM} {xs:Λ} (hS0:Sep w ([Ad mx 99 [π K.tg],txP K ta tc M P]++R)) (hM:M.V.length=23168) (h1:xs.length=16) {a:Int} (h:stE M P 3 0 16=a):CallsR prog 10 #[π mx,.agg (Af xs)] w (fun v w'=>∃ ta' tc',v=ν a∧Sep w' ([Ad mx 99 [π K.tg],txP K ta' tc' M (stP M P 3 0 xs)]++R)):=
 Calls.mono (EU hS0 hM h1) fun e w' z=>by rw [h] at z;exact z
theorem Oh {w:World} {R:List Ch} {mx:Nat} {K:VolK} {ta:Ω} {tc:Nat} {M:MemM} {P:List PtM} {xs:Λ} (hS0:Sep w ([Ad mx 99 [π K.tg],txP K ta tc M P]++R)) (hM:M.V.length=23168) (h:Ar M P=xs):CallsR prog 11 #[π mx] w (fun v w'=>v=.agg (Af xs)∧Sep w' ([Ad mx 99 [π K.tg],txP K ta tc M P]++R)):=
 Calls.mono (Tc hS0 hM) fun e w' z=>by rw [h] at z;exact z
theorem II {w:World} {R:List Ch} {mx:Nat} {K:VolK} {ta:Ω} {tc:Nat} {M:MemM} {P:List PtM} {sp a b:Int} {Q:List PtM} (hS0:Sep w ([Ad mx 99 [π K.tg],txP K ta tc M P]++R)) (hM:M.V.length=23168) (hsp:-9223372036854775808≤sp∧sp≤9223372036854775807) (h:bN M P sp=a∧bE M P sp=b∧bP M P sp=Q):CallsR prog 13 #[π mx,ν sp] w (fun v w'=>∃ ta' tc',v=.tuple #[ν a,ν b]∧Sep w' ([Ad mx 99 [π K.tg],txP K ta' tc' M Q]++R)):=
 Calls.mono (SE hS0 hM hsp) fun e w' z=>by rw [h.1,h.2.1,h.2.2] at z;exact z
theorem MBl {w:World} {R:List Ch} {xs:Λ} {sp:Int} (hS0:Sep w ([]++R)) (h2:xs.length=16) (hsp:-9223372036854775808≤sp∧sp≤9223372036854775807) :
  CallsR prog 4 #[.agg (Af xs),ν sp] w (fun v w'=>v=.bool true∧Sep w' ([]++R)):=by
 have hS:Sep w [Ch.many R]:=Sep.tail_many (xs:=[]) hS0;clear hS0
 have hal:=SB xs
 have hfx:=JG xs
 have hal0:0≤((Cm xs 128).length:Int):=ω
 have hal1:((Cm xs 128).length:Int)≤128:=ω
 refine AN func4 rfl (N:=76) ntmps4 (by show 2≤76;decide) [(0,.agg (Af xs)),(1,ν sp)] rfl fun _ h1=>sqr fun _ hK3=>so (wn rfl) fun _ hK1=>Gs h1 rfl rfl rfl rfl rfl (z:=(xs).map Ab) rfl hS fun _ g4 w7 h5 s8 _ _=>hK1 _ _ ?_
 refine mv h5 rfl fun _ h3=>wpList_nil<|hK3 _ _<|sqr fun _ hK2=>cl h3 rfl (cF func6) (MN s8) fun _ v1 w2 r1 h4=>?_
 obtain ⟨kk_x16,ta_x17,tc_x18,M_x19,mx_x20,vx_x21,pg_x22,rp_x23,rfl,s1,hvl28⟩:=r1
 refine mv h4 rfl fun _ h6=>h6.sn [5,4,2,0,1] rfl fun h7=>hK2 _ _<|sq fun _ hK4=>sq fun _ hK5=>?_
 have s2:=s1.drew
 refine wp_region_held_drew (S:=fun w'=>Sep w' [Ad vx_x21 39 (prC (π pg_x22) (π kk_x16.tg) (π mx_x20) (π rp_x23)),Ad mx_x20 99 [π kk_x16.tg],Ad g4 27 ((xs).map Ab),Ch.many R]) κ (s2.pk [0,1,3,4] rfl) (fun hq1=>?_)
 refine tv1 hq1 h7 0 rfl rfl (v:=π vx_x21) (fun w1 _=>(Au h7 rfl rfl) w1) fun _ h8=>?_
 refine tv1 hq1 h8 1 rfl rfl (v:=.bool false) (fun w1 _=>Ce h8 rfl rfl rfl (Ace _ υ28 _ _ ⟨vx_x21,0,none⟩) w1) fun _ h9=>?_
 refine tv1 hq1 h9 2 rfl rfl (v:=.bool false) (fun w1 _=>(Au h9 rfl rfl) w1) fun _ h10=>?_
 refine tv hq1 h10 3 rfl rfl rfl rfl κ κ κ (fun _ _ _ _ h=>h) (wF h10 (E:=false) rfl rfl rfl) (v:=π vx_x21) (fun w1 _=>(Au h10 rfl rfl) w1) fun _ h11=>?_
 refine tv hq1 h11 4 rfl rfl rfl rfl κ κ κ (fun _ _ _ _ h=>h) (wF h11 (E:=false) rfl rfl rfl) (v:=π vx_x21) (fun w1 _=>(Iy h11 rfl rfl) w1) fun _ h12=>?_
 refine tv hq1 h12 5 rfl rfl rfl rfl κ κ κ (fun _ _ _ _ h=>h) (wF h12 (E:=false) rfl rfl rfl) (v:=.pointer (some ⟨vx_x21,2,none⟩)) (fun w1 _=>(rfa h12 rfl rfl (fQ 2)) w1) fun _ h13=>?_
 refine tv hq1 h13 6 rfl rfl rfl rfl κ κ κ (fun _ _ _ _ h=>h) (wF h13 (E:=false) rfl rfl rfl) (v:=π mx_x20) (fun w1 hSw=>(rld h13 rfl rfl (ldB υ35 rfl (hSw.get 0 rfl:Blk _ _ _ _) rfl))) fun _ h14=>?_
 refine tv hq1 h14 7 rfl rfl rfl rfl κ κ κ (fun _ _ _ _ h=>h) (wF h14 (E:=false) rfl rfl rfl) (v:=.agg (Af xs)) (fun w1 hSw=>(rld h14 rfl rfl (DO υ27 (hSw.get 2 rfl:Blk _ _ _ _) (AT _ (by first | exact h2 | (rw [Aj];exact h2) | exact Ak _))))) fun _ h15=>?_
 have hv55:=WX (xs:=xs) hvl28 h2 (by decide)
 refine to_ 8 rfl (wF h15 (E:=false) rfl rfl rfl) κ fun _ hK6=>AU h15 rfl rfl rfl (xs:=[.tmp 15,.tmp 16]) rfl (cF func10) rfl (vs:=[π mx_x20,.agg (Af xs)]) rfl (args:=#[π mx_x20,.agg (Af xs)]) rfl (UZ (xs:=xs) (s2.pk [1,2,0,3,4] rfl) (hvl28).m h2 hv55.1) fun _ v2 w3 r2 h16=>?_
 obtain ⟨tax56,tcx57,rfl,s3⟩:=r2
 refine hK6 _ _ (s3.pk [2,0,3,4] rfl) fun hq2=>?_
 refine tv hq2 h16 9 rfl rfl rfl rfl κ κ κ (fun _ _ _ _ h=>h) (wF h16 (E:=false) rfl rfl rfl) (v:=.bool false) (fun w1 _=>Ce h16 rfl rfl rfl (cNe _ _ _ _ (show decide ((0:Int)≠0)=false from rfl)) w1) fun _ h17=>?_
 refine tv1 hq2 h17 10 rfl rfl (v:=.bool false) (fun w1 _=>(BW h17 rfl rfl rfl) w1) fun _ h18=>?_
 refine h18.sk [19,5,4,2,0,1] rfl fun h19=>?_
 refine wpAnyH_done κ ?_ _
 refine hK5 _ _ ?_
 refine wcF h19 rfl rfl<|h19.sk [5,4,2,0,1] rfl fun h20=>wp_skip<|hK4 _ _<|sqr fun _ hK7=>mvs 2 h20 rfl fun _ h21=>fav h21 rfl (fQ 2) fun _ h22=>ldv h22 s3 2 υ35 rfl rfl rfl rfl fun _ h23=>mv h23 rfl fun _ h24=>?_
 rcases bC (decide (sp<0)) with hc1 | hc1
 ·skip
  have hp1:sp<0:=(dT hc1)
  rcases bC (decide (128-((Cm xs 128).length:Int)≤0)) with hc2 | hc2
  ·skip
   have hp2:128-((Cm xs 128).length:Int)≤0:=(dT hc2)
   have hb86:=OH (sp:=sp) hv55.2.2 hv55.2.1 ω
   refine cl h24 rfl (cF func13) (II s3 (hv55.2.2).m hsp hb86) fun _ v3 w4 r3 h25=>?_
   obtain ⟨tax87,tcx88,rfl,s4⟩:=r3
   refine mvs 5 h25 rfl fun _ h26=>h26.sn [7,6,5,4,2,0,1] rfl fun h27=>hK7 _ _<|sq fun _ hK8=>sqr fun _ hK9=>mv h27 rfl fun _ h28=>bv h28 (z:=.bool true) rfl (cLt _ _ _ _ (decide_eq_true ω)) fun _ h29=>h29.sn [30,7,6,5,4,2,0,1] rfl fun h30=>hK9 _ _<|wcT h30 rfl rfl<|h30.sk [7,6,5,4,2,0,1] rfl fun h31=>?_
   refine wp_region_lit<|h31.sk [7,6,5,4,2,0] rfl fun h32=>mv h32 rfl fun _ h33=>wpList_nil<|hK8 _ _<|sq fun _ hK10=>sqr fun _ hK11=>sw1 h33 rfl (v:=.agg (Af xs)) (rld h33 rfl rfl (DO υ27 (s4.get 3 rfl:Blk _ _ _ _) (AT _ (by first | exact h2 | (rw [Aj];exact h2) | exact Ak _)))) fun _ h34=>cl h34 rfl (cF func14) (AG s4 (FD xs _ (AT _ (by first | exact h2 | (rw [Aj];exact h2) | exact Ak _)))) fun _ v4 w5 r4 h35=>?_
   obtain ⟨rfl,s5⟩:=r4
   refine bv h35 (z:=ν (128-((Cm xs 128).length:Int))) rfl (Kl _ _ _ ω ω ω) fun _ h36=>mv h36 rfl fun _ h37=>bv h37 (z:=.bool true) rfl (cLe _ _ _ _ (decide_eq_true ω)) fun _ h38=>h38.sn [35,1,7,6,5,4,2,0] rfl fun h39=>hK11 _ _<|wcT h39 rfl rfl<|h39.sk [1,7,6,5,4,2,0] rfl fun h40=>sq fun _ hK12=>?_
   have s6:=s5.drew
   refine wp_region_held_drew (S:=fun w'=>Sep w' [Ad mx_x20 99 [π kk_x16.tg],txP kk_x16 tax87 tcx88 M_x19 (stP M_x19 [] 3 0 xs),Ad vx_x21 39 (prC (π pg_x22) (π kk_x16.tg) (π mx_x20) (π rp_x23)),Ad g4 27 ((xs).map Ab),Ch.many R]) κ s6 (fun hq3=>?_)
   refine tv1 hq3 h40 0 rfl rfl (v:=ν 0) (fun w1 _=>(Au h40 rfl rfl) w1) fun _ h41=>?_
   refine tv1 hq3 h41 1 rfl rfl (v:=.bool true) (fun w1 _=>Ce h41 rfl rfl rfl (cEq _ _ _ _ (show decide ((0:Int)=0)=true from rfl)) w1) fun _ h42=>?_
   refine tv1 hq3 h42 2 rfl rfl (v:=.bool true) (fun w1 _=>(Au h42 rfl rfl) w1) fun _ h43=>?_
   refine tv hq3 h43 3 rfl rfl rfl rfl κ κ κ (fun _ _ _ _ h=>h) (wT h43 (E:=true) rfl rfl rfl) (v:=ν 18) (fun w1 _=>(Au h43 rfl rfl) w1) fun _ h44=>?_
   refine tv hq3 h44 4 rfl rfl rfl rfl κ κ κ (fun _ _ _ _ h=>h) (wT h44 (E:=true) rfl rfl rfl) (v:=.bool true) (fun w1 _=>Ce h44 rfl rfl rfl (cEq _ _ _ _ (show decide ((18:Int)=18)=true from rfl)) w1) fun _ h45=>?_
   refine tv1 hq3 h45 5 rfl rfl (v:=.bool true) (fun w1 _=>(BW h45 rfl rfl rfl) w1) fun _ h46=>?_
   refine tv1 hq3 h46 6 rfl rfl (v:=.bool true) (fun w1 _=>(Au h46 rfl rfl) w1) fun _ h47=>?_
   refine tv hq3 h47 7 rfl rfl rfl rfl κ κ κ (fun _ _ _ _ h=>h) (wT h47 (E:=true) rfl rfl rfl) (v:=π vx_x21) (fun w1 _=>(Au h47 rfl rfl) w1) fun _ h48=>?_
   refine tv hq3 h48 8 rfl rfl rfl rfl κ κ κ (fun _ _ _ _ h=>h) (wT h48 (E:=true) rfl rfl rfl) (v:=π vx_x21) (fun w1 _=>(Iy h48 rfl rfl) w1) fun _ h49=>?_
   refine tv hq3 h49 9 rfl rfl rfl rfl κ κ κ (fun _ _ _ _ h=>h) (wT h49 (E:=true) rfl rfl rfl) (v:=.pointer (some ⟨vx_x21,2,none⟩)) (fun w1 _=>(rfa h49 rfl rfl (fQ 2)) w1) fun _ h50=>?_
   refine tv hq3 h50 10 rfl rfl rfl rfl κ κ κ (fun _ _ _ _ h=>h) (wT h50 (E:=true) rfl rfl rfl) (v:=π mx_x20) (fun w1 hSw=>(rld h50 rfl rfl (ldB υ35 rfl (hSw.get 2 rfl:Blk _ _ _ _) rfl))) fun _ h51=>?_
   refine tv hq3 h51 12 rfl rfl rfl rfl κ κ κ (fun _ _ _ _ h=>h) (wT h51 (E:=true) rfl rfl rfl) (v:=.agg (Af xs)) (fun w1 hSw=>(rld h51 rfl rfl (DO υ27 (hSw.get 3 rfl:Blk _ _ _ _) (AT _ (by first | exact h2 | (rw [Aj];exact h2) | exact Ak _))))) fun _ h52=>?_
   refine to_ 11 rfl (wT h52 (E:=true) rfl rfl rfl) κ fun _ hK13=>AU h52 rfl rfl rfl (xs:=[.tmp 46]) rfl (cF func11) rfl (vs:=[π mx_x20]) rfl (args:=#[π mx_x20]) rfl (Oh s6 (hv55.2.2).m hv55.2.1) fun _ v5 w6 r5 h53=>?_
   obtain ⟨rfl,s7⟩:=r5
   refine hK13 _ _ s7 fun hq4=>?_
   refine tv hq4 h53 13 rfl rfl rfl rfl κ κ κ (fun _ _ _ _ h=>h) (wT h53 (E:=true) rfl rfl rfl) (v:=.bool true) (fun w1 _=>Ce h53 rfl rfl rfl (NO _ _ (AT _ (by first | exact h2 | (rw [Aj];exact h2) | exact Ak _)) (AT _ (by first | exact h2 | (rw [Aj];exact h2) | exact Ak _)) (decide_eq_true rfl)) w1) fun _ h54=>?_
   refine tv1 hq4 h54 14 rfl rfl (v:=.bool true) (fun w1 _=>(BW h54 rfl rfl rfl) w1) fun _ h55=>?_
   refine tv1 hq4 h55 15 rfl rfl (v:=.bool true) (fun w1 _=>(Au h55 rfl rfl) w1) fun _ h56=>?_
   refine to_ 16 rfl (wT h56 (E:=true) rfl rfl rfl) κ fun _ hK14=>AU h56 rfl rfl rfl (xs:=[]) rfl (cF func12) rfl (vs:=[]) rfl (args:=#[]) rfl (Hm s7) fun _ v6 w8 r6 h57=>?_
   obtain ⟨rfl,s9⟩:=r6
   refine hK14 _ _ s9 fun hq5=>?_
   refine tv1 hq5 h57 17 rfl rfl (v:=.bool true) (fun w1 _=>(BW h57 rfl rfl rfl) w1) fun _ h58=>?_
   refine h58.sk [53,52,51,50,49,47,48,46,45,44,43,42,41,40,39,38,37,36,1,7,6,5,2,0] rfl fun h59=>?_
   refine tv1 hq5 h59 18 rfl rfl (v:=.bool true) (fun w1 _=>(Bp h59 rfl rfl) w1) fun _ h60=>?_
   refine h60.sk [4,1,7,6,5,2,0] rfl fun h61=>?_
   refine wpAnyH_done κ ?_ _
   refine hK12 _ _ ?_
   refine wp_ret ?_
   try simp only [Exit.then,Exit.inBlock]
   refine Bz (v:=.bool true) (Cx h61 rfl rfl) h61.defs ?_
   exact ⟨congrArg Value.bool rfl,Sep.tail_un (xs:=[]) (s9.pk [4] rfl)⟩
  ·skip
   have hp3:¬ (128-((Cm xs 128).length:Int)≤0):=(dF hc2)
   have hb193:=MQ (sp:=sp) hv55.2.2 hv55.2.1 h2 ω
   refine cl h24 rfl (cF func13) (II s3 (hv55.2.2).m hsp hb193.1) fun _ v7 w9 r7 h62=>?_
   obtain ⟨tax194,tcx195,rfl,s10⟩:=r7
   refine mvs 5 h62 rfl fun _ h63=>h63.sn [7,6,5,4,2,0,1] rfl fun h64=>hK7 _ _<|sq fun _ hK15=>sqr fun _ hK16=>mv h64 rfl fun _ h65=>bv h65 (z:=.bool true) rfl (cLt _ _ _ _ (decide_eq_true ω)) fun _ h66=>h66.sn [30,7,6,5,4,2,0,1] rfl fun h67=>hK16 _ _<|wcT h67 rfl rfl<|h67.sk [7,6,5,4,2,0,1] rfl fun h68=>?_
   refine wp_region_lit<|h68.sk [7,6,5,4,2,0] rfl fun h69=>mv h69 rfl fun _ h70=>wpList_nil<|hK15 _ _<|sq fun _ hK17=>sqr fun _ hK18=>sw1 h70 rfl (v:=.agg (Af xs)) (rld h70 rfl rfl (DO υ27 (s10.get 3 rfl:Blk _ _ _ _) (AT _ (by first | exact h2 | (rw [Aj];exact h2) | exact Ak _)))) fun _ h71=>cl h71 rfl (cF func14) (AG s10 (FD xs _ (AT _ (by first | exact h2 | (rw [Aj];exact h2) | exact Ak _)))) fun _ v8 w10 r8 h72=>?_
   obtain ⟨rfl,s11⟩:=r8
   refine bv h72 (z:=ν (128-((Cm xs 128).length:Int))) rfl (Kl _ _ _ ω ω ω) fun _ h73=>mv h73 rfl fun _ h74=>bv h74 (z:=.bool false) rfl (cLe _ _ _ _ (decide_eq_false ω)) fun _ h75=>h75.sn [35,1,7,6,5,4,2,0] rfl fun h76=>hK18 _ _<|wcF h76 rfl rfl<|h76.sk [1,7,6,5,4,2,0] rfl fun h77=>wp_skip<|hK17 _ _<|sq fun _ hK19=>?_
   have s12:=s11.drew
   refine wp_region_held_drew (S:=fun w'=>Sep w' [Ad mx_x20 99 [π kk_x16.tg],txP kk_x16 tax194 tcx195 M_x19 (bP M_x19 (stP M_x19 [] 3 0 xs) sp),Ad vx_x21 39 (prC (π pg_x22) (π kk_x16.tg) (π mx_x20) (π rp_x23)),Ad g4 27 ((xs).map Ab),Ch.many R]) κ s12 (fun hq6=>?_)
   refine tv1 hq6 h77 0 rfl rfl (v:=ν (Al xs 1)) (fun w1 _=>(Au h77 rfl rfl) w1) fun _ h78=>?_
   refine tv1 hq6 h78 1 rfl rfl (v:=.agg (Af xs)) (fun w1 hSw=>(rld h78 rfl rfl (DO υ27 (hSw.get 3 rfl:Blk _ _ _ _) (AT _ (by first | exact h2 | (rw [Aj];exact h2) | exact Ak _))))) fun _ h79=>?_
   refine to_ 2 rfl (wn rfl) κ fun _ hK20=>AU h79 rfl rfl rfl (xs:=[.tmp 55,.const (ν 1)]) rfl (cF func15) rfl (vs:=[.agg (Af xs),ν 1]) rfl (args:=#[.agg (Af xs),ν 1]) rfl (AG s12 (JH xs 1 _ (AT _ (by first | exact h2 | (rw [Aj];exact h2) | exact Ak _)) ω)) fun _ v9 w11 r9 h80=>?_
   obtain ⟨rfl,s13⟩:=r9
   refine hK20 _ _ s13 fun hq7=>?_
   refine tv1 hq7 h80 3 rfl rfl (v:=.bool true) (fun w1 _=>Ce h80 rfl rfl rfl (cEq _ _ _ _ (decide_eq_true rfl)) w1) fun _ h81=>?_
   refine tv1 hq7 h81 4 rfl rfl (v:=.bool true) (fun w1 _=>(Au h81 rfl rfl) w1) fun _ h82=>?_
   refine tv hq7 h82 5 rfl rfl rfl rfl κ κ κ (fun _ _ _ _ h=>h) (wT h82 (E:=true) rfl rfl rfl) (v:=ν 0) (fun w1 _=>(Au h82 rfl rfl) w1) fun _ h83=>?_
   refine tv hq7 h83 6 rfl rfl rfl rfl κ κ κ (fun _ _ _ _ h=>h) (wT h83 (E:=true) rfl rfl rfl) (v:=.bool true) (fun w1 _=>Ce h83 rfl rfl rfl (cEq _ _ _ _ (show decide ((0:Int)=0)=true from rfl)) w1) fun _ h84=>?_
   refine tv1 hq7 h84 7 rfl rfl (v:=.bool true) (fun w1 _=>(BW h84 rfl rfl rfl) w1) fun _ h85=>?_
   refine tv1 hq7 h85 8 rfl rfl (v:=.bool true) (fun w1 _=>(Au h85 rfl rfl) w1) fun _ h86=>?_
   refine tv hq7 h86 9 rfl rfl rfl rfl κ κ κ (fun _ _ _ _ h=>h) (wT h86 (E:=true) rfl rfl rfl) (v:=π vx_x21) (fun w1 _=>(Au h86 rfl rfl) w1) fun _ h87=>?_
   refine tv hq7 h87 10 rfl rfl rfl rfl κ κ κ (fun _ _ _ _ h=>h) (wT h87 (E:=true) rfl rfl rfl) (v:=π vx_x21) (fun w1 _=>(Iy h87 rfl rfl) w1) fun _ h88=>?_
   refine tv hq7 h88 11 rfl rfl rfl rfl κ κ κ (fun _ _ _ _ h=>h) (wT h88 (E:=true) rfl rfl rfl) (v:=.pointer (some ⟨vx_x21,2,none⟩)) (fun w1 _=>(rfa h88 rfl rfl (fQ 2)) w1) fun _ h89=>?_
   refine tv hq7 h89 12 rfl rfl rfl rfl κ κ κ (fun _ _ _ _ h=>h) (wT h89 (E:=true) rfl rfl rfl) (v:=π mx_x20) (fun w1 hSw=>(rld h89 rfl rfl (ldB υ35 rfl (hSw.get 2 rfl:Blk _ _ _ _) rfl))) fun _ h90=>?_
   refine tv hq7 h90 14 rfl rfl rfl rfl κ κ κ (fun _ _ _ _ h=>h) (wT h90 (E:=true) rfl rfl rfl) (v:=.agg (Af xs)) (fun w1 hSw=>(rld h90 rfl rfl (DO υ27 (hSw.get 3 rfl:Blk _ _ _ _) (AT _ (by first | exact h2 | (rw [Aj];exact h2) | exact Ak _))))) fun _ h91=>?_
   refine tv hq7 h91 15 rfl rfl rfl rfl κ κ κ (fun _ _ _ _ h=>h) (wT h91 (E:=true) rfl rfl rfl) (v:=ν (Al xs 1)) (fun w1 _=>(Au h91 rfl rfl) w1) fun _ h92=>?_
   refine to_ 13 rfl (wT h92 (E:=true) rfl rfl rfl) κ fun _ hK21=>AU h92 rfl rfl rfl (xs:=[.tmp 66]) rfl (cF func11) rfl (vs:=[π mx_x20]) rfl (args:=#[π mx_x20]) rfl (Oh s13 (hb193.2.2).m hb193.2.1) fun _ v10 w12 r10 h93=>?_
   obtain ⟨rfl,s14⟩:=r10
   refine hK21 _ _ s14 fun hq8=>?_
   refine to_ 16 rfl (wT h93 (E:=true) rfl rfl rfl) κ fun _ hK22=>AU h93 rfl rfl rfl (xs:=[.tmp 68,.tmp 69]) rfl (cF func16) rfl (vs:=[.agg (Af xs),ν (Al xs 1)]) rfl (args:=#[.agg (Af xs),ν (Al xs 1)]) rfl (AG s14 (Jl xs (Al xs 1) _ (AT _ (by first | exact h2 | (rw [Aj];exact h2) | exact Ak _)) ω)) fun _ v11 w13 r11 h94=>?_
   obtain ⟨rfl,s15⟩:=r11
   refine hK22 _ _ s15 fun hq9=>?_
   refine tv hq9 h94 17 rfl rfl rfl rfl κ κ κ (fun _ _ _ _ h=>h) (wT h94 (E:=true) rfl rfl rfl) (v:=.bool true) (fun w1 _=>Ce h94 rfl rfl rfl (NO _ _ (AT _ (by first | exact h2 | (rw [Aj];exact h2) | exact Ak _)) (AT _ (by first | exact h2 | (rw [Aj];exact h2) | exact Ak _)) (decide_eq_true rfl)) w1) fun _ h95=>?_
   refine tv1 hq9 h95 18 rfl rfl (v:=.bool true) (fun w1 _=>(BW h95 rfl rfl rfl) w1) fun _ h96=>?_
   refine tv1 hq9 h96 19 rfl rfl (v:=.bool true) (fun w1 _=>(Au h96 rfl rfl) w1) fun _ h97=>?_
   refine to_ 20 rfl (wT h97 (E:=true) rfl rfl rfl) κ fun _ hK23=>AU h97 rfl rfl rfl (xs:=[]) rfl (cF func12) rfl (vs:=[]) rfl (args:=#[]) rfl (Hm s15) fun _ v12 w14 r12 h98=>?_
   obtain ⟨rfl,s16⟩:=r12
   refine hK23 _ _ s16 fun hq10=>?_
   refine tv1 hq10 h98 21 rfl rfl (v:=.bool true) (fun w1 _=>(BW h98 rfl rfl rfl) w1) fun _ h99=>?_
   refine h99.sk [75,74,73,72,71,70,67,69,68,66,65,64,63,62,61,60,59,58,57,56,55,54,1,7,6,5,2,0] rfl fun h100=>?_
   refine tv1 hq10 h100 22 rfl rfl (v:=.bool true) (fun w1 _=>(Bp h100 rfl rfl) w1) fun _ h101=>?_
   refine h101.sk [4,1,7,6,5,2,0] rfl fun h102=>?_
   refine wpAnyH_done κ ?_ _
   refine hK19 _ _ ?_
   refine wp_ret ?_
   try simp only [Exit.then,Exit.inBlock]
   refine Bz (v:=.bool true) (Cx h102 rfl rfl) h102.defs ?_
   exact ⟨congrArg Value.bool rfl,Sep.tail_un (xs:=[]) (s16.pk [4] rfl)⟩
 ·skip
  have hp4:¬ (sp<0):=(dF hc1)
  rcases bC (decide (128-((Cm xs 128).length:Int)≤sp)) with hc3 | hc3
  ·skip
   have hp5:128-((Cm xs 128).length:Int)≤sp:=(dT hc3)
   have hb322:=OH (sp:=sp) hv55.2.2 hv55.2.1 ω
   refine cl h24 rfl (cF func13) (II s3 (hv55.2.2).m hsp hb322) fun _ v13 w15 r13 h103=>?_
   obtain ⟨tax323,tcx324,rfl,s17⟩:=r13
   refine mvs 5 h103 rfl fun _ h104=>h104.sn [7,6,5,4,2,0,1] rfl fun h105=>hK7 _ _<|sq fun _ hK24=>sqr fun _ hK25=>mv h105 rfl fun _ h106=>bv h106 (z:=.bool false) rfl (cLt _ _ _ _ (decide_eq_false ω)) fun _ h107=>h107.sn [30,7,6,5,4,2,0,1] rfl fun h108=>hK25 _ _<|wcF h108 rfl rfl<|h108.sk [7,6,5,4,2,0,1] rfl fun h109=>?_
   refine wp_skip<|hK24 _ _<|sq fun _ hK26=>sqr fun _ hK27=>sw1 h109 rfl (v:=.agg (Af xs)) (rld h109 rfl rfl (DO υ27 (s17.get 3 rfl:Blk _ _ _ _) (AT _ (by first | exact h2 | (rw [Aj];exact h2) | exact Ak _)))) fun _ h110=>cl h110 rfl (cF func14) (AG s17 (FD xs _ (AT _ (by first | exact h2 | (rw [Aj];exact h2) | exact Ak _)))) fun _ v14 w16 r14 h111=>?_
   obtain ⟨rfl,s18⟩:=r14
   refine bv h111 (z:=ν (128-((Cm xs 128).length:Int))) rfl (Kl _ _ _ ω ω ω) fun _ h112=>mv h112 rfl fun _ h113=>bv h113 (z:=.bool true) rfl (cLe _ _ _ _ (decide_eq_true ω)) fun _ h114=>h114.sn [35,7,6,5,4,2,0,1] rfl fun h115=>hK27 _ _<|wcT h115 rfl rfl<|h115.sk [7,6,5,4,2,0,1] rfl fun h116=>sq fun _ hK28=>?_
   have s19:=s18.drew
   refine wp_region_held_drew (S:=fun w'=>Sep w' [Ad mx_x20 99 [π kk_x16.tg],txP kk_x16 tax323 tcx324 M_x19 (stP M_x19 [] 3 0 xs),Ad vx_x21 39 (prC (π pg_x22) (π kk_x16.tg) (π mx_x20) (π rp_x23)),Ad g4 27 ((xs).map Ab),Ch.many R]) κ s19 (fun hq11=>?_)
   refine tv1 hq11 h116 0 rfl rfl (v:=ν 0) (fun w1 _=>(Au h116 rfl rfl) w1) fun _ h117=>?_
   refine tv1 hq11 h117 1 rfl rfl (v:=.bool true) (fun w1 _=>Ce h117 rfl rfl rfl (cEq _ _ _ _ (show decide ((0:Int)=0)=true from rfl)) w1) fun _ h118=>?_
   refine tv1 hq11 h118 2 rfl rfl (v:=.bool true) (fun w1 _=>(Au h118 rfl rfl) w1) fun _ h119=>?_
   refine tv hq11 h119 3 rfl rfl rfl rfl κ κ κ (fun _ _ _ _ h=>h) (wT h119 (E:=true) rfl rfl rfl) (v:=ν 18) (fun w1 _=>(Au h119 rfl rfl) w1) fun _ h120=>?_
   refine tv hq11 h120 4 rfl rfl rfl rfl κ κ κ (fun _ _ _ _ h=>h) (wT h120 (E:=true) rfl rfl rfl) (v:=.bool true) (fun w1 _=>Ce h120 rfl rfl rfl (cEq _ _ _ _ (show decide ((18:Int)=18)=true from rfl)) w1) fun _ h121=>?_
   refine tv1 hq11 h121 5 rfl rfl (v:=.bool true) (fun w1 _=>(BW h121 rfl rfl rfl) w1) fun _ h122=>?_
   refine tv1 hq11 h122 6 rfl rfl (v:=.bool true) (fun w1 _=>(Au h122 rfl rfl) w1) fun _ h123=>?_
   refine tv hq11 h123 7 rfl rfl rfl rfl κ κ κ (fun _ _ _ _ h=>h) (wT h123 (E:=true) rfl rfl rfl) (v:=π vx_x21) (fun w1 _=>(Au h123 rfl rfl) w1) fun _ h124=>?_
   refine tv hq11 h124 8 rfl rfl rfl rfl κ κ κ (fun _ _ _ _ h=>h) (wT h124 (E:=true) rfl rfl rfl) (v:=π vx_x21) (fun w1 _=>(Iy h124 rfl rfl) w1) fun _ h125=>?_
   refine tv hq11 h125 9 rfl rfl rfl rfl κ κ κ (fun _ _ _ _ h=>h) (wT h125 (E:=true) rfl rfl rfl) (v:=.pointer (some ⟨vx_x21,2,none⟩)) (fun w1 _=>(rfa h125 rfl rfl (fQ 2)) w1) fun _ h126=>?_
   refine tv hq11 h126 10 rfl rfl rfl rfl κ κ κ (fun _ _ _ _ h=>h) (wT h126 (E:=true) rfl rfl rfl) (v:=π mx_x20) (fun w1 hSw=>(rld h126 rfl rfl (ldB υ35 rfl (hSw.get 2 rfl:Blk _ _ _ _) rfl))) fun _ h127=>?_
   refine tv hq11 h127 12 rfl rfl rfl rfl κ κ κ (fun _ _ _ _ h=>h) (wT h127 (E:=true) rfl rfl rfl) (v:=.agg (Af xs)) (fun w1 hSw=>(rld h127 rfl rfl (DO υ27 (hSw.get 3 rfl:Blk _ _ _ _) (AT _ (by first | exact h2 | (rw [Aj];exact h2) | exact Ak _))))) fun _ h128=>?_
   refine to_ 11 rfl (wT h128 (E:=true) rfl rfl rfl) κ fun _ hK29=>AU h128 rfl rfl rfl (xs:=[.tmp 46]) rfl (cF func11) rfl (vs:=[π mx_x20]) rfl (args:=#[π mx_x20]) rfl (Oh s19 (hv55.2.2).m hv55.2.1) fun _ v15 w17 r15 h129=>?_
   obtain ⟨rfl,s20⟩:=r15
   refine hK29 _ _ s20 fun hq12=>?_
   refine tv hq12 h129 13 rfl rfl rfl rfl κ κ κ (fun _ _ _ _ h=>h) (wT h129 (E:=true) rfl rfl rfl) (v:=.bool true) (fun w1 _=>Ce h129 rfl rfl rfl (NO _ _ (AT _ (by first | exact h2 | (rw [Aj];exact h2) | exact Ak _)) (AT _ (by first | exact h2 | (rw [Aj];exact h2) | exact Ak _)) (decide_eq_true rfl)) w1) fun _ h130=>?_
   refine tv1 hq12 h130 14 rfl rfl (v:=.bool true) (fun w1 _=>(BW h130 rfl rfl rfl) w1) fun _ h131=>?_
   refine tv1 hq12 h131 15 rfl rfl (v:=.bool true) (fun w1 _=>(Au h131 rfl rfl) w1) fun _ h132=>?_
   refine to_ 16 rfl (wT h132 (E:=true) rfl rfl rfl) κ fun _ hK30=>AU h132 rfl rfl rfl (xs:=[]) rfl (cF func12) rfl (vs:=[]) rfl (args:=#[]) rfl (Hm s20) fun _ v16 w18 r16 h133=>?_
   obtain ⟨rfl,s21⟩:=r16
   refine hK30 _ _ s21 fun hq13=>?_
   refine tv1 hq13 h133 17 rfl rfl (v:=.bool true) (fun w1 _=>(BW h133 rfl rfl rfl) w1) fun _ h134=>?_
   refine h134.sk [53,52,51,50,49,47,48,46,45,44,43,42,41,40,39,38,37,36,7,6,5,2,0,1] rfl fun h135=>?_
   refine tv1 hq13 h135 18 rfl rfl (v:=.bool true) (fun w1 _=>(Bp h135 rfl rfl) w1) fun _ h136=>?_
   refine h136.sk [4,7,6,5,2,0,1] rfl fun h137=>?_
   refine wpAnyH_done κ ?_ _
   refine hK28 _ _ ?_
   refine wp_ret ?_
   try simp only [Exit.then,Exit.inBlock]
   refine Bz (v:=.bool true) (Cx h137 rfl rfl) h137.defs ?_
   exact ⟨congrArg Value.bool rfl,Sep.tail_un (xs:=[]) (s21.pk [4] rfl)⟩
  ·skip
   have hp6:¬ (128-((Cm xs 128).length:Int)≤sp):=(dF hc3)
   have hb426:=MQ (sp:=sp) hv55.2.2 hv55.2.1 h2 ω
   refine cl h24 rfl (cF func13) (II s3 (hv55.2.2).m hsp hb426.1) fun _ v17 w19 r17 h138=>?_
   obtain ⟨tax427,tcx428,rfl,s22⟩:=r17
   refine mvs 5 h138 rfl fun _ h139=>h139.sn [7,6,5,4,2,0,1] rfl fun h140=>hK7 _ _<|sq fun _ hK31=>sqr fun _ hK32=>mv h140 rfl fun _ h141=>bv h141 (z:=.bool false) rfl (cLt _ _ _ _ (decide_eq_false ω)) fun _ h142=>h142.sn [30,7,6,5,4,2,0,1] rfl fun h143=>hK32 _ _<|wcF h143 rfl rfl<|h143.sk [7,6,5,4,2,0,1] rfl fun h144=>?_
   refine wp_skip<|hK31 _ _<|sq fun _ hK33=>sqr fun _ hK34=>sw1 h144 rfl (v:=.agg (Af xs)) (rld h144 rfl rfl (DO υ27 (s22.get 3 rfl:Blk _ _ _ _) (AT _ (by first | exact h2 | (rw [Aj];exact h2) | exact Ak _)))) fun _ h145=>cl h145 rfl (cF func14) (AG s22 (FD xs _ (AT _ (by first | exact h2 | (rw [Aj];exact h2) | exact Ak _)))) fun _ v18 w20 r18 h146=>?_
   obtain ⟨rfl,s23⟩:=r18
   refine bv h146 (z:=ν (128-((Cm xs 128).length:Int))) rfl (Kl _ _ _ ω ω ω) fun _ h147=>mv h147 rfl fun _ h148=>bv h148 (z:=.bool false) rfl (cLe _ _ _ _ (decide_eq_false ω)) fun _ h149=>h149.sn [35,7,6,5,4,2,0,1] rfl fun h150=>hK34 _ _<|wcF h150 rfl rfl<|h150.sk [7,6,5,4,2,0,1] rfl fun h151=>wp_skip<|hK33 _ _<|sq fun _ hK35=>?_
   have s24:=s23.drew
   refine wp_region_held_drew (S:=fun w'=>Sep w' [Ad mx_x20 99 [π kk_x16.tg],txP kk_x16 tax427 tcx428 M_x19 (bP M_x19 (stP M_x19 [] 3 0 xs) sp),Ad vx_x21 39 (prC (π pg_x22) (π kk_x16.tg) (π mx_x20) (π rp_x23)),Ad g4 27 ((xs).map Ab),Ch.many R]) κ s24 (fun hq14=>?_)
   refine tv1 hq14 h151 0 rfl rfl (v:=ν (Al xs 1)) (fun w1 _=>(Au h151 rfl rfl) w1) fun _ h152=>?_
   refine tv1 hq14 h152 1 rfl rfl (v:=.agg (Af xs)) (fun w1 hSw=>(rld h152 rfl rfl (DO υ27 (hSw.get 3 rfl:Blk _ _ _ _) (AT _ (by first | exact h2 | (rw [Aj];exact h2) | exact Ak _))))) fun _ h153=>?_
   refine to_ 2 rfl (wn rfl) κ fun _ hK36=>AU h153 rfl rfl rfl (xs:=[.tmp 55,.const (ν 1)]) rfl (cF func15) rfl (vs:=[.agg (Af xs),ν 1]) rfl (args:=#[.agg (Af xs),ν 1]) rfl (AG s24 (JH xs 1 _ (AT _ (by first | exact h2 | (rw [Aj];exact h2) | exact Ak _)) ω)) fun _ v19 w21 r19 h154=>?_
   obtain ⟨rfl,s25⟩:=r19
   refine hK36 _ _ s25 fun hq15=>?_
   refine tv1 hq15 h154 3 rfl rfl (v:=.bool true) (fun w1 _=>Ce h154 rfl rfl rfl (cEq _ _ _ _ (decide_eq_true rfl)) w1) fun _ h155=>?_
   refine tv1 hq15 h155 4 rfl rfl (v:=.bool true) (fun w1 _=>(Au h155 rfl rfl) w1) fun _ h156=>?_
   refine tv hq15 h156 5 rfl rfl rfl rfl κ κ κ (fun _ _ _ _ h=>h) (wT h156 (E:=true) rfl rfl rfl) (v:=ν 0) (fun w1 _=>(Au h156 rfl rfl) w1) fun _ h157=>?_
   refine tv hq15 h157 6 rfl rfl rfl rfl κ κ κ (fun _ _ _ _ h=>h) (wT h157 (E:=true) rfl rfl rfl) (v:=.bool true) (fun w1 _=>Ce h157 rfl rfl rfl (cEq _ _ _ _ (show decide ((0:Int)=0)=true from rfl)) w1) fun _ h158=>?_
   refine tv1 hq15 h158 7 rfl rfl (v:=.bool true) (fun w1 _=>(BW h158 rfl rfl rfl) w1) fun _ h159=>?_
   refine tv1 hq15 h159 8 rfl rfl (v:=.bool true) (fun w1 _=>(Au h159 rfl rfl) w1) fun _ h160=>?_
   refine tv hq15 h160 9 rfl rfl rfl rfl κ κ κ (fun _ _ _ _ h=>h) (wT h160 (E:=true) rfl rfl rfl) (v:=π vx_x21) (fun w1 _=>(Au h160 rfl rfl) w1) fun _ h161=>?_
   refine tv hq15 h161 10 rfl rfl rfl rfl κ κ κ (fun _ _ _ _ h=>h) (wT h161 (E:=true) rfl rfl rfl) (v:=π vx_x21) (fun w1 _=>(Iy h161 rfl rfl) w1) fun _ h162=>?_
   refine tv hq15 h162 11 rfl rfl rfl rfl κ κ κ (fun _ _ _ _ h=>h) (wT h162 (E:=true) rfl rfl rfl) (v:=.pointer (some ⟨vx_x21,2,none⟩)) (fun w1 _=>(rfa h162 rfl rfl (fQ 2)) w1) fun _ h163=>?_
   refine tv hq15 h163 12 rfl rfl rfl rfl κ κ κ (fun _ _ _ _ h=>h) (wT h163 (E:=true) rfl rfl rfl) (v:=π mx_x20) (fun w1 hSw=>(rld h163 rfl rfl (ldB υ35 rfl (hSw.get 2 rfl:Blk _ _ _ _) rfl))) fun _ h164=>?_
   refine tv hq15 h164 14 rfl rfl rfl rfl κ κ κ (fun _ _ _ _ h=>h) (wT h164 (E:=true) rfl rfl rfl) (v:=.agg (Af xs)) (fun w1 hSw=>(rld h164 rfl rfl (DO υ27 (hSw.get 3 rfl:Blk _ _ _ _) (AT _ (by first | exact h2 | (rw [Aj];exact h2) | exact Ak _))))) fun _ h165=>?_
   refine tv hq15 h165 15 rfl rfl rfl rfl κ κ κ (fun _ _ _ _ h=>h) (wT h165 (E:=true) rfl rfl rfl) (v:=ν (Al xs 1)) (fun w1 _=>(Au h165 rfl rfl) w1) fun _ h166=>?_
   refine to_ 13 rfl (wT h166 (E:=true) rfl rfl rfl) κ fun _ hK37=>AU h166 rfl rfl rfl (xs:=[.tmp 66]) rfl (cF func11) rfl (vs:=[π mx_x20]) rfl (args:=#[π mx_x20]) rfl (Oh s25 (hb426.2.2).m hb426.2.1) fun _ v20 w22 r20 h167=>?_
   obtain ⟨rfl,s26⟩:=r20
   refine hK37 _ _ s26 fun hq16=>?_
   refine to_ 16 rfl (wT h167 (E:=true) rfl rfl rfl) κ fun _ hK38=>AU h167 rfl rfl rfl (xs:=[.tmp 68,.tmp 69]) rfl (cF func16) rfl (vs:=[.agg (Af xs),ν (Al xs 1)]) rfl (args:=#[.agg (Af xs),ν (Al xs 1)]) rfl (AG s26 (Jl xs (Al xs 1) _ (AT _ (by first | exact h2 | (rw [Aj];exact h2) | exact Ak _)) ω)) fun _ v21 w23 r21 h168=>?_
   obtain ⟨rfl,s27⟩:=r21
   refine hK38 _ _ s27 fun hq17=>?_
   refine tv hq17 h168 17 rfl rfl rfl rfl κ κ κ (fun _ _ _ _ h=>h) (wT h168 (E:=true) rfl rfl rfl) (v:=.bool true) (fun w1 _=>Ce h168 rfl rfl rfl (NO _ _ (AT _ (by first | exact h2 | (rw [Aj];exact h2) | exact Ak _)) (AT _ (by first | exact h2 | (rw [Aj];exact h2) | exact Ak _)) (decide_eq_true rfl)) w1) fun _ h169=>?_
   refine tv1 hq17 h169 18 rfl rfl (v:=.bool true) (fun w1 _=>(BW h169 rfl rfl rfl) w1) fun _ h170=>?_
   refine tv1 hq17 h170 19 rfl rfl (v:=.bool true) (fun w1 _=>(Au h170 rfl rfl) w1) fun _ h171=>?_
   refine to_ 20 rfl (wT h171 (E:=true) rfl rfl rfl) κ fun _ hK39=>AU h171 rfl rfl rfl (xs:=[]) rfl (cF func12) rfl (vs:=[]) rfl (args:=#[]) rfl (Hm s27) fun _ v22 w24 r22 h172=>?_
   obtain ⟨rfl,s28⟩:=r22
   refine hK39 _ _ s28 fun hq18=>?_
   refine tv1 hq18 h172 21 rfl rfl (v:=.bool true) (fun w1 _=>(BW h172 rfl rfl rfl) w1) fun _ h173=>?_
   refine h173.sk [75,74,73,72,71,70,67,69,68,66,65,64,63,62,61,60,59,58,57,56,55,54,7,6,5,2,0,1] rfl fun h174=>?_
   refine tv1 hq18 h174 22 rfl rfl (v:=.bool true) (fun w1 _=>(Bp h174 rfl rfl) w1) fun _ h175=>?_
   refine h175.sk [4,7,6,5,2,0,1] rfl fun h176=>?_
   refine wpAnyH_done κ ?_ _
   refine hK35 _ _ ?_
   refine wp_ret ?_
   try simp only [Exit.then,Exit.inBlock]
   refine Bz (v:=.bool true) (Cx h176 rfl rfl) h176.defs ?_
   exact ⟨congrArg Value.bool rfl,Sep.tail_un (xs:=[]) (s28.pk [4] rfl)⟩
theorem MetaBlocks_walk (w:World) (xs:Λ) (hx:xs.length=16) (p:Int) (hp:(Lit.int IntKind.i64 p).wf=true):Calls prog 4 #[.agg (Af xs),ν p] w fun e w'=>e=.returned (.bool true)∧Below w.heap.size w w':=by
 have hq:-9223372036854775808≤p∧p≤9223372036854775807:=by have z:=hp;simp [Lit.wf] at z;exact z
 refine Calls.mono (MBl (xs:=xs) (sp:=p) (Sep.start w) hx hq) fun e w' ⟨v,e1,e2,h⟩=>⟨by rw [e1,e2],?_⟩
 have o:Below w.heap.size w w'∧_:=h.get 0 rfl
 exact o.1
end
section
open Go.RowKit Go.WideShapes Go.ChangeShapes
theorem Ro (l:List Value) (h:∀ v∈l,∃ b:UInt8,v=Ab b):∃ xs:Λ,l=xs.map Ab:=by
  induction l with
  | nil=>exact ⟨[],rfl⟩
  | cons v l ih=>
    obtain ⟨b,rfl⟩:=h v (by simp)
    obtain ⟨xs,rfl⟩:=ih (fun u hu=>h u (by simp [hu]))
    exact ⟨b::xs,rfl⟩
theorem open_map {H:Type} {enc:TypeId×Value→H} {W:World} {base base':Nat} {spare:Nat→Bool} {held:Bool} {v:Value} {d:DataW H} {p:List MemPlace}
    (hv:Value.okWide prog W .any base' 27 v) (h:DataW.Trod enc prog W base spare held 27 v d p) :
    ∃ xs:Λ,v=.agg (Af xs)∧xs.length=16:=by
  obtain ⟨cs,rfl,hsz,_⟩:∃ cs,v=.agg cs∧cs.size=prog.cellsOf 27∧Row.okWide prog W .any base' 27 cs:=by
    simpa [Value.okWide,υ27] using hv
  have k16:prog.cellsOf 27=16:=κ
  have k1:prog.cellsOf 5=1:=κ
  obtain ⟨fuel,hf⟩:=h
  obtain ⟨ys,m,_,hx,_,hlen,hi⟩:=DataW.trod_array υ27 hf
  rw [k16] at hsz
  obtain ⟨xs,hxs⟩:=Ro cs.toList (by
    intro u hu
    obtain ⟨i,hil,rfl⟩:=List.mem_iff_getElem.1 hu
    have hi16:i<16:=by simpa [hsz] using hil
    have h1:=hi i hi16
    rw [k1,Nat.mul_one] at h1
    have e1:(((Value.agg cs).cells.toList).drop i).take 1=[cs.toList[i]]:=by
      show ((cs.toList).drop i).take 1=_
      rw [List.drop_eq_getElem_cons hil];rfl
    rw [e1] at h1
    have hys:ys[i]? = some (ys[i]' ω):=List.getElem?_eq_getElem ω
    obtain ⟨n,e2,_,w2⟩:=DataW.trod_int υ5 (h1.trans hys)
    have hb:=Adq w2
    refine ⟨UInt8.ofNat n.toNat,?_⟩
    simp only [List.cons.injEq,and_true] at e2
    rw [e2]
    unfold Ab
    simp
    omega)
  refine ⟨xs,?_,?_⟩
  · unfold Af;rw [← hxs]
  · have:cs.toList.length=16:=by simpa using hsz
    rw [hxs] at this;simpa using this
end
end Go.Proofs.YthiplgahhejmcaaGreatDoor
