/- Parts of the proof. -/
import Derived.Defers
import Derived.Test.YtpnknncmacjdkaaGreatDoorQad
namespace Go.Proofs.YtpnknncmacjdkaaGreatDoor
open Go.RowKit
open _root_.Go.Proofs.Tryz
set_option linter.unusedSimpArgs false
set_option linter.unusedVariables false
set_option linter.unusedSectionVars false
set_option maxRecDepth 100000
set_option maxHeartbeats 8000000
section
structure KnD (ds:List Deferred) (N:Nat) (l:List (Nat×Value)) (a:Act):Prop where
  size:a.tmps.size=N
  known:∀ x∈l,a.tmps[x.1]? = some x.2
  defs:a.defers=ds
theorem KnD.eval {ds:List Deferred} {N:Nat} {l:List (Nat×Value)} {a:Act} (h:KnD ds N l a) {k:Nat} {v:Value} (hm:(k,v)∈l):a.eval (.tmp k)=v:=by
  have:=h.known _ hm
  show a.tmps.getD k undef=v
  rw [Array.getD_eq_getD_getElem?,this];rfl
theorem KnD.ev {ds:List Deferred} {N:Nat} {l:List (Nat×Value)} {a:Act} (h:KnD ds N l a) (k:Nat) {v:Value} (hm:l.find? (fun y=>y.1 == k)=some (k,v)):a.eval (.tmp k)=v:=h.eval (List.mem_of_find?_eq_some hm)
theorem KnD.put {ds:List Deferred} {N:Nat} {l:List (Nat×Value)} {a:Act} (h:KnD ds N l a) {d:Nat} (hd:d<N) (hf:∀ x∈l,x.1≠d) (v:Value):KnD ds N ((d,v)::l) (a.put (some d) v):=by
  refine ⟨by show (a.tmps.setIfInBounds d v).size=N;rw [Array.size_setIfInBounds];exact h.size,fun x hx=>?_,h.defs⟩
  show (a.tmps.setIfInBounds d v)[x.1]? = some x.2
  rw [Array.getElem?_setIfInBounds]
  rcases List.mem_cons.1 hx with rfl | hx
  · rw [if_pos rfl,if_pos (by rw [h.size];exact hd)]
  · rw [if_neg (fun e=>hf x hx e.symm)];exact h.known x hx
theorem KnD.sub {ds:List Deferred} {N:Nat} {l l':List (Nat×Value)} {a:Act} (h:KnD ds N l a) (hs:∀ x∈l',x∈l):KnD ds N l' a:=⟨h.size,fun x hx=>h.known x (hs x hx),h.defs⟩
theorem KnD.subs {ds:List Deferred} {N:Nat} {l l':List (Nat×Value)} {a:Act} (h:KnD ds N l a) (hs:(l'.map fun x=>l.find? fun y=>y.1 == x.1)=l'.map some):KnD ds N l' a:=h.sub fun x hx=>by
  have:some x∈l'.map some:=List.mem_map.2 ⟨x,hx,rfl⟩
  rw [← hs] at this
  obtain ⟨i,_,hi⟩:=List.mem_map.1 this
  exact List.mem_of_find?_eq_some hi
theorem KnD.yields {ds:List Deferred} {N:Nat} {l:List (Nat×Value)} {a:Act} (h:KnD ds N l a) {ops:Array Oper} {g prev:Nat} {b:Bool} (hg:(ops[g]?).bind (·.dst)=some prev) (hm:(prev,.bool b)∈l):yielded ops a.tmps g=some b:=by
  unfold yielded
  rw [hg,Option.bind_some]
  have:=h.known _ hm
  show (match a.tmps[prev]? with | some (.bool b)=>some b | _=>none)=some b
  rw [this]
theorem Cf {ds:List Deferred} {P:Program} {ops:Array Oper} {Q:Exit→Act→World→Prop} {rest:List Oper} {o:Oper} {a:Act} {w w':World} {N:Nat} {l:List (Nat×Value)} (h:KnD ds N l a) (hw:Region.wanted o (yielded ops a.tmps)=true) {d:Nat} (hd:o.dst=some d) (hdN:d<N) (hf:∀ x∈l,x.1≠d) (v:Value)
    (hr:(execOp a.eval o).run P w=.ok (.value v) w') (k:∀ a',KnD ds N ((d,v)::l) a'→wpList P ops Q rest a' w'):wpList P ops Q (o::rest) a w:=by
  refine wpList_step fun K hK=>?_
  rw [if_pos hw]
  unfold Oper.wp
  rw [hr,Oper.upon_value,hd]
  exact hK _ _ (k _ (h.put hdN hf v))
theorem AH {ds:List Deferred} {P:Program} {ops:Array Oper} {Q:Exit→Act→World→Prop} {md:Region.Mode} {S:World→Prop} {oi:Oper} {fuel:Nat} {listed:Array Bool} {a:Act} {w:World} {N:Nat} {l:List (Nat×Value)} (hS:S w) (h:KnD ds N l a) (i:Nat) (hi:ops[i]? = some oi) {d:Nat} (hd:oi.dst=some d) (hdN:d<N) (hf:∀ x∈l,x.1≠d)
    (hs:Region.noSelect ops=true) (hfr:Region.free md ops listed i=true) (hr:(Region.ready md ops listed).contains i=true) (hQ:∀ c a w v,Q (.panic c) (a.put oi.dst v) w→Q (.panic c) a w) (v:Value) (hy:YieldsIf P ops S oi v a)
    (k:∀ a',KnD ds N ((d,v)::l) a'→wpAnyH P md ops Q S fuel (listed.setIfInBounds i true) a' w):wpAnyH P md ops Q S (fuel+1) listed a w:=
  Bc hi hd hs hfr hr (fun c a w=>hQ c a w v) hy hS (k _ (h.put hdN hf v))
theorem KI {ds:List Deferred} {P:Program} {ops:Array Oper} {Q:Exit→Act→World→Prop} {rest:List Oper} {o:Oper} {a:Act} {w:World} {N:Nat} {l:List (Nat×Value)} (h:KnD ds N l a) (hw:o.guard=none) (hd:o.dst=none) {T:TypeId} {x y:Operand} (ho:o.op=.store T x y) (g off:Nat) (hx:a.eval x=.pointer (some ⟨g,off,none⟩)) (vs:List Value) (hy:a.eval y=.agg vs.toArray) (hn:(P.info? T).map (·.size)=some vs.length) (h1:∀ v∈vs,v.oneCell'=true) {e:TypeId} {L:List Value} (hb:Blk w g e L) (hL:off+vs.length≤L.length)
    (k:∀ a' w',KnD ds N l a'→Blk w' g e (splice L off vs)→w.grownBy w' (some g)→wpList P ops Q rest a' w'):wpList P ops Q (o::rest) a w:=by
  refine IL hw T x y ho g off hx vs hy hn h1 hb hL fun w' hb' hg=>?_
  rw [hd]
  exact k a w' h hb' hg
section
variable {P:Program} {ops:Array Oper} {Q:Exit→Act→World→Prop} {md:Region.Mode} {S:World→Prop} {oi oj:Oper} {fuel:Nat} {listed:Array Bool} {a:Act} {w w':World} {N:Nat} {l:List (Nat×Value)} {K:Act→World→Prop} {ds:List Deferred}
theorem Ug (h:KnD ds N l a) {d:Nat} (hd:oi.dst=some d) (hdN:d<N) (hf:∀ x∈l,x.1≠d) (v:Value) (hrun:(execOp a.eval oi).run P w=.ok (.value v) w')
    (k:∀ a',KnD ds N ((d,v)::l) a'→K a' w'):Oper.wp P oi a w K Q:=by
  unfold Oper.wp
  rw [hrun,Oper.upon_value,hd]
  exact k _ (h.put hdN hf v)
theorem Ma (h:KnD ds N l a) {d:Nat} (hd:oi.dst=some d) (hdN:d<N) (hf:∀ x∈l,x.1≠d)
    {fn:FuncId} (hcf:∀ args,(callFunc fn args).run P w=.ok (.enter fn args) w) {xs:Array Operand} {ts:Array TypeId} (p:oi.op=.call { callee:=.value (.func fn),args:=xs,argTypes:=ts }) (vs:Array Value) (hx:xs.map a.eval=vs)
    {R:Value→World→Prop} (HC:Calls P fn vs w fun e w'=>∃ v,e=.returned v∧R v w')
    (k:∀ a' v w',R v w'→KnD ds N ((d,v)::l) a'→K a' w'):Oper.wp P oi a w K Q:=by
  have hrun:(execOp a.eval oi).run P w=.ok (.enter fn vs) w:=by
    unfold execOp;rw [p]
    simp [resolve,invoke,Deferred.ofValue,hx,hcf]
    simp [Act.eval,hcf]
  unfold Oper.wp
  rw [hrun,Oper.upon_enter]
  refine HC.mono ?_
  rintro e w' ⟨v,rfl,hv⟩
  simp only
  rw [hd]
  exact k _ v w' hv (h.put hdN hf v)
end
end
section
def ER (n:Int):Prop:=-9223372036854775808≤n∧n≤9223372036854775807
def KG (X:Λ) (M:MemM) (at_ n:Int):Λ:=if inM M at_ n=true then (X.drop at_.toNat).take n.toNat else []
def GX (M:MemM) (at_ n:Int):Int:=if inM M at_ n=true then 0 else 1
def LG (M:MemM) (at_ n:Int):MemM:=if inM M at_ n=true then JV M at_.toNat n.toNat else M
def GA (M:MemM) (at_:Int) (b:Λ):MemM:=if inM M at_ b.length=true then FQ M at_.toNat b else M
theorem Wd {X:Λ} {M:MemM} (hX:X.length=M.V.length) {at_ n:Int} (h:inM M at_ n=true):((X.drop at_.toNat).take n.toNat).length=n.toNat:=by
  obtain ⟨a,m,rfl,rfl,hl⟩:=Ha h
  simp;omega
theorem Adi {w:World} {g v d p:Nat} {M:MemM} (h:MemP w g v d p M) (at_ n:Int) (ha:ER at_) (hn:ER n) :
    Calls prog 13 #[π g,ν at_,ν n] w fun e w'=>∃ a c,e=.returned (.tuple #[.slice a (KG M.V M at_ n).length c,ν (GX M at_ n)])∧CF w' w.heap.size a c (KG M.V M at_ n)∧Below w.heap.size w w':=by
  refine (Hf h at_ n ha hn).mono ?_
  intro e w' z
  unfold GO at z
  unfold KG GX
  by_cases hi:inM M at_ n=true
  · rw [if_pos hi] at z
    obtain ⟨a,c,rfl,o,b⟩:=z
    refine ⟨a,c,?_,?_,b⟩
    · simp only [if_pos hi];rw [Wd rfl hi]
    · rw [if_pos hi];exact o
  · rw [if_neg hi] at z
    obtain ⟨rfl,rfl⟩:=z
    refine ⟨none,0,?_,?_,Below.refl _ _⟩
    · simp only [if_neg hi];rfl
    · rw [if_neg hi];exact Own.nil _ _ _ _
theorem ZY {w:World} {g v d p:Nat} {M:MemM} (h:MemP w g v d p M) (at_ n:Int) (ha:ER at_) (hn:ER n) :
    Calls prog 27 #[π g,ν at_,ν n] w fun e w'=>e=.returned (ν (GX M at_ n))∧MemP w' g v d p (LG M at_ n)∧Turns (fun k=>k=p) w w':=by
  refine (Nu h at_ n ha hn).mono ?_
  intro e w' z
  unfold It at z
  unfold LG GX
  by_cases hi:inM M at_ n=true
  · rw [if_pos hi] at z
    simp only [if_pos hi];exact z
  · rw [if_neg hi] at z
    simp only [if_neg hi]
    exact ⟨z.1,h.mono z.2,Turns.of_below z.2⟩
theorem Us {w:World} {g v d p:Nat} {M:MemM} (h:MemP w g v d p M) (at_:Int) (ha:ER at_) (a:Ω) (c:Nat) (b:Λ) (hr:RowB w a c b) :
    Calls prog 26 #[π g,ν at_,.slice a b.length c] w fun e w'=>e=.returned (ν (GX M at_ b.length))∧MemP w' g v d p (GA M at_ b)∧Turns (fun k=>k=v∨k=p) w w':=by
  refine (NY h at_ ha a c b hr).mono ?_
  intro e w' z
  unfold Iv at z
  unfold GA GX
  by_cases hi:inM M at_ b.length=true
  · rw [if_pos hi] at z
    simp only [if_pos hi];exact z
  · rw [if_neg hi] at z
    simp only [if_neg hi]
    exact ⟨z.1,h.mono z.2,Turns.of_below z.2⟩
theorem RO {u:FrameMode} {w:World} {g v d p:Nat} {M:MemM} (h:MemP w g v d p M) :
    CallsD prog 28 #[π g] u w fun e u' w'=>u'=u∧(∃ x,e=.returned x)∧MemP w' g v d p (JT M)∧Turns (fun b=>b=d∨b=p) w w':=by
  obtain ⟨av,ag1,ag2,ap1,ap2,ap3,gl,vl,dl,pl⟩:=CQ h
  obtain ⟨D,n,hown,hD,hsz⟩:=h.2.2.2.2.2
  obtain ⟨c0,c1,c2⟩:=h.cells
  have H:=hid h
  have HDD:=hid hD
  clear h hD hsz
  go_enter_d func28,ntmps28
  go_wp2_with (first | (at_range;refine wpList_range_own _ rfl _ 55 rfl 3 123 Hc υ55 unitElem p n D rfl hown ?_;intro w0 hrg0 hg0 hs0))
  go_frame
  have B0:Below w.heap.size w w0:=(Below.refl _ w).grown hg0 (Nat.le_refl _) (fun k hk=>by cases hk)
  go_loopw [2] (fun _ wr=>∃ left cnt,wr.ranges Tryz.prog 3 unitElem p w.heap.size n D left cnt∧(∀ i:Int,left (.int .i64 i)=true→Fo M.A i=true)∧MemP wr g v d p ⟨M.V,Fl (fun i=>M.A.getD i false&&!left (.int .i64 (i:Int))) M.V M.D,M.A⟩∧Turns (fun b=>b=d) w wr) (fun _ wr=>wr.rangeLeft p w.heap.size)
  case atStart=>
    refine ⟨_,_,hrg0,fun i hi=>by rw [← HDD.out];exact hi,?_,Turns.of_below B0⟩
    have:=H.out.mono B0
    rw [show Fl (fun i=>M.A.getD i false&&!Maps.has D (.int .i64 (i:Int))) M.V M.D=M.D from ?_]
    · exact this
    · rw [Du (g:=fun _=>false) (fun k _=>by rw [HDD.out,Ic];simp),NC]
  case round=>
    obtain ⟨left,cnt,hrg,hle,hm,ht⟩:=hrel
    obtain ⟨k0,k1,k2⟩:=hm.cells
    have HM:=hid hm;have HT:=hid ht;have HLE:=hid hle;have HRG:=hid hrg
    clear hm ht hle hown hrg0 hg0 hs0 B0
    go_wp2_with (first | (at_next;refine Og rfl _ rfl rfl HRG.out ?_ ?_))
    · intro hl0
      have hm1:=HM.out
      rw [Du (g:=fun i=>M.A.getD i false) (fun k _=>by rw [hl0];simp)] at hm1
      have HM1:=hid hm1
      clear hm1 hl0
      obtain ⟨w3,hrun,p3,g3⟩:=HM1.out.2.2.2.2.2.clear (ty:=0) υ55 M.A.length
      have P3:=hid p3;have G3:=hid g3
      clear p3 g3
      go_wp2
      go_end0
      have t3:Turns (fun b=>b=p) wr w3:=Turns.of_grown G3.out rfl
      obtain ⟨m1,m2,m3,m4,m5,m6⟩:=HM1.out
      exact ⟨⟨_,rfl⟩,⟨Ns H.out.1,m2,t3.blk m3 (by intro q;exact ap1 q.symm),t3.blk m4 (by intro q;exact ap2 q.symm),t3.blk m5 (by intro q;exact ap3 q.symm),P3.out⟩,(HT.out.mono (fun _ q=>.inl q)).trans (t3.mono (fun _ q=>.inr q))⟩
    · intro x w1 cnt1 hwx hlx hrg1 hlt hg1 hen
      obtain ⟨k,rfl,hkl,hkA⟩:=Mh (HLE.out x hlx)
      have t1:Turns (fun b=>b=w.heap.size) wr w1:=Turns.of_grown hg1 rfl
      have m1:=HM.out.turns t1 ω ω ω ω
      have HP:=hid (Ky m1 k hkl)
      have HR1:=hid hrg1
      have T1:=hid t1
      have HKA:=hid hkA
      have HLT:=hid hlt
      clear m1 hrg1 hg1 t1 hwx hlx hkA hlt
      go_wp2_with (first | (go_at_call 68;refine HP.out.mono ?_;rintro e w2 ⟨⟨x,rfl⟩,m2,t2⟩;have M2:=hid m2;have T2:=hid t2;clear m2 t2))
      go_roundw
      case rel=>
        refine ⟨_,cnt1,T2.out.ranges HR1.out ap3 ω,fun i hi=>?_,?_,(HT.out.trans' T1.out (fun b hb q=>?_)).trans T2.out⟩
        · simp only [Bool.and_eq_true] at hi
          exact HLE.out i hi.1
        · have:=M2.out
          rw [ND] at this
          rw [Du (g:=fun i=>M.A.getD i false&&!left (.int .i64 (i:Int))||i == k) (fun i _=>?_)]
          · exact this
          · rw [QO]
            by_cases e:i=k
            · subst e;rw [HKA.out];simp
            · have:¬ ((i:Int)=(k:Int)):=ω
              simp [this,e]
        · omega
      case measure=>rw [(T2.out.ranges HR1.out ap3 ω).left_eq,HRG.out.left_eq];exact HLT.out
end
section
def Nb (g at_ size:Nat):List Value:=[π g,ν (at_:Int),ν (size:Int)]
structure LogP (w:World) (lg g v d p at_ size:Nat) (M:MemM):Prop where
  l:Blk w lg 137 (Nb g at_ size)
  m:MemP w g v d p M
def XM (v d p:Nat) (k:Nat):Prop:=k=v∨k=d∨k=p
theorem LogP.mono {w w':World} {lg g v d p at_ size:Nat} {M:MemM} (h:LogP w lg g v d p at_ size M) (b:Below w.heap.size w w'):LogP w' lg g v d p at_ size M:=⟨h.l.mono b,h.m.mono b⟩
theorem LogP.lt {w:World} {lg g v d p at_ size:Nat} {M:MemM} (h:LogP w lg g v d p at_ size M):lg<w.heap.size∧g<w.heap.size∧v<w.heap.size∧d<w.heap.size∧p<w.heap.size:=by
  obtain ⟨av,ag1,ag2,ap1,ap2,ap3,gl,vl,dl,pl⟩:=CQ h.m
  exact ⟨h.l.lt,gl,vl,dl,pl⟩
theorem LogP.fresh {w w':World} {lg g v d p at_ size q:Nat} {M:MemM} (h:LogP w lg g v d p at_ size M) (t:Turns (fun k=>k=q) w w') (hq:lg<q∧g<q∧v<q∧d<q∧p<q):LogP w' lg g v d p at_ size M:=
  ⟨t.blk h.l (fun e=>ω),h.m.turns t (fun e=>ω) (fun e=>ω) (fun e=>ω) (fun e=>ω)⟩
theorem Yw {w:World} {p:Nat} {A:List Bool} {g:Nat} {e:TypeId} {L:List Value} (h:PendP w p A) (hb:Blk w g e L):g≠p:=by
  rintro rfl
  obtain ⟨D,n,hown,_⟩:=h
  obtain ⟨es,clock,hb2,_⟩:=hown
  unfold Blk at hb
  rw [hb2] at hb
  cases hb
theorem LogP.nX {w:World} {lg g v d p at_ size:Nat} {M:MemM} (h:LogP w lg g v d p at_ size M):¬ XM v d p lg:=by
  rintro (e | e | e)
  · exact Df h.l h.m.2.2.2.1 (by decide) e
  · exact Df h.l h.m.2.2.2.2.1 (by decide) e
  · exact Yw h.m.2.2.2.2.2 h.l e
theorem LogP.next {w w':World} {lg g v d p at_ size:Nat} {M M':MemM} {X:Nat→Prop} (h:LogP w lg g v d p at_ size M) (hm:MemP w' g v d p M') (t:Turns X w w') (hX:∀ k,X k→XM v d p k):LogP w' lg g v d p at_ size M':=
  ⟨t.blk h.l (fun e=>h.nX (hX _ e)),hm⟩
def Is (M:MemM) (p:PtM):MemM:=if inM M p.at_ p.d.length=true then LG (GA M p.at_ p.d) p.at_ p.d.length else M
def CC (M:MemM) (L:List PtM):MemM:=JT (L.foldl Is M)
theorem ZQ {M:MemM} {at_ n:Int} (h:inM M at_ n=true):GX M at_ n=0:=if_pos h
theorem Xn {M:MemM} {at_ n:Int} (h:¬ inM M at_ n=true):GX M at_ n=1:=if_neg h
theorem Tj {M:MemM} {at_:Int} {b:Λ} (h:¬ inM M at_ b.length=true):GA M at_ b=M:=if_neg h
theorem Wz {P:Program} {ops:Array Oper} {Q:Exit→Act→World→Prop} {rest:List Oper} {o:Oper} {a:Act} {w:World} {N:Nat} {l:List (Nat×Value)} (h:Kn N l a) (hw:Region.wanted o (yielded ops a.tmps)=true) (hd:o.dst=none)
    {fn:FuncId} {xs:Array Operand} {ts:Array TypeId} (p:o.op=.defer { callee:=.value (.func fn),args:=xs,argTypes:=ts }) (vs:Array Value) (hx:xs.map a.eval=vs)
    (k:∀ a',KnD [{ target:=.fn (.func fn) #[],args:=vs }] N l a'→wpList P ops Q rest a' w):wpList P ops Q (o::rest) a w:=by
  refine wpList_step fun K hK=>?_
  rw [if_pos hw]
  have hrun:(execOp a.eval o).run P w=.ok (.defer { target:=.fn (.func fn) #[],args:=vs }) w:=by
    unfold execOp;rw [p]
    simp [resolve,Deferred.ofValue,hx]
    simp [Act.eval]
  unfold Oper.wp
  rw [hrun,Oper.upon_defer,hd]
  refine hK _ _ (k _ ⟨h.size,h.known,?_⟩)
  show _::a.defers=_
  rw [h.defs]
theorem He {w:World} {g off:Nat} {q:Ω} (h:w.cell? ⟨g,off,none⟩=some (.pointer q)):(Instr.loadAt 23 (.pointer (some ⟨g,off,none⟩))).run prog w=.ok (.pointer q) w:=by
  have u3:=υ23
  have a3:=Tryz.isAgg23
  have z3:=Tryz.sizeOf23
  go_simp
theorem Ae3 (x y:Operand) (v u:Int) (w:World) {b:Bool} (h:(v == u)=b):(do eqGuard .eql 26 x y (ν v) (ν u);binOp .eql 26 (ν v) (ν u):Sem Value).run prog w=.ok (.bool b) w:=by
  have u3:=υ26
  have a3:=Tryz.isAgg26
  have z3:=Tryz.sizeOf26
  subst h
  go_simp
theorem Qi (x y:Operand) (v u:Int) (w:World) {b:Bool} (h:(v != u)=b):(do eqGuard .neq 26 x y (ν v) (ν u);binOp .neq 26 (ν v) (ν u):Sem Value).run prog w=.ok (.bool b) w:=by
  have u3:=υ26
  have a3:=Tryz.isAgg26
  have z3:=Tryz.sizeOf26
  subst h
  go_simp
end
section
theorem FY (g:Nat) (w:World):(Instr.fieldAt 137 (π g) 0).run prog w=.ok (π g) w:=rfl
def Cv (w:World) (lg g v d p at_ size:Nat) (M:MemM) (L:List PtM) (e:Ending) (w':World):Prop:=∃ x,e=.returned x∧LogP w' lg g v d p at_ size (CC M L)∧Turns (XM v d p) w w'
theorem PZ {P:Program} {fn:Func} (hf:fn.results=#[]) {R:Ending→World→Prop} (t1 t2:Array Value):∀ (ds:List Deferred) (u:FrameMode) (w:World),Leaves P fn t1 R ds u w→Leaves P fn t2 R ds u w:=by
  intro ds
  induction ds with
  | nil=>
    intro u w h
    cases u with
    | run=>exact h
    | returning=>
      obtain ⟨x,h1,h2⟩:=h
      exact ⟨x,by simpa [results,hf] using h1,h2⟩
    | panicking c=>exact h
  | cons d ds ih=>
    intro u w h
    obtain ⟨h1,fv,cap,f,args,h2,h3,h4⟩:=h
    refine ⟨h1,fv,cap,f,args,h2,h3,h4.mono fun e u' w' q=>?_⟩
    cases e with
    | returned x=>exact ih _ _ q
    | panicked c=>exact ih _ _ q
    | outgrown=>exact q
theorem BU {R:Ending→World→Prop} {c:List PanicEntry} {a:Act} {o:Option Tmp} {v:Value} {w:World} (h:bodyPostD prog Tryz.f43 R (.panic c) (a.put o v) w):bodyPostD prog Tryz.f43 R (.panic c) a w:=by
  cases o with
  | none=>exact h
  | some d=>exact PZ rfl _ _ _ _ _ h
theorem Ag7 {w W:World} {lg g v d p at_ size:Nat} {M Mj:MemM} {L:List PtM} {act:Act} (hG:LogP W lg g v d p at_ size Mj) (hT:Turns (XM v d p) w W) (hM:Mj=L.foldl Is M) (hd:act.defers=[{ target:=.fn (.func 28) #[],args:=#[π g] }]) :
    bodyPostD prog Tryz.f43 (Cv w lg g v d p at_ size M L) .normal act W:=by
  show Leaves _ _ _ _ _ _ _
  rw [hd]
  refine leaves_cons (f:=28) (args:=#[π g]) (by intro q;cases q) (by have hh:=func28;go_simp) ?_
  refine (RO hG.m).mono ?_
  rintro e u' w' ⟨rfl,⟨x,rfl⟩,m,t⟩
  show Leaves _ _ _ _ _ _ _
  refine ⟨.tuple #[],by simp [results,Tryz.f43],_,rfl,?_,hT.trans (t.mono (fun k e=>.inr e))⟩
  unfold CC
  rw [← hM]
  exact hG.next m t (fun k e=>.inr e)
theorem Gv {w:World} {lg g v d p at_ size:Nat} {M:MemM} {a:Ω} {c:Nat} {L:List PtM} (hg:LogP w lg g v d p at_ size M) (hR:∀ W,Turns (XM v d p) w W→EN W a c L) (okP:Ir L) (okD:∀ q∈L,q.d.length≤1000000) (hl:L.length≤1000000) :
    Calls prog 43 #[π lg,.slice a L.length c] w fun e w'=>Cv w lg g v d p at_ size M L e w':=by
  have HG0:=hid hg;have HR:=hid hR
  clear hg hR
  go_enter_defers func43,ntmps43
  iterate 3 go_step
  refine Bk (N:=38) (l:=[(0,π lg),(1,.slice a L.length c)]) ⟨rfl,(by intro x hx;simp only [List.mem_cons,List.not_mem_nil,or_false] at hx;rcases hx with rfl | rfl<;>rfl),rfl⟩ fun a2 h1=>?_
  refine wmk h1 rfl rfl rfl rfl 0 rfl (fun _=>rfl) fun a4 h3=>?_
  refine wv h3 rfl rfl rfl rfl (π lg) (by unfold execOp;simp only [h3.ev 6 rfl];exact rfl) fun a6 h5=>?_
  refine wv h5 rfl rfl rfl rfl (π lg) (by unfold execOp;simp only [h5.ev 7 rfl];exact Af (FY (lg) _)) fun a8 h7=>?_
  refine wv h7 rfl rfl rfl rfl (π g) (by unfold execOp;simp only [h7.ev 8 rfl];exact Af (He (HG0.out.l.cell (i:=0) (by show 0<3;omega)))) fun a10 h9=>?_
  refine Wz h9 (wn rfl) rfl rfl #[π g] (by simp only [List.map_toArray,List.map_cons,List.map_nil,h9.ev 9 rfl]) fun a12 h11=>?_
  have h13:=h11.subs (l':=[(0,_),(1,_)]) rfl
  clear h11
  iterate 5 go_step
  refine Cf h13 (wn rfl) rfl (by decide) (fr rfl) (.slice a L.length c) (by unfold execOp;simp only [h13.ev 1 rfl];rfl) fun a15 h14=>?_
  refine Cf h14 (wn rfl) rfl (by decide) (fr rfl) (ν (L.length:Int)) (Fq rfl (h14.ev 10 rfl) _) fun a17 h16=>?_
  refine Cf h16 (wn rfl) rfl (by decide) (fr rfl) (ν 0) rfl fun a19 h18=>?_
  iterate 4 go_step
  refine wp_loop (I:=fun a' w'=>∃ (j:Nat) (Mj:MemM),j≤L.length∧KnD [{ target:=.fn (.func 28) #[],args:=#[π g] }] 38 [(12,ν (j:Int)),(11,ν (L.length:Int)),(10,.slice a L.length c),(0,π lg),(1,.slice a L.length c)] a'∧Mj=(L.take j).foldl Is M∧LogP w' lg g v d p at_ size Mj∧Turns (XM v d p) w w') (μ:=fun a' _=>L.length-(intOf (a'.eval (.tmp 12))).toNat) ⟨0,M,Nat.zero_le _,h18,by rw [List.take_zero];rfl,HG0.out,Turns.refl _ _⟩ ?_
  clear h18
  rintro aL wL ⟨j,Mj,hj,hK,hmj,hG,hT⟩
  have HG:=hid hG;have HT:=hid hT;have HMJ:=hid hmj;clear hG hT hmj
  by_cases hlt:j<L.length
  · have hd0:decide ((j:Int)<(L.length:Int))=true:=decide_eq_true ω
    obtain ⟨pb,poff,ha0,hrg⟩:=QM (HR.out wL HT.out) ω
    have hrg:=hrg j hlt
    have hq64:=okP L[j] (List.getElem_mem hlt);have hdl:=okD L[j] (List.getElem_mem hlt)
    obtain ⟨q,hq⟩:∃ q,q=L[j]:=⟨_,rfl⟩
    rw [← hq] at hrg hq64 hdl
    have HQ:=hid hq;clear hq
    change ER q.at_ at hq64
    by_cases hin:inM Mj q.at_ q.d.length=true
    · have herr:(GX Mj q.at_ q.d.length == 0)=true:=by rw [ZQ hin];rfl
      iterate 3 go_step
      refine Cf hK (wn rfl) rfl (by decide) (fr rfl) (.bool true) (by unfold execOp;simp only [hK.ev 12 rfl,hK.ev 11 rfl];exact Af (KO _ _ _ _ _ hd0)) fun a21 h20=>?_
      iterate 4 go_step
      refine wp_cond (t:=true) (h20.ev 13 rfl) ?_
      simp only [if_true]
      have h22:=h20.subs (l':=[(12,_),(11,_),(10,_),(0,_),(1,_)]) rfl
      clear h20
      iterate 7 go_step
      refine Cf h22 (wn rfl) rfl (by decide) (fr rfl) (.pointer (some ⟨pb,poff+j*2,none⟩)) (by unfold execOp;simp only [h22.ev 10 rfl,h22.ev 12 rfl];exact Af (by rw [ha0];exact ixP pb poff _ c j hlt _)) fun a24 h23=>?_
      refine Cf h23 (wn rfl) rfl (by decide) (fr rfl) (ptV q) (by unfold execOp;simp only [h23.ev 14 rfl];exact Af (run_loadAt_mid _ _ _ _ (ptC q) _ hrg υ141 rfl (by rw [IB];rfl))) fun a26 h25=>?_
      refine Cf h25 (wn rfl) rfl (by decide) (fr rfl) (π wL.heap.size) (Hn rfl _ wL) fun a28 h27=>?_
      obtain ⟨wp,hwp⟩:∃ x,x=wL.alloc (.cells (ptC ⟨0,[]⟩).toArray 141):=⟨_,rfl⟩
      obtain ⟨gp,hgp⟩:∃ x,x=wL.heap.size:=⟨_,rfl⟩
      have hk0:Blk wp gp 141 (ptC ⟨0,[]⟩):=by rw [hwp,hgp];exact AN rfl _ _
      have hap:lg<gp∧g<gp∧v<gp∧d<gp∧p<gp:=by rw [hgp];exact HG.out.lt
      have hgw:w.heap.size≤gp:=by rw [hgp];exact HT.out.size
      have HGp:Hid (LogP wp lg g v d p at_ size Mj):=hid (by rw [hwp];exact HG.out.mono (Ck _ _));have HTp:Hid (Turns (XM v d p) w wp):=hid (by rw [hwp];exact HT.out.trans (Turns.of_below (Ck _ _)))
      rw [← hgp] at h27;rw [← hwp];clear hwp hgp
      refine KI h27 rfl rfl rfl gp 0 (h27.ev 5 rfl) (ptC q) (h27.ev 15 rfl) (by rw [IB];rfl) (Jp _) hk0 (by show 0+2≤2;omega) fun a30 wq h29 kq gq=>?_
      rw [Dw (by rfl)] at kq
      have HPQ:=hid kq;have HGq:=hid (HGp.out.fresh (Turns.of_grown gq rfl) hap);have HTq:Hid (Turns (XM v d p) w wq):=hid (HTp.out.trans' (Turns.of_grown (X:=fun k=>k=gp) gq rfl) (fun k hk e=>absurd e ω))
      clear kq gq hk0 HGp HTp
      have h31:=h29.subs (l':=[(5,_),(12,_),(11,_),(10,_),(0,_),(1,_)]) rfl
      clear h29
      iterate 4 go_step
      have HG4:=hid (HGq.out.mono (Below.refl _ _).drew);have HT4:=hid HTq.out.drew;have HP4:=hid (HPQ.out.mono (Below.refl _ _).drew)
      refine wp_region_held_drew (S:=fun w'=>Blk w' lg 137 (Nb g at_ size)∧Blk w' gp 141 (ptC q)) κ ⟨HG4.out.l,HP4.out⟩ (fun hS4=>?_)
      refine AH hS4 h31 0 rfl rfl (by decide) (fr rfl) κ κ κ (fun _ _ _ _ h=>BU (R:=Cv w lg g v d p at_ size M L) h) (π lg) (Or.inl ⟨Eq.refl true,fun w1 hSw=>(by show (execOp _ (⟨_,.move (.tmp 0),_,_,_,_⟩:Oper)).run _ _=_;exact (by unfold execOp;simp only [h31.ev 0 rfl];exact rfl))⟩) fun a33 h32=>?_
      refine AH hS4 h32 1 rfl rfl (by decide) (fr rfl) κ κ κ (fun _ _ _ _ h=>BU (R:=Cv w lg g v d p at_ size M L) h) (π lg) (Or.inl ⟨Eq.refl true,fun w1 hSw=>(by show (execOp _ (⟨_,.nilCheck (.tmp 16),_,_,_,_⟩:Oper)).run _ _=_;exact (by unfold execOp;simp only [h32.ev 16 rfl];exact rfl))⟩) fun a35 h34=>?_
      refine AH hS4 h34 2 rfl rfl (by decide) (fr rfl) κ κ κ (fun _ _ _ _ h=>BU (R:=Cv w lg g v d p at_ size M L) h) (π lg) (Or.inl ⟨Eq.refl true,fun w1 hSw=>(by show (execOp _ (⟨_,.fieldAddr 137 (.tmp 17) 0,_,_,_,_⟩:Oper)).run _ _=_;exact (by unfold execOp;simp only [h34.ev 17 rfl];exact Af (FY (lg) _)))⟩) fun a37 h36=>?_
      refine AH hS4 h36 3 rfl rfl (by decide) (fr rfl) κ κ κ (fun _ _ _ _ h=>BU (R:=Cv w lg g v d p at_ size M L) h) (π g) (Or.inl ⟨Eq.refl true,fun w1 hSw=>(by show (execOp _ (⟨_,.load 23 (.tmp 18),_,_,_,_⟩:Oper)).run _ _=_;exact (by unfold execOp;simp only [h36.ev 18 rfl];exact Af (He (hSw.1.cell (i:=0) (by show 0<3;omega)))))⟩) fun a39 h38=>?_
      refine AH hS4 h38 4 rfl rfl (by decide) (fr rfl) κ κ κ (fun _ _ _ _ h=>BU (R:=Cv w lg g v d p at_ size M L) h) (π gp) (Or.inl ⟨Eq.refl true,fun w1 hSw=>(by show (execOp _ (⟨_,.fieldAddr 141 (.tmp 5) 0,_,_,_,_⟩:Oper)).run _ _=_;exact (by unfold execOp;simp only [h38.ev 5 rfl];exact Af (JN (gp) _)))⟩) fun a41 h40=>?_
      refine AH hS4 h40 5 rfl rfl (by decide) (fr rfl) κ κ κ (fun _ _ _ _ h=>BU (R:=Cv w lg g v d p at_ size M L) h) (ν q.at_) (Or.inl ⟨Eq.refl true,fun w1 hSw=>(by show (execOp _ (⟨_,.load 3 (.tmp 20),_,_,_,_⟩:Oper)).run _ _=_;exact (by unfold execOp;simp only [h40.ev 20 rfl];exact Af (Cy (hSw.2.cell (i:=0) (by show 0<2;omega)))))⟩) fun a43 h42=>?_
      refine AH hS4 h42 6 rfl rfl (by decide) (fr rfl) κ κ κ (fun _ _ _ _ h=>BU (R:=Cv w lg g v d p at_ size M L) h) (.pointer (some ⟨gp,1,none⟩)) (Or.inl ⟨Eq.refl true,fun w1 hSw=>(by show (execOp _ (⟨_,.fieldAddr 141 (.tmp 5) 1,_,_,_,_⟩:Oper)).run _ _=_;exact (by unfold execOp;simp only [h42.ev 5 rfl];exact Af (JO (gp) _)))⟩) fun a45 h44=>?_
      refine AH hS4 h44 7 rfl rfl (by decide) (fr rfl) κ κ κ (fun _ _ _ _ h=>BU (R:=Cv w lg g v d p at_ size M L) h) (Am q.d) (Or.inl ⟨Eq.refl true,fun w1 hSw=>(by show (execOp _ (⟨_,.load 9 (.tmp 22),_,_,_,_⟩:Oper)).run _ _=_;exact (by unfold execOp;simp only [h44.ev 22 rfl];exact Af (LP (hSw.2.cell (i:=1) (by show 1<2;omega)))))⟩) fun a47 h46=>?_
      obtain ⟨yc,w5,hcv,hrow,b5⟩:=Gm wq.drew q.d hdl
      refine AF 8 rfl rfl κ fun K hK=>Ug (w':=w5) h46 rfl (by decide) (fr rfl) (.slice (some ⟨wq.drew.heap.size,0,none⟩) q.d.length yc) (by show (execOp _ (⟨_,.convert 9 22 (.tmp 23),_,_,_,_⟩:Oper)).run _ _=_;exact (by unfold execOp;simp only [h46.ev 23 rfl];exact Af hcv)) fun a49 h48=>hK _ _ ⟨hS4.1.mono b5,hS4.2.mono b5⟩ fun hS5=>?_
      clear hK K
      have HG5:=hid (HG4.out.mono b5);have HT5:=hid (HT4.out.trans (Turns.of_below b5));clear b5 hcv
      refine AF 9 rfl rfl κ fun K hK=>Ma h48 rfl (by decide) (fr rfl) (fun args=>cF func26 (args:=args) (w:=_)) rfl #[π g,ν q.at_,.slice (some ⟨wq.drew.heap.size,0,none⟩) q.d.length yc] (by simp only [List.map_toArray,List.map_cons,List.map_nil,h48.ev 19 rfl,h48.ev 21 rfl,h48.ev 24 rfl]) (R:=fun x w'=>x=ν (GX Mj q.at_ q.d.length)∧MemP w' g v d p (GA Mj q.at_ q.d)∧Turns (fun k=>k=v∨k=p) w5 w') ((Us HG5.out.m q.at_ hq64 _ _ q.d hrow).mono fun e w' z=>⟨_,z.1,rfl,z.2⟩) fun a51 v6 w6 r6 h50=>hK _ _ ⟨r6.2.2.blk hS5.1 (fun e=>HG5.out.nX (e.elim .inl (fun e=>.inr (.inr e)))),r6.2.2.blk hS5.2 (by intro e;rcases e with e | e<;>omega)⟩ fun hS6=>?_
      clear hK K
      obtain ⟨rfl,m6,t6⟩:=r6
      have HG6:=hid (HG5.out.next m6 t6 (fun k e=>e.elim .inl (fun e=>.inr (.inr e))));have HT6:Hid (Turns (XM v d p) w w6):=hid (HT5.out.trans (t6.mono (fun k e=>e.elim .inl (fun e=>.inr (.inr e)))));have HP6:=hid hS6.2;clear m6 t6 hrow
      refine AH hS6 h50 10 rfl rfl (by decide) (fr rfl) κ κ κ (fun _ _ _ _ h=>BU (R:=Cv w lg g v d p at_ size M L) h) (.bool true) (Or.inl ⟨Eq.refl true,fun w1 hSw=>(by show (execOp _ (⟨_,.binOp .eql 26 (.tmp 25) (.const (ν 0)) 26,_,_,_,_⟩:Oper)).run _ _=_;exact (by unfold execOp;simp only [h50.ev 25 rfl];exact Af (Ae3 _ _ _ _ _ herr)))⟩) fun a53 h52=>?_
      refine wpAnyH_done κ ?_ _
      have h54:=h52.subs (l':=[(26,_),(5,_),(12,_),(11,_),(10,_),(0,_),(1,_)]) rfl
      clear h52
      iterate 2 go_step
      refine wp_cond (t:=true) (h54.ev 26 rfl) ?_
      simp only [if_true]
      have h55:=h54.subs (l':=[(5,_),(12,_),(11,_),(10,_),(0,_),(1,_)]) rfl
      clear h54
      have HG7:=hid (HG6.out.mono (Below.refl _ _).drew);have HT7:=hid HT6.out.drew;have HP7:=hid (HP6.out.mono (Below.refl _ _).drew)
      refine wp_region_held_drew (S:=fun w'=>Blk w' lg 137 (Nb g at_ size)∧Blk w' gp 141 (ptC q)) κ ⟨HG7.out.l,HP7.out⟩ (fun hS7=>?_)
      refine AH hS7 h55 0 rfl rfl (by decide) (fr rfl) κ κ κ (fun _ _ _ _ h=>BU (R:=Cv w lg g v d p at_ size M L) h) (π lg) (Or.inl ⟨Eq.refl true,fun w1 hSw=>(by show (execOp _ (⟨_,.move (.tmp 0),_,_,_,_⟩:Oper)).run _ _=_;exact (by unfold execOp;simp only [h55.ev 0 rfl];exact rfl))⟩) fun a57 h56=>?_
      refine AH hS7 h56 1 rfl rfl (by decide) (fr rfl) κ κ κ (fun _ _ _ _ h=>BU (R:=Cv w lg g v d p at_ size M L) h) (π lg) (Or.inl ⟨Eq.refl true,fun w1 hSw=>(by show (execOp _ (⟨_,.nilCheck (.tmp 27),_,_,_,_⟩:Oper)).run _ _=_;exact (by unfold execOp;simp only [h56.ev 27 rfl];exact rfl))⟩) fun a59 h58=>?_
      refine AH hS7 h58 2 rfl rfl (by decide) (fr rfl) κ κ κ (fun _ _ _ _ h=>BU (R:=Cv w lg g v d p at_ size M L) h) (π lg) (Or.inl ⟨Eq.refl true,fun w1 hSw=>(by show (execOp _ (⟨_,.fieldAddr 137 (.tmp 28) 0,_,_,_,_⟩:Oper)).run _ _=_;exact (by unfold execOp;simp only [h58.ev 28 rfl];exact Af (FY (lg) _)))⟩) fun a61 h60=>?_
      refine AH hS7 h60 3 rfl rfl (by decide) (fr rfl) κ κ κ (fun _ _ _ _ h=>BU (R:=Cv w lg g v d p at_ size M L) h) (π g) (Or.inl ⟨Eq.refl true,fun w1 hSw=>(by show (execOp _ (⟨_,.load 23 (.tmp 29),_,_,_,_⟩:Oper)).run _ _=_;exact (by unfold execOp;simp only [h60.ev 29 rfl];exact Af (He (hSw.1.cell (i:=0) (by show 0<3;omega)))))⟩) fun a63 h62=>?_
      refine AH hS7 h62 4 rfl rfl (by decide) (fr rfl) κ κ κ (fun _ _ _ _ h=>BU (R:=Cv w lg g v d p at_ size M L) h) (π gp) (Or.inl ⟨Eq.refl true,fun w1 hSw=>(by show (execOp _ (⟨_,.fieldAddr 141 (.tmp 5) 0,_,_,_,_⟩:Oper)).run _ _=_;exact (by unfold execOp;simp only [h62.ev 5 rfl];exact Af (JN (gp) _)))⟩) fun a65 h64=>?_
      refine AH hS7 h64 5 rfl rfl (by decide) (fr rfl) κ κ κ (fun _ _ _ _ h=>BU (R:=Cv w lg g v d p at_ size M L) h) (ν q.at_) (Or.inl ⟨Eq.refl true,fun w1 hSw=>(by show (execOp _ (⟨_,.load 3 (.tmp 31),_,_,_,_⟩:Oper)).run _ _=_;exact (by unfold execOp;simp only [h64.ev 31 rfl];exact Af (Cy (hSw.2.cell (i:=0) (by show 0<2;omega)))))⟩) fun a67 h66=>?_
      refine AH hS7 h66 6 rfl rfl (by decide) (fr rfl) κ κ κ (fun _ _ _ _ h=>BU (R:=Cv w lg g v d p at_ size M L) h) (.pointer (some ⟨gp,1,none⟩)) (Or.inl ⟨Eq.refl true,fun w1 hSw=>(by show (execOp _ (⟨_,.fieldAddr 141 (.tmp 5) 1,_,_,_,_⟩:Oper)).run _ _=_;exact (by unfold execOp;simp only [h66.ev 5 rfl];exact Af (JO (gp) _)))⟩) fun a69 h68=>?_
      refine AH hS7 h68 7 rfl rfl (by decide) (fr rfl) κ κ κ (fun _ _ _ _ h=>BU (R:=Cv w lg g v d p at_ size M L) h) (Am q.d) (Or.inl ⟨Eq.refl true,fun w1 hSw=>(by show (execOp _ (⟨_,.load 9 (.tmp 33),_,_,_,_⟩:Oper)).run _ _=_;exact (by unfold execOp;simp only [h68.ev 33 rfl];exact Af (LP (hSw.2.cell (i:=1) (by show 1<2;omega)))))⟩) fun a71 h70=>?_
      refine AH hS7 h70 8 rfl rfl (by decide) (fr rfl) κ κ κ (fun _ _ _ _ h=>BU (R:=Cv w lg g v d p at_ size M L) h) (ν (q.d.length:Int)) (Or.inl ⟨Eq.refl true,fun w1 hSw=>(by show (execOp _ (⟨_,.call { callee:=.builtin .len,args:=#[(.tmp 34)],argTypes:=#[9] },_,_,_,_⟩:Oper)).run _ _=_;exact (Cq rfl (h70.ev 34 rfl) _))⟩) fun a73 h72=>?_
      refine AF 9 rfl rfl κ fun K hK=>Ma h72 rfl (by decide) (fr rfl) (fun args=>cF func27 (args:=args) (w:=_)) rfl #[π g,ν q.at_,ν (q.d.length:Int)] (by simp only [List.map_toArray,List.map_cons,List.map_nil,h72.ev 30 rfl,h72.ev 32 rfl,h72.ev 35 rfl]) (R:=fun x w'=>x=ν (GX (GA Mj q.at_ q.d) q.at_ q.d.length)∧MemP w' g v d p (LG (GA Mj q.at_ q.d) q.at_ q.d.length)∧Turns (fun k=>k=p) w6.drew w') ((ZY HG7.out.m q.at_ q.d.length hq64 (by unfold ER;omega)).mono fun e w' z=>⟨_,z.1,rfl,z.2⟩) fun a75 v8 w8 r8 h74=>hK _ _ ⟨r8.2.2.blk hS7.1 (fun e=>HG7.out.nX (.inr (.inr e))),r8.2.2.blk hS7.2 (by intro e;omega)⟩ fun hS8=>?_
      clear hK K
      obtain ⟨rfl,m8,t8⟩:=r8
      have HG8:=hid (HG7.out.next m8 t8 (fun k e=>.inr (.inr e)));have HT8:Hid (Turns (XM v d p) w w8):=hid (HT7.out.trans (t8.mono (fun k e=>.inr (.inr e))));clear m8 t8
      refine wpAnyH_done κ ?_ _
      have h76:=h74.subs (l':=[(5,_),(12,_),(11,_),(10,_),(0,_),(1,_)]) rfl
      clear h74
      iterate 3 go_step
      refine Cf h76 (wn rfl) rfl (by decide) (fr rfl) (ν ((j+1:Nat):Int)) (by unfold execOp;simp only [h76.ev 12 rfl];exact Af (Nh _ _ j ω _)) fun a78 h77=>?_
      have h79:=h77.subs (l':=[(37,_),(5,_),(11,_),(10,_),(0,_),(1,_)]) rfl
      clear h77
      refine Cf h79 (wn rfl) rfl (by decide) (fr rfl) (ν ((j+1:Nat):Int)) (by unfold execOp;simp only [h79.ev 37 rfl];rfl) fun a81 h80=>?_
      have h82:=h80.subs (l':=[(12,_),(5,_),(11,_),(10,_),(0,_),(1,_)]) rfl
      clear h80
      iterate 2 go_step
      refine ⟨⟨j+1,Is Mj q,ω,h82.subs rfl,?_,?_,HT8.out⟩,?_⟩
      · rw [List.take_add_one,List.getElem?_eq_getElem hlt,Option.toList_some,List.foldl_append,← HMJ.out,← HQ.out];rfl
      · unfold Is;rw [if_pos hin];exact HG8.out
      · rw [h82.ev 12 rfl,hK.ev 12 rfl];simp [intOf];omega
    · have herr:(GX Mj q.at_ q.d.length == 0)=false:=by rw [Xn hin];rfl
      iterate 3 go_step
      refine Cf hK (wn rfl) rfl (by decide) (fr rfl) (.bool true) (by unfold execOp;simp only [hK.ev 12 rfl,hK.ev 11 rfl];exact Af (KO _ _ _ _ _ hd0)) fun a84 h83=>?_
      iterate 4 go_step
      refine wp_cond (t:=true) (h83.ev 13 rfl) ?_
      simp only [if_true]
      have h85:=h83.subs (l':=[(12,_),(11,_),(10,_),(0,_),(1,_)]) rfl
      clear h83
      iterate 7 go_step
      refine Cf h85 (wn rfl) rfl (by decide) (fr rfl) (.pointer (some ⟨pb,poff+j*2,none⟩)) (by unfold execOp;simp only [h85.ev 10 rfl,h85.ev 12 rfl];exact Af (by rw [ha0];exact ixP pb poff _ c j hlt _)) fun a87 h86=>?_
      refine Cf h86 (wn rfl) rfl (by decide) (fr rfl) (ptV q) (by unfold execOp;simp only [h86.ev 14 rfl];exact Af (run_loadAt_mid _ _ _ _ (ptC q) _ hrg υ141 rfl (by rw [IB];rfl))) fun a89 h88=>?_
      refine Cf h88 (wn rfl) rfl (by decide) (fr rfl) (π wL.heap.size) (Hn rfl _ wL) fun a91 h90=>?_
      obtain ⟨wp,hwp⟩:∃ x,x=wL.alloc (.cells (ptC ⟨0,[]⟩).toArray 141):=⟨_,rfl⟩
      obtain ⟨gp,hgp⟩:∃ x,x=wL.heap.size:=⟨_,rfl⟩
      have hk0:Blk wp gp 141 (ptC ⟨0,[]⟩):=by rw [hwp,hgp];exact AN rfl _ _
      have hap:lg<gp∧g<gp∧v<gp∧d<gp∧p<gp:=by rw [hgp];exact HG.out.lt
      have hgw:w.heap.size≤gp:=by rw [hgp];exact HT.out.size
      have HGp:Hid (LogP wp lg g v d p at_ size Mj):=hid (by rw [hwp];exact HG.out.mono (Ck _ _));have HTp:Hid (Turns (XM v d p) w wp):=hid (by rw [hwp];exact HT.out.trans (Turns.of_below (Ck _ _)))
      rw [← hgp] at h90;rw [← hwp];clear hwp hgp
      refine KI h90 rfl rfl rfl gp 0 (h90.ev 5 rfl) (ptC q) (h90.ev 15 rfl) (by rw [IB];rfl) (Jp _) hk0 (by show 0+2≤2;omega) fun a93 wq h92 kq gq=>?_
      rw [Dw (by rfl)] at kq
      have HPQ:=hid kq;have HGq:=hid (HGp.out.fresh (Turns.of_grown gq rfl) hap);have HTq:Hid (Turns (XM v d p) w wq):=hid (HTp.out.trans' (Turns.of_grown (X:=fun k=>k=gp) gq rfl) (fun k hk e=>absurd e ω))
      clear kq gq hk0 HGp HTp
      have h94:=h92.subs (l':=[(5,_),(12,_),(11,_),(10,_),(0,_),(1,_)]) rfl
      clear h92
      iterate 4 go_step
      have HG4:=hid (HGq.out.mono (Below.refl _ _).drew);have HT4:=hid HTq.out.drew;have HP4:=hid (HPQ.out.mono (Below.refl _ _).drew)
      refine wp_region_held_drew (S:=fun w'=>Blk w' lg 137 (Nb g at_ size)∧Blk w' gp 141 (ptC q)) κ ⟨HG4.out.l,HP4.out⟩ (fun hS4=>?_)
      refine AH hS4 h94 0 rfl rfl (by decide) (fr rfl) κ κ κ (fun _ _ _ _ h=>BU (R:=Cv w lg g v d p at_ size M L) h) (π lg) (Or.inl ⟨Eq.refl true,fun w1 hSw=>(by show (execOp _ (⟨_,.move (.tmp 0),_,_,_,_⟩:Oper)).run _ _=_;exact (by unfold execOp;simp only [h94.ev 0 rfl];exact rfl))⟩) fun a96 h95=>?_
      refine AH hS4 h95 1 rfl rfl (by decide) (fr rfl) κ κ κ (fun _ _ _ _ h=>BU (R:=Cv w lg g v d p at_ size M L) h) (π lg) (Or.inl ⟨Eq.refl true,fun w1 hSw=>(by show (execOp _ (⟨_,.nilCheck (.tmp 16),_,_,_,_⟩:Oper)).run _ _=_;exact (by unfold execOp;simp only [h95.ev 16 rfl];exact rfl))⟩) fun a98 h97=>?_
      refine AH hS4 h97 2 rfl rfl (by decide) (fr rfl) κ κ κ (fun _ _ _ _ h=>BU (R:=Cv w lg g v d p at_ size M L) h) (π lg) (Or.inl ⟨Eq.refl true,fun w1 hSw=>(by show (execOp _ (⟨_,.fieldAddr 137 (.tmp 17) 0,_,_,_,_⟩:Oper)).run _ _=_;exact (by unfold execOp;simp only [h97.ev 17 rfl];exact Af (FY (lg) _)))⟩) fun a100 h99=>?_
      refine AH hS4 h99 3 rfl rfl (by decide) (fr rfl) κ κ κ (fun _ _ _ _ h=>BU (R:=Cv w lg g v d p at_ size M L) h) (π g) (Or.inl ⟨Eq.refl true,fun w1 hSw=>(by show (execOp _ (⟨_,.load 23 (.tmp 18),_,_,_,_⟩:Oper)).run _ _=_;exact (by unfold execOp;simp only [h99.ev 18 rfl];exact Af (He (hSw.1.cell (i:=0) (by show 0<3;omega)))))⟩) fun a102 h101=>?_
      refine AH hS4 h101 4 rfl rfl (by decide) (fr rfl) κ κ κ (fun _ _ _ _ h=>BU (R:=Cv w lg g v d p at_ size M L) h) (π gp) (Or.inl ⟨Eq.refl true,fun w1 hSw=>(by show (execOp _ (⟨_,.fieldAddr 141 (.tmp 5) 0,_,_,_,_⟩:Oper)).run _ _=_;exact (by unfold execOp;simp only [h101.ev 5 rfl];exact Af (JN (gp) _)))⟩) fun a104 h103=>?_
      refine AH hS4 h103 5 rfl rfl (by decide) (fr rfl) κ κ κ (fun _ _ _ _ h=>BU (R:=Cv w lg g v d p at_ size M L) h) (ν q.at_) (Or.inl ⟨Eq.refl true,fun w1 hSw=>(by show (execOp _ (⟨_,.load 3 (.tmp 20),_,_,_,_⟩:Oper)).run _ _=_;exact (by unfold execOp;simp only [h103.ev 20 rfl];exact Af (Cy (hSw.2.cell (i:=0) (by show 0<2;omega)))))⟩) fun a106 h105=>?_
      refine AH hS4 h105 6 rfl rfl (by decide) (fr rfl) κ κ κ (fun _ _ _ _ h=>BU (R:=Cv w lg g v d p at_ size M L) h) (.pointer (some ⟨gp,1,none⟩)) (Or.inl ⟨Eq.refl true,fun w1 hSw=>(by show (execOp _ (⟨_,.fieldAddr 141 (.tmp 5) 1,_,_,_,_⟩:Oper)).run _ _=_;exact (by unfold execOp;simp only [h105.ev 5 rfl];exact Af (JO (gp) _)))⟩) fun a108 h107=>?_
      refine AH hS4 h107 7 rfl rfl (by decide) (fr rfl) κ κ κ (fun _ _ _ _ h=>BU (R:=Cv w lg g v d p at_ size M L) h) (Am q.d) (Or.inl ⟨Eq.refl true,fun w1 hSw=>(by show (execOp _ (⟨_,.load 9 (.tmp 22),_,_,_,_⟩:Oper)).run _ _=_;exact (by unfold execOp;simp only [h107.ev 22 rfl];exact Af (LP (hSw.2.cell (i:=1) (by show 1<2;omega)))))⟩) fun a110 h109=>?_
      obtain ⟨yc,w5,hcv,hrow,b5⟩:=Gm wq.drew q.d hdl
      refine AF 8 rfl rfl κ fun K hK=>Ug (w':=w5) h109 rfl (by decide) (fr rfl) (.slice (some ⟨wq.drew.heap.size,0,none⟩) q.d.length yc) (by show (execOp _ (⟨_,.convert 9 22 (.tmp 23),_,_,_,_⟩:Oper)).run _ _=_;exact (by unfold execOp;simp only [h109.ev 23 rfl];exact Af hcv)) fun a112 h111=>hK _ _ ⟨hS4.1.mono b5,hS4.2.mono b5⟩ fun hS5=>?_
      clear hK K
      have HG5:=hid (HG4.out.mono b5);have HT5:=hid (HT4.out.trans (Turns.of_below b5));clear b5 hcv
      refine AF 9 rfl rfl κ fun K hK=>Ma h111 rfl (by decide) (fr rfl) (fun args=>cF func26 (args:=args) (w:=_)) rfl #[π g,ν q.at_,.slice (some ⟨wq.drew.heap.size,0,none⟩) q.d.length yc] (by simp only [List.map_toArray,List.map_cons,List.map_nil,h111.ev 19 rfl,h111.ev 21 rfl,h111.ev 24 rfl]) (R:=fun x w'=>x=ν (GX Mj q.at_ q.d.length)∧MemP w' g v d p (GA Mj q.at_ q.d)∧Turns (fun k=>k=v∨k=p) w5 w') ((Us HG5.out.m q.at_ hq64 _ _ q.d hrow).mono fun e w' z=>⟨_,z.1,rfl,z.2⟩) fun a114 v6 w6 r6 h113=>hK _ _ ⟨r6.2.2.blk hS5.1 (fun e=>HG5.out.nX (e.elim .inl (fun e=>.inr (.inr e)))),r6.2.2.blk hS5.2 (by intro e;rcases e with e | e<;>omega)⟩ fun hS6=>?_
      clear hK K
      obtain ⟨rfl,m6,t6⟩:=r6
      have HG6:=hid (HG5.out.next m6 t6 (fun k e=>e.elim .inl (fun e=>.inr (.inr e))));have HT6:Hid (Turns (XM v d p) w w6):=hid (HT5.out.trans (t6.mono (fun k e=>e.elim .inl (fun e=>.inr (.inr e)))));have HP6:=hid hS6.2;clear m6 t6 hrow
      refine AH hS6 h113 10 rfl rfl (by decide) (fr rfl) κ κ κ (fun _ _ _ _ h=>BU (R:=Cv w lg g v d p at_ size M L) h) (.bool false) (Or.inl ⟨Eq.refl true,fun w1 hSw=>(by show (execOp _ (⟨_,.binOp .eql 26 (.tmp 25) (.const (ν 0)) 26,_,_,_,_⟩:Oper)).run _ _=_;exact (by unfold execOp;simp only [h113.ev 25 rfl];exact Af (Ae3 _ _ _ _ _ herr)))⟩) fun a116 h115=>?_
      refine wpAnyH_done κ ?_ _
      have h117:=h115.subs (l':=[(26,_),(5,_),(12,_),(11,_),(10,_),(0,_),(1,_)]) rfl
      clear h115
      iterate 2 go_step
      refine wp_cond (t:=false) (h117.ev 26 rfl) ?_
      simp only [Bool.false_eq_true,if_false]
      have h118:=h117.subs (l':=[(5,_),(12,_),(11,_),(10,_),(0,_),(1,_)]) rfl
      clear h117
      iterate 4 go_step
      refine Cf h118 (wn rfl) rfl (by decide) (fr rfl) (ν ((j+1:Nat):Int)) (by unfold execOp;simp only [h118.ev 12 rfl];exact Af (Nh _ _ j ω _)) fun a120 h119=>?_
      have h121:=h119.subs (l':=[(37,_),(5,_),(11,_),(10,_),(0,_),(1,_)]) rfl
      clear h119
      refine Cf h121 (wn rfl) rfl (by decide) (fr rfl) (ν ((j+1:Nat):Int)) (by unfold execOp;simp only [h121.ev 37 rfl];rfl) fun a123 h122=>?_
      have h124:=h122.subs (l':=[(12,_),(5,_),(11,_),(10,_),(0,_),(1,_)]) rfl
      clear h122
      iterate 2 go_step
      refine ⟨⟨j+1,Is Mj q,ω,h124.subs rfl,?_,?_,HT6.out⟩,?_⟩
      · rw [List.take_add_one,List.getElem?_eq_getElem hlt,Option.toList_some,List.foldl_append,← HMJ.out,← HQ.out];rfl
      · unfold Is;rw [if_neg hin];have z:=HG6.out;rw [Tj hin] at z;exact z
      · rw [h124.ev 12 rfl,hK.ev 12 rfl];simp [intOf];omega
  · have hd0:decide ((j:Int)<(L.length:Int))=false:=decide_eq_false ω
    obtain rfl:j=L.length:=ω
    iterate 3 go_step
    refine Cf hK (wn rfl) rfl (by decide) (fr rfl) (.bool false) (by unfold execOp;simp only [hK.ev 12 rfl,hK.ev 11 rfl];exact Af (KO _ _ _ _ _ hd0)) fun a126 h125=>?_
    iterate 4 go_step
    refine wp_cond (t:=false) (h125.ev 13 rfl) ?_
    simp only [Bool.false_eq_true,if_false]
    have h127:=h125.subs (l':=[(12,_),(11,_),(10,_),(0,_),(1,_)]) rfl
    clear h125
    iterate 4 go_step
    rw [List.take_length] at HMJ
    exact Ag7 HG.out HT.out HMJ.out h127.defs
end
section
def GU (V:Λ) (at_ size:Nat):Nat:=match AC ((V.drop at_).take 8) 0 8 with
  | some n=>if n≤size-8 then n else 0
  | none=>0
theorem Ov (V:Λ) (at_ size:Nat):GU V at_ size≤size-8:=by
  unfold GU
  split
  · split
    · assumption
    · exact Nat.zero_le _
  · exact Nat.zero_le _
def GJ (b:Λ):Nat→Nat→List (List PtM)→List (List PtM)×Nat
  | 0,u,acc=>(acc,u)
  | k+1,u,acc=>if (Cd (b.drop u)).2.2=0 then GJ b k (u+(Cd (b.drop u)).2.1.toNat) (acc++[(Cd (b.drop u)).1]) else (acc,u)
def Ex (b:Λ):List (List PtM)×Nat:=GJ b (b.length+1) 0 []
def Ff (V:Λ) (at_ size:Nat):Λ:=(V.drop (at_+8)).take (GU V at_ size)
def Cn (V:Λ) (at_ size:Nat):List (List PtM)×Nat:=Ex (Ff V at_ size)
theorem Rg {xs:Λ} {s:DS} {n:Nat} (h:(Bh xs s n).2.no=false):s.no=false∧(Bh xs s n).2.at_=s.at_+n∧s.at_+n≤xs.length:=by
  unfold Bh at h ⊢
  split at h
  · cases h
  · next q=>
    rw [if_neg q]
    refine ⟨?_,rfl,ω⟩
    cases hs:s.no with
    | false=>rfl
    | true=>exact absurd (Or.inl hs) q
theorem Ls {xs:Λ} (h:(Cd xs).2.2=0):∃ n:Nat,(Cd xs).2.1=(n:Int)∧8≤n∧n≤xs.length:=by
  unfold Cd at h ⊢
  split at h
  · cases h
  · next q=>
    rw [if_neg q]
    cases hg:Dy xs (Bg xs ⟨0,false⟩ 2).1 (Bg xs ⟨0,false⟩ 2).2 [] with
    | none=>rw [hg] at h;cases h
    | some r=>
      rw [hg] at h
      show ∃ n:Nat,(IV xs r.1 r.2).2.1=(n:Int)∧_
      change (IV xs r.1 r.2).2.2=0 at h
      unfold IV at h ⊢
      split at h
      · cases h
      · next q1=>
        rw [if_neg q1]
        split at h
        · cases h
        · next q2=>
          rw [if_neg q2]
          split at h
          · next q3=>
            rw [if_pos q3]
            have q4:(Bh xs (Bg xs r.2 4).2 (Bl (Bg xs r.2 4).2.at_)).2.no=false:=by
              cases hh:(Bh xs (Bg xs r.2 4).2 (Bl (Bg xs r.2 4).2.at_)).2.no with
              | false=>rfl
              | true=>exact absurd hh q2
            obtain ⟨h1,h2,h3⟩:=Rg q4
            obtain ⟨h4,h5,h6⟩:=Rg (xs:=xs) (s:=r.2) (n:=4) h1
            refine ⟨_,rfl,?_,?_⟩
            · rw [h2];have:(Bg xs r.2 4).2.at_=r.2.at_+4:=h5;unfold Bl;omega
            · rw [h2];exact h3
          · cases h
def YF (r:Ω×Nat×List PtM):Value:=.slice r.1 r.2.2.length r.2.1
structure RecsP (W:World) (B:Nat) (ra:Ω) (rc:Nat) (rs:List (Ω×Nat×List PtM)):Prop where
  o:Own W B 89 1 ra rs.length rc (rs.map YF)
  i:∀ r∈rs,By W B r.1 r.2.1 r.2.2
theorem RecsP.nil (W:World) (B:Nat):RecsP W B none 0 []:=⟨Own.nil _ _ _ _,fun r h=>by cases h⟩
theorem RecsP.mono {W W':World} {B:Nat} {ra:Ω} {rc:Nat} {rs:List (Ω×Nat×List PtM)} (h:RecsP W B ra rc rs) (b:Below W.heap.size W W'):RecsP W' B ra rc rs:=⟨Own.mono h.o b,fun r hr=>Own.mono (h.i r hr) b⟩
theorem RecsP.low {W:World} {B B':Nat} {ra:Ω} {rc:Nat} {rs:List (Ω×Nat×List PtM)} (h:RecsP W B ra rc rs) (hb:B'≤B):RecsP W B' ra rc rs:=⟨h.o.low hb,fun r hr=>(h.i r hr).low hb⟩
theorem RecsP.turns {W W':World} {B:Nat} {ra:Ω} {rc:Nat} {rs:List (Ω×Nat×List PtM)} {X:Nat→Prop} (h:RecsP W B ra rc rs) (t:Turns X W W') (hx:∀ k,X k→k<B):RecsP W' B ra rc rs:=⟨t.own h.o hx,fun r hr=>t.own (h.i r hr) hx⟩
theorem Md {W W':World} {B B':Nat} {e e':TypeId} {sz sz':Nat} {a a':Ω} {n n' c c':Nat} {cs cs':List Value} (h:Own W B e sz a n c cs) (h':Own W B' e' sz' a' n' c' cs') (hne:e≠e') (G:W.grownBy W' (Value.slice a' n' c').ownBlock):Own W' B e sz a n c cs:=
  h.staysO G (SB h h' hne)
end
section
def Fh (xs:Λ):Nat→Nat→List PtM→Int ⊕ (List PtM×Nat)
  | 0,at_,acc=>.inr (acc,at_)
  | n+1,at_,acc=>
    match AC xs (at_:Int) 4,AC xs ((at_+4:Nat):Int) 2 with
    | some x,some k=>if 256<k then .inl 2 else if xs.length<at_+6+k then .inl 3 else Fh xs n (at_+6+k) (acc++[⟨(x:Int),(xs.drop (at_+6)).take k⟩])
    | some _,none=>.inl 3
    | none,_=>.inl 3
def GV (xs:Λ) (L:List PtM) (at_:Nat):List PtM×Int×Int:=
  match AC xs (at_:Int) 4 with
  | none=>([],0,3)
  | some s=>if s≠Cb (xs.take at_) then ([],0,4) else if xs.length<at_+4+Bl (at_+4) then ([],0,3) else if ∀ x∈(xs.drop (at_+4)).take (Bl (at_+4)),x=0 then (L,((at_+4+Bl (at_+4):Nat):Int),0) else ([],0,2)
def Agt (xs:Λ):Int ⊕ (List PtM×Nat)→List PtM×Int×Int
  | .inl e=>([],0,e)
  | .inr r=>GV xs r.1 r.2
def IT (xs:Λ):List PtM×Int×Int:=
  match AC xs 0 2 with
  | none=>([],0,3)
  | some n=>if 64<n then ([],0,2) else Agt xs (Fh xs n 2 [])
theorem Er {xs:Λ} {a k:Nat} (h:a+k≤xs.length) (hk:k=2∨k=4):AC xs (a:Int) (k:Int)=some (BL ((xs.drop a).take k)):=by
  have hl:((xs.drop a).take k).length=k:=by rw [List.length_take,List.length_drop];omega
  have hb:=Lb ((xs.drop a).take k)
  rw [hl] at hb
  have hb2:BL ((xs.drop a).take k)≤9223372036854775807:=by rcases hk with rfl | rfl<;>omega
  have hw:EM (k:Int)=true:=by rcases hk with rfl | rfl<;>rfl
  unfold AC
  rw [if_pos ⟨hw,ω,ω⟩]
  simp only [Int.toNat_natCast]
  exact if_pos hb2
theorem Fa {xs:Λ} {a k:Nat} (h:xs.length<a+k):AC xs (a:Int) (k:Int)=none:=by
  unfold AC
  exact if_neg fun q=>ω
theorem La {xs:Λ} {a k:Nat} (h:a+k≤xs.length) (hk:k=2∨k=4):Bg xs ⟨a,false⟩ k=(BL ((xs.drop a).take k),⟨a+k,false⟩):=by
  have hl:((xs.drop a).take k).length=k:=by rw [List.length_take,List.length_drop];omega
  have ht:Bh xs ⟨a,false⟩ k=((xs.drop a).take k,⟨a+k,false⟩):=if_neg fun q=>by
    rcases q with q | q
    · cases q
    · change xs.length<a+k at q;omega
  have hg:=Er (xs:=(xs.drop a).take k) (a:=0) (k:=k) ω hk
  unfold Bg
  rw [ht]
  show ((AC ((xs.drop a).take k) ((0:Nat):Int) (k:Int)).getD 0,_)=_
  rw [hg]
  show (BL ((((xs.drop a).take k).drop 0).take k),_)=_
  rw [List.drop_zero,List.take_of_length_le ω]
theorem DE {xs:Λ} {s:DS} {k:Nat} (h:s.no=true∨xs.length<s.at_+k):Bh xs s k=([],⟨s.at_,true⟩):=if_pos h
theorem Et {xs:Λ} {s:DS} {k:Nat} (h:s.no=true∨xs.length<s.at_+k) (hk:k=2∨k=4):Bg xs s k=(0,⟨s.at_,true⟩):=by
  unfold Bg
  rw [DE h]
  show ((AC [] ((0:Nat):Int) (k:Int)).getD 0,_)=_
  rw [Fa (by show 0<0+k;omega)]
  rfl
theorem LJ (xs:Λ) (n:Nat) (a:Nat) (acc:List PtM):∃ acc',Dy xs n ⟨a,true⟩ acc=some (acc',⟨a,true⟩):=by
  induction n generalizing acc with
  | zero=>exact ⟨acc,rfl⟩
  | succ n ih=>
    unfold Dy
    rw [Et (.inl rfl) (.inr rfl),Et (.inl rfl) (.inl rfl)]
    rw [if_neg ω,DE (.inl rfl)]
    exact ih _
theorem Ks (xs:Λ) (n:Nat) (a:Nat) (acc:List PtM) :
    match Fh xs n a acc with
    | .inl e=>(e=2∧Dy xs n ⟨a,false⟩ acc=none)∨(e=3∧∃ acc' a',Dy xs n ⟨a,false⟩ acc=some (acc',⟨a',true⟩))
    | .inr r=>Dy xs n ⟨a,false⟩ acc=some (r.1,⟨r.2,false⟩):=by
  induction n generalizing a acc with
  | zero=>exact rfl
  | succ n ih=>
    unfold Fh Dy
    by_cases h1:a+4≤xs.length
    · have g1:=Er h1 (.inr rfl)
      change AC xs (a:Int) 4=_ at g1
      rw [g1,La h1 (.inr rfl)]
      dsimp only
      by_cases h2:a+4+2≤xs.length
      · have g2:=Er h2 (.inl rfl)
        change AC xs ((a+4:Nat):Int) 2=_ at g2
        rw [g2,La h2 (.inl rfl)]
        dsimp only
        by_cases h3:256<BL ((xs.drop (a+4)).take 2)
        · rw [if_pos h3,if_pos h3];exact .inl ⟨rfl,rfl⟩
        · rw [if_neg h3,if_neg h3]
          by_cases h4:xs.length<a+6+BL ((xs.drop (a+4)).take 2)
          · rw [if_pos h4,DE (.inr h4)]
            obtain ⟨acc',e⟩:=LJ xs n (a+4+2) (acc++[⟨((BL ((xs.drop a).take 4):Nat):Int),[]⟩])
            exact .inr ⟨rfl,acc',_,e⟩
          · rw [if_neg h4]
            have ht:Bh xs ⟨a+4+2,false⟩ (BL ((xs.drop (a+4)).take 2))=((xs.drop (a+6)).take (BL ((xs.drop (a+4)).take 2)),⟨a+6+BL ((xs.drop (a+4)).take 2),false⟩):=if_neg fun q=>by
              rcases q with q | q
              · cases q
              · exact h4 q
            rw [ht]
            exact ih _ _
      · have g2:=Fa (xs:=xs) (a:=a+4) (k:=2) ω
        change AC xs ((a+4:Nat):Int) 2=_ at g2
        rw [g2,Et (.inr (ω:xs.length<a+4+2)) (.inl rfl)]
        dsimp only
        rw [if_neg ω,DE (.inl rfl)]
        obtain ⟨acc',e⟩:=LJ xs n (a+4) (acc++[⟨((BL ((xs.drop a).take 4):Nat):Int),[]⟩])
        exact .inr ⟨rfl,acc',_,e⟩
    · have g1:=Fa (xs:=xs) (a:=a) (k:=4) ω
      change AC xs (a:Int) 4=_ at g1
      rw [g1,Et (.inr (ω:xs.length<a+4)) (.inr rfl),Et (.inl rfl) (.inl rfl)]
      dsimp only
      rw [if_neg ω,DE (.inl rfl)]
      obtain ⟨acc',e⟩:=LJ xs n a (acc++[⟨((0:Nat):Int),[]⟩])
      exact .inr ⟨rfl,acc',_,e⟩
theorem TM (xs:Λ) (L:List PtM) (a:Nat):IV xs L ⟨a,true⟩=([],0,3):=by
  unfold IV
  rw [Et (.inl rfl) (.inr rfl),if_neg (by rintro ⟨q,_⟩;cases q),DE (.inl rfl)]
  exact if_pos rfl
theorem UV (xs:Λ) (L:List PtM) (a:Nat):IV xs L ⟨a,false⟩=GV xs L a:=by
  unfold GV
  by_cases h1:a+4≤xs.length
  · have g1:=Er h1 (.inr rfl)
    change AC xs (a:Int) 4=_ at g1
    rw [g1]
    unfold IV
    rw [La h1 (.inr rfl)]
    dsimp only
    by_cases h2:BL ((xs.drop a).take 4)≠Cb (xs.take a)
    · rw [if_pos ⟨rfl,h2⟩,if_pos h2]
    · rw [if_neg (fun q=>h2 q.2),if_neg h2]
      by_cases h3:xs.length<a+4+Bl (a+4)
      · rw [DE (.inr h3),if_pos rfl,if_pos h3]
      · have ht:Bh xs ⟨a+4,false⟩ (Bl (a+4))=((xs.drop (a+4)).take (Bl (a+4)),⟨a+4+Bl (a+4),false⟩):=if_neg fun q=>by
          rcases q with q | q
          · cases q
          · exact h3 q
        rw [ht,if_neg (fun q=>by cases q),if_neg h3]
  · have g1:=Fa (xs:=xs) (a:=a) (k:=4) ω
    change AC xs (a:Int) 4=_ at g1
    rw [g1]
    unfold IV
    rw [Et (.inr (ω:xs.length<a+4)) (.inr rfl),if_neg (by rintro ⟨q,_⟩;cases q),DE (.inl rfl)]
    exact if_pos rfl
theorem Hv (xs:Λ):Cd xs=IT xs:=by
  unfold Cd IT
  by_cases h1:0+2≤xs.length
  · have g1:=Er h1 (.inl rfl)
    change AC xs 0 2=_ at g1
    rw [g1,La h1 (.inl rfl)]
    dsimp only
    by_cases h2:64<BL ((xs.drop 0).take 2)
    · rw [if_pos h2,if_pos h2]
    · rw [if_neg h2,if_neg h2]
      have h3:=Ks xs (BL ((xs.drop 0).take 2)) 2 []
      generalize Fh xs (BL ((xs.drop 0).take 2)) 2 []=R at h3 ⊢
      cases R with
      | inl e=>
        rcases h3 with ⟨rfl,e2⟩ | ⟨rfl,acc',a',e2⟩
        · show Xq xs (Dy xs _ ⟨2,false⟩ [])=_
          rw [e2];rfl
        · show Xq xs (Dy xs _ ⟨2,false⟩ [])=_
          rw [e2];exact TM _ _ _
      | inr r=>
        show Xq xs (Dy xs _ ⟨2,false⟩ [])=_
        rw [h3];exact UV _ _ _
  · have g1:=Fa (xs:=xs) (a:=0) (k:=2) ω
    change AC xs 0 2=_ at g1
    rw [g1,Et (.inr (ω:xs.length<0+2)) (.inl rfl),if_neg ω]
    exact TM _ _ _
theorem Gr {xs ys:Λ} {n a k:Nat} (h:xs.take n=ys.take n) (hx:n≤xs.length) (hy:n≤ys.length) (hk:a+k≤n) (h2:k=2∨k=4):AC ys (a:Int) (k:Int)=AC xs (a:Int) (k:Int):=by
  rw [Er ω h2,Er ω h2]
  have e:∀ zs:Λ,(zs.drop a).take k=((zs.take n).drop a).take k:=fun zs=>by
    rw [List.drop_take,List.take_take,Nat.min_eq_left ω]
  rw [e xs,e ys,h]
theorem QU {xs ys:Λ} {n a k:Nat} (h:xs.take n=ys.take n) (hk:a+k≤n):(ys.drop a).take k=(xs.drop a).take k:=by
  have e:∀ zs:Λ,(zs.drop a).take k=((zs.take n).drop a).take k:=fun zs=>by
    rw [List.drop_take,List.take_take,Nat.min_eq_left ω]
  rw [e xs,e ys,h]
theorem Tk {xs ys:Λ} {n a:Nat} (h:xs.take n=ys.take n) (hk:a≤n):ys.take a=xs.take a:=by
  have e:∀ zs:Λ,zs.take a=(zs.take n).take a:=fun zs=>by rw [List.take_take,Nat.min_eq_left hk]
  rw [e xs,e ys,h]
theorem PO {xs:Λ} {m a:Nat} {acc:List PtM} {r:List PtM×Nat} (h:Fh xs m a acc=.inr r):a≤r.2:=by
  induction m generalizing a acc with
  | zero=>cases h;exact Nat.le_refl _
  | succ m ih=>
    unfold Fh at h
    split at h
    · split at h
      · cases h
      · split at h
        · cases h
        · have:=ih h;omega
    · cases h
    · cases h
theorem PP {xs ys:Λ} {n m a:Nat} {acc:List PtM} {r:List PtM×Nat} (h:xs.take n=ys.take n) (hx:n≤xs.length) (hy:n≤ys.length) (hr:Fh xs m a acc=.inr r) (hn:r.2≤n):Fh ys m a acc=.inr r:=by
  induction m generalizing a acc with
  | zero=>exact hr
  | succ m ih=>
    unfold Fh at hr ⊢
    split at hr
    · next x k g1 g2=>
      split at hr
      · cases hr
      · next q1=>
        split at hr
        · cases hr
        · next q2=>
          have ha:=PO hr
          have e1:=Gr (a:=a) (k:=4) h hx hy ω (.inr rfl)
          have e2:=Gr (a:=a+4) (k:=2) h hx hy ω (.inl rfl)
          change AC ys (a:Int) 4=AC xs (a:Int) 4 at e1
          change AC ys ((a+4:Nat):Int) 2=AC xs ((a+4:Nat):Int) 2 at e2
          rw [e1,e2,g1,g2]
          dsimp only
          rw [if_neg q1,if_neg ω,QU h ω]
          exact ih hr
    · cases hr
    · cases hr
theorem RG {xs ys:Λ} {L:List PtM} {n:Nat} (hd:IT xs=(L,(n:Int),0)) (h:xs.take n=ys.take n) (hx:n≤xs.length) (hy:n≤ys.length):IT ys=(L,(n:Int),0):=by
  unfold IT at hd ⊢
  cases g0:AC xs 0 2 with
  | none=>rw [g0] at hd;cases hd
  | some m=>
    rw [g0] at hd
    dsimp only at hd
    split at hd
    · cases hd
    · next q0=>
      cases hg:Fh xs m 2 [] with
      | inl e=>
        rw [hg] at hd
        change (([]:List PtM),(0:Int),e)=_ at hd
        have e0:e=0:=congrArg (fun x=>x.2.2) hd
        exfalso
        have:=Ks xs m 2 []
        rw [hg] at this
        rcases this with ⟨e2,_⟩ | ⟨e3,_⟩<;>omega
      | inr r=>
        rw [hg] at hd
        change GV xs r.1 r.2=_ at hd
        have hat:=PO hg
        have hd2:=hd
        unfold GV at hd2
        cases g1:AC xs (r.2:Int) 4 with
        | none=>rw [g1] at hd2;cases hd2
        | some s=>
          rw [g1] at hd2
          dsimp only at hd2
          split at hd2
          · cases hd2
          · next q1=>
            split at hd2
            · cases hd2
            · next q2=>
              split at hd2
              · next q3=>
                have hn:r.2+4+Bl (r.2+4)=n:=by
                  have:((r.2+4+Bl (r.2+4):Nat):Int)=(n:Int):=congrArg (fun x=>x.2.1) hd2
                  omega
                have hL:r.1=L:=congrArg (fun x=>x.1) hd2
                have e0:=Gr (a:=0) (k:=2) h hx hy ω (.inl rfl)
                change AC ys 0 2=AC xs 0 2 at e0
                have e1:=Gr (a:=r.2) (k:=4) h hx hy ω (.inr rfl)
                change AC ys (r.2:Int) 4=AC xs (r.2:Int) 4 at e1
                rw [e0,g0]
                dsimp only
                rw [if_neg q0,PP h hx hy hg ω]
                show GV ys r.1 r.2=_
                unfold GV
                rw [e1,g1]
                dsimp only
                rw [Tk h ω,if_neg q1,if_neg ω,QU h ω,if_pos q3,hn,hL]
              · cases hd2
end
section
theorem Qm (k n:Nat) (h:n<256 ^ k):BL (le k n)=n:=by
  induction k generalizing n with
  | zero=>simp [le,BL] at *;omega
  | succ k ih=>
    have h2:n / 256<256 ^ k:=by
      rw [Nat.div_lt_iff_lt_mul ω];rwa [Nat.pow_succ] at h
    simp [le,BL,ih _ h2]
    omega
theorem Tc {A B C:Λ} {a k:Nat} (ha:A.length=a) (hk:B.length=k):((A++(B++C)).drop a).take k=B:=by
  subst ha hk
  rw [List.drop_left,List.take_left]
theorem Hy {A C:Λ} {a k v:Nat} (ha:A.length=a) (hk:k=2∨k=4) (hv:v<256 ^ k):AC (A++(le k v++C)) (a:Int) (k:Int)=some v:=by
  rw [Er (by rw [List.length_append,List.length_append,Ay];omega) hk,Tc ha (Ay k v),Qm k v hv]
def CU (p:PtM):Λ:=le 4 p.at_.toNat++(le 2 p.d.length++p.d)
theorem Qn {p:PtM} (h:Gw p=true):0≤p.at_∧p.at_<4294967296∧Bp p.at_ 4=true∧p.d.length≤256:=by
  unfold Gw at h
  rw [Bool.and_eq_true,decide_eq_true_iff] at h
  obtain ⟨h1,h2⟩:=h
  have h3:=h1
  unfold Bp at h3
  have h0:=(GY h1).1
  refine ⟨h0,?_,h1,h2⟩
  simp at h3
  omega
theorem Xh {p:PtM} (h:Gw p=true) (b:Λ):EO b p=b++CU p:=by
  obtain ⟨h0,h1,h2,h3⟩:=Qn h
  have f2:Bp (p.d.length:Int) 2=true:=by unfold Bp;simp;omega
  unfold EO CU
  rw [show Ar b p.at_ 4=b++le 4 p.at_.toNat from if_pos h2]
  rw [show Ar (b++le 4 p.at_.toNat) (p.d.length:Int) 2=b++le 4 p.at_.toNat++le 2 p.d.length from if_pos f2]
  simp only [List.append_assoc]
theorem RI (L:List PtM) (b:Λ) (h:L.all Gw=true):L.foldl EO b=b++L.flatMap CU:=by
  induction L generalizing b with
  | nil=>simp
  | cons p L ih=>
    rw [List.all_cons,Bool.and_eq_true] at h
    rw [List.foldl_cons,ih _ h.2,Xh h.1,List.flatMap_cons,List.append_assoc]
theorem TH {L:List PtM} (h:CG L=true):DG L=le 2 L.length++L.flatMap CU:=by
  unfold CG at h
  rw [Bool.and_eq_true,decide_eq_true_iff] at h
  have f2:Bp (L.length:Int) 2=true:=by unfold Bp;simp;omega
  unfold DG
  rw [RI L _ h.2,show Ar [] (L.length:Int) 2=[]++le 2 L.length from if_pos f2,List.nil_append]
theorem JM (p:PtM):(CU p).length=6+p.d.length:=by unfold CU;rw [List.length_append,List.length_append,Ay,Ay];omega
theorem Vj (L:List PtM) (A Z:Λ) (acc:List PtM) (h:L.all Gw=true):Fh (A++(L.flatMap CU++Z)) L.length A.length acc=.inr (acc++L,A.length+(L.flatMap CU).length):=by
  induction L generalizing A acc with
  | nil=>simp [Fh]
  | cons p L ih=>
    rw [List.all_cons,Bool.and_eq_true] at h
    obtain ⟨h0,h1,h2,h3⟩:=Qn h.1
    have e:A++((p::L).flatMap CU++Z)=A++(le 4 p.at_.toNat++(le 2 p.d.length++(p.d++(L.flatMap CU++Z)))):=by
      rw [List.flatMap_cons];unfold CU;simp only [List.append_assoc]
    have g1:AC (A++((p::L).flatMap CU++Z)) (A.length:Int) 4=some p.at_.toNat:=by
      rw [e];exact Hy rfl (.inr rfl) ω
    have g2:AC (A++((p::L).flatMap CU++Z)) ((A.length+4:Nat):Int) 2=some p.d.length:=by
      rw [e,← List.append_assoc]
      exact Hy (by rw [List.length_append,Ay]) (.inl rfl) ω
    have g3:((A++((p::L).flatMap CU++Z)).drop (A.length+6)).take p.d.length=p.d:=by
      rw [e,← List.append_assoc,← List.append_assoc]
      exact Tc (by rw [List.length_append,List.length_append,Ay,Ay]) rfl
    have hl:¬ (A++((p::L).flatMap CU++Z)).length<A.length+6+p.d.length:=by
      rw [List.length_append,List.flatMap_cons,List.length_append,List.length_append,JM];omega
    rw [List.length_cons]
    unfold Fh
    rw [g1,g2]
    dsimp only
    rw [if_neg ω,if_neg hl,g3]
    have hp:(⟨((p.at_.toNat:Nat):Int),p.d⟩:PtM)=p:=by
      cases p with | mk x d=>simp only [PtM.mk.injEq,and_true];exact Int.toNat_of_nonneg h0
    rw [hp]
    have h5:=ih (A++CU p) (acc++[p]) h.2
    rw [show (A++CU p).length=A.length+6+p.d.length by rw [List.length_append,JM];omega] at h5
    rw [show A++((p::L).flatMap CU++Z)=A++CU p++(L.flatMap CU++Z) by rw [List.flatMap_cons];simp only [List.append_assoc],h5,List.flatMap_cons,List.length_append,JM]
    rw [List.append_assoc,List.singleton_append]
    congr 2
    omega
theorem YA (l:Λ):Ar l (Cb l:Nat) 4=l++le 4 (Cb l):=by
  have:=DM l
  have f:Bp (Cb l:Int) 4=true:=by unfold Bp;simp;omega
  exact if_pos f
theorem TJ {L:List PtM} (h:CG L=true):BP L=DG L++(le 4 (Cb (DG L))++List.replicate (Bl ((DG L).length+4)) 0):=by
  unfold BP
  rw [if_pos h]
  unfold Up MA
  rw [YA,List.length_append,Ay,List.append_assoc]
theorem Np {L:List PtM} (h:CG L=true):(BP L).length=(DG L).length+4+Bl ((DG L).length+4):=by
  rw [TJ h,List.length_append,List.length_append,Ay,List.length_replicate];omega
theorem Xc {L:List PtM} (h:CG L=true) (rest:Λ):IT (BP L++rest)=(L,((BP L).length:Int),0):=by
  have h':=h
  unfold CG at h'
  rw [Bool.and_eq_true,decide_eq_true_iff] at h'
  obtain ⟨Z,hZ⟩:∃ Z,Z=le 4 (Cb (DG L))++(List.replicate (Bl ((DG L).length+4)) 0++rest):=⟨_,rfl⟩
  have e:BP L++rest=DG L++Z:=by rw [TJ h,hZ];simp only [List.append_assoc]
  have e2:BP L++rest=[]++(le 2 L.length++(L.flatMap CU++Z)):=by rw [e,TH h,List.nil_append,List.append_assoc]
  have e3:BP L++rest=le 2 L.length++(L.flatMap CU++Z):=e2
  have g0:AC (BP L++rest) 0 2=some L.length:=by
    rw [e2];exact Hy (a:=0) rfl (.inl rfl) ω
  have hB:(DG L).length=2+(L.flatMap CU).length:=by rw [TH h,List.length_append,Ay]
  have g1:=Vj L (le 2 L.length) Z [] h'.2
  rw [Ay,← e3,← hB,List.nil_append] at g1
  have gs:AC (BP L++rest) ((DG L).length:Int) 4=some (Cb (DG L)):=by
    rw [e,hZ];exact Hy rfl (.inr rfl) (by have:=DM (DG L);omega)
  have gt:(BP L++rest).take (DG L).length=DG L:=by rw [e,List.take_left]
  have gp:((BP L++rest).drop ((DG L).length+4)).take (Bl ((DG L).length+4))=List.replicate (Bl ((DG L).length+4)) 0:=by
    rw [e,hZ,← List.append_assoc]
    exact Tc (by rw [List.length_append,Ay]) List.length_replicate
  unfold IT
  rw [g0]
  dsimp only
  rw [if_neg ω,g1]
  show GV _ L (DG L).length=_
  unfold GV
  rw [gs]
  dsimp only
  rw [gt,if_neg (fun q=>q rfl),if_neg (by rw [List.length_append,Np h];omega),gp,if_pos (fun x hx=>List.eq_of_mem_replicate hx),Np h]
theorem WZ {L:List PtM} (h:CG L=true) (rest:Λ):Cd (BP L++rest)=(L,((BP L).length:Int),0):=by rw [Hv,Xc h]
end
section
theorem Tt {P:Program} {w:World} {B:Nat} {t u ty e:TypeId} {i:TypeInfo} (ht:P.underlying t=some (.slice e)) (hu:P.underlying u=some .string) (hi:P.info? e=some i) (hz:i.zero=some (.int .u8 0)) (hsize:i.size=1) (hby:i.bytes=1)
    {a1:Ω} {n c0:Nat} {xs:List Value} (hown:Own w B e 1 a1 n c0 xs) {s:ByteArray} (hbytes:n+s.size≤140737488355328) {b:Ω} {n' c':Nat} {w':World} (hr:(Builtin.append_ #[t,u] ty #[.slice a1 n c0,.string s]).run P w=.ok (.slice b n' c') w') :
    ∀ k,(Value.slice b n' c').ownBlock=some k→(Value.slice a1 n c0).ownBlock=some k∨w.heap.size≤k:=by
  have hxl:xs.length=n:=by simpa using hown.1
  rcases hown.2 with ⟨hv,hn⟩ | ⟨g,cap,cur,hv,hbg,hg,hnc,hcm,hcs,htake⟩
  · cases hv
    by_cases hm:s.size=0
    · have hf:=Lib.run_firstCells_string (P:=P) w 1 s
      rw [hm] at hf
      have q:(Builtin.append_ #[t,u] ty #[.slice none 0 0,.string s]).run P w=.ok (.slice none 0 0) w:=by
        simp [Builtin.append_,run_underlying ht,run_underlying hu,sizeOf,typeInfo,hi,hsize,Builtin.lenOf,hm,hf]
      rw [q] at hr
      cases hr
      intro k hk;cases hk
    · have q:=run_append_nil_string (P:=P) w t u ty e i (.int .u8 0) ht hu hi hz s ω ω (by rw [hby];omega)
      rw [q] at hr
      cases hr
      intro k hk;cases hk;exact .inr (Nat.le_refl _)
  · cases hv
    by_cases hroom:n+s.size≤c0
    · have hcs':cur.size=c0:=by simpa using hcs
      have q:=Lib.run_append_room_string (P:=P) w t u ty e i ht hu hi hsize g n c0 cur hg s hroom ω
      rw [q] at hr
      cases hr
      intro k hk;exact .inl hk
    · have holds:∀ j u,xs[j]? = some u→w.cell? ((⟨g,0,none⟩:Addr).add j)=some u:=World.ownsRow.cells hown (g:=g) rfl
      have q:=Lib.run_append_grow_string (P:=P) w t u ty e i (.int .u8 0) ht hu hi hz ⟨g,0,none⟩ n c0 xs (by rw [hsize];simpa using hxl) holds s ω ω (by rw [hby];exact growslice_fits ω ω)
      rw [q] at hr
      cases hr
      intro k hk;cases hk;exact .inr (Nat.le_refl _)
section
variable {P:Program} {Q:Exit→Act→World→Prop} {o:Oper} {a:Act} {w w':World} {N:Nat} {l:List (Nat×Value)} {K:Act→World→Prop} {cs:List Ch}
theorem Agb (h:Kn N l a) {d:Nat} (hd:o.dst=some d) (hdN:decide (d<N)=true) (hf:l.all (fun x=>!(x.1 == d))=true) {s x:Operand} {t u e:TypeId}
    (ho:o.op=.call { callee:=.builtin .append,args:=#[s,x],argTypes:=#[t,u] }) (under:P.underlying t=some (.slice e)) (hu:P.underlying u=some .string) (hinfo:(P.info? e).map (fun i=>(i.zero,i.size,i.bytes))=some (some (.int .u8 0),1,1)) (hS:Sep w cs) (i:Nat) {B:Nat}
    {a1:Ω} {c:Nat} {xs ys:Λ} (hi:cs[i]? = some (AG B e 1 a1 xs.length c (xs.map Ad))) (hs:opv l s=some (.slice a1 xs.length c)) (hx:opv l x=some (σ ys))
    (hbytes:xs.length+ys.length≤140737488355328)
    (k:∀ a' b' c' w',Kn N ((d,.slice b' (xs++ys).length c')::l) a'→Sep w' (cs.set i (AG 0 e 1 b' (xs++ys).length c' ((xs++ys).map Ad)))→K a' w'):Oper.wp P o a w K Q:=by
  have hown:Own w 0 e 1 a1 xs.length c (xs.map Ad):=Own.low (hS.get i hi:Own w B e 1 a1 xs.length c _) (Nat.zero_le _)
  obtain ⟨ti,hi',hz,hsz,hby⟩:=info_parts hinfo
  have hsb:(Ai ys).size=ys.length:=by simp [Ai,ByteArray.size]
  obtain ⟨v',w',hr,h2,h3,_⟩:=Lib.run_append_own_string (P:=P) w 0 t u o.type e ti under hu hi' hz hsz hby (.slice a1 xs.length c) xs.length (xs.map Ad) hown (Ai ys) (by rw [hsb];unfold maxLen;omega) (by rw [hsb];exact hbytes) (Nat.zero_le _)
  obtain ⟨b',c',rfl,h5⟩:=CX h2
  have hw:=Tt (P:=P) under hu hi' hz hsz hby hown (by rw [hsb];exact hbytes) hr
  have e1:xs.map Ad++Lib.strCells (Ai ys)=(xs++ys).map Ad:=by rw [List.map_append];rfl
  rw [hsb,← List.length_append] at h5
  rw [e1] at h5
  rw [hsb,← List.length_append] at hr hw
  refine Ne (v:=.slice b' (xs++ys).length c') (w':=w') h hd hdN hf ?_ fun a' h'=>k a' b' c' w' h' (hS.upd i hi (Turns.of_row h3) (fun k _ e=>e) (c':=AG 0 e 1 b' (xs++ys).length c' ((xs++ys).map Ad)) h5 hw)
  unfold execOp
  simp only [ho,resolve,invoke,builtin,Sem.run_bind,Sem.run_pure,Result.andThen_ok,List.map_toArray,List.map_cons,List.map_nil,h.op hs,h.op hx,hr]
end
theorem Tu {P:Program} {w:World} {B:Nat} {t tn ty e:TypeId} {i:TypeInfo} {z:Value} {kq kn:IntKind} (ht:P.underlying t=some (.slice e)) (htn:P.underlying tn=some (.int kn)) (hi:P.info? e=some i) (hz:i.zero=some z) (hs1:i.size=1) (hzc:z.cells=#[z]) (hz1:z.oneCell'=true)
    {a1:Ω} {n c0 k:Nat} {xs:List Value} (hown:Own w B e 1 a1 n c0 xs) (h63:n+k≤9223372036854775807) (hbytes:(n+k)*i.bytes≤140737488355328) {b:Ω} {n' c':Nat} {w':World} (hr:(Builtin.append_ #[t,tn] ty #[.slice a1 n c0,.int kq k]).run P w=.ok (.slice b n' c') w') :
    ∀ q,(Value.slice b n' c').ownBlock=some q→(Value.slice a1 n c0).ownBlock=some q∨w.heap.size≤q:=by
  have hxl:xs.length=n:=by simpa using hown.1
  have hk48:k*i.bytes≤281474976710656:=by
    have:k*i.bytes≤(n+k)*i.bytes:=Nat.mul_le_mul_right _ ω
    omega
  rcases hown.2 with ⟨hv,hn⟩ | ⟨g,cap,cur,hv,hbg,hg,hnc,hcm,hcs,htake⟩
  · cases hv
    by_cases hk:k=0
    · subst hk
      have q:(Builtin.append_ #[t,tn] ty #[.slice none 0 0,.int kq (0:Nat)]).run P w=.ok (.slice none 0 0) w:=by
        simp [Builtin.append_,run_underlying ht,run_underlying htn,sizeOf,typeInfo,zeroValue,hi,hz,hs1,asInt,asIntOf,IntKind.wrap_i64]
      rw [q] at hr
      cases hr
      intro k hk;cases hk
    · have q:=Lib.run_append_nil_zeros (P:=P) w t tn ty e i z kq kn ht htn hi hz k ω ω ω hk48
      rw [q] at hr
      cases hr
      intro k hk;cases hk;exact .inr (Nat.le_refl _)
  · cases hv
    by_cases hroom:n+k≤c0
    · have hcs':cur.size=c0:=by simpa using hcs
      have q:=Ee (P:=P) w t tn ty e i z kq kn ht htn hi hz hs1 hzc hz1 g n c0 cur hg k hroom ω ω hk48
      rw [q] at hr
      cases hr
      intro k hk;exact .inl hk
    · have holds:∀ j u,xs[j]? = some u→w.cell? ((⟨g,0,none⟩:Addr).add j)=some u:=World.ownsRow.cells hown (g:=g) rfl
      have hf:=run_firstCells_some (P:=P) w.drew i.size n ⟨g,0,none⟩ n c0 xs (by rw [hs1];omega) (fun j u hu=>holds j u hu)
      have q:=Lib.run_append_grow_zeros (P:=P) w t tn ty e i z kq kn ht htn hi hz (some ⟨g,0,none⟩) n c0 xs hf k ω ω ω ω hk48 (growslice_fits ω hbytes)
      rw [q] at hr
      cases hr
      intro k hk;cases hk;exact .inr (Nat.le_refl _)
section
variable {P:Program} {Q:Exit→Act→World→Prop} {o:Oper} {a:Act} {w w':World} {N:Nat} {l:List (Nat×Value)} {K:Act→World→Prop} {cs:List Ch}
theorem Agc (h:Kn N l a) {d:Nat} (hd:o.dst=some d) (hdN:decide (d<N)=true) (hf:l.all (fun x=>!(x.1 == d))=true) {s x:Operand} {t tn e:TypeId} {kn:IntKind}
    (ho:o.op=.call { callee:=.builtin .append,args:=#[s,x],argTypes:=#[t,tn] }) (under:P.underlying t=some (.slice e)) (htn:P.underlying tn=some (.int kn)) (hinfo:(P.info? e).map (fun i=>(i.zero,i.size,i.bytes))=some (some (.int .u8 0),1,1)) (hS:Sep w cs) (i:Nat) {B:Nat}
    {a1:Ω} {c m:Nat} {xs:Λ} {n:Int} (hi:cs[i]? = some (AG B e 1 a1 xs.length c (xs.map Ad))) (hs:opv l s=some (.slice a1 xs.length c)) (hx:opv l x=some (ν n)) (hn:n=(m:Int))
    (hbytes:xs.length+m≤140737488355328)
    (k:∀ a' b' c' w',Kn N ((d,.slice b' (xs++List.replicate m 0).length c')::l) a'→Sep w' (cs.set i (AG 0 e 1 b' (xs++List.replicate m 0).length c' ((xs++List.replicate m 0).map Ad)))→K a' w'):Oper.wp P o a w K Q:=by
  subst hn
  have hown:Own w 0 e 1 a1 xs.length c (xs.map Ad):=Own.low (hS.get i hi:Own w B e 1 a1 xs.length c _) (Nat.zero_le _)
  obtain ⟨ti,hi',hz,hsz,hby⟩:=info_parts hinfo
  obtain ⟨v',w',hr,h2,h3⟩:=EA (P:=P) w 0 t tn o.type e ti (.int .u8 0) .i64 kn under htn hi' hz hsz rfl rfl (.slice a1 xs.length c) xs.length (xs.map Ad) hown m ω (by rw [hby];omega) (Nat.zero_le _)
  obtain ⟨b',c',rfl,h5⟩:=CX h2
  have hw:=Tu (P:=P) under htn hi' hz hsz rfl rfl hown ω (by rw [hby];omega) hr
  have e1:xs.map Ad++List.replicate m (Value.int .u8 0)=(xs++List.replicate m 0).map Ad:=by rw [List.map_append,List.map_replicate];rfl
  have e2:xs.length+m=(xs++List.replicate m (0:UInt8)).length:=by rw [List.length_append,List.length_replicate]
  rw [e1,e2] at h5
  rw [e2] at hr hw
  refine Ne (v:=.slice b' (xs++List.replicate m (0:UInt8)).length c') (w':=w') h hd hdN hf ?_ fun a' h'=>k a' b' c' w' h' (hS.upd i hi (Turns.of_row h3) (fun k _ e=>e) (c':=AG 0 e 1 b' (xs++List.replicate m (0:UInt8)).length c' ((xs++List.replicate m (0:UInt8)).map Ad)) h5 hw)
  unfold execOp
  simp only [ho,resolve,invoke,builtin,Sem.run_bind,Sem.run_pure,Result.andThen_ok,List.map_toArray,List.map_cons,List.map_nil,h.op hs,h.op hx,hr]
end
theorem MC {w:World} {R:List Ch} {f:FuncId} {args:Array Value} {x:Value} (hS:Sep w R) (h:Calls prog f args w fun e w'=>e=.returned x∧w=w'):CallsR prog f args w (fun v w'=>v=x∧Sep w' R):=
  Calls.mono h fun e w' ⟨e1,b⟩=>⟨x,e1,rfl,b ▸ hS⟩
theorem Um {w:World} {R:List Ch} {a:Ω} {c:Nat} {xs:Λ} {n k:Int} (hS:Sep w R) (ha:RowB w a c xs) (hl:xs.length≤70368744177664) (hn:n≤9223372036854775807) :
    CallsR prog 84 #[.slice a xs.length c,ν n,ν k] w (fun v w'=>∃ a' c',v=.slice a' (Ar xs n k).length c'∧Sep w' (AG 0 5 1 a' (Ar xs n k).length c' ((Ar xs n k).map Ad)::R)):=
  Calls.mono (DU a c xs n k w ha hl hn) fun e w' ⟨a',c',e1,o,b⟩=>⟨_,e1,a',c',rfl,hS.push b (c:=AG 0 5 1 a' _ c' _) (Own.low o (Nat.zero_le _)) fun k hk=>(World.ownsRow.lt o k hk).1⟩
theorem Ad5 {P:Program} {N:Nat} {l:List (Nat×Value)} {a:Act} (h:Kn N l a) {o:Oper} {T T':TypeId} {x:Operand} (ho:o.op=.convert T T' x) {v u:Value} (hx:opv l x=some v) (hc:∀ w,(convert T T' v).run P w=.ok u w) (w:World):(execOp a.eval o).run P w=.ok (.value u) w:=by
  unfold execOp;rw [ho];simp only [h.op hx];exact Af (hc w)
theorem Yt {w w0:World} {B:Nat} {e:TypeId} {sz n c:Nat} {a:Ω} {xs:List Value} {R:List Ch} (h:Sep w (AG 0 e sz a n c xs::Dh w0 B::R)):Own w B e sz a n c xs:=by
  have o:Own w 0 e sz a n c xs:=h.get 0 rfl
  refine ⟨o.1,?_⟩
  rcases o.2 with q | ⟨g,cap,cur,hv,hbg,z⟩
  · exact .inl q
  · refine .inr ⟨g,cap,cur,hv,?_,z⟩
    refine Nat.le_of_not_lt fun q=>?_
    exact h.ap 0 1 _ _ (by decide) rfl rfl g (by show (Value.slice a n c).ownBlock=some g;rw [hv];rfl) q
end
section
def ptZ:PtM:=⟨0,[]⟩
theorem Ae0 {L:List PtM} {k:Nat} {B b0:Λ} (h:B=(L.take k).foldl EO b0) (hk:k<L.length):Ar (Ar B (L.getD k ptZ).at_ 4) ((L.getD k ptZ).d.length:Nat) 2++(L.getD k ptZ).d=(L.take (k+1)).foldl EO b0:=by
 rw [List.take_add_one,List.getElem?_eq_getElem hk,List.foldl_append,← h,List.getD_eq_getElem?_getD,List.getElem?_eq_getElem hk];rfl
theorem Ag4 {L:List PtM} {k:Nat} (h:(L.take k).all Gw=true) (hk:k<L.length) (e:Gw (L.getD k ptZ)=true):(L.take (k+1)).all Gw=true:=by
 rw [List.take_add_one,List.getElem?_eq_getElem hk,List.all_append,h]
 rw [List.getD_eq_getElem?_getD,List.getElem?_eq_getElem hk] at e
 simpa using e
theorem Adz {p:PtM} (h:Bp p.at_ 4=true∧¬ (p.d.length:Int)>256):Gw p=true:=by unfold Gw;rw [h.1,decide_eq_true ω];rfl
theorem Ady {p:PtM} (h:Bp p.at_ 4=false∨(p.d.length:Int)>256):Gw p=false:=by
 unfold Gw
 rcases h with h | h
 ·rw [h];rfl
 ·rw [decide_eq_false ω,Bool.and_false]
theorem TK {L:List PtM} (h:64<L.length∨∃ k,k<L.length∧Gw (L.getD k ptZ)=false):CG L=false:=by
 unfold CG
 rcases h with h | ⟨k,hk,h⟩
 ·rw [decide_eq_false ω];rfl
 ·rw [Bool.and_eq_false_iff]
  refine .inr (Bool.eq_false_iff.2 fun q=>?_)
  have:=List.all_eq_true.1 q _ (List.getElem_mem hk)
  rw [List.getD_eq_getElem?_getD,List.getElem?_eq_getElem hk] at h
  exact absurd (this.symm.trans h) (by decide)
theorem Xi {L:List PtM} {k:Nat} (h1:L.length≤64) (hk:L.length≤k) (h:(L.take k).all Gw=true):CG L=true:=by
 rw [List.take_of_length_le hk] at h
 unfold CG;rw [h,decide_eq_true h1];rfl
theorem FX {L:List PtM} (h:CG L=false):BP L=[]∧FW L=1:=by unfold BP FW;rw [h];exact ⟨rfl,rfl⟩
theorem JL {L:List PtM} {B:Λ} (h:CG L=true) (hB:B=L.foldl EO (Ar [] (L.length:Int) 2)):BP L=Ar B (Cb B:Int) 4++List.replicate (Bl (Ar B (Cb B:Int) 4).length) (0:UInt8)∧FW L=0:=by
 unfold BP FW;rw [h,hB];exact ⟨rfl,rfl⟩
theorem Xj {W w:World} {R:List Ch} {la:Ω} {lc:Nat} {L:List PtM} (hS0:Sep w ([Dh W W.heap.size]++R)) (rb:ExtA W la L.length lc 2 (fun k=>ptC (L.getD k ptZ))) (okP:∀ k,k<L.length→-9223372036854775808≤(L.getD k ptZ).at_∧(L.getD k ptZ).at_≤9223372036854775807) (hl9:L.length≤9223372036854775807) :
  CallsR prog 89 #[.slice la L.length lc] w (fun v w'=>∃ ba bc,v=.tuple #[.slice ba (BP L).length bc,ν (FW L)]∧Sep w' ([AG 0 5 1 ba (BP L).length bc ((BP L).map Ad),Dh W W.heap.size]++R)):=by
 have hS:Sep w [Dh W W.heap.size,Ch.many R]:=Sep.tail_many (xs:=[_]) hS0;clear hS0
 obtain ⟨bl,ol,hl⟩:=rb.at
 refine AB func89 rfl (N:=53) ntmps89 (by show 1≤53;decide) [(0,.slice la L.length lc)] rfl fun _ h1=>sqr fun _ hK3=>mvs 2 h1 rfl fun _ h6=>wpList_nil<|hK3 _ _<|sq fun _ hK8=>sqr fun _ hK9=>mv h6 rfl fun _ h2=>sv1 h2 rfl (v:=ν (L.length:Int)) (Jt h2 rfl rfl υ89) fun _ h3=>bv h3 (z:=.bool (decide ((L.length:Int)>64))) rfl (cGt _ _ _ _ rfl) fun _ h4=>h4.sn [9,3,2,0] rfl fun h5=>hK9 _ _ ?_
 rcases bC (decide ((L.length:Int)>64)) with hc1 | hc1
 ·skip
  have hp1:(L.length:Int)>64:=(dT hc1)
  refine wcT h5 rfl hc1<|h5.sk [3,2,0] rfl fun h7=>sqr fun _ hK1=>h7.sk [3,0] rfl fun h8=>mv h8 rfl fun _ h9=>h9.sk [2,0] rfl fun h10=>mv h10 rfl fun _ h11=>wpList_nil<|hK1 _ _<|wp_ret ?_
  try simp only [Exit.then,Exit.inBlock]
  refine AW (v:=.tuple #[.slice none 0 0,ν 1]) (DK h11 rfl rfl rfl) h11.defs ?_
  have s1:=Sep.ownNil hS 0 5 1
  have hbad:=TK (L:=L) (.inl ω)
  exact ⟨none,0,by rw [(FX hbad).1,(FX hbad).2];rfl,by rw [(FX hbad).1];exact Sep.tail_un (xs:=[_,_]) s1⟩
 ·skip
  have hp2:¬ ((L.length:Int)>64):=(dF hc1)
  refine wcF h5 rfl hc1<|h5.sk [3,2,0] rfl fun h12=>wp_skip<|hK8 _ _<|sqr fun _ hK2=>mv h12 rfl fun _ h13=>sv1 h13 rfl (v:=ν (L.length:Int)) (Jt h13 rfl rfl υ89) fun _ h14=>?_
  have hpl35:(Ar [] (L.length:Int) 2).length≤2:=BK [] (L.length:Int) 2
  refine cl h14 rfl (cF func84) (Um (xs:=[]) hS (Row.nil _ _) (by (try simp only [List.length_nil]);omega) ω) fun _ v1 w1 r1 h15=>?_
  obtain ⟨pa_x36,pc_x37,rfl,s2⟩:=r1
  refine mv h15 rfl fun _ h16=>h16.sn [4,3,2,0] rfl fun h17=>hK2 _ _<|sq fun _ hK4=>sqr fun _ hK5=>mv h17 rfl fun _ h18=>sv1 h18 rfl (v:=ν (L.length:Int)) (Jt h18 rfl rfl υ89) fun _ h19=>mv h19 rfl fun _ h20=>wpList_nil<|hK5 _ _<|wp_block ?_
  refine JB (fun (k:Nat) (qa:Ω) (qc:Nat) (B:Λ) a' w'=>Kn 53 [(15,ν (k:Int)),(14,ν (L.length:Int)),(13,.slice la L.length lc),(4,.slice qa B.length qc),(3,ν 0),(2,.slice none 0 0),(0,.slice la L.length lc)] a'∧Sep w' [AG 0 5 1 qa (B).length qc ((B).map Ad),Dh W W.heap.size,Ch.many R]∧(k≤L.length)∧(B=(L.take k).foldl EO (Ar [] (L.length:Int) 2))∧((L.take k).all Gw=true)∧(B.length≤100+262*k)) (fun (k:Nat) (qa:Ω) (qc:Nat) (B:Λ)=>L.length-k) 0 pa_x36 pc_x37 (Ar [] (L.length:Int) 2) ⟨h20.subs rfl,s2,Nat.zero_le _,(by rw [List.take_zero,List.foldl_nil]),rfl,ω⟩ ?_
  rintro k1 qa66 qc67 B68 a1 w2 ⟨h21,s3,hk61,hB62,hok63,hlb64⟩ K1 hK6
  refine sqr fun _ hK7=>bv h21 (z:=.bool (decide ((k1:Int)<(L.length:Int)))) rfl (cLt _ _ _ _ rfl) fun _ h22=>wpList_nil<|hK7 _ _<|sq fun _ hK10=>?_
  rcases bC (decide ((k1:Int)<(L.length:Int))) with hc2 | hc2
  ·skip
   have hp3:(k1:Int)<(L.length:Int):=(dT hc2)
   refine wcT h22 rfl hc2<|h22.sk [15,14,13,4,3,2,0] rfl fun h23=>wp_skip<|hK10 _ _<|sq fun _ hK11=>wp_block ?_
   refine sqr fun _ hK12=>sv1 h23 rfl (v:=.pointer (some ⟨bl,ol+k1*2,none⟩)) (Eo h23 rfl rfl rfl (fun w=>ixO υ89 κ (sz:=2) (hl ω).1 (j:=k1) rfl ω rfl w)) fun _ h24=>sw1 h24 rfl (v:=.agg #[ν ((L.getD k1 ptZ).at_),σ ((L.getD k1 ptZ).d)]) (rld h24 rfl rfl (ldX (sz:=2) (n:=L.length) (f:=(fun k=>ptC (L.getD k ptZ))) υ141 rfl κ (fun _=>rfl) (hl ω).2 (Nat.le_refl _) (s3.get 1 rfl:Below _ _ _∧_) (j:=k1) ω rfl)) fun _ h25=>so (wn rfl) fun _ hK13=>AO h25 rfl rfl rfl rfl (z:=[ν 0,σ []]) (fun _=>rfl) s3 fun _ g1 w3 h26 s4 _ _=>hK13 _ _ ?_
   refine stA h26 s4 0 rfl rfl rfl κ rfl rfl rfl rfl fun _ w4 h27 s5 _=>h27.sn [6,15,14,13,4,3,2,0] rfl fun h28=>hK12 _ _<|sq fun _ hK14=>sq fun _ hK15=>?_
   have hop99:=okP k1 ω
   refine wp_region_lit<|fav h28 rfl (fQ 0) fun _ h29=>ldv h29 s5 0 υ3 rfl rfl rfl rfl fun _ h30=>cl h30 rfl (cF func99) (MC s5 (Fg ((L.getD k1 ptZ).at_) 4 _)) fun _ v2 w5 r2 h31=>?_
   obtain ⟨rfl,s6⟩:=r2
   refine mvs 2 h31 rfl fun _ h32=>sg h32 (wF h32 rfl rfl rfl) rfl rfl rfl (v:=.pointer (some ⟨g1,1,none⟩)) (fun hC1=>by have hq:=(Ke (Kf hC1));exact rfa h32 rfl rfl (fQ 1) _) fun _ h33=>sg h33 (wF h33 rfl rfl rfl) rfl rfl rfl (v:=σ ((L.getD k1 ptZ).d)) (fun hC2=>by have hq:=(Ke (Kf hC2));exact (rld h33 rfl (opg rfl hC2) (ldB υ9 rfl (s6.get 0 rfl:Blk _ _ _ _) rfl))) fun _ h34=>sg h34 (wF h34 rfl rfl rfl) rfl rfl rfl (v:=ν ((((L.getD k1 ptZ).d).length:Nat):Int)) (fun hC3=>by have hq:=(Ke (Kf hC3));exact Acg h34 rfl (opg rfl hC3) υ9 _) fun _ h35=>sg h35 (wF h35 rfl rfl rfl) rfl rfl rfl (v:=.bool (decide (((((L.getD k1 ptZ).d).length:Nat):Int)>256))) (fun hC4=>by have hq:=(Ke (Kf hC4));exact Co h35 rfl (opg rfl hC4) rfl (cGt _ _ _ _ rfl) _) fun _ h36=>sv1 h36 rfl (v:=.bool ((!(Bp ((L.getD k1 ptZ).at_) 4))||(decide (((((L.getD k1 ptZ).d).length:Nat):Int)>256)))) (Hm h36 rfl (E:=(!(Bp ((L.getD k1 ptZ).at_) 4))) (F:=(decide (((((L.getD k1 ptZ).d).length:Nat):Int)>256))) rfl rfl rfl (fun e=>if_pos (by rw [e];try rfl))) fun _ h37=>h37.sn [28,6,15,14,13,4,3,2,0] rfl fun h38=>hK15 _ _ ?_
   rcases bC ((!(Bp ((L.getD k1 ptZ).at_) 4))||(decide (((((L.getD k1 ptZ).d).length:Nat):Int)>256))) with hc3 | hc3
   ·skip
    have hp4:((Bp ((L.getD k1 ptZ).at_) 4)=false)∨(((((L.getD k1 ptZ).d).length:Nat):Int)>256):=((orT hc3).imp (fun q=>(Kf q)) (fun q=>(dT q)))
    refine wcT h38 rfl hc3<|h38.sk [6,15,14,13,4,3,2,0] rfl fun h39=>sqr fun _ hK16=>h39.sk [6,15,14,13,4,3,0] rfl fun h40=>mv h40 rfl fun _ h41=>h41.sk [2,6,15,14,13,4,0] rfl fun h42=>mv h42 rfl fun _ h43=>wpList_nil<|hK16 _ _<|wp_ret ?_
    try simp only [Exit.then,Exit.inBlock]
    refine AW (v:=.tuple #[.slice none 0 0,ν 1]) (DK h43 rfl rfl rfl) h43.defs ?_
    have s7:=Sep.ownNil (s6.pk [2,3] rfl) 0 5 1
    have hbad:=TK (L:=L) (.inr ⟨k1,ω,Ady hp4⟩)
    exact ⟨none,0,by rw [(FX hbad).1,(FX hbad).2];rfl,by rw [(FX hbad).1];exact Sep.tail_un (xs:=[_,_]) s7⟩
   ·skip
    have hp5:((Bp ((L.getD k1 ptZ).at_) 4)=true)∧(¬ (((((L.getD k1 ptZ).d).length:Nat):Int)>256)):=(And.intro (Ke (orF hc3).1) (dF (orF hc3).2))
    refine wcF h38 rfl hc3<|h38.sk [6,15,14,13,4,3,2,0] rfl fun h44=>wp_skip<|hK14 _ _<|sqr fun _ hK17=>mv h44 rfl fun _ h45=>fav h45 rfl (fQ 0) fun _ h46=>ldv h46 s6 0 υ3 rfl rfl rfl rfl fun _ h47=>?_
    have hpl150:(Ar B68 ((L.getD k1 ptZ).at_) 4).length≤B68.length+4:=BK B68 ((L.getD k1 ptZ).at_) 4
    refine cl h47 rfl (cF func84) (Um (xs:=B68) s6 (s6.get 1 rfl:Own _ _ _ _ _ _ _ _).row (by (try simp only [List.length_nil]);omega) ω) fun _ v3 w6 r3 h48=>?_
    obtain ⟨pa_x151,pc_x152,rfl,s8⟩:=r3
    refine h48.sk [32,31,30,29,6,15,14,13,3,2,0] rfl fun h49=>mv h49 rfl fun _ h50=>h50.sn [4,6,15,14,13,3,2,0] rfl fun h51=>hK17 _ _<|sqr fun _ hK18=>mv h51 rfl fun _ h52=>fav h52 rfl (fQ 1) fun _ h53=>ldv h53 s8 1 υ9 rfl rfl rfl rfl fun _ h54=>sv1 h54 rfl (v:=ν ((((L.getD k1 ptZ).d).length:Nat):Int)) (Acg h54 rfl rfl υ9) fun _ h55=>?_
    have hpl173:(Ar (Ar B68 ((L.getD k1 ptZ).at_) 4) ((((L.getD k1 ptZ).d).length:Nat):Int) 2).length≤(Ar B68 ((L.getD k1 ptZ).at_) 4).length+2:=BK (Ar B68 ((L.getD k1 ptZ).at_) 4) ((((L.getD k1 ptZ).d).length:Nat):Int) 2
    refine cl h55 rfl (cF func84) (Um (xs:=(Ar B68 ((L.getD k1 ptZ).at_) 4)) s8 (s8.get 0 rfl:Own _ _ _ _ _ _ _ _).row (by (try simp only [List.length_nil]);omega) ω) fun _ v4 w7 r4 h56=>?_
    obtain ⟨pa_x174,pc_x175,rfl,s9⟩:=r4
    refine h56.sk [37,36,35,34,33,6,15,14,13,3,2,0] rfl fun h57=>mv h57 rfl fun _ h58=>h58.sn [4,6,15,14,13,3,2,0] rfl fun h59=>hK18 _ _<|wp_region_lit<|mv h59 rfl fun _ h60=>fav h60 rfl (fQ 1) fun _ h61=>ldv h61 s9 2 υ9 rfl rfl rfl rfl fun _ h62=>so (wn rfl) fun _ hK19=>Agb h62 rfl rfl rfl rfl υ22 υ9 κ s9 0 rfl rfl rfl ω fun _ p193 c194 w8 h63 s10=>hK19 _ _ ?_
    have s11:Sep w8 [AG 0 5 1 p193 (((Ar (Ar B68 ((L.getD k1 ptZ).at_) 4) ((((L.getD k1 ptZ).d).length:Nat):Int) 2)++(L.getD k1 ptZ).d)).length c194 ((((Ar (Ar B68 ((L.getD k1 ptZ).at_) 4) ((((L.getD k1 ptZ).d).length:Nat):Int) 2)++(L.getD k1 ptZ).d)).map Ad),AG 0 5 1 pa_x151 ((Ar B68 ((L.getD k1 ptZ).at_) 4)).length pc_x152 (((Ar B68 ((L.getD k1 ptZ).at_) 4)).map Ad),Ab g1 141 [ν ((L.getD k1 ptZ).at_),σ ((L.getD k1 ptZ).d)],AG 0 5 1 qa66 (B68).length qc67 ((B68).map Ad),Dh W W.heap.size,Ch.many R]:=s10
    have hla201:((Ar (Ar B68 ((L.getD k1 ptZ).at_) 4) ((((L.getD k1 ptZ).d).length:Nat):Int) 2)++((L.getD k1 ptZ).d)).length=(Ar (Ar B68 ((L.getD k1 ptZ).at_) 4) ((((L.getD k1 ptZ).d).length:Nat):Int) 2).length+((L.getD k1 ptZ).d).length:=List.length_append
    refine h63.sk [41,40,39,38,6,15,14,13,3,2,0] rfl fun h64=>mv h64 rfl fun _ h65=>h65.sn [4,6,15,14,13,3,2,0] rfl fun h66=>hK11 _ _<|wp_region_lit<|bv h66 (z:=ν ((k1+1:Nat):Int)) rfl (CT _ _ _ ω ω ω) fun _ h67=>h67.sk [42,4,6,14,13,3,2,0] rfl fun h68=>mv h68 rfl fun _ h69=>h69.sk [15,4,6,14,13,3,2,0] rfl fun h70=>wpList_nil ?_
    exact hK6 (k1+1) p193 c194 ((Ar (Ar B68 ((L.getD k1 ptZ).at_) 4) ((((L.getD k1 ptZ).d).length:Nat):Int) 2)++(L.getD k1 ptZ).d) _ _ ⟨h70.subs rfl,(s11.pk [0,4,5] rfl),ω,(Ae0 hB62 ω),(Ag4 hok63 ω (Adz hp5)),ω⟩ ω
  ·skip
   have hp6:¬ ((k1:Int)<(L.length:Int)):=(dF hc2)
   refine wcF h22 rfl hc2<|h22.sk [15,14,13,4,3,2,0] rfl fun h71=>wp_exit ?_
   refine hK4 _ _ ?_
   refine sqr fun _ hK20=>mvs 2 h71 rfl fun _ h72=>?_
   have hcl219:=DM B68
   refine cl h72 rfl (cF func75) (AQ s3 (Ij _ _ B68 _ (s3.get 0 rfl:Own _ _ _ _ _ _ _ _).row)) fun _ v5 w9 r5 h73=>?_
   obtain ⟨rfl,s12⟩:=r5
   refine sv1 h73 rfl (v:=ν (Cb B68:Int)) (Ad5 h73 rfl rfl (TG _ (DM _))) fun _ h74=>?_
   have hpl229:(Ar B68 (Cb B68:Int) 4).length≤B68.length+4:=BK B68 (Cb B68:Int) 4
   refine cl h74 rfl (cF func84) (Um (xs:=B68) s12 (s12.get 0 rfl:Own _ _ _ _ _ _ _ _).row (by (try simp only [List.length_nil]);omega) ω) fun _ v6 w10 r6 h75=>?_
   obtain ⟨pa_x230,pc_x231,rfl,s13⟩:=r6
   refine h75.sk [47,46,45,44,43,15,14,13,3,2,0] rfl fun h76=>mv h76 rfl fun _ h77=>h77.sn [4,15,14,13,3,2,0] rfl fun h78=>hK20 _ _<|sqr fun _ hK21=>mvs 2 h78 rfl fun _ h79=>sv1 h79 rfl (v:=ν (((Ar B68 (Cb B68:Int) 4).length:Nat):Int)) (Jt h79 rfl rfl υ22) fun _ h80=>?_
   have hpd250:Bl ((Ar B68 (Cb B68:Int) 4).length)≤7:=by unfold Bl;omega
   refine cl h80 rfl (cF func110) (MC s13 (Hi ((Ar B68 (Cb B68:Int) 4).length) ω _)) fun _ v7 w11 r7 h81=>?_
   obtain ⟨rfl,s14⟩:=r7
   refine so (wn rfl) fun _ hK22=>Agc h81 rfl rfl rfl rfl υ22 υ3 κ s14 0 (m:=(Bl ((Ar B68 (Cb B68:Int) 4).length))) rfl rfl rfl rfl ω fun _ p258 c259 w12 h82 s15=>hK22 _ _ ?_
   have s16:Sep w12 [AG 0 5 1 p258 (((Ar B68 (Cb B68:Int) 4)++List.replicate (Bl ((Ar B68 (Cb B68:Int) 4).length)) (0:UInt8))).length c259 ((((Ar B68 (Cb B68:Int) 4)++List.replicate (Bl ((Ar B68 (Cb B68:Int) 4).length)) (0:UInt8))).map Ad),AG 0 5 1 qa66 (B68).length qc67 ((B68).map Ad),Dh W W.heap.size,Ch.many R]:=s15
   have hla266:((Ar B68 (Cb B68:Int) 4)++(List.replicate (Bl ((Ar B68 (Cb B68:Int) 4).length)) (0:UInt8))).length=(Ar B68 (Cb B68:Int) 4).length+(List.replicate (Bl ((Ar B68 (Cb B68:Int) 4).length)) (0:UInt8)).length:=List.length_append
   refine h82.sk [52,51,50,49,48,4,15,14,13,3,0] rfl fun h83=>mv h83 rfl fun _ h84=>h84.sk [2,52,51,50,49,48,4,15,14,13,0] rfl fun h85=>mv h85 rfl fun _ h86=>h86.sn [3,2,4,15,14,13,0] rfl fun h87=>hK21 _ _<|wp_ret ?_
   try simp only [Exit.then,Exit.inBlock]
   refine AW (v:=.tuple #[.slice p258 (((Ar B68 (Cb B68:Int) 4)++List.replicate (Bl ((Ar B68 (Cb B68:Int) 4).length)) (0:UInt8)).length) c259,ν 0]) (DK h87 rfl rfl rfl) h87.defs ?_
   have hgood:=Xi (L:=L) (k:=k1) ω ω hok63
   have hB9:=hB62;rw [List.take_of_length_le ω] at hB9
   exact ⟨p258,c259,by rw [(JL hgood hB9).1,(JL hgood hB9).2],by rw [(JL hgood hB9).1];exact Sep.tail_un (xs:=[_,_]) (s16.pk [0,2,3] rfl)⟩
theorem VX {w:World} {a:Ω} {c:Nat} {L:List PtM} (h:EN w a c L):ExtA w a L.length c 2 (fun k=>ptC (L.getD k ptZ)):=by
 refine ⟨h.2.1,h.2.2.1,fun hn=>?_⟩
 obtain ⟨b,off,e,hb,g⟩:=QN Ie h hn
 exact ⟨b,off,e,hb,fun i hi j v hv=>g i hi j v (by have hv:(ptC (L.getD i ptZ))[j]? = some v:=hv;rw [List.getD_eq_getElem?_getD,List.getElem?_eq_getElem hi] at hv;exact hv)⟩
theorem RJ {w:World} {a:Ω} {c:Nat} {L:List PtM} (hL:EN w a c L) (okP:Ir L) (hl9:L.length≤9223372036854775807) :
  Calls prog 89 #[.slice a L.length c] w fun e w'=>∃ ba bc,e=.returned (.tuple #[.slice ba (BP L).length bc,ν (FW L)])∧CF w' w.heap.size ba bc (BP L)∧Below w.heap.size w w':=by
 refine Calls.mono (Xj (W:=w) (Sep.start w) (VX hL) (fun k hk=>okP _ (by rw [List.getD_eq_getElem?_getD,List.getElem?_eq_getElem hk];exact List.getElem_mem hk)) hl9) fun e w' ⟨v,e1,ba,bc,e2,s⟩=>⟨ba,bc,by rw [e1,e2],Yt s,(s.get 1 rfl:Below w.heap.size w w'∧_).1⟩
end
section
def b8L (V:Λ) (at_:Nat):Λ:=(V.drop at_).take 8
structure LogOk (at_ size:Nat) (M:MemM):Prop where
  s1:128≤size
  s2:size≤65536
  a:at_+size≤M.V.length
  v:M.V.length≤1048576
theorem WI {M:MemM} {at_ size:Nat} (h:LogOk at_ size M):(b8L M.V at_).length=8:=by
  obtain ⟨s1,s2,s3,s4⟩:=h
  unfold b8L;rw [List.length_take,List.length_drop];omega
theorem Afg {w:World} {R:List Ch} {g v d p at_ size:Nat} {M:MemM} (hS:Sep w R) (h:MemP w g v d p M) (hok:LogOk at_ size M):CallsR prog 13 #[π g,ν (at_:Int),ν 8] w (fun v w'=>∃ a c,v=.tuple #[.slice a (b8L M.V at_).length c,ν 0]∧Sep w' (AG 0 5 1 a (b8L M.V at_).length c ((b8L M.V at_).map Ad)::R)):=by
  have hl:=WI hok
  obtain ⟨s1,s2,s3,s4⟩:=hok
  refine Calls.mono (Hf h at_ 8 ω ω) fun e w' z=>?_
  unfold GO at z
  rw [if_pos (by unfold inM;simp;omega),Int.toNat_natCast] at z
  obtain ⟨a,c,e1,o,b⟩:=z
  have o:CF w' w.heap.size a c (b8L M.V at_):=o
  exact ⟨_,e1,a,c,by rw [hl];rfl,hS.push b (c:=AG 0 5 1 a _ c _) (Own.low o (Nat.zero_le _)) fun k hk=>(World.ownsRow.lt o k hk).1⟩
theorem Ae5 {w:World} {R:List Ch} {a:Ω} {c:Nat} {xs:Λ} {i k:Int} (hS:Sep w R) (ha:RowB w a c xs) (hl:xs.length≤9223372036854775807):CallsR prog 74 #[.slice a xs.length c,ν i,ν k] w (fun v w'=>v=.tuple #[ν (((AC xs i k).getD 0:Nat):Int),.bool (AC xs i k).isSome]∧Sep w' R):=
  Calls.mono (DP a c xs i k w ha hl) fun e w' ⟨e1,b⟩=>⟨_,e1,by cases AC xs i k<;>rfl,b ▸ hS⟩
theorem Ac1 {V:Λ} {at_ size:Nat} (h:(AC (b8L V at_) 0 8).isSome=false∨(((AC (b8L V at_) 0 8).getD 0:Nat):Int)>((size-8:Nat):Int)) (hs:8≤size):(0:Int)=(GU V at_ size:Int):=by
  unfold GU
  have e:(V.drop at_).take 8=b8L V at_:=rfl
  rw [e]
  cases q:AC (b8L V at_) 0 8 with
  | none=>rfl
  | some n=>
    rw [q] at h
    simp at h
    dsimp only
    rw [if_neg ω];rfl
theorem Ac2 {V:Λ} {at_ size:Nat} (h:(AC (b8L V at_) 0 8).isSome=true∧¬ (((AC (b8L V at_) 0 8).getD 0:Nat):Int)>((size-8:Nat):Int)) (hs:8≤size):(((AC (b8L V at_) 0 8).getD 0:Nat):Int)=(GU V at_ size:Int):=by
  unfold GU
  have e:(V.drop at_).take 8=b8L V at_:=rfl
  rw [e]
  cases q:AC (b8L V at_) 0 8 with
  | none=>rw [q] at h;simp at h
  | some n=>
    rw [q] at h
    simp at h
    dsimp only
    rw [if_pos ω];rfl
theorem JQ (g off:Nat) (w:World):(Instr.fieldAt 137 (.pointer (some ⟨g,off,none⟩)) 0).run prog w=.ok (.pointer (some ⟨g,off+0,none⟩)) w:=rfl
theorem JR (g off:Nat) (w:World):(Instr.fieldAt 137 (.pointer (some ⟨g,off,none⟩)) 1).run prog w=.ok (.pointer (some ⟨g,off+1,none⟩)) w:=rfl
theorem Gn (args:Array Value) (w:World):(callFunc 13 args).run prog w=.ok (.enter 13 args) w:=by
  have h:=func13
  go_simp
theorem MY (args:Array Value) (w:World):(callFunc 74 args).run prog w=.ok (.enter 74 args) w:=by
  have h:=func74
  go_simp
theorem JS (g off:Nat) (w:World):(Instr.fieldAt 137 (.pointer (some ⟨g,off,none⟩)) 2).run prog w=.ok (.pointer (some ⟨g,off+2,none⟩)) w:=rfl
theorem Ae1 {W w:World} {R:List Ch} {lg g v d p at_ size:Nat} {M:MemM} (hS0:Sep w ([Dh W W.heap.size]++R)) (hg0:LogP W lg g v d p at_ size M) (hok:LogOk at_ size M) :
    CallsR prog 81 #[π lg] w (fun v w'=>v=ν (GU M.V at_ size:Int)∧Sep w' ([Dh W W.heap.size]++R)):=by
  have hS:Sep w [Dh W W.heap.size,Ch.many R]:=Sep.tail_many (xs:=[_]) hS0;clear hS0
  obtain ⟨hk1,hk2⟩:128≤size∧size≤65536:=⟨hok.s1,hok.s2⟩
  have hlg:∀ {W'},Below W.heap.size W W'→Blk W' lg 137 (Nb g at_ size):=fun b=>(hg0.mono b).l
  have hmm:∀ {W'},Below W.heap.size W W'→MemP W' g v d p M:=fun b=>(hg0.mono b).m
  refine AB func81 rfl (N:=36) ntmps81 (by show 1≤36;decide) [(0,π lg)] rfl fun a2 h1=>?_
  refine wp_seq_k fun K3 hK3=>?_
  refine wp_region_lit ?_
  refine sv h1 (wn rfl) rfl rfl rfl (v:=ν 0) (Bv h1 rfl rfl) fun a5 h4=>?_
  refine wpList_nil ?_
  refine hK3 _ _ ?_
  refine wp_seq_k fun K6 hK6=>?_
  have s8:=hS.drew
  refine wp_region_held_drew (S:=fun w'=>Sep w' [Dh W W.heap.size,Ch.many R]) κ s8 (fun hq7=>?_)
  refine tv hq7 h4 0 rfl rfl rfl rfl κ κ κ (fun _ _ _ _ h=>h) (wn rfl) (v:=π lg) (fun w1 _=>(Au h4 rfl rfl) w1) fun a10 h9=>?_
  refine tv hq7 h9 1 rfl rfl rfl rfl κ κ κ (fun _ _ _ _ h=>h) (wn rfl) (v:=π lg) (fun w1 _=>(Hl h9 rfl rfl) w1) fun a12 h11=>?_
  refine tv hq7 h11 2 rfl rfl rfl rfl κ κ κ (fun _ _ _ _ h=>h) (wn rfl) (v:=π lg) (fun w1 _=>(rfa h11 rfl rfl (fun w=>JQ lg 0 w)) w1) fun a14 h13=>?_
  refine tv hq7 h13 3 rfl rfl rfl rfl κ κ κ (fun _ _ _ _ h=>h) (wn rfl) (v:=π g) (fun w1 hSw=>(rld h13 rfl rfl (ldB υ23 rfl (hlg (hSw.get 0 rfl:Below _ _ _∧_).1) rfl))) fun a16 h15=>?_
  refine tv hq7 h15 4 rfl rfl rfl rfl κ κ κ (fun _ _ _ _ h=>h) (wn rfl) (v:=π lg) (fun w1 _=>(Au h15 rfl rfl) w1) fun a18 h17=>?_
  refine tv hq7 h17 5 rfl rfl rfl rfl κ κ κ (fun _ _ _ _ h=>h) (wn rfl) (v:=π lg) (fun w1 _=>(Hl h17 rfl rfl) w1) fun a20 h19=>?_
  refine tv hq7 h19 6 rfl rfl rfl rfl κ κ κ (fun _ _ _ _ h=>h) (wn rfl) (v:=.pointer (some ⟨lg,1,none⟩)) (fun w1 _=>(rfa h19 rfl rfl (fun w=>JR lg 0 w)) w1) fun a22 h21=>?_
  refine tv hq7 h21 7 rfl rfl rfl rfl κ κ κ (fun _ _ _ _ h=>h) (wn rfl) (v:=ν (at_:Int)) (fun w1 hSw=>(rld h21 rfl rfl (ldB υ3 rfl (hlg (hSw.get 0 rfl:Below _ _ _∧_).1) rfl))) fun a24 h23=>?_
  refine to_ 8 rfl (wn rfl) κ fun K34 hK34=>BD h23 rfl rfl rfl (xs:=[.tmp 11,.tmp 15,.const (ν 8)]) rfl Gn rfl (vs:=[π g,ν (at_:Int),ν 8]) rfl (args:=#[π g,ν (at_:Int),ν 8]) rfl (Afg (R:=[Dh W W.heap.size,Ch.many R]) (s8:Sep _ [Dh W W.heap.size,Ch.many R]) (hmm (s8.get 0 rfl:Below _ _ _∧_).1) hok) fun a29 v30 w31 r32 h28=>?_
  obtain ⟨la_x26,lc_x27,rfl,s33⟩:=r32
  refine hK34 _ _ (s33.pick [1,2] (by decide) rfl) fun hq25=>?_
  clear hK34 K34
  refine tv hq25 h28 9 rfl rfl rfl rfl κ κ κ (fun _ _ _ _ h=>h) (wn rfl) (v:=.tuple #[.slice la_x26 ((b8L M.V at_).length) lc_x27,ν 0]) (fun w1 _=>(Au h28 rfl rfl) w1) fun a36 h35=>?_
  refine tv hq25 h35 10 rfl rfl rfl rfl κ κ κ (fun _ _ _ _ h=>h) (wn rfl) (v:=.slice la_x26 ((b8L M.V at_).length) lc_x27) (fun w1 _=>(OY h35 rfl rfl rfl) w1) fun a38 h37=>?_
  refine tv hq25 h37 11 rfl rfl rfl rfl κ κ κ (fun _ _ _ _ h=>h) (wn rfl) (v:=ν 0) (fun w1 _=>(OY h37 rfl rfl rfl) w1) fun a40 h39=>?_
  refine tv hq25 h39 12 rfl rfl rfl rfl κ κ κ (fun _ _ _ _ h=>h) (wn rfl) (v:=.slice la_x26 ((b8L M.V at_).length) lc_x27) (fun w1 _=>(Bv h39 rfl rfl) w1) fun a42 h41=>?_
  refine tv hq25 h41 13 rfl rfl rfl rfl κ κ κ (fun _ _ _ _ h=>h) (wn rfl) (v:=ν 0) (fun w1 _=>(Bv h41 rfl rfl) w1) fun a44 h43=>?_
  have h45:=h43.subs (l':=[(3,_),(2,_),(0,_)]) rfl
  clear h43 h1 h4 h9 h11 h13 h15 h17 h19 h21 h23 h28 h35 h37 h39 h41 a2 a5 a10 a12 a14 a16 a18 a20 a22 a24 a29 a36 a38 a40 a42
  refine wpAnyH_done κ ?_ _
  refine hK6 _ _ ?_
  refine wp_seq_k fun K46 hK46=>?_
  refine wp_region_lit ?_
  refine sv h45 (wn rfl) rfl rfl rfl (v:=.slice la_x26 ((b8L M.V at_).length) lc_x27) (Au h45 rfl rfl) fun a48 h47=>?_
  refine so (wn rfl) fun K55 hK55=>BD h47 rfl rfl rfl (xs:=[.tmp 20,.const (ν 0),.const (ν 8)]) rfl MY rfl (vs:=[.slice la_x26 ((b8L M.V at_).length) lc_x27,ν 0,ν 8]) rfl (args:=#[.slice la_x26 ((b8L M.V at_).length) lc_x27,ν 0,ν 8]) rfl (Ae5 (R:=[AG 0 5 1 la_x26 ((b8L M.V at_)).length lc_x27 (((b8L M.V at_)).map Ad),Dh W W.heap.size,Ch.many R]) (s33:Sep _ [AG 0 5 1 la_x26 ((b8L M.V at_)).length lc_x27 (((b8L M.V at_)).map Ad),Dh W W.heap.size,Ch.many R]) (s33.get 0 rfl:Own _ _ _ _ _ _ _ _).row (by rw [WI hok];decide)) fun a50 v51 w52 r53 h49=>hK55 _ _ ?_
  clear hK55 K55
  obtain ⟨rfl,s54⟩:=r53
  refine sv h49 (wn rfl) rfl rfl rfl (v:=.tuple #[ν (((AC (b8L M.V at_) 0 8).getD 0:Nat):Int),.bool ((AC (b8L M.V at_) 0 8).isSome)]) (Au h49 rfl rfl) fun a57 h56=>?_
  refine sv h56 (wn rfl) rfl rfl rfl (v:=ν (((AC (b8L M.V at_) 0 8).getD 0:Nat):Int)) (OY h56 rfl rfl rfl) fun a59 h58=>?_
  refine sv h58 (wn rfl) rfl rfl rfl (v:=.bool ((AC (b8L M.V at_) 0 8).isSome)) (OY h58 rfl rfl rfl) fun a61 h60=>?_
  refine sv h60 (wn rfl) rfl rfl rfl (v:=ν (((AC (b8L M.V at_) 0 8).getD 0:Nat):Int)) (Bv h60 rfl rfl) fun a63 h62=>?_
  refine sv h62 (wn rfl) rfl rfl rfl (v:=.bool ((AC (b8L M.V at_) 0 8).isSome)) (Bv h62 rfl rfl) fun a65 h64=>?_
  have h66:=h64.subs (l':=[(6,_),(5,_),(3,_),(2,_),(0,_)]) rfl
  clear h64 h45 h47 h49 h56 h58 h60 h62 a44 a48 a50 a57 a59 a61 a63
  refine wpList_nil ?_
  refine hK46 _ _ ?_
  refine wp_seq_k fun K67 hK67=>?_
  refine wp_seq_k fun K68 hK68=>?_
  refine wp_region_lit ?_
  refine sv h66 (wn rfl) rfl rfl rfl (v:=.bool ((AC (b8L M.V at_) 0 8).isSome)) (Au h66 rfl rfl) fun a70 h69=>?_
  refine sv h69 (wn rfl) rfl rfl rfl (v:=.bool (!((AC (b8L M.V at_) 0 8).isSome))) (Aeb h69 rfl (b:=(AC (b8L M.V at_) 0 8).isSome) rfl) fun a72 h71=>?_
  refine sv h71 (wn rfl) rfl rfl rfl (v:=.bool (!((AC (b8L M.V at_) 0 8).isSome))) (Au h71 rfl rfl) fun a74 h73=>?_
  refine sg h73 (wF h73 rfl rfl rfl) rfl rfl rfl (v:=ν (((AC (b8L M.V at_) 0 8).getD 0:Nat):Int)) (fun hC75=>by have hq:=(Ke (Kf hC75));exact Au h73 rfl rfl _) fun a77 h76=>?_
  refine sg h76 (wF h76 rfl rfl rfl) rfl rfl rfl (v:=π lg) (fun hC78=>by have hq:=(Ke (Kf hC78));exact Au h76 rfl rfl _) fun a80 h79=>?_
  refine sg h79 (wF h79 rfl rfl rfl) rfl rfl rfl (v:=π lg) (fun hC81=>by have hq:=(Ke (Kf hC81));exact Hl h79 rfl (opg rfl hC81) _) fun a83 h82=>?_
  refine sg h82 (wF h82 rfl rfl rfl) rfl rfl rfl (v:=.pointer (some ⟨lg,2,none⟩)) (fun hC84=>by have hq:=(Ke (Kf hC84));exact rfa h82 rfl (opg rfl hC84) (fun w=>JS lg 0 w) _) fun a86 h85=>?_
  refine sg h85 (wF h85 rfl rfl rfl) rfl rfl rfl (v:=ν (size:Int)) (fun hC87=>by have hq:=(Ke (Kf hC87));exact (rld h85 rfl (opg rfl hC87) (ldB υ3 rfl (hlg (s54.get 1 rfl:Below _ _ _∧_).1) rfl))) fun a89 h88=>?_
  refine sg h88 (wF h88 rfl rfl rfl) rfl rfl rfl (v:=ν ((size-8:Nat):Int)) (fun hC90=>by have hq:=(Ke (Kf hC90));exact Co h88 rfl (opg rfl hC90) rfl (Acx _ _ _ ω ω ω) _) fun a92 h91=>?_
  refine sg h91 (wF h91 rfl rfl rfl) rfl rfl rfl (v:=.bool (decide ((((AC (b8L M.V at_) 0 8).getD 0:Nat):Int)>((size-8:Nat):Int)))) (fun hC93=>by have hq:=(Ke (Kf hC93));exact Co h91 rfl (opg rfl hC93) (opg rfl hC93) (cGt _ _ _ _ rfl) _) fun a95 h94=>?_
  refine sv h94 (wn rfl) rfl rfl rfl (v:=.bool ((!((AC (b8L M.V at_) 0 8).isSome))||(decide ((((AC (b8L M.V at_) 0 8).getD 0:Nat):Int)>((size-8:Nat):Int))))) (Hm h94 rfl (E:=(!((AC (b8L M.V at_) 0 8).isSome))) (F:=(decide ((((AC (b8L M.V at_) 0 8).getD 0:Nat):Int)>((size-8:Nat):Int)))) rfl rfl rfl (fun e=>if_pos (by rw [e];try rfl))) fun a97 h96=>?_
  have h98:=h96.subs (l':=[(34,_),(6,_),(5,_),(3,_),(2,_),(0,_)]) rfl
  clear h96 h66 h69 h71 h73 h76 h79 h82 h85 h88 h91 h94 a65 a70 a72 a74 a77 a80 a83 a86 a89 a92 a95
  refine wpList_nil ?_
  refine hK68 _ _ ?_
  rcases Bool.eq_false_or_eq_true ((!((AC (b8L M.V at_) 0 8).isSome))||(decide ((((AC (b8L M.V at_) 0 8).getD 0:Nat):Int)>((size-8:Nat):Int)))) with hc99 | hc99
  · skip
    have hp100:(((AC (b8L M.V at_) 0 8).isSome)=false)∨((((AC (b8L M.V at_) 0 8).getD 0:Nat):Int)>((size-8:Nat):Int)):=((orT hc99).imp (fun q=>(Kf q)) (fun q=>(of_decide_eq_true q)))
    refine JA h98 rfl hc99 ?_
    simp only [if_true]
    have h101:=h98.subs (l':=[(6,_),(5,_),(3,_),(2,_),(0,_)]) rfl
    clear h98
    refine wp_seq_k fun K102 hK102=>?_
    refine wp_region_lit ?_
    have h103:=h101.subs (l':=[(6,_),(5,_),(3,_),(0,_)]) rfl
    clear h101
    refine sv h103 (wn rfl) rfl rfl rfl (v:=ν 0) (Bv h103 rfl rfl) fun a105 h104=>?_
    refine wpList_nil ?_
    refine hK102 _ _ ?_
    refine wp_ret ?_
    try simp only [Exit.then,Exit.inBlock]
    refine AW (v:=ν 0) (Cz h104 rfl rfl) h104.defs ?_
    exact ⟨congrArg _ (Ac1 hp100 ω),Sep.tail_un (xs:=[_]) ((s54.pick [1,2] (by decide) rfl):Sep _ [Dh W W.heap.size,Ch.many R])⟩
  · skip
    have hp106:(((AC (b8L M.V at_) 0 8).isSome)=true)∧(¬ ((((AC (b8L M.V at_) 0 8).getD 0:Nat):Int)>((size-8:Nat):Int))):=(And.intro (Ke (orF hc99).1) (of_decide_eq_false (orF hc99).2))
    refine JA h98 rfl hc99 ?_
    simp only [Bool.false_eq_true,if_false]
    have h107:=h98.subs (l':=[(6,_),(5,_),(3,_),(2,_),(0,_)]) rfl
    clear h98
    refine wp_skip ?_
    refine hK67 _ _ ?_
    refine wp_seq_k fun K108 hK108=>?_
    refine wp_region_lit ?_
    refine sv h107 (wn rfl) rfl rfl rfl (v:=ν (((AC (b8L M.V at_) 0 8).getD 0:Nat):Int)) (Au h107 rfl rfl) fun a110 h109=>?_
    have h111:=h109.subs (l':=[(35,_),(6,_),(5,_),(3,_),(0,_)]) rfl
    clear h109 h107 a97
    refine sv h111 (wn rfl) rfl rfl rfl (v:=ν (((AC (b8L M.V at_) 0 8).getD 0:Nat):Int)) (Bv h111 rfl rfl) fun a113 h112=>?_
    have h114:=h112.subs (l':=[(2,_),(6,_),(5,_),(3,_),(0,_)]) rfl
    clear h112 h111 a110
    refine wpList_nil ?_
    refine hK108 _ _ ?_
    refine wp_ret ?_
    try simp only [Exit.then,Exit.inBlock]
    refine AW (v:=ν (((AC (b8L M.V at_) 0 8).getD 0:Nat):Int)) (Cz h114 rfl rfl) h114.defs ?_
    exact ⟨congrArg _ (Ac2 hp106 ω),Sep.tail_un (xs:=[_]) ((s54.pick [1,2] (by decide) rfl):Sep _ [Dh W W.heap.size,Ch.many R])⟩
theorem ZK {w:World} {lg g v d p at_ size:Nat} {M:MemM} (hg0:LogP w lg g v d p at_ size M) (hok:LogOk at_ size M) :
    Calls prog 81 #[π lg] w fun e w'=>∃ v,e=.returned v∧v=ν (GU M.V at_ size:Int)∧Below w.heap.size w w':=
  Calls.mono (Ae1 (W:=w) (R:=[]) (Sep.start w) hg0 hok) fun e w' ⟨v,e1,e2,s⟩=>⟨v,e1,e2,(s.get 0 rfl:Below w.heap.size w w'∧_).1⟩
end
end Go.Proofs.YtpnknncmacjdkaaGreatDoor
