/- Parts of the proof. -/
import Derived.Defers
import Derived.Test.YtbfgjinpchbajaaGreatDoorQae
namespace Go.Proofs.YtbfgjinpchbajaaGreatDoor
open Go.RowKit
open _root_.Go.Proofs.Tryz
set_option linter.unusedSimpArgs false
set_option linter.unusedVariables false
set_option linter.unusedSectionVars false
set_option maxRecDepth 100000
set_option maxHeartbeats 8000000
section
structure KnD (ds:List Deferred) (N:Nat) (l:List (Nat×Value)) (a:Act):Prop where
  size:a.tmps.size=N
  known:∀ x∈l,a.tmps[x.1]? = some x.2
  defs:a.defers=ds
theorem KnD.eval {ds:List Deferred} {N:Nat} {l:List (Nat×Value)} {a:Act} (h:KnD ds N l a) {k:Nat} {v:Value} (hm:(k,v)∈l):a.eval (.tmp k)=v:=by
  have:=h.known _ hm
  show a.tmps.getD k undef=v
  rw [Array.getD_eq_getD_getElem?,this];rfl
theorem KnD.ev {ds:List Deferred} {N:Nat} {l:List (Nat×Value)} {a:Act} (h:KnD ds N l a) (k:Nat) {v:Value} (hm:l.find? (fun y=>y.1 == k)=some (k,v)):a.eval (.tmp k)=v:=h.eval (List.mem_of_find?_eq_some hm)
theorem KnD.put {ds:List Deferred} {N:Nat} {l:List (Nat×Value)} {a:Act} (h:KnD ds N l a) {d:Nat} (hd:d<N) (hf:∀ x∈l,x.1≠d) (v:Value):KnD ds N ((d,v)::l) (a.put (some d) v):=by
  refine ⟨by show (a.tmps.setIfInBounds d v).size=N;rw [Array.size_setIfInBounds];exact h.size,fun x hx=>?_,h.defs⟩
  show (a.tmps.setIfInBounds d v)[x.1]? = some x.2
  rw [Array.getElem?_setIfInBounds]
  rcases List.mem_cons.1 hx with rfl | hx
  · rw [if_pos rfl,if_pos (by rw [h.size];exact hd)]
  · rw [if_neg (fun e=>hf x hx e.symm)];exact h.known x hx
theorem KnD.sub {ds:List Deferred} {N:Nat} {l l':List (Nat×Value)} {a:Act} (h:KnD ds N l a) (hs:∀ x∈l',x∈l):KnD ds N l' a:=⟨h.size,fun x hx=>h.known x (hs x hx),h.defs⟩
theorem KnD.subs {ds:List Deferred} {N:Nat} {l l':List (Nat×Value)} {a:Act} (h:KnD ds N l a) (hs:(l'.map fun x=>l.find? fun y=>y.1 == x.1)=l'.map some):KnD ds N l' a:=h.sub fun x hx=>by
  have:some x∈l'.map some:=List.mem_map.2 ⟨x,hx,rfl⟩
  rw [← hs] at this
  obtain ⟨i,_,hi⟩:=List.mem_map.1 this
  exact List.mem_of_find?_eq_some hi
theorem KnD.yields {ds:List Deferred} {N:Nat} {l:List (Nat×Value)} {a:Act} (h:KnD ds N l a) {ops:Array Oper} {g prev:Nat} {b:Bool} (hg:(ops[g]?).bind (·.dst)=some prev) (hm:(prev,.bool b)∈l):yielded ops a.tmps g=some b:=by
  unfold yielded
  rw [hg,Option.bind_some]
  have:=h.known _ hm
  show (match a.tmps[prev]? with | some (.bool b)=>some b | _=>none)=some b
  rw [this]
theorem Cl {ds:List Deferred} {P:Program} {ops:Array Oper} {Q:Exit→Act→World→Prop} {rest:List Oper} {o:Oper} {a:Act} {w w':World} {N:Nat} {l:List (Nat×Value)} (h:KnD ds N l a) (hw:Region.wanted o (yielded ops a.tmps)=true) {d:Nat} (hd:o.dst=some d) (hdN:d<N) (hf:∀ x∈l,x.1≠d) (v:Value)
    (hr:(execOp a.eval o).run P w=.ok (.value v) w') (k:∀ a',KnD ds N ((d,v)::l) a'→wpList P ops Q rest a' w'):wpList P ops Q (o::rest) a w:=by
  refine wpList_step fun K hK=>?_
  rw [if_pos hw]
  unfold Oper.wp
  rw [hr,Oper.upon_value,hd]
  exact hK _ _ (k _ (h.put hdN hf v))
theorem AM {ds:List Deferred} {P:Program} {ops:Array Oper} {Q:Exit→Act→World→Prop} {md:Region.Mode} {S:World→Prop} {oi:Oper} {fuel:Nat} {listed:Array Bool} {a:Act} {w:World} {N:Nat} {l:List (Nat×Value)} (hS:S w) (h:KnD ds N l a) (i:Nat) (hi:ops[i]? = some oi) {d:Nat} (hd:oi.dst=some d) (hdN:d<N) (hf:∀ x∈l,x.1≠d)
    (hs:Region.noSelect ops=true) (hfr:Region.free md ops listed i=true) (hr:(Region.ready md ops listed).contains i=true) (hQ:∀ c a w v,Q (.panic c) (a.put oi.dst v) w→Q (.panic c) a w) (v:Value) (hy:YieldsIf P ops S oi v a)
    (k:∀ a',KnD ds N ((d,v)::l) a'→wpAnyH P md ops Q S fuel (listed.setIfInBounds i true) a' w):wpAnyH P md ops Q S (fuel+1) listed a w:=
  Bl hi hd hs hfr hr (fun c a w=>hQ c a w v) hy hS (k _ (h.put hdN hf v))
theorem Lr {ds:List Deferred} {P:Program} {ops:Array Oper} {Q:Exit→Act→World→Prop} {rest:List Oper} {o:Oper} {a:Act} {w:World} {N:Nat} {l:List (Nat×Value)} (h:KnD ds N l a) (hw:o.guard=none) (hd:o.dst=none) {T:TypeId} {x y:Operand} (ho:o.op=.store T x y) (g off:Nat) (hx:a.eval x=.pointer (some ⟨g,off,none⟩)) (vs:List Value) (hy:a.eval y=.agg vs.toArray) (hn:(P.info? T).map (·.size)=some vs.length) (h1:∀ v∈vs,v.oneCell'=true) {e:TypeId} {L:List Value} (hb:Blk w g e L) (hL:off+vs.length≤L.length)
    (k:∀ a' w',KnD ds N l a'→Blk w' g e (splice L off vs)→w.grownBy w' (some g)→wpList P ops Q rest a' w'):wpList P ops Q (o::rest) a w:=by
  refine Jt hw T x y ho g off hx vs hy hn h1 hb hL fun w' hb' hg=>?_
  rw [hd]
  exact k a w' h hb' hg
section
variable {P:Program} {ops:Array Oper} {Q:Exit→Act→World→Prop} {md:Region.Mode} {S:World→Prop} {oi oj:Oper} {fuel:Nat} {listed:Array Bool} {a:Act} {w w':World} {N:Nat} {l:List (Nat×Value)} {K:Act→World→Prop} {ds:List Deferred}
theorem UV (h:KnD ds N l a) {d:Nat} (hd:oi.dst=some d) (hdN:d<N) (hf:∀ x∈l,x.1≠d) (v:Value) (hrun:(execOp a.eval oi).run P w=.ok (.value v) w')
    (k:∀ a',KnD ds N ((d,v)::l) a'→K a' w'):Oper.wp P oi a w K Q:=by
  unfold Oper.wp
  rw [hrun,Oper.upon_value,hd]
  exact k _ (h.put hdN hf v)
theorem MN (h:KnD ds N l a) {d:Nat} (hd:oi.dst=some d) (hdN:d<N) (hf:∀ x∈l,x.1≠d)
    {fn:FuncId} (hcf:∀ args,(callFunc fn args).run P w=.ok (.enter fn args) w) {xs:Array Operand} {ts:Array TypeId} (p:oi.op=.call { callee:=.value (.func fn),args:=xs,argTypes:=ts }) (vs:Array Value) (hx:xs.map a.eval=vs)
    {R:Value→World→Prop} (HC:Calls P fn vs w fun e w'=>∃ v,e=.returned v∧R v w')
    (k:∀ a' v w',R v w'→KnD ds N ((d,v)::l) a'→K a' w'):Oper.wp P oi a w K Q:=by
  have hrun:(execOp a.eval oi).run P w=.ok (.enter fn vs) w:=by
    unfold execOp;rw [p]
    simp [resolve,invoke,Deferred.ofValue,hx,hcf]
    simp [Act.eval,hcf]
  unfold Oper.wp
  rw [hrun,Oper.upon_enter]
  refine HC.mono ?_
  rintro e w' ⟨v,rfl,hv⟩
  simp only
  rw [hd]
  exact k _ v w' hv (h.put hdN hf v)
end
end
section
def EG (n:Int):Prop:=-9223372036854775808≤n∧n≤9223372036854775807
def Ii (X:Λ) (M:MemM) (at_ n:Int):Λ:=if inM M at_ n=true then (X.drop at_.toNat).take n.toNat else []
def Gh (M:MemM) (at_ n:Int):Int:=if inM M at_ n=true then 0 else 1
def Mu (M:MemM) (at_ n:Int):MemM:=if inM M at_ n=true then Mt M at_.toNat n.toNat else M
def GY (M:MemM) (at_:Int) (b:Λ):MemM:=if inM M at_ b.length=true then Nu M at_.toNat b else M
theorem WX {X:Λ} {M:MemM} (hX:X.length=M.V.length) {at_ n:Int} (h:inM M at_ n=true):((X.drop at_.toNat).take n.toNat).length=n.toNat:=by
  obtain ⟨a,m,rfl,rfl,hl⟩:=Hx h
  simp;omega
theorem YT {w:World} {g v d p:Nat} {M:MemM} (h:MemP w g v d p M) (at_ n:Int) (ha:EG at_) (hn:EG n) :
    Calls prog 65 #[π g,ν at_,ν n] w fun e w'=>∃ a c,e=.returned (.tuple #[.slice a (Ii M.V M at_ n).length c,ν (Gh M at_ n)])∧Cb w' w.heap.size a c (Ii M.V M at_ n)∧Below w.heap.size w w':=by
  refine (MD h at_ n ha hn).mono ?_
  intro e w' z
  unfold KU at z
  unfold Ii Gh
  by_cases hi:inM M at_ n=true
  · rw [if_pos hi] at z
    obtain ⟨a,c,rfl,o,b⟩:=z
    refine ⟨a,c,?_,?_,b⟩
    · simp only [if_pos hi];rw [WX rfl hi]
    · rw [if_pos hi];exact o
  · rw [if_neg hi] at z
    obtain ⟨rfl,rfl⟩:=z
    refine ⟨none,0,?_,?_,Below.refl _ _⟩
    · simp only [if_neg hi];rfl
    · rw [if_neg hi];exact Own.nil _ _ _ _
theorem Abl {w:World} {g v d p:Nat} {M:MemM} (h:MemP w g v d p M) (at_ n:Int) (ha:EG at_) (hn:EG n) :
    Calls prog 94 #[π g,ν at_,ν n] w fun e w'=>e=.returned (ν (Gh M at_ n))∧MemP w' g v d p (Mu M at_ n)∧Turns (fun k=>k=p) w w':=by
  refine (Wd h at_ n ha hn).mono ?_
  intro e w' z
  unfold Ko at z
  unfold Mu Gh
  by_cases hi:inM M at_ n=true
  · rw [if_pos hi] at z
    simp only [if_pos hi];exact z
  · rw [if_neg hi] at z
    simp only [if_neg hi]
    exact ⟨z.1,h.mono z.2,Turns.of_below z.2⟩
theorem Vm {w:World} {g v d p:Nat} {M:MemM} (h:MemP w g v d p M) (at_:Int) (ha:EG at_) (a:Ω) (c:Nat) (b:Λ) (hr:Bo w a c b) :
    Calls prog 93 #[π g,ν at_,.slice a b.length c] w fun e w'=>e=.returned (ν (Gh M at_ b.length))∧MemP w' g v d p (GY M at_ b)∧Turns (fun k=>k=v∨k=p) w w':=by
  refine (Xc h at_ ha a c b hr).mono ?_
  intro e w' z
  unfold Kq at z
  unfold GY Gh
  by_cases hi:inM M at_ b.length=true
  · rw [if_pos hi] at z
    simp only [if_pos hi];exact z
  · rw [if_neg hi] at z
    simp only [if_neg hi]
    exact ⟨z.1,h.mono z.2,Turns.of_below z.2⟩
theorem SE {u:FrameMode} {w:World} {g v d p:Nat} {M:MemM} (h:MemP w g v d p M) :
    CallsD prog 92 #[π g] u w fun e u' w'=>u'=u∧(∃ x,e=.returned x)∧MemP w' g v d p (Ph M)∧Turns (fun b=>b=d∨b=p) w w':=by
  obtain ⟨av,ag1,ag2,ap1,ap2,ap3,gl,vl,dl,pl⟩:=DO h
  obtain ⟨D,n,hown,hD,hsz⟩:=h.2.2.2.2.2
  obtain ⟨c0,c1,c2⟩:=h.cells
  have H:=hid h
  have HDD:=hid hD
  clear h hD hsz
  go_enter_d func92,ntmps92
  go_wp2_with (first | (at_range;refine wpList_range_own _ rfl _ 97 rfl 3 199 Jf υ97 unitElem p n D rfl hown ?_;intro w0 hrg0 hg0 hs0))
  go_frame
  have B0:Below w.heap.size w w0:=(Below.refl _ w).grown hg0 (Nat.le_refl _) (fun k hk=>by cases hk)
  go_loopw [2] (fun _ wr=>∃ left cnt,wr.ranges Tryz.prog 3 unitElem p w.heap.size n D left cnt∧(∀ i:Int,left (.int .i64 i)=true→FU M.A i=true)∧MemP wr g v d p ⟨M.V,Gl (fun i=>M.A.getD i false&&!left (.int .i64 (i:Int))) M.V M.D,M.A⟩∧Turns (fun b=>b=d) w wr) (fun _ wr=>wr.rangeLeft p w.heap.size)
  case atStart=>
    refine ⟨_,_,hrg0,fun i hi=>by rw [← HDD.out];exact hi,?_,Turns.of_below B0⟩
    have:=H.out.mono B0
    rw [show Gl (fun i=>M.A.getD i false&&!Maps.has D (.int .i64 (i:Int))) M.V M.D=M.D from ?_]
    · exact this
    · rw [GR (g:=fun _=>false) (fun k _=>by rw [HDD.out,KL];simp),Ws]
  case round=>
    obtain ⟨left,cnt,hrg,hle,hm,ht⟩:=hrel
    obtain ⟨k0,k1,k2⟩:=hm.cells
    have HM:=hid hm;have HT:=hid ht;have HLE:=hid hle;have HRG:=hid hrg
    clear hm ht hle hown hrg0 hg0 hs0 B0
    go_wp2_with (first | (at_next;refine Xu rfl _ rfl rfl HRG.out ?_ ?_))
    · intro hl0
      have hm1:=HM.out
      rw [GR (g:=fun i=>M.A.getD i false) (fun k _=>by rw [hl0];simp)] at hm1
      have HM1:=hid hm1
      clear hm1 hl0
      obtain ⟨w3,hrun,p3,g3⟩:=HM1.out.2.2.2.2.2.clear (ty:=0) υ97 M.A.length
      have P3:=hid p3;have G3:=hid g3
      clear p3 g3
      go_wp2
      go_end0
      have t3:Turns (fun b=>b=p) wr w3:=Turns.of_grown G3.out rfl
      obtain ⟨m1,m2,m3,m4,m5,m6⟩:=HM1.out
      exact ⟨⟨_,rfl⟩,⟨VV H.out.1,m2,t3.blk m3 (by intro q;exact ap1 q.symm),t3.blk m4 (by intro q;exact ap2 q.symm),t3.blk m5 (by intro q;exact ap3 q.symm),P3.out⟩,(HT.out.mono (fun _ q=>.inl q)).trans (t3.mono (fun _ q=>.inr q))⟩
    · intro x w1 cnt1 hwx hlx hrg1 hlt hg1 hen
      obtain ⟨k,rfl,hkl,hkA⟩:=TF (HLE.out x hlx)
      have t1:Turns (fun b=>b=w.heap.size) wr w1:=Turns.of_grown hg1 rfl
      have m1:=HM.out.turns t1 ω ω ω ω
      have HP:=hid (Rf m1 k hkl)
      have HR1:=hid hrg1
      have T1:=hid t1
      have HKA:=hid hkA
      have HLT:=hid hlt
      clear m1 hrg1 hg1 t1 hwx hlx hkA hlt
      go_wp2_with (first | (go_at_call 127;refine HP.out.mono ?_;rintro e w2 ⟨⟨x,rfl⟩,m2,t2⟩;have M2:=hid m2;have T2:=hid t2;clear m2 t2))
      go_roundw
      case rel=>
        refine ⟨_,cnt1,T2.out.ranges HR1.out ap3 ω,fun i hi=>?_,?_,(HT.out.trans' T1.out (fun b hb q=>?_)).trans T2.out⟩
        · simp only [Bool.and_eq_true] at hi
          exact HLE.out i hi.1
        · have:=M2.out
          rw [Wt] at this
          rw [GR (g:=fun i=>M.A.getD i false&&!left (.int .i64 (i:Int))||i == k) (fun i _=>?_)]
          · exact this
          · rw [ZO]
            by_cases e:i=k
            · subst e;rw [HKA.out];simp
            · have:¬ ((i:Int)=(k:Int)):=ω
              simp [this,e]
        · omega
      case measure=>rw [(T2.out.ranges HR1.out ap3 ω).left_eq,HRG.out.left_eq];exact HLT.out
end
section
def NP (g at_ size:Nat):List Value:=[π g,ν (at_:Int),ν (size:Int)]
structure LogP (w:World) (lg g v d p at_ size:Nat) (M:MemM):Prop where
  l:Blk w lg 101 (NP g at_ size)
  m:MemP w g v d p M
def XM (v d p:Nat) (k:Nat):Prop:=k=v∨k=d∨k=p
theorem LogP.mono {w w':World} {lg g v d p at_ size:Nat} {M:MemM} (h:LogP w lg g v d p at_ size M) (b:Below w.heap.size w w'):LogP w' lg g v d p at_ size M:=⟨h.l.mono b,h.m.mono b⟩
theorem LogP.lt {w:World} {lg g v d p at_ size:Nat} {M:MemM} (h:LogP w lg g v d p at_ size M):lg<w.heap.size∧g<w.heap.size∧v<w.heap.size∧d<w.heap.size∧p<w.heap.size:=by
  obtain ⟨av,ag1,ag2,ap1,ap2,ap3,gl,vl,dl,pl⟩:=DO h.m
  exact ⟨h.l.lt,gl,vl,dl,pl⟩
theorem LogP.fresh {w w':World} {lg g v d p at_ size q:Nat} {M:MemM} (h:LogP w lg g v d p at_ size M) (t:Turns (fun k=>k=q) w w') (hq:lg<q∧g<q∧v<q∧d<q∧p<q):LogP w' lg g v d p at_ size M:=
  ⟨t.blk h.l (fun e=>ω),h.m.turns t (fun e=>ω) (fun e=>ω) (fun e=>ω) (fun e=>ω)⟩
theorem Zu {w:World} {p:Nat} {A:List Bool} {g:Nat} {e:TypeId} {L:List Value} (h:PendP w p A) (hb:Blk w g e L):g≠p:=by
  rintro rfl
  obtain ⟨D,n,hown,_⟩:=h
  obtain ⟨es,clock,hb2,_⟩:=hown
  unfold Blk at hb
  rw [hb2] at hb
  cases hb
theorem LogP.nX {w:World} {lg g v d p at_ size:Nat} {M:MemM} (h:LogP w lg g v d p at_ size M):¬ XM v d p lg:=by
  rintro (e | e | e)
  · exact Ds h.l h.m.2.2.2.1 (by decide) e
  · exact Ds h.l h.m.2.2.2.2.1 (by decide) e
  · exact Zu h.m.2.2.2.2.2 h.l e
theorem LogP.next {w w':World} {lg g v d p at_ size:Nat} {M M':MemM} {X:Nat→Prop} (h:LogP w lg g v d p at_ size M) (hm:MemP w' g v d p M') (t:Turns X w w') (hX:∀ k,X k→XM v d p k):LogP w' lg g v d p at_ size M':=
  ⟨t.blk h.l (fun e=>h.nX (hX _ e)),hm⟩
def IT (M:MemM) (p:PtM):MemM:=if inM M p.at_ p.d.length=true then Mu (GY M p.at_ p.d) p.at_ p.d.length else M
def Dj (M:MemM) (L:List PtM):MemM:=Ph (L.foldl IT M)
theorem Abg {M:MemM} {at_ n:Int} (h:inM M at_ n=true):Gh M at_ n=0:=if_pos h
theorem Yl {M:MemM} {at_ n:Int} (h:¬ inM M at_ n=true):Gh M at_ n=1:=if_neg h
theorem Ud {M:MemM} {at_:Int} {b:Λ} (h:¬ inM M at_ b.length=true):GY M at_ b=M:=if_neg h
theorem Xs {P:Program} {ops:Array Oper} {Q:Exit→Act→World→Prop} {rest:List Oper} {o:Oper} {a:Act} {w:World} {N:Nat} {l:List (Nat×Value)} (h:Kn N l a) (hw:Region.wanted o (yielded ops a.tmps)=true) (hd:o.dst=none)
    {fn:FuncId} {xs:Array Operand} {ts:Array TypeId} (p:o.op=.defer { callee:=.value (.func fn),args:=xs,argTypes:=ts }) (vs:Array Value) (hx:xs.map a.eval=vs)
    (k:∀ a',KnD [{ target:=.fn (.func fn) #[],args:=vs }] N l a'→wpList P ops Q rest a' w):wpList P ops Q (o::rest) a w:=by
  refine wpList_step fun K hK=>?_
  rw [if_pos hw]
  have hrun:(execOp a.eval o).run P w=.ok (.defer { target:=.fn (.func fn) #[],args:=vs }) w:=by
    unfold execOp;rw [p]
    simp [resolve,Deferred.ofValue,hx]
    simp [Act.eval]
  unfold Oper.wp
  rw [hrun,Oper.upon_defer,hd]
  refine hK _ _ (k _ ⟨h.size,h.known,?_⟩)
  show _::a.defers=_
  rw [h.defs]
theorem GO {w:World} {g off:Nat} {q:Ω} (h:w.cell? ⟨g,off,none⟩=some (.pointer q)):(Instr.loadAt 59 (.pointer (some ⟨g,off,none⟩))).run prog w=.ok (.pointer q) w:=by
  have u3:=υ59
  have a3:=Tryz.isAgg59
  have z3:=Tryz.sizeOf59
  go_simp
theorem Agf (x y:Operand) (v u:Int) (w:World) {b:Bool} (h:(v == u)=b):(do eqGuard .eql 29 x y (ν v) (ν u);binOp .eql 29 (ν v) (ν u):Sem Value).run prog w=.ok (.bool b) w:=by
  have u3:=υ29
  have a3:=Tryz.isAgg29
  have z3:=Tryz.sizeOf29
  subst h
  go_simp
theorem QJ (x y:Operand) (v u:Int) (w:World) {b:Bool} (h:(v != u)=b):(do eqGuard .neq 29 x y (ν v) (ν u);binOp .neq 29 (ν v) (ν u):Sem Value).run prog w=.ok (.bool b) w:=by
  have u3:=υ29
  have a3:=Tryz.isAgg29
  have z3:=Tryz.sizeOf29
  subst h
  go_simp
end
section
theorem Fi (g:Nat) (w:World):(Instr.fieldAt 101 (π g) 0).run prog w=.ok (π g) w:=rfl
def Cy (w:World) (lg g v d p at_ size:Nat) (M:MemM) (L:List PtM) (e:Ending) (w':World):Prop:=∃ x,e=.returned x∧LogP w' lg g v d p at_ size (Dj M L)∧Turns (XM v d p) w w'
theorem QA {P:Program} {fn:Func} (hf:fn.results=#[]) {R:Ending→World→Prop} (t1 t2:Array Value):∀ (ds:List Deferred) (u:FrameMode) (w:World),Leaves P fn t1 R ds u w→Leaves P fn t2 R ds u w:=by
  intro ds
  induction ds with
  | nil=>
    intro u w h
    cases u with
    | run=>exact h
    | returning=>
      obtain ⟨x,h1,h2⟩:=h
      exact ⟨x,by simpa [results,hf] using h1,h2⟩
    | panicking c=>exact h
  | cons d ds ih=>
    intro u w h
    obtain ⟨h1,fv,cap,f,args,h2,h3,h4⟩:=h
    refine ⟨h1,fv,cap,f,args,h2,h3,h4.mono fun e u' w' q=>?_⟩
    cases e with
    | returned x=>exact ih _ _ q
    | panicked c=>exact ih _ _ q
    | outgrown=>exact q
theorem BY {R:Ending→World→Prop} {c:List PanicEntry} {a:Act} {o:Option Tmp} {v:Value} {w:World} (h:bodyPostD prog Tryz.f61 R (.panic c) (a.put o v) w):bodyPostD prog Tryz.f61 R (.panic c) a w:=by
  cases o with
  | none=>exact h
  | some d=>exact QA rfl _ _ _ _ _ h
theorem Aii {w W:World} {lg g v d p at_ size:Nat} {M Mj:MemM} {L:List PtM} {act:Act} (hG:LogP W lg g v d p at_ size Mj) (hT:Turns (XM v d p) w W) (hM:Mj=L.foldl IT M) (hd:act.defers=[{ target:=.fn (.func 92) #[],args:=#[π g] }]) :
    bodyPostD prog Tryz.f61 (Cy w lg g v d p at_ size M L) .normal act W:=by
  show Leaves _ _ _ _ _ _ _
  rw [hd]
  refine leaves_cons (f:=92) (args:=#[π g]) (by intro q;cases q) (by have hh:=func92;go_simp) ?_
  refine (SE hG.m).mono ?_
  rintro e u' w' ⟨rfl,⟨x,rfl⟩,m,t⟩
  show Leaves _ _ _ _ _ _ _
  refine ⟨.tuple #[],by simp [results,Tryz.f61],_,rfl,?_,hT.trans (t.mono (fun k e=>.inr e))⟩
  unfold Dj
  rw [← hM]
  exact hG.next m t (fun k e=>.inr e)
theorem GQ {w:World} {lg g v d p at_ size:Nat} {M:MemM} {a:Ω} {c:Nat} {L:List PtM} (hg:LogP w lg g v d p at_ size M) (hR:∀ W,Turns (XM v d p) w W→Fo W a c L) (okP:IS L) (okD:∀ q∈L,q.d.length≤1000000) (hl:L.length≤1000000) :
    Calls prog 61 #[π lg,.slice a L.length c] w fun e w'=>Cy w lg g v d p at_ size M L e w':=by
  have HG0:=hid hg;have HR:=hid hR
  clear hg hR
  go_enter_defers func61,ntmps61
  iterate 3 go_step
  refine AU (N:=38) (l:=[(0,π lg),(1,.slice a L.length c)]) ⟨rfl,(by intro x hx;simp only [List.mem_cons,List.not_mem_nil,or_false] at hx;rcases hx with rfl | rfl<;>rfl),rfl⟩ fun a2 h1=>?_
  refine wmk h1 rfl rfl rfl rfl 0 rfl (fun _=>rfl) fun a4 h3=>?_
  refine wv h3 rfl rfl rfl rfl (π lg) (by unfold execOp;simp only [h3.ev 6 rfl];exact rfl) fun a6 h5=>?_
  refine wv h5 rfl rfl rfl rfl (π lg) (by unfold execOp;simp only [h5.ev 7 rfl];exact Ad (Fi (lg) _)) fun a8 h7=>?_
  refine wv h7 rfl rfl rfl rfl (π g) (by unfold execOp;simp only [h7.ev 8 rfl];exact Ad (GO (HG0.out.l.cell (i:=0) (by show 0<3;omega)))) fun a10 h9=>?_
  refine Xs h9 (wn rfl) rfl rfl #[π g] (by simp only [List.map_toArray,List.map_cons,List.map_nil,h9.ev 9 rfl]) fun a12 h11=>?_
  have h13:=h11.subs (l':=[(0,_),(1,_)]) rfl
  clear h11
  iterate 5 go_step
  refine Cl h13 (wn rfl) rfl (by decide) (fr rfl) (.slice a L.length c) (by unfold execOp;simp only [h13.ev 1 rfl];rfl) fun a15 h14=>?_
  refine Cl h14 (wn rfl) rfl (by decide) (fr rfl) (ν (L.length:Int)) (Dg rfl (h14.ev 10 rfl) _) fun a17 h16=>?_
  refine Cl h16 (wn rfl) rfl (by decide) (fr rfl) (ν 0) rfl fun a19 h18=>?_
  iterate 4 go_step
  refine wp_loop (I:=fun a' w'=>∃ (j:Nat) (Mj:MemM),j≤L.length∧KnD [{ target:=.fn (.func 92) #[],args:=#[π g] }] 38 [(12,ν (j:Int)),(11,ν (L.length:Int)),(10,.slice a L.length c),(0,π lg),(1,.slice a L.length c)] a'∧Mj=(L.take j).foldl IT M∧LogP w' lg g v d p at_ size Mj∧Turns (XM v d p) w w') (μ:=fun a' _=>L.length-(intOf (a'.eval (.tmp 12))).toNat) ⟨0,M,Nat.zero_le _,h18,by rw [List.take_zero];rfl,HG0.out,Turns.refl _ _⟩ ?_
  clear h18
  rintro aL wL ⟨j,Mj,hj,hK,hmj,hG,hT⟩
  have HG:=hid hG;have HT:=hid hT;have HMJ:=hid hmj;clear hG hT hmj
  by_cases hlt:j<L.length
  · have hd0:decide ((j:Int)<(L.length:Int))=true:=decide_eq_true ω
    obtain ⟨pb,poff,ha0,hrg⟩:=Ne (HR.out wL HT.out) ω
    have hrg:=hrg j hlt
    have hq64:=okP L[j] (List.getElem_mem hlt);have hdl:=okD L[j] (List.getElem_mem hlt)
    obtain ⟨q,hq⟩:∃ q,q=L[j]:=⟨_,rfl⟩
    rw [← hq] at hrg hq64 hdl
    have HQ:=hid hq;clear hq
    change EG q.at_ at hq64
    by_cases hin:inM Mj q.at_ q.d.length=true
    · have herr:(Gh Mj q.at_ q.d.length == 0)=true:=by rw [Abg hin];rfl
      iterate 3 go_step
      refine Cl hK (wn rfl) rfl (by decide) (fr rfl) (.bool true) (by unfold execOp;simp only [hK.ev 12 rfl,hK.ev 11 rfl];exact Ad (IN _ _ _ _ _ hd0)) fun a21 h20=>?_
      iterate 4 go_step
      refine wp_cond (t:=true) (h20.ev 13 rfl) ?_
      simp only [if_true]
      have h22:=h20.subs (l':=[(12,_),(11,_),(10,_),(0,_),(1,_)]) rfl
      clear h20
      iterate 7 go_step
      refine Cl h22 (wn rfl) rfl (by decide) (fr rfl) (.pointer (some ⟨pb,poff+j*2,none⟩)) (by unfold execOp;simp only [h22.ev 10 rfl,h22.ev 12 rfl];exact Ad (by rw [ha0];exact ixP pb poff _ c j hlt _)) fun a24 h23=>?_
      refine Cl h23 (wn rfl) rfl (by decide) (fr rfl) (ptV q) (by unfold execOp;simp only [h23.ev 14 rfl];exact Ad (run_loadAt_mid _ _ _ _ (ptC q) _ hrg υ127 rfl (by rw [Ev];rfl))) fun a26 h25=>?_
      refine Cl h25 (wn rfl) rfl (by decide) (fr rfl) (π wL.heap.size) (DP rfl _ wL) fun a28 h27=>?_
      obtain ⟨wp,hwp⟩:∃ x,x=wL.alloc (.cells (ptC ⟨0,[]⟩).toArray 127):=⟨_,rfl⟩
      obtain ⟨gp,hgp⟩:∃ x,x=wL.heap.size:=⟨_,rfl⟩
      have hk0:Blk wp gp 127 (ptC ⟨0,[]⟩):=by rw [hwp,hgp];exact AK rfl _ _
      have hap:lg<gp∧g<gp∧v<gp∧d<gp∧p<gp:=by rw [hgp];exact HG.out.lt
      have hgw:w.heap.size≤gp:=by rw [hgp];exact HT.out.size
      have HGp:Hid (LogP wp lg g v d p at_ size Mj):=hid (by rw [hwp];exact HG.out.mono (Cq _ _));have HTp:Hid (Turns (XM v d p) w wp):=hid (by rw [hwp];exact HT.out.trans (Turns.of_below (Cq _ _)))
      rw [← hgp] at h27;rw [← hwp];clear hwp hgp
      refine Lr h27 rfl rfl rfl gp 0 (h27.ev 5 rfl) (ptC q) (h27.ev 15 rfl) (by rw [Ev];rfl) (FW _) hk0 (by show 0+2≤2;omega) fun a30 wq h29 kq gq=>?_
      rw [CC (by rfl)] at kq
      have HPQ:=hid kq;have HGq:=hid (HGp.out.fresh (Turns.of_grown gq rfl) hap);have HTq:Hid (Turns (XM v d p) w wq):=hid (HTp.out.trans' (Turns.of_grown (X:=fun k=>k=gp) gq rfl) (fun k hk e=>absurd e ω))
      clear kq gq hk0 HGp HTp
      have h31:=h29.subs (l':=[(5,_),(12,_),(11,_),(10,_),(0,_),(1,_)]) rfl
      clear h29
      iterate 4 go_step
      have HG4:=hid (HGq.out.mono (Below.refl _ _).drew);have HT4:=hid HTq.out.drew;have HP4:=hid (HPQ.out.mono (Below.refl _ _).drew)
      refine wp_region_held_drew (S:=fun w'=>Blk w' lg 101 (NP g at_ size)∧Blk w' gp 127 (ptC q)) κ ⟨HG4.out.l,HP4.out⟩ (fun hS4=>?_)
      refine AM hS4 h31 0 rfl rfl (by decide) (fr rfl) κ κ κ (fun _ _ _ _ h=>BY (R:=Cy w lg g v d p at_ size M L) h) (π lg) (Or.inl ⟨Eq.refl true,fun w1 hSw=>(by show (execOp _ (⟨_,.move (.tmp 0),_,_,_,_⟩:Oper)).run _ _=_;exact (by unfold execOp;simp only [h31.ev 0 rfl];exact rfl))⟩) fun a33 h32=>?_
      refine AM hS4 h32 1 rfl rfl (by decide) (fr rfl) κ κ κ (fun _ _ _ _ h=>BY (R:=Cy w lg g v d p at_ size M L) h) (π lg) (Or.inl ⟨Eq.refl true,fun w1 hSw=>(by show (execOp _ (⟨_,.nilCheck (.tmp 16),_,_,_,_⟩:Oper)).run _ _=_;exact (by unfold execOp;simp only [h32.ev 16 rfl];exact rfl))⟩) fun a35 h34=>?_
      refine AM hS4 h34 2 rfl rfl (by decide) (fr rfl) κ κ κ (fun _ _ _ _ h=>BY (R:=Cy w lg g v d p at_ size M L) h) (π lg) (Or.inl ⟨Eq.refl true,fun w1 hSw=>(by show (execOp _ (⟨_,.fieldAddr 101 (.tmp 17) 0,_,_,_,_⟩:Oper)).run _ _=_;exact (by unfold execOp;simp only [h34.ev 17 rfl];exact Ad (Fi (lg) _)))⟩) fun a37 h36=>?_
      refine AM hS4 h36 3 rfl rfl (by decide) (fr rfl) κ κ κ (fun _ _ _ _ h=>BY (R:=Cy w lg g v d p at_ size M L) h) (π g) (Or.inl ⟨Eq.refl true,fun w1 hSw=>(by show (execOp _ (⟨_,.load 59 (.tmp 18),_,_,_,_⟩:Oper)).run _ _=_;exact (by unfold execOp;simp only [h36.ev 18 rfl];exact Ad (GO (hSw.1.cell (i:=0) (by show 0<3;omega)))))⟩) fun a39 h38=>?_
      refine AM hS4 h38 4 rfl rfl (by decide) (fr rfl) κ κ κ (fun _ _ _ _ h=>BY (R:=Cy w lg g v d p at_ size M L) h) (π gp) (Or.inl ⟨Eq.refl true,fun w1 hSw=>(by show (execOp _ (⟨_,.fieldAddr 127 (.tmp 5) 0,_,_,_,_⟩:Oper)).run _ _=_;exact (by unfold execOp;simp only [h38.ev 5 rfl];exact Ad (Er (gp) _)))⟩) fun a41 h40=>?_
      refine AM hS4 h40 5 rfl rfl (by decide) (fr rfl) κ κ κ (fun _ _ _ _ h=>BY (R:=Cy w lg g v d p at_ size M L) h) (ν q.at_) (Or.inl ⟨Eq.refl true,fun w1 hSw=>(by show (execOp _ (⟨_,.load 3 (.tmp 20),_,_,_,_⟩:Oper)).run _ _=_;exact (by unfold execOp;simp only [h40.ev 20 rfl];exact Ad (BP (hSw.2.cell (i:=0) (by show 0<2;omega)))))⟩) fun a43 h42=>?_
      refine AM hS4 h42 6 rfl rfl (by decide) (fr rfl) κ κ κ (fun _ _ _ _ h=>BY (R:=Cy w lg g v d p at_ size M L) h) (.pointer (some ⟨gp,1,none⟩)) (Or.inl ⟨Eq.refl true,fun w1 hSw=>(by show (execOp _ (⟨_,.fieldAddr 127 (.tmp 5) 1,_,_,_,_⟩:Oper)).run _ _=_;exact (by unfold execOp;simp only [h42.ev 5 rfl];exact Ad (Es (gp) _)))⟩) fun a45 h44=>?_
      refine AM hS4 h44 7 rfl rfl (by decide) (fr rfl) κ κ κ (fun _ _ _ _ h=>BY (R:=Cy w lg g v d p at_ size M L) h) (Ap q.d) (Or.inl ⟨Eq.refl true,fun w1 hSw=>(by show (execOp _ (⟨_,.load 9 (.tmp 22),_,_,_,_⟩:Oper)).run _ _=_;exact (by unfold execOp;simp only [h44.ev 22 rfl];exact Ad (GP (hSw.2.cell (i:=1) (by show 1<2;omega)))))⟩) fun a47 h46=>?_
      obtain ⟨yc,w5,hcv,hrow,b5⟩:=GK wq.drew q.d hdl
      refine AD 8 rfl rfl κ fun K hK=>UV (w':=w5) h46 rfl (by decide) (fr rfl) (.slice (some ⟨wq.drew.heap.size,0,none⟩) q.d.length yc) (by show (execOp _ (⟨_,.convert 9 74 (.tmp 23),_,_,_,_⟩:Oper)).run _ _=_;exact (by unfold execOp;simp only [h46.ev 23 rfl];exact Ad hcv)) fun a49 h48=>hK _ _ ⟨hS4.1.mono b5,hS4.2.mono b5⟩ fun hS5=>?_
      clear hK K
      have HG5:=hid (HG4.out.mono b5);have HT5:=hid (HT4.out.trans (Turns.of_below b5));clear b5 hcv
      refine AD 9 rfl rfl κ fun K hK=>MN h48 rfl (by decide) (fr rfl) (fun args=>cF func93 (args:=args) (w:=_)) rfl #[π g,ν q.at_,.slice (some ⟨wq.drew.heap.size,0,none⟩) q.d.length yc] (by simp only [List.map_toArray,List.map_cons,List.map_nil,h48.ev 19 rfl,h48.ev 21 rfl,h48.ev 24 rfl]) (R:=fun x w'=>x=ν (Gh Mj q.at_ q.d.length)∧MemP w' g v d p (GY Mj q.at_ q.d)∧Turns (fun k=>k=v∨k=p) w5 w') ((Vm HG5.out.m q.at_ hq64 _ _ q.d hrow).mono fun e w' z=>⟨_,z.1,rfl,z.2⟩) fun a51 v6 w6 r6 h50=>hK _ _ ⟨r6.2.2.blk hS5.1 (fun e=>HG5.out.nX (e.elim .inl (fun e=>.inr (.inr e)))),r6.2.2.blk hS5.2 (by intro e;rcases e with e | e<;>omega)⟩ fun hS6=>?_
      clear hK K
      obtain ⟨rfl,m6,t6⟩:=r6
      have HG6:=hid (HG5.out.next m6 t6 (fun k e=>e.elim .inl (fun e=>.inr (.inr e))));have HT6:Hid (Turns (XM v d p) w w6):=hid (HT5.out.trans (t6.mono (fun k e=>e.elim .inl (fun e=>.inr (.inr e)))));have HP6:=hid hS6.2;clear m6 t6 hrow
      refine AM hS6 h50 10 rfl rfl (by decide) (fr rfl) κ κ κ (fun _ _ _ _ h=>BY (R:=Cy w lg g v d p at_ size M L) h) (.bool true) (Or.inl ⟨Eq.refl true,fun w1 hSw=>(by show (execOp _ (⟨_,.binOp .eql 29 (.tmp 25) (.const (ν 0)) 29,_,_,_,_⟩:Oper)).run _ _=_;exact (by unfold execOp;simp only [h50.ev 25 rfl];exact Ad (Agf _ _ _ _ _ herr)))⟩) fun a53 h52=>?_
      refine wpAnyH_done κ ?_ _
      have h54:=h52.subs (l':=[(26,_),(5,_),(12,_),(11,_),(10,_),(0,_),(1,_)]) rfl
      clear h52
      iterate 2 go_step
      refine wp_cond (t:=true) (h54.ev 26 rfl) ?_
      simp only [if_true]
      have h55:=h54.subs (l':=[(5,_),(12,_),(11,_),(10,_),(0,_),(1,_)]) rfl
      clear h54
      have HG7:=hid (HG6.out.mono (Below.refl _ _).drew);have HT7:=hid HT6.out.drew;have HP7:=hid (HP6.out.mono (Below.refl _ _).drew)
      refine wp_region_held_drew (S:=fun w'=>Blk w' lg 101 (NP g at_ size)∧Blk w' gp 127 (ptC q)) κ ⟨HG7.out.l,HP7.out⟩ (fun hS7=>?_)
      refine AM hS7 h55 0 rfl rfl (by decide) (fr rfl) κ κ κ (fun _ _ _ _ h=>BY (R:=Cy w lg g v d p at_ size M L) h) (π lg) (Or.inl ⟨Eq.refl true,fun w1 hSw=>(by show (execOp _ (⟨_,.move (.tmp 0),_,_,_,_⟩:Oper)).run _ _=_;exact (by unfold execOp;simp only [h55.ev 0 rfl];exact rfl))⟩) fun a57 h56=>?_
      refine AM hS7 h56 1 rfl rfl (by decide) (fr rfl) κ κ κ (fun _ _ _ _ h=>BY (R:=Cy w lg g v d p at_ size M L) h) (π lg) (Or.inl ⟨Eq.refl true,fun w1 hSw=>(by show (execOp _ (⟨_,.nilCheck (.tmp 27),_,_,_,_⟩:Oper)).run _ _=_;exact (by unfold execOp;simp only [h56.ev 27 rfl];exact rfl))⟩) fun a59 h58=>?_
      refine AM hS7 h58 2 rfl rfl (by decide) (fr rfl) κ κ κ (fun _ _ _ _ h=>BY (R:=Cy w lg g v d p at_ size M L) h) (π lg) (Or.inl ⟨Eq.refl true,fun w1 hSw=>(by show (execOp _ (⟨_,.fieldAddr 101 (.tmp 28) 0,_,_,_,_⟩:Oper)).run _ _=_;exact (by unfold execOp;simp only [h58.ev 28 rfl];exact Ad (Fi (lg) _)))⟩) fun a61 h60=>?_
      refine AM hS7 h60 3 rfl rfl (by decide) (fr rfl) κ κ κ (fun _ _ _ _ h=>BY (R:=Cy w lg g v d p at_ size M L) h) (π g) (Or.inl ⟨Eq.refl true,fun w1 hSw=>(by show (execOp _ (⟨_,.load 59 (.tmp 29),_,_,_,_⟩:Oper)).run _ _=_;exact (by unfold execOp;simp only [h60.ev 29 rfl];exact Ad (GO (hSw.1.cell (i:=0) (by show 0<3;omega)))))⟩) fun a63 h62=>?_
      refine AM hS7 h62 4 rfl rfl (by decide) (fr rfl) κ κ κ (fun _ _ _ _ h=>BY (R:=Cy w lg g v d p at_ size M L) h) (π gp) (Or.inl ⟨Eq.refl true,fun w1 hSw=>(by show (execOp _ (⟨_,.fieldAddr 127 (.tmp 5) 0,_,_,_,_⟩:Oper)).run _ _=_;exact (by unfold execOp;simp only [h62.ev 5 rfl];exact Ad (Er (gp) _)))⟩) fun a65 h64=>?_
      refine AM hS7 h64 5 rfl rfl (by decide) (fr rfl) κ κ κ (fun _ _ _ _ h=>BY (R:=Cy w lg g v d p at_ size M L) h) (ν q.at_) (Or.inl ⟨Eq.refl true,fun w1 hSw=>(by show (execOp _ (⟨_,.load 3 (.tmp 31),_,_,_,_⟩:Oper)).run _ _=_;exact (by unfold execOp;simp only [h64.ev 31 rfl];exact Ad (BP (hSw.2.cell (i:=0) (by show 0<2;omega)))))⟩) fun a67 h66=>?_
      refine AM hS7 h66 6 rfl rfl (by decide) (fr rfl) κ κ κ (fun _ _ _ _ h=>BY (R:=Cy w lg g v d p at_ size M L) h) (.pointer (some ⟨gp,1,none⟩)) (Or.inl ⟨Eq.refl true,fun w1 hSw=>(by show (execOp _ (⟨_,.fieldAddr 127 (.tmp 5) 1,_,_,_,_⟩:Oper)).run _ _=_;exact (by unfold execOp;simp only [h66.ev 5 rfl];exact Ad (Es (gp) _)))⟩) fun a69 h68=>?_
      refine AM hS7 h68 7 rfl rfl (by decide) (fr rfl) κ κ κ (fun _ _ _ _ h=>BY (R:=Cy w lg g v d p at_ size M L) h) (Ap q.d) (Or.inl ⟨Eq.refl true,fun w1 hSw=>(by show (execOp _ (⟨_,.load 9 (.tmp 33),_,_,_,_⟩:Oper)).run _ _=_;exact (by unfold execOp;simp only [h68.ev 33 rfl];exact Ad (GP (hSw.2.cell (i:=1) (by show 1<2;omega)))))⟩) fun a71 h70=>?_
      refine AM hS7 h70 8 rfl rfl (by decide) (fr rfl) κ κ κ (fun _ _ _ _ h=>BY (R:=Cy w lg g v d p at_ size M L) h) (ν (q.d.length:Int)) (Or.inl ⟨Eq.refl true,fun w1 hSw=>(by show (execOp _ (⟨_,.call { callee:=.builtin .len,args:=#[(.tmp 34)],argTypes:=#[9] },_,_,_,_⟩:Oper)).run _ _=_;exact (Ca rfl (h70.ev 34 rfl) _))⟩) fun a73 h72=>?_
      refine AD 9 rfl rfl κ fun K hK=>MN h72 rfl (by decide) (fr rfl) (fun args=>cF func94 (args:=args) (w:=_)) rfl #[π g,ν q.at_,ν (q.d.length:Int)] (by simp only [List.map_toArray,List.map_cons,List.map_nil,h72.ev 30 rfl,h72.ev 32 rfl,h72.ev 35 rfl]) (R:=fun x w'=>x=ν (Gh (GY Mj q.at_ q.d) q.at_ q.d.length)∧MemP w' g v d p (Mu (GY Mj q.at_ q.d) q.at_ q.d.length)∧Turns (fun k=>k=p) w6.drew w') ((Abl HG7.out.m q.at_ q.d.length hq64 (by unfold EG;omega)).mono fun e w' z=>⟨_,z.1,rfl,z.2⟩) fun a75 v8 w8 r8 h74=>hK _ _ ⟨r8.2.2.blk hS7.1 (fun e=>HG7.out.nX (.inr (.inr e))),r8.2.2.blk hS7.2 (by intro e;omega)⟩ fun hS8=>?_
      clear hK K
      obtain ⟨rfl,m8,t8⟩:=r8
      have HG8:=hid (HG7.out.next m8 t8 (fun k e=>.inr (.inr e)));have HT8:Hid (Turns (XM v d p) w w8):=hid (HT7.out.trans (t8.mono (fun k e=>.inr (.inr e))));clear m8 t8
      refine wpAnyH_done κ ?_ _
      have h76:=h74.subs (l':=[(5,_),(12,_),(11,_),(10,_),(0,_),(1,_)]) rfl
      clear h74
      iterate 3 go_step
      refine Cl h76 (wn rfl) rfl (by decide) (fr rfl) (ν ((j+1:Nat):Int)) (by unfold execOp;simp only [h76.ev 12 rfl];exact Ad (LU _ _ j ω _)) fun a78 h77=>?_
      have h79:=h77.subs (l':=[(37,_),(5,_),(11,_),(10,_),(0,_),(1,_)]) rfl
      clear h77
      refine Cl h79 (wn rfl) rfl (by decide) (fr rfl) (ν ((j+1:Nat):Int)) (by unfold execOp;simp only [h79.ev 37 rfl];rfl) fun a81 h80=>?_
      have h82:=h80.subs (l':=[(12,_),(5,_),(11,_),(10,_),(0,_),(1,_)]) rfl
      clear h80
      iterate 2 go_step
      refine ⟨⟨j+1,IT Mj q,ω,h82.subs rfl,?_,?_,HT8.out⟩,?_⟩
      · rw [List.take_add_one,List.getElem?_eq_getElem hlt,Option.toList_some,List.foldl_append,← HMJ.out,← HQ.out];rfl
      · unfold IT;rw [if_pos hin];exact HG8.out
      · rw [h82.ev 12 rfl,hK.ev 12 rfl];simp [intOf];omega
    · have herr:(Gh Mj q.at_ q.d.length == 0)=false:=by rw [Yl hin];rfl
      iterate 3 go_step
      refine Cl hK (wn rfl) rfl (by decide) (fr rfl) (.bool true) (by unfold execOp;simp only [hK.ev 12 rfl,hK.ev 11 rfl];exact Ad (IN _ _ _ _ _ hd0)) fun a84 h83=>?_
      iterate 4 go_step
      refine wp_cond (t:=true) (h83.ev 13 rfl) ?_
      simp only [if_true]
      have h85:=h83.subs (l':=[(12,_),(11,_),(10,_),(0,_),(1,_)]) rfl
      clear h83
      iterate 7 go_step
      refine Cl h85 (wn rfl) rfl (by decide) (fr rfl) (.pointer (some ⟨pb,poff+j*2,none⟩)) (by unfold execOp;simp only [h85.ev 10 rfl,h85.ev 12 rfl];exact Ad (by rw [ha0];exact ixP pb poff _ c j hlt _)) fun a87 h86=>?_
      refine Cl h86 (wn rfl) rfl (by decide) (fr rfl) (ptV q) (by unfold execOp;simp only [h86.ev 14 rfl];exact Ad (run_loadAt_mid _ _ _ _ (ptC q) _ hrg υ127 rfl (by rw [Ev];rfl))) fun a89 h88=>?_
      refine Cl h88 (wn rfl) rfl (by decide) (fr rfl) (π wL.heap.size) (DP rfl _ wL) fun a91 h90=>?_
      obtain ⟨wp,hwp⟩:∃ x,x=wL.alloc (.cells (ptC ⟨0,[]⟩).toArray 127):=⟨_,rfl⟩
      obtain ⟨gp,hgp⟩:∃ x,x=wL.heap.size:=⟨_,rfl⟩
      have hk0:Blk wp gp 127 (ptC ⟨0,[]⟩):=by rw [hwp,hgp];exact AK rfl _ _
      have hap:lg<gp∧g<gp∧v<gp∧d<gp∧p<gp:=by rw [hgp];exact HG.out.lt
      have hgw:w.heap.size≤gp:=by rw [hgp];exact HT.out.size
      have HGp:Hid (LogP wp lg g v d p at_ size Mj):=hid (by rw [hwp];exact HG.out.mono (Cq _ _));have HTp:Hid (Turns (XM v d p) w wp):=hid (by rw [hwp];exact HT.out.trans (Turns.of_below (Cq _ _)))
      rw [← hgp] at h90;rw [← hwp];clear hwp hgp
      refine Lr h90 rfl rfl rfl gp 0 (h90.ev 5 rfl) (ptC q) (h90.ev 15 rfl) (by rw [Ev];rfl) (FW _) hk0 (by show 0+2≤2;omega) fun a93 wq h92 kq gq=>?_
      rw [CC (by rfl)] at kq
      have HPQ:=hid kq;have HGq:=hid (HGp.out.fresh (Turns.of_grown gq rfl) hap);have HTq:Hid (Turns (XM v d p) w wq):=hid (HTp.out.trans' (Turns.of_grown (X:=fun k=>k=gp) gq rfl) (fun k hk e=>absurd e ω))
      clear kq gq hk0 HGp HTp
      have h94:=h92.subs (l':=[(5,_),(12,_),(11,_),(10,_),(0,_),(1,_)]) rfl
      clear h92
      iterate 4 go_step
      have HG4:=hid (HGq.out.mono (Below.refl _ _).drew);have HT4:=hid HTq.out.drew;have HP4:=hid (HPQ.out.mono (Below.refl _ _).drew)
      refine wp_region_held_drew (S:=fun w'=>Blk w' lg 101 (NP g at_ size)∧Blk w' gp 127 (ptC q)) κ ⟨HG4.out.l,HP4.out⟩ (fun hS4=>?_)
      refine AM hS4 h94 0 rfl rfl (by decide) (fr rfl) κ κ κ (fun _ _ _ _ h=>BY (R:=Cy w lg g v d p at_ size M L) h) (π lg) (Or.inl ⟨Eq.refl true,fun w1 hSw=>(by show (execOp _ (⟨_,.move (.tmp 0),_,_,_,_⟩:Oper)).run _ _=_;exact (by unfold execOp;simp only [h94.ev 0 rfl];exact rfl))⟩) fun a96 h95=>?_
      refine AM hS4 h95 1 rfl rfl (by decide) (fr rfl) κ κ κ (fun _ _ _ _ h=>BY (R:=Cy w lg g v d p at_ size M L) h) (π lg) (Or.inl ⟨Eq.refl true,fun w1 hSw=>(by show (execOp _ (⟨_,.nilCheck (.tmp 16),_,_,_,_⟩:Oper)).run _ _=_;exact (by unfold execOp;simp only [h95.ev 16 rfl];exact rfl))⟩) fun a98 h97=>?_
      refine AM hS4 h97 2 rfl rfl (by decide) (fr rfl) κ κ κ (fun _ _ _ _ h=>BY (R:=Cy w lg g v d p at_ size M L) h) (π lg) (Or.inl ⟨Eq.refl true,fun w1 hSw=>(by show (execOp _ (⟨_,.fieldAddr 101 (.tmp 17) 0,_,_,_,_⟩:Oper)).run _ _=_;exact (by unfold execOp;simp only [h97.ev 17 rfl];exact Ad (Fi (lg) _)))⟩) fun a100 h99=>?_
      refine AM hS4 h99 3 rfl rfl (by decide) (fr rfl) κ κ κ (fun _ _ _ _ h=>BY (R:=Cy w lg g v d p at_ size M L) h) (π g) (Or.inl ⟨Eq.refl true,fun w1 hSw=>(by show (execOp _ (⟨_,.load 59 (.tmp 18),_,_,_,_⟩:Oper)).run _ _=_;exact (by unfold execOp;simp only [h99.ev 18 rfl];exact Ad (GO (hSw.1.cell (i:=0) (by show 0<3;omega)))))⟩) fun a102 h101=>?_
      refine AM hS4 h101 4 rfl rfl (by decide) (fr rfl) κ κ κ (fun _ _ _ _ h=>BY (R:=Cy w lg g v d p at_ size M L) h) (π gp) (Or.inl ⟨Eq.refl true,fun w1 hSw=>(by show (execOp _ (⟨_,.fieldAddr 127 (.tmp 5) 0,_,_,_,_⟩:Oper)).run _ _=_;exact (by unfold execOp;simp only [h101.ev 5 rfl];exact Ad (Er (gp) _)))⟩) fun a104 h103=>?_
      refine AM hS4 h103 5 rfl rfl (by decide) (fr rfl) κ κ κ (fun _ _ _ _ h=>BY (R:=Cy w lg g v d p at_ size M L) h) (ν q.at_) (Or.inl ⟨Eq.refl true,fun w1 hSw=>(by show (execOp _ (⟨_,.load 3 (.tmp 20),_,_,_,_⟩:Oper)).run _ _=_;exact (by unfold execOp;simp only [h103.ev 20 rfl];exact Ad (BP (hSw.2.cell (i:=0) (by show 0<2;omega)))))⟩) fun a106 h105=>?_
      refine AM hS4 h105 6 rfl rfl (by decide) (fr rfl) κ κ κ (fun _ _ _ _ h=>BY (R:=Cy w lg g v d p at_ size M L) h) (.pointer (some ⟨gp,1,none⟩)) (Or.inl ⟨Eq.refl true,fun w1 hSw=>(by show (execOp _ (⟨_,.fieldAddr 127 (.tmp 5) 1,_,_,_,_⟩:Oper)).run _ _=_;exact (by unfold execOp;simp only [h105.ev 5 rfl];exact Ad (Es (gp) _)))⟩) fun a108 h107=>?_
      refine AM hS4 h107 7 rfl rfl (by decide) (fr rfl) κ κ κ (fun _ _ _ _ h=>BY (R:=Cy w lg g v d p at_ size M L) h) (Ap q.d) (Or.inl ⟨Eq.refl true,fun w1 hSw=>(by show (execOp _ (⟨_,.load 9 (.tmp 22),_,_,_,_⟩:Oper)).run _ _=_;exact (by unfold execOp;simp only [h107.ev 22 rfl];exact Ad (GP (hSw.2.cell (i:=1) (by show 1<2;omega)))))⟩) fun a110 h109=>?_
      obtain ⟨yc,w5,hcv,hrow,b5⟩:=GK wq.drew q.d hdl
      refine AD 8 rfl rfl κ fun K hK=>UV (w':=w5) h109 rfl (by decide) (fr rfl) (.slice (some ⟨wq.drew.heap.size,0,none⟩) q.d.length yc) (by show (execOp _ (⟨_,.convert 9 74 (.tmp 23),_,_,_,_⟩:Oper)).run _ _=_;exact (by unfold execOp;simp only [h109.ev 23 rfl];exact Ad hcv)) fun a112 h111=>hK _ _ ⟨hS4.1.mono b5,hS4.2.mono b5⟩ fun hS5=>?_
      clear hK K
      have HG5:=hid (HG4.out.mono b5);have HT5:=hid (HT4.out.trans (Turns.of_below b5));clear b5 hcv
      refine AD 9 rfl rfl κ fun K hK=>MN h111 rfl (by decide) (fr rfl) (fun args=>cF func93 (args:=args) (w:=_)) rfl #[π g,ν q.at_,.slice (some ⟨wq.drew.heap.size,0,none⟩) q.d.length yc] (by simp only [List.map_toArray,List.map_cons,List.map_nil,h111.ev 19 rfl,h111.ev 21 rfl,h111.ev 24 rfl]) (R:=fun x w'=>x=ν (Gh Mj q.at_ q.d.length)∧MemP w' g v d p (GY Mj q.at_ q.d)∧Turns (fun k=>k=v∨k=p) w5 w') ((Vm HG5.out.m q.at_ hq64 _ _ q.d hrow).mono fun e w' z=>⟨_,z.1,rfl,z.2⟩) fun a114 v6 w6 r6 h113=>hK _ _ ⟨r6.2.2.blk hS5.1 (fun e=>HG5.out.nX (e.elim .inl (fun e=>.inr (.inr e)))),r6.2.2.blk hS5.2 (by intro e;rcases e with e | e<;>omega)⟩ fun hS6=>?_
      clear hK K
      obtain ⟨rfl,m6,t6⟩:=r6
      have HG6:=hid (HG5.out.next m6 t6 (fun k e=>e.elim .inl (fun e=>.inr (.inr e))));have HT6:Hid (Turns (XM v d p) w w6):=hid (HT5.out.trans (t6.mono (fun k e=>e.elim .inl (fun e=>.inr (.inr e)))));have HP6:=hid hS6.2;clear m6 t6 hrow
      refine AM hS6 h113 10 rfl rfl (by decide) (fr rfl) κ κ κ (fun _ _ _ _ h=>BY (R:=Cy w lg g v d p at_ size M L) h) (.bool false) (Or.inl ⟨Eq.refl true,fun w1 hSw=>(by show (execOp _ (⟨_,.binOp .eql 29 (.tmp 25) (.const (ν 0)) 29,_,_,_,_⟩:Oper)).run _ _=_;exact (by unfold execOp;simp only [h113.ev 25 rfl];exact Ad (Agf _ _ _ _ _ herr)))⟩) fun a116 h115=>?_
      refine wpAnyH_done κ ?_ _
      have h117:=h115.subs (l':=[(26,_),(5,_),(12,_),(11,_),(10,_),(0,_),(1,_)]) rfl
      clear h115
      iterate 2 go_step
      refine wp_cond (t:=false) (h117.ev 26 rfl) ?_
      simp only [Bool.false_eq_true,if_false]
      have h118:=h117.subs (l':=[(5,_),(12,_),(11,_),(10,_),(0,_),(1,_)]) rfl
      clear h117
      iterate 4 go_step
      refine Cl h118 (wn rfl) rfl (by decide) (fr rfl) (ν ((j+1:Nat):Int)) (by unfold execOp;simp only [h118.ev 12 rfl];exact Ad (LU _ _ j ω _)) fun a120 h119=>?_
      have h121:=h119.subs (l':=[(37,_),(5,_),(11,_),(10,_),(0,_),(1,_)]) rfl
      clear h119
      refine Cl h121 (wn rfl) rfl (by decide) (fr rfl) (ν ((j+1:Nat):Int)) (by unfold execOp;simp only [h121.ev 37 rfl];rfl) fun a123 h122=>?_
      have h124:=h122.subs (l':=[(12,_),(5,_),(11,_),(10,_),(0,_),(1,_)]) rfl
      clear h122
      iterate 2 go_step
      refine ⟨⟨j+1,IT Mj q,ω,h124.subs rfl,?_,?_,HT6.out⟩,?_⟩
      · rw [List.take_add_one,List.getElem?_eq_getElem hlt,Option.toList_some,List.foldl_append,← HMJ.out,← HQ.out];rfl
      · unfold IT;rw [if_neg hin];have z:=HG6.out;rw [Ud hin] at z;exact z
      · rw [h124.ev 12 rfl,hK.ev 12 rfl];simp [intOf];omega
  · have hd0:decide ((j:Int)<(L.length:Int))=false:=decide_eq_false ω
    obtain rfl:j=L.length:=ω
    iterate 3 go_step
    refine Cl hK (wn rfl) rfl (by decide) (fr rfl) (.bool false) (by unfold execOp;simp only [hK.ev 12 rfl,hK.ev 11 rfl];exact Ad (IN _ _ _ _ _ hd0)) fun a126 h125=>?_
    iterate 4 go_step
    refine wp_cond (t:=false) (h125.ev 13 rfl) ?_
    simp only [Bool.false_eq_true,if_false]
    have h127:=h125.subs (l':=[(12,_),(11,_),(10,_),(0,_),(1,_)]) rfl
    clear h125
    iterate 4 go_step
    rw [List.take_length] at HMJ
    exact Aii HG.out HT.out HMJ.out h127.defs
end
section
def Hm (V:Λ) (at_ size:Nat):Nat:=match AW ((V.drop at_).take 8) 0 8 with
  | some n=>if n≤size-8 then n else 0
  | none=>0
theorem Pg (V:Λ) (at_ size:Nat):Hm V at_ size≤size-8:=by
  unfold Hm
  split
  · split
    · assumption
    · exact Nat.zero_le _
  · exact Nat.zero_le _
def Hg (b:Λ):Nat→Nat→List (List PtM)→List (List PtM)×Nat
  | 0,u,acc=>(acc,u)
  | k+1,u,acc=>if (Cj (b.drop u)).2.2=0 then Hg b k (u+(Cj (b.drop u)).2.1.toNat) (acc++[(Cj (b.drop u)).1]) else (acc,u)
def EN (b:Λ):List (List PtM)×Nat:=Hg b (b.length+1) 0 []
def Fp (V:Λ) (at_ size:Nat):Λ:=(V.drop (at_+8)).take (Hm V at_ size)
def CA (V:Λ) (at_ size:Nat):List (List PtM)×Nat:=EN (Fp V at_ size)
theorem RQ {xs:Λ} {s:DS} {n:Nat} (h:(Br xs s n).2.no=false):s.no=false∧(Br xs s n).2.at_=s.at_+n∧s.at_+n≤xs.length:=by
  unfold Br at h ⊢
  split at h
  · cases h
  · next q=>
    rw [if_neg q]
    refine ⟨?_,rfl,ω⟩
    cases hs:s.no with
    | false=>rfl
    | true=>exact absurd (Or.inl hs) q
theorem Mh {xs:Λ} (h:(Cj xs).2.2=0):∃ n:Nat,(Cj xs).2.1=(n:Int)∧8≤n∧n≤xs.length:=by
  unfold Cj at h ⊢
  split at h
  · cases h
  · next q=>
    rw [if_neg q]
    cases hg:DK xs (Bq xs ⟨0,false⟩ 2).1 (Bq xs ⟨0,false⟩ 2).2 [] with
    | none=>rw [hg] at h;cases h
    | some r=>
      rw [hg] at h
      show ∃ n:Nat,(JC xs r.1 r.2).2.1=(n:Int)∧_
      change (JC xs r.1 r.2).2.2=0 at h
      unfold JC at h ⊢
      split at h
      · cases h
      · next q1=>
        rw [if_neg q1]
        split at h
        · cases h
        · next q2=>
          rw [if_neg q2]
          split at h
          · next q3=>
            rw [if_pos q3]
            have q4:(Br xs (Bq xs r.2 4).2 (BD (Bq xs r.2 4).2.at_)).2.no=false:=by
              cases hh:(Br xs (Bq xs r.2 4).2 (BD (Bq xs r.2 4).2.at_)).2.no with
              | false=>rfl
              | true=>exact absurd hh q2
            obtain ⟨h1,h2,h3⟩:=RQ q4
            obtain ⟨h4,h5,h6⟩:=RQ (xs:=xs) (s:=r.2) (n:=4) h1
            refine ⟨_,rfl,?_,?_⟩
            · rw [h2];have:(Bq xs r.2 4).2.at_=r.2.at_+4:=h5;unfold BD;omega
            · rw [h2];exact h3
          · cases h
def ZE (r:Ω×Nat×List PtM):Value:=.slice r.1 r.2.2.length r.2.1
structure RecsP (W:World) (B:Nat) (ra:Ω) (rc:Nat) (rs:List (Ω×Nat×List PtM)):Prop where
  o:Own W B 68 1 ra rs.length rc (rs.map ZE)
  i:∀ r∈rs,BG W B r.1 r.2.1 r.2.2
theorem RecsP.nil (W:World) (B:Nat):RecsP W B none 0 []:=⟨Own.nil _ _ _ _,fun r h=>by cases h⟩
theorem RecsP.mono {W W':World} {B:Nat} {ra:Ω} {rc:Nat} {rs:List (Ω×Nat×List PtM)} (h:RecsP W B ra rc rs) (b:Below W.heap.size W W'):RecsP W' B ra rc rs:=⟨Own.mono h.o b,fun r hr=>Own.mono (h.i r hr) b⟩
theorem RecsP.low {W:World} {B B':Nat} {ra:Ω} {rc:Nat} {rs:List (Ω×Nat×List PtM)} (h:RecsP W B ra rc rs) (hb:B'≤B):RecsP W B' ra rc rs:=⟨h.o.low hb,fun r hr=>(h.i r hr).low hb⟩
theorem RecsP.turns {W W':World} {B:Nat} {ra:Ω} {rc:Nat} {rs:List (Ω×Nat×List PtM)} {X:Nat→Prop} (h:RecsP W B ra rc rs) (t:Turns X W W') (hx:∀ k,X k→k<B):RecsP W' B ra rc rs:=⟨t.own h.o hx,fun r hr=>t.own (h.i r hr) hx⟩
theorem MO {W W':World} {B B':Nat} {e e':TypeId} {sz sz':Nat} {a a':Ω} {n n' c c':Nat} {cs cs':List Value} (h:Own W B e sz a n c cs) (h':Own W B' e' sz' a' n' c' cs') (hne:e≠e') (G:W.grownBy W' (Value.slice a' n' c').ownBlock):Own W' B e sz a n c cs:=
  h.staysO G (Tw h h' hne)
end
section
def Fs (xs:Λ):Nat→Nat→List PtM→Int ⊕ (List PtM×Nat)
  | 0,at_,acc=>.inr (acc,at_)
  | n+1,at_,acc=>
    match AW xs (at_:Int) 4,AW xs ((at_+4:Nat):Int) 2 with
    | some x,some k=>if 256<k then .inl 2 else if xs.length<at_+6+k then .inl 3 else Fs xs n (at_+6+k) (acc++[⟨(x:Int),(xs.drop (at_+6)).take k⟩])
    | some _,none=>.inl 3
    | none,_=>.inl 3
def Ht (xs:Λ) (L:List PtM) (at_:Nat):List PtM×Int×Int:=
  match AW xs (at_:Int) 4 with
  | none=>([],0,3)
  | some s=>if s≠CN (xs.take at_) then ([],0,4) else if xs.length<at_+4+BD (at_+4) then ([],0,3) else if ∀ x∈(xs.drop (at_+4)).take (BD (at_+4)),x=0 then (L,((at_+4+BD (at_+4):Nat):Int),0) else ([],0,2)
def Ah6 (xs:Λ):Int ⊕ (List PtM×Nat)→List PtM×Int×Int
  | .inl e=>([],0,e)
  | .inr r=>Ht xs r.1 r.2
def JB (xs:Λ):List PtM×Int×Int:=
  match AW xs 0 2 with
  | none=>([],0,3)
  | some n=>if 64<n then ([],0,2) else Ah6 xs (Fs xs n 2 [])
theorem EF {xs:Λ} {a k:Nat} (h:a+k≤xs.length) (hk:k=2∨k=4):AW xs (a:Int) (k:Int)=some (BV ((xs.drop a).take k)):=by
  have hl:((xs.drop a).take k).length=k:=by rw [List.length_take,List.length_drop];omega
  have hb:=LL ((xs.drop a).take k)
  rw [hl] at hb
  have hb2:BV ((xs.drop a).take k)≤9223372036854775807:=by rcases hk with rfl | rfl<;>omega
  have hw:FD (k:Int)=true:=by rcases hk with rfl | rfl<;>rfl
  unfold AW
  rw [if_pos ⟨hw,ω,ω⟩]
  simp only [Int.toNat_natCast]
  exact if_pos hb2
theorem Fj {xs:Λ} {a k:Nat} (h:xs.length<a+k):AW xs (a:Int) (k:Int)=none:=by
  unfold AW
  exact if_neg fun q=>ω
theorem LK {xs:Λ} {a k:Nat} (h:a+k≤xs.length) (hk:k=2∨k=4):Bq xs ⟨a,false⟩ k=(BV ((xs.drop a).take k),⟨a+k,false⟩):=by
  have hl:((xs.drop a).take k).length=k:=by rw [List.length_take,List.length_drop];omega
  have ht:Br xs ⟨a,false⟩ k=((xs.drop a).take k,⟨a+k,false⟩):=if_neg fun q=>by
    rcases q with q | q
    · cases q
    · change xs.length<a+k at q;omega
  have hg:=EF (xs:=(xs.drop a).take k) (a:=0) (k:=k) ω hk
  unfold Bq
  rw [ht]
  show ((AW ((xs.drop a).take k) ((0:Nat):Int) (k:Int)).getD 0,_)=_
  rw [hg]
  show (BV ((((xs.drop a).take k).drop 0).take k),_)=_
  rw [List.drop_zero,List.take_of_length_le ω]
theorem DR {xs:Λ} {s:DS} {k:Nat} (h:s.no=true∨xs.length<s.at_+k):Br xs s k=([],⟨s.at_,true⟩):=if_pos h
theorem EJ {xs:Λ} {s:DS} {k:Nat} (h:s.no=true∨xs.length<s.at_+k) (hk:k=2∨k=4):Bq xs s k=(0,⟨s.at_,true⟩):=by
  unfold Bq
  rw [DR h]
  show ((AW [] ((0:Nat):Int) (k:Int)).getD 0,_)=_
  rw [Fj (by show 0<0+k;omega)]
  rfl
theorem Mw (xs:Λ) (n:Nat) (a:Nat) (acc:List PtM):∃ acc',DK xs n ⟨a,true⟩ acc=some (acc',⟨a,true⟩):=by
  induction n generalizing acc with
  | zero=>exact ⟨acc,rfl⟩
  | succ n ih=>
    unfold DK
    rw [EJ (.inl rfl) (.inr rfl),EJ (.inl rfl) (.inl rfl)]
    rw [if_neg ω,DR (.inl rfl)]
    exact ih _
theorem Lc (xs:Λ) (n:Nat) (a:Nat) (acc:List PtM) :
    match Fs xs n a acc with
    | .inl e=>(e=2∧DK xs n ⟨a,false⟩ acc=none)∨(e=3∧∃ acc' a',DK xs n ⟨a,false⟩ acc=some (acc',⟨a',true⟩))
    | .inr r=>DK xs n ⟨a,false⟩ acc=some (r.1,⟨r.2,false⟩):=by
  induction n generalizing a acc with
  | zero=>exact rfl
  | succ n ih=>
    unfold Fs DK
    by_cases h1:a+4≤xs.length
    · have g1:=EF h1 (.inr rfl)
      change AW xs (a:Int) 4=_ at g1
      rw [g1,LK h1 (.inr rfl)]
      dsimp only
      by_cases h2:a+4+2≤xs.length
      · have g2:=EF h2 (.inl rfl)
        change AW xs ((a+4:Nat):Int) 2=_ at g2
        rw [g2,LK h2 (.inl rfl)]
        dsimp only
        by_cases h3:256<BV ((xs.drop (a+4)).take 2)
        · rw [if_pos h3,if_pos h3];exact .inl ⟨rfl,rfl⟩
        · rw [if_neg h3,if_neg h3]
          by_cases h4:xs.length<a+6+BV ((xs.drop (a+4)).take 2)
          · rw [if_pos h4,DR (.inr h4)]
            obtain ⟨acc',e⟩:=Mw xs n (a+4+2) (acc++[⟨((BV ((xs.drop a).take 4):Nat):Int),[]⟩])
            exact .inr ⟨rfl,acc',_,e⟩
          · rw [if_neg h4]
            have ht:Br xs ⟨a+4+2,false⟩ (BV ((xs.drop (a+4)).take 2))=((xs.drop (a+6)).take (BV ((xs.drop (a+4)).take 2)),⟨a+6+BV ((xs.drop (a+4)).take 2),false⟩):=if_neg fun q=>by
              rcases q with q | q
              · cases q
              · exact h4 q
            rw [ht]
            exact ih _ _
      · have g2:=Fj (xs:=xs) (a:=a+4) (k:=2) ω
        change AW xs ((a+4:Nat):Int) 2=_ at g2
        rw [g2,EJ (.inr (ω:xs.length<a+4+2)) (.inl rfl)]
        dsimp only
        rw [if_neg ω,DR (.inl rfl)]
        obtain ⟨acc',e⟩:=Mw xs n (a+4) (acc++[⟨((BV ((xs.drop a).take 4):Nat):Int),[]⟩])
        exact .inr ⟨rfl,acc',_,e⟩
    · have g1:=Fj (xs:=xs) (a:=a) (k:=4) ω
      change AW xs (a:Int) 4=_ at g1
      rw [g1,EJ (.inr (ω:xs.length<a+4)) (.inr rfl),EJ (.inl rfl) (.inl rfl)]
      dsimp only
      rw [if_neg ω,DR (.inl rfl)]
      obtain ⟨acc',e⟩:=Mw xs n a (acc++[⟨((0:Nat):Int),[]⟩])
      exact .inr ⟨rfl,acc',_,e⟩
theorem UH (xs:Λ) (L:List PtM) (a:Nat):JC xs L ⟨a,true⟩=([],0,3):=by
  unfold JC
  rw [EJ (.inl rfl) (.inr rfl),if_neg (by rintro ⟨q,_⟩;cases q),DR (.inl rfl)]
  exact if_pos rfl
theorem VP (xs:Λ) (L:List PtM) (a:Nat):JC xs L ⟨a,false⟩=Ht xs L a:=by
  unfold Ht
  by_cases h1:a+4≤xs.length
  · have g1:=EF h1 (.inr rfl)
    change AW xs (a:Int) 4=_ at g1
    rw [g1]
    unfold JC
    rw [LK h1 (.inr rfl)]
    dsimp only
    by_cases h2:BV ((xs.drop a).take 4)≠CN (xs.take a)
    · rw [if_pos ⟨rfl,h2⟩,if_pos h2]
    · rw [if_neg (fun q=>h2 q.2),if_neg h2]
      by_cases h3:xs.length<a+4+BD (a+4)
      · rw [DR (.inr h3),if_pos rfl,if_pos h3]
      · have ht:Br xs ⟨a+4,false⟩ (BD (a+4))=((xs.drop (a+4)).take (BD (a+4)),⟨a+4+BD (a+4),false⟩):=if_neg fun q=>by
          rcases q with q | q
          · cases q
          · exact h3 q
        rw [ht,if_neg (fun q=>by cases q),if_neg h3]
  · have g1:=Fj (xs:=xs) (a:=a) (k:=4) ω
    change AW xs (a:Int) 4=_ at g1
    rw [g1]
    unfold JC
    rw [EJ (.inr (ω:xs.length<a+4)) (.inr rfl),if_neg (by rintro ⟨q,_⟩;cases q),DR (.inl rfl)]
    exact if_pos rfl
theorem Is (xs:Λ):Cj xs=JB xs:=by
  unfold Cj JB
  by_cases h1:0+2≤xs.length
  · have g1:=EF h1 (.inl rfl)
    change AW xs 0 2=_ at g1
    rw [g1,LK h1 (.inl rfl)]
    dsimp only
    by_cases h2:64<BV ((xs.drop 0).take 2)
    · rw [if_pos h2,if_pos h2]
    · rw [if_neg h2,if_neg h2]
      have h3:=Lc xs (BV ((xs.drop 0).take 2)) 2 []
      generalize Fs xs (BV ((xs.drop 0).take 2)) 2 []=R at h3 ⊢
      cases R with
      | inl e=>
        rcases h3 with ⟨rfl,e2⟩ | ⟨rfl,acc',a',e2⟩
        · show Yo xs (DK xs _ ⟨2,false⟩ [])=_
          rw [e2];rfl
        · show Yo xs (DK xs _ ⟨2,false⟩ [])=_
          rw [e2];exact UH _ _ _
      | inr r=>
        show Yo xs (DK xs _ ⟨2,false⟩ [])=_
        rw [h3];exact VP _ _ _
  · have g1:=Fj (xs:=xs) (a:=0) (k:=2) ω
    change AW xs 0 2=_ at g1
    rw [g1,EJ (.inr (ω:xs.length<0+2)) (.inl rfl),if_neg ω]
    exact UH _ _ _
theorem GN {xs ys:Λ} {n a k:Nat} (h:xs.take n=ys.take n) (hx:n≤xs.length) (hy:n≤ys.length) (hk:a+k≤n) (h2:k=2∨k=4):AW ys (a:Int) (k:Int)=AW xs (a:Int) (k:Int):=by
  rw [EF ω h2,EF ω h2]
  have e:∀ zs:Λ,(zs.drop a).take k=((zs.take n).drop a).take k:=fun zs=>by
    rw [List.drop_take,List.take_take,Nat.min_eq_left ω]
  rw [e xs,e ys,h]
theorem RE {xs ys:Λ} {n a k:Nat} (h:xs.take n=ys.take n) (hk:a+k≤n):(ys.drop a).take k=(xs.drop a).take k:=by
  have e:∀ zs:Λ,(zs.drop a).take k=((zs.take n).drop a).take k:=fun zs=>by
    rw [List.drop_take,List.take_take,Nat.min_eq_left ω]
  rw [e xs,e ys,h]
theorem Ue {xs ys:Λ} {n a:Nat} (h:xs.take n=ys.take n) (hk:a≤n):ys.take a=xs.take a:=by
  have e:∀ zs:Λ,zs.take a=(zs.take n).take a:=fun zs=>by rw [List.take_take,Nat.min_eq_left hk]
  rw [e xs,e ys,h]
theorem Qt {xs:Λ} {m a:Nat} {acc:List PtM} {r:List PtM×Nat} (h:Fs xs m a acc=.inr r):a≤r.2:=by
  induction m generalizing a acc with
  | zero=>cases h;exact Nat.le_refl _
  | succ m ih=>
    unfold Fs at h
    split at h
    · split at h
      · cases h
      · split at h
        · cases h
        · have:=ih h;omega
    · cases h
    · cases h
theorem Qu {xs ys:Λ} {n m a:Nat} {acc:List PtM} {r:List PtM×Nat} (h:xs.take n=ys.take n) (hx:n≤xs.length) (hy:n≤ys.length) (hr:Fs xs m a acc=.inr r) (hn:r.2≤n):Fs ys m a acc=.inr r:=by
  induction m generalizing a acc with
  | zero=>exact hr
  | succ m ih=>
    unfold Fs at hr ⊢
    split at hr
    · next x k g1 g2=>
      split at hr
      · cases hr
      · next q1=>
        split at hr
        · cases hr
        · next q2=>
          have ha:=Qt hr
          have e1:=GN (a:=a) (k:=4) h hx hy ω (.inr rfl)
          have e2:=GN (a:=a+4) (k:=2) h hx hy ω (.inl rfl)
          change AW ys (a:Int) 4=AW xs (a:Int) 4 at e1
          change AW ys ((a+4:Nat):Int) 2=AW xs ((a+4:Nat):Int) 2 at e2
          rw [e1,e2,g1,g2]
          dsimp only
          rw [if_neg q1,if_neg ω,RE h ω]
          exact ih hr
    · cases hr
    · cases hr
theorem Sw {xs ys:Λ} {L:List PtM} {n:Nat} (hd:JB xs=(L,(n:Int),0)) (h:xs.take n=ys.take n) (hx:n≤xs.length) (hy:n≤ys.length):JB ys=(L,(n:Int),0):=by
  unfold JB at hd ⊢
  cases g0:AW xs 0 2 with
  | none=>rw [g0] at hd;cases hd
  | some m=>
    rw [g0] at hd
    dsimp only at hd
    split at hd
    · cases hd
    · next q0=>
      cases hg:Fs xs m 2 [] with
      | inl e=>
        rw [hg] at hd
        change (([]:List PtM),(0:Int),e)=_ at hd
        have e0:e=0:=congrArg (fun x=>x.2.2) hd
        exfalso
        have:=Lc xs m 2 []
        rw [hg] at this
        rcases this with ⟨e2,_⟩ | ⟨e3,_⟩<;>omega
      | inr r=>
        rw [hg] at hd
        change Ht xs r.1 r.2=_ at hd
        have hat:=Qt hg
        have hd2:=hd
        unfold Ht at hd2
        cases g1:AW xs (r.2:Int) 4 with
        | none=>rw [g1] at hd2;cases hd2
        | some s=>
          rw [g1] at hd2
          dsimp only at hd2
          split at hd2
          · cases hd2
          · next q1=>
            split at hd2
            · cases hd2
            · next q2=>
              split at hd2
              · next q3=>
                have hn:r.2+4+BD (r.2+4)=n:=by
                  have:((r.2+4+BD (r.2+4):Nat):Int)=(n:Int):=congrArg (fun x=>x.2.1) hd2
                  omega
                have hL:r.1=L:=congrArg (fun x=>x.1) hd2
                have e0:=GN (a:=0) (k:=2) h hx hy ω (.inl rfl)
                change AW ys 0 2=AW xs 0 2 at e0
                have e1:=GN (a:=r.2) (k:=4) h hx hy ω (.inr rfl)
                change AW ys (r.2:Int) 4=AW xs (r.2:Int) 4 at e1
                rw [e0,g0]
                dsimp only
                rw [if_neg q0,Qu h hx hy hg ω]
                show Ht ys r.1 r.2=_
                unfold Ht
                rw [e1,g1]
                dsimp only
                rw [Ue h ω,if_neg q1,if_neg ω,RE h ω,if_pos q3,hn,hL]
              · cases hd2
end
section
theorem QN (k n:Nat) (h:n<256 ^ k):BV (le k n)=n:=by
  induction k generalizing n with
  | zero=>simp [le,BV] at *;omega
  | succ k ih=>
    have h2:n / 256<256 ^ k:=by
      rw [Nat.div_lt_iff_lt_mul ω];rwa [Nat.pow_succ] at h
    simp [le,BV,ih _ h2]
    omega
theorem TY {A B C:Λ} {a k:Nat} (ha:A.length=a) (hk:B.length=k):((A++(B++C)).drop a).take k=B:=by
  subst ha hk
  rw [List.drop_left,List.take_left]
theorem Iy {A C:Λ} {a k v:Nat} (ha:A.length=a) (hk:k=2∨k=4) (hv:v<256 ^ k):AW (A++(le k v++C)) (a:Int) (k:Int)=some v:=by
  rw [EF (by rw [List.length_append,List.length_append,Az];omega) hk,TY ha (Az k v),QN k v hv]
def Dc (p:PtM):Λ:=le 4 p.at_.toNat++(le 2 p.d.length++p.d)
theorem QP {p:PtM} (h:KJ p=true):0≤p.at_∧p.at_<4294967296∧BC p.at_ 4=true∧p.d.length≤256:=by
  unfold KJ at h
  rw [Bool.and_eq_true,decide_eq_true_iff] at h
  obtain ⟨h1,h2⟩:=h
  have h3:=h1
  unfold BC at h3
  have h0:=(Hw h1).1
  refine ⟨h0,?_,h1,h2⟩
  simp at h3
  omega
theorem Yg {p:PtM} (h:KJ p=true) (b:Λ):Fq b p=b++Dc p:=by
  obtain ⟨h0,h1,h2,h3⟩:=QP h
  have f2:BC (p.d.length:Int) 2=true:=by unfold BC;simp;omega
  unfold Fq Dc
  rw [show AB b p.at_ 4=b++le 4 p.at_.toNat from if_pos h2]
  rw [show AB (b++le 4 p.at_.toNat) (p.d.length:Int) 2=b++le 4 p.at_.toNat++le 2 p.d.length from if_pos f2]
  simp only [List.append_assoc]
theorem Sy (L:List PtM) (b:Λ) (h:L.all KJ=true):L.foldl Fq b=b++L.flatMap Dc:=by
  induction L generalizing b with
  | nil=>simp
  | cons p L ih=>
    rw [List.all_cons,Bool.and_eq_true] at h
    rw [List.foldl_cons,ih _ h.2,Yg h.1,List.flatMap_cons,List.append_assoc]
theorem UE {L:List PtM} (h:CX L=true):DF L=le 2 L.length++L.flatMap Dc:=by
  unfold CX at h
  rw [Bool.and_eq_true,decide_eq_true_iff] at h
  have f2:BC (L.length:Int) 2=true:=by unfold BC;simp;omega
  unfold DF
  rw [Sy L _ h.2,show AB [] (L.length:Int) 2=[]++le 2 L.length from if_pos f2,List.nil_append]
theorem Kz (p:PtM):(Dc p).length=6+p.d.length:=by unfold Dc;rw [List.length_append,List.length_append,Az,Az];omega
theorem We (L:List PtM) (A Z:Λ) (acc:List PtM) (h:L.all KJ=true):Fs (A++(L.flatMap Dc++Z)) L.length A.length acc=.inr (acc++L,A.length+(L.flatMap Dc).length):=by
  induction L generalizing A acc with
  | nil=>simp [Fs]
  | cons p L ih=>
    rw [List.all_cons,Bool.and_eq_true] at h
    obtain ⟨h0,h1,h2,h3⟩:=QP h.1
    have e:A++((p::L).flatMap Dc++Z)=A++(le 4 p.at_.toNat++(le 2 p.d.length++(p.d++(L.flatMap Dc++Z)))):=by
      rw [List.flatMap_cons];unfold Dc;simp only [List.append_assoc]
    have g1:AW (A++((p::L).flatMap Dc++Z)) (A.length:Int) 4=some p.at_.toNat:=by
      rw [e];exact Iy rfl (.inr rfl) ω
    have g2:AW (A++((p::L).flatMap Dc++Z)) ((A.length+4:Nat):Int) 2=some p.d.length:=by
      rw [e,← List.append_assoc]
      exact Iy (by rw [List.length_append,Az]) (.inl rfl) ω
    have g3:((A++((p::L).flatMap Dc++Z)).drop (A.length+6)).take p.d.length=p.d:=by
      rw [e,← List.append_assoc,← List.append_assoc]
      exact TY (by rw [List.length_append,List.length_append,Az,Az]) rfl
    have hl:¬ (A++((p::L).flatMap Dc++Z)).length<A.length+6+p.d.length:=by
      rw [List.length_append,List.flatMap_cons,List.length_append,List.length_append,Kz];omega
    rw [List.length_cons]
    unfold Fs
    rw [g1,g2]
    dsimp only
    rw [if_neg ω,if_neg hl,g3]
    have hp:(⟨((p.at_.toNat:Nat):Int),p.d⟩:PtM)=p:=by
      cases p with | mk x d=>simp only [PtM.mk.injEq,and_true];exact Int.toNat_of_nonneg h0
    rw [hp]
    have h5:=ih (A++Dc p) (acc++[p]) h.2
    rw [show (A++Dc p).length=A.length+6+p.d.length by rw [List.length_append,Kz];omega] at h5
    rw [show A++((p::L).flatMap Dc++Z)=A++Dc p++(L.flatMap Dc++Z) by rw [List.flatMap_cons];simp only [List.append_assoc],h5,List.flatMap_cons,List.length_append,Kz]
    rw [List.append_assoc,List.singleton_append]
    congr 2
    omega
theorem Zz (l:Λ):AB l (CN l:Nat) 4=l++le 4 (CN l):=by
  have:=EE l
  have f:BC (CN l:Int) 4=true:=by unfold BC;simp;omega
  exact if_pos f
theorem UG {L:List PtM} (h:CX L=true):Ct L=DF L++(le 4 (CN (DF L))++List.replicate (BD ((DF L).length+4)) 0):=by
  unfold Ct
  rw [if_pos h]
  unfold Rv Lo
  rw [Zz,List.length_append,Az,List.append_assoc]
theorem Oc {L:List PtM} (h:CX L=true):(Ct L).length=(DF L).length+4+BD ((DF L).length+4):=by
  rw [UG h,List.length_append,List.length_append,Az,List.length_replicate];omega
theorem Yc {L:List PtM} (h:CX L=true) (rest:Λ):JB (Ct L++rest)=(L,((Ct L).length:Int),0):=by
  have h':=h
  unfold CX at h'
  rw [Bool.and_eq_true,decide_eq_true_iff] at h'
  obtain ⟨Z,hZ⟩:∃ Z,Z=le 4 (CN (DF L))++(List.replicate (BD ((DF L).length+4)) 0++rest):=⟨_,rfl⟩
  have e:Ct L++rest=DF L++Z:=by rw [UG h,hZ];simp only [List.append_assoc]
  have e2:Ct L++rest=[]++(le 2 L.length++(L.flatMap Dc++Z)):=by rw [e,UE h,List.nil_append,List.append_assoc]
  have e3:Ct L++rest=le 2 L.length++(L.flatMap Dc++Z):=e2
  have g0:AW (Ct L++rest) 0 2=some L.length:=by
    rw [e2];exact Iy (a:=0) rfl (.inl rfl) ω
  have hB:(DF L).length=2+(L.flatMap Dc).length:=by rw [UE h,List.length_append,Az]
  have g1:=We L (le 2 L.length) Z [] h'.2
  rw [Az,← e3,← hB,List.nil_append] at g1
  have gs:AW (Ct L++rest) ((DF L).length:Int) 4=some (CN (DF L)):=by
    rw [e,hZ];exact Iy rfl (.inr rfl) (by have:=EE (DF L);omega)
  have gt:(Ct L++rest).take (DF L).length=DF L:=by rw [e,List.take_left]
  have gp:((Ct L++rest).drop ((DF L).length+4)).take (BD ((DF L).length+4))=List.replicate (BD ((DF L).length+4)) 0:=by
    rw [e,hZ,← List.append_assoc]
    exact TY (by rw [List.length_append,Az]) List.length_replicate
  unfold JB
  rw [g0]
  dsimp only
  rw [if_neg ω,g1]
  show Ht _ L (DF L).length=_
  unfold Ht
  rw [gs]
  dsimp only
  rw [gt,if_neg (fun q=>q rfl),if_neg (by rw [List.length_append,Oc h];omega),gp,if_pos (fun x hx=>List.eq_of_mem_replicate hx),Oc h]
theorem XZ {L:List PtM} (h:CX L=true) (rest:Λ):Cj (Ct L++rest)=(L,((Ct L).length:Int),0):=by rw [Is,Yc h]
end
end Go.Proofs.YtbfgjinpchbajaaGreatDoor
