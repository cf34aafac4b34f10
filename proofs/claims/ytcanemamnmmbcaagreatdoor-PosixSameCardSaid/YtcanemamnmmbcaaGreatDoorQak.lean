/- Parts of the proof. -/
import Derived.RangeFuncFrom
import Derived.RangeFuncGives
import Derived.Sort.MapsRangeIn
import Derived.OwnWalkIn
import Derived.TacticsInMore
import Derived.LoopNIn
import Derived.LoopIn
import Derived.Ground.SlsfProg
import Derived.Shelf.SlSortCmp.NoneTotal
import Derived.Test.YtcanemamnmmbcaaGreatDoorQaj
namespace Go.Proofs.YtcanemamnmmbcaaGreatDoor
open Go.RowKit
set_option linter.unusedSimpArgs false
set_option linter.unusedVariables false
set_option linter.unusedSectionVars false
set_option maxRecDepth 100000
set_option maxHeartbeats 8000000
section
section
variable {F:FsM} {A:AdM} {c c1 c2 c':Cp} {k g b p:Nat} {i:Int}
structure Ext1 (F:FsM) (c c':Cp):Prop where
  K:∃ X,c'.K=c.K++X
  ad:∀ p,p<c.K.length→c'.A.ad p=c.A.ad p
  mb:∀ p,p<c.K.length→c'.A.mb p=c.A.mb p
  E:∀ p,p<c.K.length→∀ s,Aj c'.E p s=Aj c.E p s
  done:∀ p,c.K.length<p→p<c'.K.length→Done F c' p
theorem Ext1.new (F:FsM) (c:Cp) (k g b:Nat) (i:Int):Ext1 F c (c.new k g b i) where
  K:=⟨[k],rfl⟩
  ad p hp:=if_neg ω
  mb p hp:=if_neg ω
  E p hp s:=rfl
  done p h1 h2:=by rw [c.new_len] at h2;omega
theorem Ext1.step (h:Ext1 F c c1) (h2:Ext F c1 c2) (hq:c.K.length<c1.K.length):Ext1 F c c2 where
  K:=by obtain ⟨X,e⟩:=h.K;obtain ⟨Y,e2⟩:=h2.K;exact ⟨X++Y,by rw [e2,e,List.append_assoc]⟩
  ad p hp:=(h2.ad p ω).trans (h.ad p hp)
  mb p hp:=(h2.mb p ω).trans (h.mb p hp)
  E p hp s:=(h2.E p ω s).trans (h.E p hp s)
  done p h3 h4:=by
    by_cases hp:p<c1.K.length
    · exact (h.done p h3 hp).ext h2 hp
    · exact h2.done p ω h4
theorem Ext1.put (h:Ext1 F c c2) {s:ByteArray} {m:Nat} (hn:Aj c2.E c.K.length s=none):Ext1 F c (c2.put c.K.length s m) where
  K:=h.K
  ad:=h.ad
  mb:=h.mb
  E p hp t:=by rw [c2.put_look hn,if_neg ω];exact h.E p hp t
  done p h3 h4:=by
    obtain ⟨d1,d2⟩:=h.done p h3 h4
    exact ⟨fun t m ht=>by
      obtain ⟨h5,h6⟩:=d1 t m ht
      exact ⟨h5,by rw [c2.put_look hn,if_neg ω];exact h6⟩,fun t ht=>by rw [c2.put_look hn,if_neg ω];exact d2 t ht⟩
def Come (F:FsM) (k q:Nat) (c:Cp) (left:ByteArray→Bool):Prop:=∀ s:ByteArray,s.size≤maxLen →
  (left s=true→Aj c.E q s=none)∧(Aj F.E k s=none→Aj c.E q s=none)∧(left s=false→∀ m,Aj F.E k s=some m→m∈c.K∧Aj c.E q s=some (c.K.idxOf m))
theorem Come.step {q:Nat} {left:ByteArray→Bool} (h:Come F k q c1 left) (e:Ext F c1 c2) (hq:q<c1.K.length):Come F k q c2 left:=fun s hs=>by
  obtain ⟨h1,h2,h3⟩:=h s hs
  rw [e.E q hq]
  exact ⟨h1,h2,fun hl m hm=>by
    obtain ⟨h4,h5⟩:=h3 hl m hm
    exact ⟨e.mem h4,by rw [h5,e.idx h4]⟩⟩
theorem Come.put {q:Nat} {left:ByteArray→Bool} (h:Come F k q c2 left) {t:ByteArray} (ht:t.size≤maxLen) (hl:left t=true) {m:Nat} (hm:Aj F.E k t=some m) (hk:m∈c2.K):Come F k q (c2.put q t (c2.K.idxOf m)) (fun j=>left j&&!decide (j=t)):=fun s hs=>by
  have hn:=(h t ht).1 hl
  obtain ⟨h1,h2,h3⟩:=h s hs
  rw [c2.put_look hn]
  by_cases e:s=t
  · subst e
    refine ⟨fun q=>(by simp at q),fun q=>(by rw [hm] at q;cases q),fun _ m' hm'=>?_⟩
    rw [hm] at hm';cases hm'
    exact ⟨hk,if_pos ⟨rfl,rfl⟩⟩
  · rw [if_neg (fun q=>e q.2)]
    refine ⟨fun q=>h1 (by simpa [e] using q),h2,fun q m' hm'=>h3 (by simpa [e] using q) m' hm'⟩
theorem Come.start (hc:CpOk F A c) (q:Nat) (hn:∀ s,Aj c.E q s=none) (left:ByteArray→Bool) (hl:∀ s,left s=(Aj F.E k s).isSome):Come F k q c left:=fun s hs=>
  ⟨fun _=>hn s,fun _=>hn s,fun h m hm=>by rw [hl,hm] at h;cases h⟩
theorem Come.done {q:Nat} {left:ByteArray→Bool} {δ:Nat→Int} (h:Come F k q c left) (hc:CpOk F A c) (hF:FsC F δ) (ho:c.og q=k) (hl:∀ s:ByteArray,s.size≤maxLen→left s=false):Done F c q:=by
  constructor
  · intro s m hm
    rw [ho] at hm
    obtain ⟨x,hx,_,e,_⟩:=BZ hm
    have hs:s.size≤maxLen:=CU (by rw [← e];exact (hF.e x hx).2.2)
    exact (h s hs).2.2 (hl s hs) m hm
  · intro s hn
    rw [ho] at hn
    cases hq:Aj c.E q s with
    | none=>rfl
    | some m=>
      have hs:s.size≤maxLen:=CU (hc.mayN hF hq)
      rw [(h s hs).2.1 hn] at hq;cases hq
end
section
variable {F:FsM} {A:AdM} {c:Cp} {T:List Nat} {w:World} {k cb:Nat}
theorem NdO.ld (h:NdO F A T w) (hk:k<F.N.length) {t:TypeId} {d:TypeDesc} (hu:Tryz.prog.underlying t=some d) (hr:d.isRow=false) {j:Nat} {v:Value} (hv:(ndV F A k)[j]? = some v):(Instr.loadAt t (.pointer (some ⟨A.ad k,j,none⟩))).run Tryz.prog w=.ok v w:=ldB hu hr (h.nd k hk) hv
end
section
variable {Q:Exit→Act→World→Prop} {o:Oper} {a:Act} {w w':World} {N:Nat} {l:List (Nat×Value)} {K:Act→World→Prop} {cs:List Ch} {α:Type} {av:α→Value} {L:List (Nat×α)}
theorem TH (h:Kn N l a) (hd:o.dst=none) {T kt el E:TypeId} {m x y:Operand} (ho:o.op=.mapUpdate T m x y) (hS:Sep w cs) (i:Nat) {b:Nat} (hi:cs[i]? = some (pmC av b L)) (hm:opv l m=some (.map (some b))) {g:Nat} {u:α} (hx:opv l x=some (pV g)) (hy:opv l y=some (av u))
    (ht:Tryz.prog.underlying T=some (.map kt el)) (hk:Tryz.prog.underlying kt=some (.pointer E)) (hT:Kc w kt L g) (hn:Fb L g=none) {cs':List Ch} (hcs:cs.set i (pmC av b (L++[(g,u)]))=cs') (k:∀ a' w',Kn N l a'→Sep w' cs'→K a' w'):Oper.wp Tryz.prog o a w K Q:=by
  obtain ⟨w',hr,hm',t⟩:=(hS.get i hi:PMap av w b L).put ht hk hT hn u
  refine Hz (w':=w') h hd ?_ fun a' h'=>k a' _ h' (by rw [← hcs];exact hS.upd i hi t (fun k _ e=>e) hm' (fun k e=>.inl e))
  unfold execOp;rw [ho];simp only [h.op hm,h.op hx,h.op hy]
  rw [Sem.run_bind,hr];rfl
theorem Tb (h:Kn N l a) {d:Nat} (hd:o.dst=some d) (hdN:decide (d<N)=true) (hf:l.all (fun x=>!(x.1 == d))=true) {T:TypeId} (ho:o.op=.makeMap T none) (hS:Sep w cs)
    (k:∀ a' b w',Kn N ((d,.map (some b))::l) a'→Sep w' (pmC av b []::cs)→K a' w'):Oper.wp Tryz.prog o a w K Q:=
  Cr h hd hdN hf (v:=.map (some w.heap.size)) (w':=w.alloc (.map #[] 0)) (by unfold execOp;rw [ho];rfl) fun a' h'=>k a' _ _ h' (hS.push (Mw _ _) (PMap.new w) (fun k e=>by cases e;exact Nat.le_refl _))
def niC (r:Nat):Ch where
  F x:=x=r
  P w:=w.heap[r]? = some (.mapIter none 0 #[] 0)
  keep h t:=(t.block r (Array.getElem?_eq_some_iff.1 h).1 (fun q=>q rfl)).trans h
  lt h x hx:=hx ▸ (Array.getElem?_eq_some_iff.1 h).1
end
end
section
end
section
def cpE:Cp:=⟨[],[],⟨fun _=>0,fun _=>0,fun _=>0,0,0⟩⟩
structure ComeO (F:FsM) (c:Cp) (g2:Int×Int→Option (Option Nat)) (left:Int×Int→Bool) (n:Nat):Prop where
 a:∀ p,wfD p→left p=true→g2 p=none
 b:∀ p,wfD p→Az F.O p.1 p.2=none→g2 p=none
 c:∀ p,wfD p→left p=false→∀ m,Az F.O p.1 p.2=some m→m∈c.K∧g2 p=some (some (c.A.ad (c.K.idxOf m)))
 v:∃ V:List (Int×Int),V.Nodup∧V.length=n∧∀ p∈V,left p=false∧p∈F.O.map (fun o=>(o.cl,o.fd))
theorem ComeO.start (F:FsM) (A:AdM) (c:Cp):ComeO F c (fun _=>none) (fun i=>(opG F A i).isSome) 0 where
 a _ _ _:=rfl
 b _ _ _:=rfl
 c p _ hl m hm:=by unfold opG elA at hl;rw [hm] at hl;cases hl
 v:=⟨[],List.nodup_nil,rfl,fun p h=>(by cases h)⟩
theorem ComeO.step {F:FsM} {c c':Cp} {g2:Int×Int→Option (Option Nat)} {left:Int×Int→Bool} {n:Nat} (h:ComeO F c g2 left n) (e:Ext F c c'):ComeO F c' g2 left n where
 a:=h.a
 b:=h.b
 c p hp hl m hm:=by
  obtain ⟨h1,h2⟩:=h.c p hp hl m hm
  exact ⟨e.mem h1,by rw [h2,e.idx h1,e.ad _ (c.og_idx h1).1]⟩
 v:=h.v
theorem ComeO.put {F:FsM} {c:Cp} {g2:Int×Int→Option (Option Nat)} {left:Int×Int→Bool} {n:Nat} (h:ComeO F c g2 left n) {p:Int×Int} (hp:wfD p) (hl:left p=true) {m:Nat} (hm:Az F.O p.1 p.2=some m) (hk:m∈c.K):ComeO F c (Jd g2 p (some (some (c.A.ad (c.K.idxOf m))))) (fun j=>left j&&!decide (j=p)) (n+1) where
 a q hq hlq:=by
  by_cases e:q=p
  ·subst e;simp at hlq
  ·rw [GL _ _ e];exact h.a q hq (by simpa [e] using hlq)
 b q hq hn:=by
  by_cases e:q=p
  ·subst e;rw [hm] at hn;cases hn
  ·rw [GL _ _ e];exact h.b q hq hn
 c q hq hlq m' hm':=by
  by_cases e:q=p
  ·subst e;rw [hm] at hm';cases hm';exact ⟨hk,GA _ _ _⟩
  ·rw [GL _ _ e];exact h.c q hq (by simpa [e] using hlq) m' hm'
 v:=by
  obtain ⟨V,h1,h2,h3⟩:=h.v
  refine ⟨p::V,List.nodup_cons.2 ⟨fun hv=>(by rw [(h3 p hv).1] at hl;cases hl),h1⟩,by rw [List.length_cons,h2],fun q hq=>?_⟩
  rcases List.mem_cons.1 hq with rfl | hq
  ·obtain ⟨o,ho,e1,e2,_⟩:=Gr hm
   exact ⟨by simp,List.mem_map.2 ⟨o,ho,Prod.ext e1 e2⟩⟩
  ·exact ⟨by rw [(h3 q hq).1];rfl,(h3 q hq).2⟩
end
section
structure Iso (R:Nat→Nat→Prop) (F G:FsM):Prop where
  root:R 0 0
  l:∀ {i j j'},R i j→R i j'→j=j'
  r:∀ {i i' j},R i j→R i' j→i=i'
  lt:∀ {i j},R i j→i<F.N.length∧j<G.N.length
  nd:∀ {i j},R i j→F.at i=G.at j
  e:∀ {i j},R i j→∀ s,(∀ m,Aj F.E i s=some m→∃ m',Aj G.E j s=some m'∧R m m')∧(Aj F.E i s=none→Aj G.E j s=none)
  o:∀ c fd,(∀ m,Az F.O c fd=some m→∃ m',Az G.O c fd=some m'∧R m m')∧(Az F.O c fd=none→Az G.O c fd=none)
def Un (F:FsM) (c:Cp):FsM:=⟨c.K.map F.at,c.E,F.O.map fun o=>⟨o.cl,o.fd,c.K.idxOf o.nd⟩⟩
def Uo (c:Cp) (i j:Nat):Prop:=i∈c.K∧c.K.idxOf i=j
theorem wfO {F:FsM} {δ:Nat→Int} (hF:FsC F δ) {cl fd:Int} {m:Nat} (h:Az F.O cl fd=some m):wfD (cl,fd):=by
  obtain ⟨x,hx,rfl,rfl,_⟩:=Gr h
  have:=hF.o x hx
  exact ⟨wf_i64 ω ω,wf_i64 ω ω⟩
section
variable {F:FsM} {A:AdM} {c:Cp} {w:World} {n:Nat} {g2:Int×Int→Option (Option Nat)} {left:Int×Int→Bool} {δ:Nat→Int}
end
end
section
def Uv (F:FsM) (p:FsM×RepM):Prop:=p.2.e≠0→p.1=F∧p.2=Av p.2.e
section
variable {F:FsM}
end
end
section
structure RowM where
  dp:Int
  nm:ByteArray
  cl:Int
  fd:Int
  fl:Int
  dt:List UInt8
abbrev De:RowM:=⟨0,Ad [],0,0,0,[]⟩
abbrev Fu (r:RowM) (s:ByteArray):RowM:=⟨r.dp+1,s,0,0,0,[]⟩
abbrev Ig (p:Int×Int):RowM:=⟨0,Ad [],p.1,p.2,0,[]⟩
abbrev Rows:=List RowM×List Nat
def Ck (F:FsM) (V:List Nat) (k:Nat):List Nat:=if F.dir k=true then V else if k∈V then V else V++[k]
def Ex (F:FsM) (r:RowM) (k:Nat) (V:List Nat):RowM:=if F.dir k=true then r else { r with fl:=((V.idxOf k+1:Nat):Int),dt:=(F.at k).data }
def Cu (F:FsM) (r:RowM) (k:Nat) (s:Rows):Rows:=(s.1++[Ex F r k (Ck F s.2 k)],Ck F s.2 k)
def Au (F:FsM) (k:Nat) (s:ByteArray):Nat:=(Aj F.E k s).getD 0
def Dv (F:FsM):Nat→RowM→Nat→Rows→Rows
  | 0,r,k,s=>Cu F r k s
  | n+1,r,k,s=>(Aw (Al F.E k)).foldl (fun t x=>Dv F n (Fu r x) (Au F k x) t) (Cu F r k s)
theorem LB {F:FsM} {k:Nat} (h:F.dir k=true) (r:RowM) (s:Rows):Cu F r k s=(s.1++[r],s.2):=by
  unfold Cu Ex Ck
  rw [if_pos h,if_pos h]
theorem Pw {F:FsM} {k:Nat} (h:F.dir k=false) (r:RowM) (s:Rows) (hm:k∈s.2):Cu F r k s=(s.1++[⟨r.dp,r.nm,r.cl,r.fd,((s.2.idxOf k+1:Nat):Int),(F.at k).data⟩],s.2):=by
  unfold Cu Ex Ck
  rw [h]
  rw [if_neg (by decide),if_neg (by decide),if_pos hm]
theorem Kq {V:List Nat} {k:Nat} (h:¬ k∈V):(V++[k]).idxOf k=V.length:=by
  rw [List.idxOf_append,if_neg h,List.idxOf_cons_self,Nat.zero_add]
theorem Pv {F:FsM} {k:Nat} (h:F.dir k=false) (r:RowM) (s:Rows) (hm:¬ k∈s.2):Cu F r k s=(s.1++[⟨r.dp,r.nm,r.cl,r.fd,((s.2.length+1:Nat):Int),(F.at k).data⟩],s.2++[k]):=by
  unfold Cu Ex Ck
  rw [h]
  rw [if_neg (by decide),if_neg (by decide),if_neg hm,Kq hm]
def addL (F:FsM) (n:Nat) (r:RowM) (k:Nat) (X:List ByteArray) (t:Rows):Rows:=X.foldl (fun t x=>Dv F n (Fu r x) (Au F k x) t) t
theorem Dw (F:FsM) (n:Nat) (r:RowM) (k:Nat) (s:Rows):Dv F (n+1) r k s=addL F n r k (Aw (Al F.E k)) (Cu F r k s):=rfl
theorem Pa (F:FsM) (n:Nat) (r:RowM) (k:Nat) (X:List ByteArray) (x:ByteArray) (t:Rows):addL F n r k (X++[x]) t=Dv F n (Fu r x) (Au F k x) (addL F n r k X t):=by unfold addL;rw [List.foldl_append];rfl
theorem Qj (F:FsM) (n:Nat) (r:RowM) (k:Nat) (X Y:List ByteArray) (t:Rows):addL F n r k (X++Y) t=addL F n r k Y (addL F n r k X t):=List.foldl_append
def Lr (F:FsM):Nat→Nat→List ByteArray→List (List ByteArray)
  | 0,_,M=>[M]
  | n+1,k,M=>M::(Aw (Al F.E k)).flatMap fun x=>Lr F n (Au F k x) (M++[x])
theorem Gp (F:FsM) (r:RowM) (k:Nat) (s:Rows):(Cu F r k s).1.length=s.1.length+1:=List.length_append
theorem Kd (F:FsM):∀ (n:Nat) (r:RowM) (k:Nat) (s:Rows) (M:List ByteArray),(Dv F n r k s).1.length=s.1.length+(Lr F n k M).length
  | 0,r,k,s,M=>Gp F r k s
  | n+1,r,k,s,M=>by
    have:∀ (X:List ByteArray) (t:Rows),(addL F n r k X t).1.length=t.1.length+(X.flatMap fun x=>Lr F n (Au F k x) (M++[x])).length:=by
      intro X
      induction X with
      | nil=>intro t;rfl
      | cons x X ih=>
        intro t
        show (addL F n r k X (Dv F n (Fu r x) (Au F k x) t)).1.length=_
        rw [ih,Kd F n _ _ _ (M++[x]),List.flatMap_cons,List.length_append]
        omega
    rw [Dw,this,Gp]
    show _=s.1.length+(_+1)
    omega
theorem Oq (F:FsM) (n:Nat) (r:RowM) (k:Nat) (X:List ByteArray) (t:Rows):t.1.length≤(addL F n r k X t).1.length:=by
  induction X generalizing t with
  | nil=>exact Nat.le_refl _
  | cons x X ih=>
    refine Nat.le_trans ?_ (ih _)
    rw [Kd F n _ _ _ []]
    omega
theorem Pb (F:FsM) (n:Nat) (r:RowM) (k:Nat) (X:List ByteArray) (i:Nat) (t:Rows):(addL F n r k (X.take i) t).1.length≤(addL F n r k X t).1.length:=by
  have e:=Qj F n r k (X.take i) (X.drop i) t
  rw [List.take_append_drop] at e
  rw [e];exact Oq ..
section
variable {F:FsM} {δ:Nat→Int}
theorem CQ (hF:FsC F δ) {k:Nat} {x:ByteArray} (h:x∈Aw (Al F.E k)):Aj F.E k x=some (Au F k x)∧F.dir k=true:=by
  have z:=DB.1 ((Db _).mem_iff.1 h)
  obtain ⟨m,hm⟩:=Option.isSome_iff_exists.1 z
  obtain ⟨y,hy,e,_⟩:=BZ hm
  exact ⟨by unfold Au;rw [hm];rfl,e ▸ (hF.e y hy).1.2⟩
theorem GY (hF:FsC F δ) (k:Nat) (x:ByteArray):Au F k x<F.N.length:=by
  unfold Au
  cases h:Aj F.E k x with
  | none=>exact hF.n0.1
  | some m=>exact (hF.look_lt h).1
theorem Ef {M:List ByteArray} {k m:Nat} {x:ByteArray} (h:Am F 0 M=(0,k)) (hd:F.dir k=true) (hl:Aj F.E k x=some m):Am F 0 (M++[x])=(0,m):=by
  rw [GB,h]
  dsimp only
  rw [if_pos rfl,if_pos hd,hl]
theorem Ht (hF:FsC F δ):∀ (n k:Nat) (M:List ByteArray),Am F 0 M=(0,k)→(∀ L∈Lr F n k M,(∃ S,L=M++S)∧(Am F 0 L).1=0)∧(Lr F n k M).Nodup
  | 0,k,M,h=>⟨fun L hL=>by rw [List.mem_singleton.1 hL];exact ⟨⟨[],(List.append_nil M).symm⟩,by rw [h]⟩,by simp [Lr]⟩
  | n+1,k,M,h=>by
    have key:∀ x∈Aw (Al F.E k),Am F 0 (M++[x])=(0,Au F k x):=fun x hx=>Ef h (CQ hF hx).2 (CQ hF hx).1
    have hx0:∀ L∈(Aw (Al F.E k)).flatMap (fun x=>Lr F n (Au F k x) (M++[x])),(∃ x S,L=(M++[x])++S)∧(Am F 0 L).1=0:=fun L hL=>by
      obtain ⟨x,hx,hL⟩:=List.mem_flatMap.1 hL
      obtain ⟨⟨S,e⟩,h2⟩:=(Ht hF n _ _ (key x hx)).1 L hL
      exact ⟨⟨x,S,e⟩,h2⟩
    refine ⟨fun L hL=>?_,List.nodup_cons.2 ⟨fun hM=>?_,?_⟩⟩
    · rcases List.mem_cons.1 hL with rfl | hL
      · exact ⟨⟨[],(List.append_nil _).symm⟩,by rw [h]⟩
      · obtain ⟨⟨x,S,e⟩,h2⟩:=hx0 L hL
        exact ⟨⟨[x]++S,by rw [e,List.append_assoc]⟩,h2⟩
    · obtain ⟨⟨x,S,e⟩,_⟩:=hx0 M hM
      have:=congrArg List.length e
      simp at this
    · have nd:=(Db (Al F.E k)).nodup_iff.2 (Hm hF.ed k)
      have all:∀ X:List ByteArray,X.Nodup→(∀ x∈X,x∈Aw (Al F.E k))→(X.flatMap fun x=>Lr F n (Au F k x) (M++[x])).Nodup:=by
        intro X
        induction X with
        | nil=>intro _ _;exact List.nodup_nil
        | cons x X ih=>
          intro h1 h2
          obtain ⟨h3,h4⟩:=List.nodup_cons.1 h1
          rw [List.flatMap_cons]
          refine List.nodup_append.2 ⟨(Ht hF n _ _ (key x (h2 x List.mem_cons_self))).2,ih h4 (fun y hy=>h2 y (List.mem_cons_of_mem _ hy)),fun a ha b hb e=>?_⟩
          subst e
          obtain ⟨y,hy,hb⟩:=List.mem_flatMap.1 hb
          obtain ⟨⟨S,e1⟩,_⟩:=(Ht hF n _ _ (key x (h2 x List.mem_cons_self))).1 a ha
          obtain ⟨⟨T,e2⟩,_⟩:=(Ht hF n _ _ (key y (h2 y (List.mem_cons_of_mem _ hy)))).1 a hb
          rw [e1,List.append_assoc,List.append_assoc] at e2
          have e3:=List.append_cancel_left e2
          have e4:x=y:=by injection e3
          exact h3 (e4 ▸ hy)
      exact all _ nd (fun x hx=>hx)
theorem Sn (hF:FsC F δ) (n:Nat):(Lr F n 0 []).length≤F.E.length+1:=by
  obtain ⟨h1,h2⟩:=Ht hF n 0 [] rfl
  obtain ⟨V,hV⟩:∃ V,Lr F n 0 []=[]::V:=by cases n with | zero=>exact ⟨[],rfl⟩ | succ n=>exact ⟨_,rfl⟩
  rw [hV] at h1 h2 ⊢
  obtain ⟨h3,h4⟩:=List.nodup_cons.1 h2
  have key:∀ L∈V,∃ A y a,L=A++[y]∧Am F 0 A=(0,a)∧F.dir a=true∧(∃ z∈F.E,z.dn=a∧z.nm=y)∧((Am F 0 L.dropLast).2,L.getLastD AL)=(a,y):=fun L hL=>by
    rcases CC L with e | ⟨A,y,e⟩
    · subst e;exact absurd hL h3
    · subst e
      have z:=(h1 _ (List.mem_cons_of_mem _ hL)).2
      obtain ⟨a,h5,h6,h7⟩:=Fi (show Am F 0 (A++[y])=(0,(Am F 0 (A++[y])).2) from Prod.ext z rfl)
      obtain ⟨u,hu,e1,e2,_⟩:=BZ h7
      exact ⟨A,y,a,rfl,h5,h6,⟨u,hu,e1,e2⟩,by rw [List.dropLast_concat,h5];simp⟩
  have z:=Ep (A:=V.map fun L=>((Am F 0 L.dropLast).2,L.getLastD AL)) (B:=F.E.map fun y=>(y.dn,y.nm)) (by
    unfold List.Nodup
    rw [List.pairwise_map]
    refine List.Pairwise.imp_of_mem (fun {x y} hx hy hxy e=>hxy ?_) h4
    obtain ⟨A,u,a,e1,h5,h6,_,e2⟩:=key x hx
    obtain ⟨B,v,b,e3,h7,_,_,e4⟩:=key y hy
    rw [e2,e4] at e
    obtain ⟨e5,e6⟩:=Prod.mk.inj e
    subst e5;subst e6
    rw [e1,e3,hF.uniq _ A B a rfl h5 h7 h6]) (fun q hq=>by
    obtain ⟨L,hL,rfl⟩:=List.mem_map.1 hq
    obtain ⟨A,y,a,_,_,_,⟨z,hz,e1,e2⟩,e⟩:=key L hL
    exact List.mem_map.2 ⟨z,hz,by rw [e,e1,e2]⟩)
  rw [List.length_map,List.length_map] at z
  rw [List.length_cons];omega
theorem JV (hF:FsC F δ) {M:List ByteArray} {k:Nat} (h:Am F 0 M=(0,k)) (hd:F.dir k=true):M.length<F.N.length:=by
  have key:∀ (n:Nat) (M:List ByteArray) (k:Nat),M.length=n→Am F 0 M=(0,k)→F.dir k=true→∃ P:List Nat,P.Nodup∧P.length=n+1∧∀ p∈P,p<F.N.length∧∃ B,B.length≤n∧Am F 0 B=(0,p):=by
    intro n
    induction n with
    | zero=>
      intro M k hn h hd
      exact ⟨[k],by simp,rfl,fun p hp=>by rw [List.mem_singleton.1 hp];exact ⟨by have z:=hF.walk_lt M 0 hF.n0.1;rw [h] at z;exact z,M,ω,h⟩⟩
    | succ n ih=>
      intro M k hn h hd
      rcases CC M with e | ⟨A,x,e⟩
      · subst e;cases hn
      subst e
      obtain ⟨a,ha,hda,hla⟩:=Fi h
      have hA:A.length=n:=by simpa using hn
      obtain ⟨P,h1,h2,h3⟩:=ih A a hA ha hda
      refine ⟨k::P,List.nodup_cons.2 ⟨fun hk=>?_,h1⟩,by rw [List.length_cons,h2],fun p hp=>?_⟩
      · obtain ⟨_,B,hB,hw⟩:=h3 k hk
        have e:=hF.uniq _ B (A++[x]) k rfl hw h hd
        rw [e,hn] at hB;omega
      · rcases List.mem_cons.1 hp with rfl | hp
        · exact ⟨(hF.look_lt hla).1,_,ω,h⟩
        · obtain ⟨h4,B,h5,h6⟩:=h3 p hp
          exact ⟨h4,B,ω,h6⟩
  obtain ⟨P,h1,h2,h3⟩:=key _ M k rfl h hd
  have z:=Ep (B:=List.range F.N.length) h1 (fun p hp=>List.mem_range.2 (h3 p hp).1)
  rw [List.length_range,h2] at z;omega
def Fuel (F:FsM) (n k:Nat):Prop:=F.dir k=true→∃ M,Am F 0 M=(0,k)∧F.N.length≤n+M.length
theorem Fuel.pos (hF:FsC F δ) {n k:Nat} (h:Fuel F n k) (hd:F.dir k=true):∃ m,n=m+1:=by
  obtain ⟨M,h1,h2⟩:=h hd
  have:=JV hF h1 hd
  exact ⟨n-1,ω⟩
theorem Fuel.sub (hF:FsC F δ) {n k:Nat} (h:Fuel F (n+1) k) {x:ByteArray} (hx:x∈Aw (Al F.E k)):Fuel F n (Au F k x):=fun _=>by
  obtain ⟨h1,h2⟩:=CQ hF hx
  obtain ⟨M,h3,h4⟩:=h h2
  exact ⟨M++[x],Ef h3 h2 h1,by rw [List.length_append];show _≤n+(M.length+1);omega⟩
theorem NM (hF:FsC F δ) {k:Nat} (hd:F.dir k=false):Aw (Al F.E k)=[]:=by
  cases h:Aw (Al F.E k) with
  | nil=>rfl
  | cons x r=>
    have:=(CQ hF (k:=k) (x:=x) (by rw [h];exact List.mem_cons_self)).2
    rw [hd] at this;cases this
theorem OZ (hF:FsC F δ) {k:Nat} (hd:F.dir k=false) (n:Nat) (r:RowM) (s:Rows):Dv F n r k s=Cu F r k s:=by
  cases n with
  | zero=>rfl
  | succ n=>rw [Dw,NM hF hd];rfl
structure MkOk (F:FsM) (V:List Nat):Prop where
  nd:V.Nodup
  lt:∀ v∈V,v<F.N.length
theorem MkOk.nil:MkOk F []:=⟨List.nodup_nil,fun v h=>(by cases h)⟩
theorem MkOk.len {V:List Nat} (h:MkOk F V):V.length≤F.N.length:=by
  have z:=Ep (B:=List.range F.N.length) h.nd (fun a ha=>List.mem_range.2 (h.lt a ha))
  rw [List.length_range] at z;exact z
theorem MkOk.mark {V:List Nat} (h:MkOk F V) {k:Nat} (hk:k<F.N.length):MkOk F (Ck F V k):=by
  unfold Ck
  split
  · exact h
  · split
    · exact h
    · rename_i hm
      exact ⟨List.nodup_append.2 ⟨h.nd,by simp,fun a ha b hb e=>hm (by rw [List.mem_singleton] at hb;rw [← hb,← e];exact ha)⟩,fun v hv=>by
        rcases List.mem_append.1 hv with hv | hv
        · exact h.lt v hv
        · rw [List.mem_singleton] at hv;rw [hv];exact hk⟩
theorem MkOk.add (hF:FsC F δ):∀ (n:Nat) (r:RowM) (k:Nat) (s:Rows),MkOk F s.2→k<F.N.length→MkOk F (Dv F n r k s).2
  | 0,r,k,s,h,hk=>h.mark hk
  | n+1,r,k,s,h,hk=>by
    rw [Dw]
    have:∀ (X:List ByteArray) (t:Rows),MkOk F t.2→MkOk F (addL F n r k X t).2:=by
      intro X
      induction X with
      | nil=>intro t h;exact h
      | cons x X ih=>intro t h;exact ih _ (MkOk.add hF n _ _ _ h (GY hF k x))
    exact this _ _ (h.mark hk)
theorem MkOk.addL (hF:FsC F δ) (n:Nat) (r:RowM) (k:Nat) (X:List ByteArray) (t:Rows) (h:MkOk F t.2):MkOk F (addL F n r k X t).2:=by
  induction X generalizing t with
  | nil=>exact h
  | cons x X ih=>exact ih _ (MkOk.add hF n _ _ _ h (GY hF k x))
def flL (A:AdM) (V:List Nat):List (Nat×Int):=(List.range V.length).map fun i=>(A.ad (V.getD i 0),((i+1:Nat):Int))
theorem Kp {V:List Nat} {k:Nat} (hk:k∈V):V.getD (V.idxOf k) 0=k:=by
  have h:=List.idxOf_lt_length_of_mem hk
  rw [List.getD_eq_getElem?_getD,List.getElem?_eq_getElem h];exact List.getElem_idxOf h
theorem OB {A:AdM} {V:List Nat} (h:MkOk F V) (hi:∀ i j,i<F.N.length→j<F.N.length→A.ad i=A.ad j→i=j) {k:Nat} (hk:k<F.N.length):Fb (flL A V) (A.ad k)=if k∈V then some ((V.idxOf k+1:Nat):Int) else none:=by
  have og:∀ i,i<V.length→V.getD i 0∈V:=fun i hi=>by rw [List.getD_eq_getElem?_getD,List.getElem?_eq_getElem hi];exact List.getElem_mem hi
  by_cases hm:k∈V
  · rw [if_pos hm]
    have h1:=List.idxOf_lt_length_of_mem hm
    have h2:=Kp hm
    have hmem:(A.ad k,((V.idxOf k+1:Nat):Int))∈flL A V:=List.mem_map.2 ⟨V.idxOf k,List.mem_range.2 h1,by rw [h2]⟩
    unfold Fb
    cases hf:(flL A V).find? (fun p=>decide (p.1=A.ad k)) with
    | none=>exact absurd (List.find?_eq_none.1 hf _ hmem) (by simp)
    | some x=>
      have hx:=List.mem_of_find?_eq_some hf
      have hx1:=List.find?_some hf
      obtain ⟨p,hp,rfl⟩:=List.mem_map.1 hx
      have hp:=List.mem_range.1 hp
      have e:=hi _ _ (h.lt _ (og p hp)) hk (of_decide_eq_true hx1)
      have:p=V.idxOf k:=by
        have e2:V[p]=V[V.idxOf k]:=by
          rw [List.getElem_idxOf h1]
          rw [List.getD_eq_getElem?_getD,List.getElem?_eq_getElem hp] at e;exact e
        exact (List.getElem_inj h.nd).1 e2
      rw [this];rfl
  · rw [if_neg hm]
    unfold Fb
    rw [List.find?_eq_none.2]
    · rfl
    · intro x hx
      obtain ⟨p,hp,rfl⟩:=List.mem_map.1 hx
      have hp:=List.mem_range.1 hp
      simp only [decide_eq_true_eq]
      intro e
      exact hm ((hi _ _ (h.lt _ (og p hp)) hk e) ▸ og p hp)
theorem RS (A:AdM) (V:List Nat) (k:Nat):flL A (V++[k])=flL A V++[(A.ad k,((V.length+1:Nat):Int))]:=by
  unfold flL
  rw [List.length_append,List.length_singleton,List.range_succ,List.map_append]
  congr 1
  · refine List.map_congr_left fun p hp=>?_
    have hp:=List.mem_range.1 hp
    rw [List.getD_eq_getElem?_getD,List.getElem?_append_left hp,← List.getD_eq_getElem?_getD]
  · show [(A.ad ((V++[k]).getD V.length 0),((V.length+1:Nat):Int))]=_
    rw [List.getD_eq_getElem?_getD,List.getElem?_append_right (Nat.le_refl _),Nat.sub_self];rfl
end
def Jm:List (Int×Int):=(List.range 64).map fun i=>(((i / 8+1:Nat):Int),((i % 8:Nat):Int))
def DS (F:FsM):List (Int×Int):=Jm.filter fun p=>(Az F.O p.1 p.2).isSome
def Cv (F:FsM) (p:Int×Int):Nat:=(Az F.O p.1 p.2).getD 0
def addO (F:FsM) (P:List (Int×Int)) (t:Rows):Rows:=P.foldl (fun t p=>Cu F (Ig p) (Cv F p) t) t
def MY (F:FsM):Rows:=addO F (DS F) (Dv F 1000 De 0 ([],[]))
def CD (F:FsM):List RowM:=(MY F).1
theorem Pc (F:FsM) (P:List (Int×Int)) (p:Int×Int) (t:Rows):addO F (P++[p]) t=Cu F (Ig p) (Cv F p) (addO F P t):=by unfold addO;rw [List.foldl_append];rfl
theorem Mv (F:FsM) (P:List (Int×Int)) (t:Rows):(addO F P t).1.length=t.1.length+P.length:=by
  induction P generalizing t with
  | nil=>rfl
  | cons p P ih=>
    show (addO F P (Cu F (Ig p) (Cv F p) t)).1.length=_
    rw [ih,Gp,List.length_cons];omega
theorem IL (F:FsM):(DS F).length≤64:=Nat.le_trans (List.length_filter_le _ _) (by unfold Jm;rw [List.length_map,List.length_range];exact Nat.le_refl _)
theorem PA:Jm.Pairwise (fun p q=>p.1<q.1∨(p.1=q.1∧p.2<q.2)):=by
  unfold Jm
  rw [List.pairwise_map]
  refine List.Pairwise.imp (fun {a b} h=>?_) List.pairwise_lt_range
  show ((a / 8+1:Nat):Int)<((b / 8+1:Nat):Int)∨(((a / 8+1:Nat):Int)=((b / 8+1:Nat):Int)∧((a % 8:Nat):Int)<((b % 8:Nat):Int))
  omega
theorem OA (F:FsM):(DS F).Pairwise (fun p q=>p.1<q.1∨(p.1=q.1∧p.2<q.2)):=List.Pairwise.filter _ PA
theorem Oz (F:FsM):(DS F).Nodup:=(OA F).imp fun {p q} h e=>by subst e;omega
theorem NK {p:Int×Int} (h:(1≤p.1∧p.1≤8)∧0≤p.2∧p.2<8):p∈Jm:=by
  obtain ⟨c,d⟩:=p
  obtain ⟨h1,h2⟩:=h
  refine List.mem_map.2 ⟨8*(c-1).toNat+d.toNat,List.mem_range.2 (by simp only at h1 h2;omega),?_⟩
  simp only at h1 h2
  refine Prod.ext ?_ ?_
  · show ((((8*(c-1).toNat+d.toNat) / 8+1:Nat)):Int)=c
    omega
  · show ((((8*(c-1).toNat+d.toNat) % 8:Nat)):Int)=d
    omega
theorem Pz {p:Int×Int} (h:p∈Jm):(1≤p.1∧p.1≤8)∧0≤p.2∧p.2<8:=by
  obtain ⟨i,hi,rfl⟩:=List.mem_map.1 h
  have hi:=List.mem_range.1 hi
  show (1≤((i / 8+1:Nat):Int)∧((i / 8+1:Nat):Int)≤8)∧0≤((i % 8:Nat):Int)∧((i % 8:Nat):Int)<8
  omega
theorem DX {F:FsM} {δ:Nat→Int} (hF:FsC F δ) {p:Int×Int}:p∈DS F↔(Az F.O p.1 p.2).isSome=true:=by
  unfold DS
  rw [List.mem_filter]
  refine ⟨fun h=>h.2,fun h=>⟨?_,h⟩⟩
  obtain ⟨m,hm⟩:=Option.isSome_iff_exists.1 h
  obtain ⟨x,hx,e1,e2,_⟩:=Gr hm
  have z:=(hF.o x hx).2
  rw [e1,e2] at z
  exact NK z
theorem MZ {F:FsM} {δ:Nat→Int} (hF:FsC F δ) (n:Nat):(Dv F n De 0 ([],[])).1.length≤F.E.length+1:=by
  rw [Kd F n _ _ _ []]
  have:=Sn hF n
  show 0+_≤_
  omega
def RelL (R:Nat→Nat→Prop):List Nat→List Nat→Prop
  | [],[]=>True
  | a::A,b::B=>R a b∧RelL R A B
  | _,_=>False
section
variable {R:Nat→Nat→Prop} {F G:FsM} {δ:Nat→Int}
theorem RelL.snoc:∀ {A B:List Nat} {a b:Nat},RelL R A B→R a b→RelL R (A++[a]) (B++[b])
  | [],[],_,_,_,h=>⟨h,trivial⟩
  | _::_,_::_,_,_,h,h2=>⟨h.1,RelL.snoc h.2 h2⟩
  | [],_::_,_,_,h,_=>h.elim
  | _::_,[],_,_,h,_=>h.elim
theorem RelL.idx (hI:Iso R F G) {k k':Nat} (hk:R k k'):∀ {A B:List Nat},RelL R A B→(k∈A↔k'∈B)∧A.idxOf k=B.idxOf k'
  | [],[],_=>⟨by simp,rfl⟩
  | a::A,b::B,h=>by
    obtain ⟨h1,h2⟩:=RelL.idx hI hk h.2
    have e:(a=k)↔(b=k'):=⟨fun e=>hI.l (e ▸ h.1) hk,fun e=>hI.r (e ▸ h.1) hk⟩
    constructor
    · rw [List.mem_cons,List.mem_cons,h1,eq_comm,e,eq_comm]
    · rw [List.idxOf_cons,List.idxOf_cons,h2]
      by_cases c:a=k
      · rw [beq_iff_eq.2 c,beq_iff_eq.2 (e.1 c)]
      · rw [beq_false_of_ne c,beq_false_of_ne (fun q=>c (e.2 q))]
  | [],_::_,h=>h.elim
  | _::_,[],h=>h.elim
theorem Iso.dir (hI:Iso R F G) {i j:Nat} (h:R i j):F.dir i=G.dir j:=congrArg NodeM.dir (hI.nd h)
theorem Rz {A B:List ByteArray} (h:A.Perm B):Aw A=Aw B:=by
  refine List.Perm.eq_of_pairwise (le:=leN) (fun a b _ _ h1 h2=>?_) (La A) (La B) (((Db A).trans h).trans (Db B).symm)
  exact ByteArray.ext (Array.toList_inj.1 (List.le_antisymm h1 h2))
theorem Iso.names (hI:Iso R F G) (hF:FsC F δ) {δ':Nat→Int} (hG:FsC G δ') {i j:Nat} (h:R i j):Aw (Al F.E i)=Aw (Al G.E j):=by
  refine Rz ((List.perm_ext_iff_of_nodup (Hm hF.ed i) (Hm hG.ed j)).2 fun s=>?_)
  rw [DB,DB]
  obtain ⟨h1,h2⟩:=hI.e h s
  cases hs:Aj F.E i s with
  | none=>rw [h2 hs]
  | some m=>obtain ⟨m',hm,_⟩:=h1 m hs;rw [hm];simp
theorem Iso.mark (hI:Iso R F G) {k k':Nat} (hk:R k k') {V V':List Nat} (hV:RelL R V V'):RelL R (Ck F V k) (Ck G V' k'):=by
  unfold Ck
  rw [hI.dir hk]
  split
  · exact hV
  · by_cases hm:k∈V
    · rw [if_pos hm,if_pos ((hV.idx hI hk).1.1 hm)];exact hV
    · rw [if_neg hm,if_neg (fun q=>hm ((hV.idx hI hk).1.2 q))];exact hV.snoc hk
theorem Iso.head (hI:Iso R F G) {k k':Nat} (hk:R k k') (r:RowM) {s t:Rows} (h1:s.1=t.1) (h2:RelL R s.2 t.2):(Cu F r k s).1=(Cu G r k' t).1∧RelL R (Cu F r k s).2 (Cu G r k' t).2:=by
  have hm:=hI.mark hk h2
  refine ⟨?_,hm⟩
  show s.1++[Ex F r k (Ck F s.2 k)]=t.1++[Ex G r k' (Ck G t.2 k')]
  rw [h1]
  congr 2
  unfold Ex
  rw [hI.dir hk,(hm.idx hI hk).2,hI.nd hk]
theorem Iso.add (hI:Iso R F G) (hF:FsC F δ) {δ':Nat→Int} (hG:FsC G δ'):∀ (n:Nat) {k k':Nat} (hk:R k k') (r:RowM) {s t:Rows} (h1:s.1=t.1) (h2:RelL R s.2 t.2),(Dv F n r k s).1=(Dv G n r k' t).1∧RelL R (Dv F n r k s).2 (Dv G n r k' t).2
  | 0,k,k',hk,r,s,t,h1,h2=>hI.head hk r h1 h2
  | n+1,k,k',hk,r,s,t,h1,h2=>by
    rw [Dw,Dw,← hI.names hF hG hk]
    have key:∀ (X:List ByteArray) (s t:Rows),(∀ x∈X,x∈Aw (Al F.E k))→s.1=t.1→RelL R s.2 t.2→(addL F n r k X s).1=(addL G n r k' X t).1∧RelL R (addL F n r k X s).2 (addL G n r k' X t).2:=by
      intro X
      induction X with
      | nil=>intro s t _ h1 h2;exact ⟨h1,h2⟩
      | cons x X ih=>
        intro s t hX h1 h2
        have hl:=(CQ hF (hX x List.mem_cons_self)).1
        obtain ⟨m,hm,hr⟩:=(hI.e hk x).1 _ hl
        have hr2:R (Au F k x) (Au G k' x):=by
          have:Au G k' x=m:=by unfold Au;rw [hm];rfl
          rw [this];exact hr
        obtain ⟨q1,q2⟩:=Iso.add hI hF hG n hr2 (Fu r x) h1 h2
        exact ih _ _ (fun y hy=>hX y (List.mem_cons_of_mem _ hy)) q1 q2
    obtain ⟨q1,q2⟩:=hI.head hk r h1 h2
    exact key _ _ _ (fun x hx=>hx) q1 q2
theorem Iso.fds (hI:Iso R F G):DS F=DS G:=by
  unfold DS
  refine List.filter_congr fun p _=>?_
  obtain ⟨h1,h2⟩:=hI.o p.1 p.2
  cases h:Az F.O p.1 p.2 with
  | none=>rw [h2 h]
  | some m=>obtain ⟨m',hm,_⟩:=h1 m h;rw [hm];rfl
theorem Iso.rows (hI:Iso R F G) (hF:FsC F δ) {δ':Nat→Int} (hG:FsC G δ'):CD F=CD G:=by
  unfold CD MY
  rw [← hI.fds]
  obtain ⟨q1,q2⟩:=hI.add hF hG 1000 hI.root De (s:=([],[])) (t:=([],[])) rfl trivial
  have key:∀ (P:List (Int×Int)) (s t:Rows),(∀ p∈P,p∈DS F)→s.1=t.1→RelL R s.2 t.2→(addO F P s).1=(addO G P t).1:=by
    intro P
    induction P with
    | nil=>intro s t _ h _;exact h
    | cons p P ih=>
      intro s t hP h1 h2
      obtain ⟨m,hm⟩:=Option.isSome_iff_exists.1 ((DX hF).1 (hP p List.mem_cons_self))
      obtain ⟨m',hm',hr⟩:=(hI.o p.1 p.2).1 m hm
      have hr2:R (Cv F p) (Cv G p):=by unfold Cv;rw [hm,hm'];exact hr
      obtain ⟨q3,q4⟩:=hI.head hr2 (Ig p) h1 h2
      exact ih _ _ (fun q hq=>hP q (List.mem_cons_of_mem _ hq)) q3 q4
  exact key _ _ _ (fun p hp=>hp) q1 q2
end
end
section
attribute [local go_sem] Oper.semAt_some
def Tx {α:Type} (I:List α→World→Prop) (xs:List α) (W:World):Exit→Act→World→Prop
  | .normal,_,W'=>KeepsOthers W W'∧I xs W'
  | _,_,_=>False
theorem Jz {F:Fence} {n:Nat} {P:Program} {α:Type} {g:Operand} {ps:Array Tmp} {assign body:Code} {Q:Exit→Act→World→Prop} {a:Act} {w:World}
    (hro:F.round=none) (h1:1≤n) {gf:Nat} {lb:Array Value} (hg:a.eval g=.func (.func gf) #[] lb) (hFg:F.fn gf) (eg:∀ args w,(callFunc gf args).run P w=.ok (.enter gf args) w)
    {enc:α→Value} {S:List α→Prop} {N:Nat} {w0:World} (hseq:SeqGives F (n-1) P gf lb enc S N w0) (hb0:Below w0.heap.size w0 w) (hps:ps.size=1)
    (I:List α→World→Prop) (hI:OwnFrom w.heap.size I) (h0:I [] w)
    (Ax:α→Act→World→Prop) (hAx:∀ x a' X l o o',Ax x a' X→X.heap[l]? = some (.loop o)→Ax x a' (X.putObj l o'))
    (hassign:∀ (l:Nat) (pre:List α) (x:α) (W:World) (K:Act→World→Prop),I pre W→w.heap.size≤W.heap.size→(∀ a' W',KeepsOthers W W'→I pre W'→Ax x a' W'→K a' W') →
      assign.wpIn (F.inRound l) (n-1-1) P (Exit.then K (fun _ _ _=>False)) { tmps:=(ps.zip #[enc x]).foldl (fun t (p,v)=>t.setIfInBounds p v) a.tmps,defers:=[] } W)
    (hbody:∀ (l:Nat) (pre:List α) (x:α) (a':Act) (W:World),I pre W→Ax x a' W→w.heap.size≤W.heap.size→pre.length<N→body.wpIn (F.inRound l) (n-1-1) P (Tx I (pre++[x]) W) a' W)
    (hdone:∀ (D:Nat) (xs:List α) (W:World),w.heap.size≤D→S xs→I xs W→W.heap[D]? = some (.deferred (some []))→Q .normal { a with defers:={ target:=.collected D,args:=#[] }::a.defers } W) :
    (Code.rangeFunc g ps assign body).wpIn F n P Q a w:=by
  refine wpIn_rangeFunc ?_
  intro fn hfn
  rw [hro]
  obtain ⟨rec,hrec⟩:∃ rec:LoopState→Option Code→Loop,rec=fun st pe=>{ state:=st,pending:=pe,fn,tmps:=a.tmps,params:=ps,assign,body,defers:=w.heap.size }:=⟨_,rfl⟩
  obtain ⟨W1,hW1⟩:∃ W1,(w.alloc (.deferred (some []))).alloc (.loop (rec .ready none))=W1:=⟨_,rfl⟩
  have hs1:W1.heap.size=w.heap.size+2:=by rw [← hW1];simp
  have hL1:W1.heap[w.heap.size+1]? = some (.loop (rec .ready none)):=by
    rw [← hW1];have:=World.alloc_heap_new (w.alloc (.deferred (some []))) (.loop (rec .ready none));rwa [World.size_alloc] at this
  have hK1:W1.heap[w.heap.size]? = some (.deferred (some [])):=by
    rw [← hW1];exact (Below.heap_alloc _ _ _ (by simp)).trans (World.alloc_heap_new w _)
  have hI1:I [] W1:=by rw [← hW1];exact hI.alloc _ (hI.alloc _ h0)
  have hb1:Below w0.heap.size w0 W1:=by
    rw [← hW1];exact hb0.trans ((((Below.refl _ w).alloc (Nat.le_refl _) _).alloc (by simp) _).mono hb0.size)
  refine ⟨w.heap.size+1,[{ target:=.collected w.heap.size,args:=#[] }],W1,{ target:=.fn (.func gf) lb,args:=#[.func (.yield (w.heap.size+1)) #[] #[]] },W1,gf,
    #[.func (.yield (w.heap.size + 1)) #[] #[]] ++ lb, W1, ?_, ?_, ?_, ?_, fun _ => h1, ?_⟩
  · rw [← hW1,hrec];exact run_enterLoop_outer _ _ _ _ _
  · simp only [resolve,hg]
    simp [go_sem]
  · intro f' hf';simp [Target.leads] at hf';subst hf';exact hFg
  · simp [invoke,go_sem,eg]
  · refine (hseq (w.heap.size+1)
      (fun pre W=>(I pre W∧w.heap.size+1<W.heap.size)∧W.heap[w.heap.size+1]? = some (.loop (rec .ready none))∧W.heap[w.heap.size]? = some (.deferred (some [])))
      W1 hb1 (fun s A B row hs hg' hr=>⟨⟨hI s A B row hs.1.1 hg' (fun r e=>?_),Nat.lt_of_lt_of_le hs.1.2 hg'.size⟩,(grownBy_keeps hg' (fun r e=>(hr r e).2) hs.2.1 rfl).trans hs.2.1,(grownBy_keeps hg' (fun r e=>(hr r e).2) hs.2.2 rfl).trans hs.2.2⟩)
      ?_ ⟨⟨hI1,ω⟩,hL1,hK1⟩).mono ?_
    · obtain ⟨q1,o,q2,q3⟩:=hr r e
      exact ⟨ω,o,q2,Obj.not_cells_of_walk q3⟩
    · rintro pre x W ⟨⟨hi,hlt⟩,hl,hk⟩ hlen
      have hy:=run_yield (P:=P) (args:=#[enc x]) hl (by rw [hrec];exact hps.symm)
      rw [hrec] at hy
      refine ⟨fn,_,assign,body,hy,roundIn_of_wpIn hfn (hassign _ pre x W _ hi ω ?_)⟩
      clear hy
      intro a' Wa hka hia hax
      have hla:=hka.same _ _ hl rfl
      have hkk:=hka.same _ _ hk rfl
      have hlta:w.heap.size+1<Wa.heap.size:=Nat.lt_of_lt_of_le hlt hka.size
      refine ⟨_,run_beginRound hla (by rw [hrec]),?_⟩
      have hl2:(Wa.putObj (w.heap.size+1) (.loop { rec .ready none with state:=.busy })).heap[w.heap.size+1]? = some (.loop { rec .ready none with state:=.busy }):=World.putObj_heap_same hlta
      have hk2:(Wa.putObj (w.heap.size+1) (.loop { rec .ready none with state:=.busy })).heap[w.heap.size]? = some (.deferred (some [])):=(World.putObj_heap_other ω).trans hkk
      have hw2:KeepsWalks Wa (Wa.putObj (w.heap.size+1) (.loop { rec .ready none with state:=.busy })):=KeepsWalks.putObj _ hla rfl
      refine wpIn_mono (hbody _ pre x a' _ (hI.putObj _ hia ω hla rfl) (hAx _ _ _ _ _ _ hax hla) (by rw [World.putObj_size];omega) hlen) ?_
      rintro e a3 W3 hp
      cases e with
      | normal=>
        obtain ⟨hk3,hi3⟩:=hp
        have hl3:=hk3.same _ _ hl2 rfl
        have hk4:=hk3.same _ _ hk2 rfl
        have hr:=run_endRound (P:=P) none hl3
        rw [hrec] at hr hl3 ⊢
        have hsz:w.heap.size+1<W3.heap.size:=(Array.getElem?_eq_some_iff.1 hl3).1
        exact ⟨_,_,hr,rfl,⟨⟨hI.putObj _ hi3 ω hl3 rfl,by rw [World.putObj_size];exact hsz⟩,World.putObj_heap_same hsz,(World.putObj_heap_other ω).trans hk4⟩,((hka.walks.trans hw2).trans hk3.walks).trans (KeepsWalks.putObj _ hl3 rfl)⟩
      | ret=>exact hp.elim
      | exit id=>exact hp.elim
      | goto t=>exact hp.elim
      | panic ch=>exact hp.elim
      | outgrown=>exact hp.elim
    · rintro e W2 ⟨⟨v,rfl⟩,xs,hS,⟨hi,hlt⟩,hl,hk⟩
      exact ⟨none,_,by have:=run_endLoop (P:=P) hl (by rw [hrec];simp);rw [hrec] at this;exact this,hdone _ xs _ (Nat.le_refl _) hS (hI.putObj _ hi ω hl rfl) ((World.putObj_heap_other ω).trans hk)⟩
structure GathO (g:Int×Int→Option (Option Nat)) (left:Lit→Bool) (K:List (Int×Int)):Prop where
  nd:K.Nodup
  wf:∀ p∈K,wfD p∧(g p).isSome=true∧left (kLD p)=false
  all:∀ p,wfD p→(g p).isSome=true→left (kLD p)=false→p∈K
theorem GathO.step {g:Int×Int→Option (Option Nat)} {left:Lit→Bool} {K:List (Int×Int)} (h:GathO g left K) {p:Int×Int} (hp:wfD p) (hg:(g p).isSome=true) (hl:left (kLD p)=true):GathO g (fun z=>left z&&!z.sameKey (kLD p)) (K++[p]) where
  nd:=List.nodup_append.2 ⟨h.nd,by simp,fun a ha b hb e=>by
    rw [List.mem_singleton] at hb;subst hb;subst e
    rw [(h.wf a ha).2.2] at hl;cases hl⟩
  wf q hq:=by
    rcases List.mem_append.1 hq with hq | hq
    · obtain ⟨h1,h2,h3⟩:=h.wf q hq
      exact ⟨h1,h2,by simp [h3]⟩
    · rw [List.mem_singleton] at hq;subst hq
      exact ⟨hp,hg,by simp [KO.same (i:=q) (j:=q) hp hp,show kLD q=KO.kl q from rfl]⟩
  all q hq hgq hlq:=by
    by_cases e:q=p
    · subst e;exact List.mem_append_right _ (List.mem_singleton.2 rfl)
    · refine List.mem_append_left _ (h.all q hq hgq ?_)
      have z:(kLD q).sameKey (kLD p)=false:=(KO.same (i:=p) (j:=q) hp hq).trans (decide_eq_false e)
      simpa [z] using hlq
def kvC (p:Int×Int):List Value:=[ν p.1,ν p.2]
def Ls (g:Int×Int→Option (Option Nat)) (K:List (Int×Int)):Prop:=K.Nodup∧∀ p,p∈K↔wfD p∧(g p).isSome=true
theorem MK {w:World} {Bm b n:Nat} {g:Int×Int→Option (Option Nat)} {L:List (Int×Int)} (hBm:Bm<w.heap.size) (hm:w.cell? ⟨Bm,0,none⟩=some (.map (some b))) (hown:MapG KO w b n g) (hL:∀ p,wfD p→(g p).isSome=true→p∈L) :
    SeqGives Fence.wide 4 Tryz.prog 83 #[π Bm] kVD (Ls g) L.length w:=fun l J W hW hJ hY h0=>by
  have hm':=(hW.cell (p:=⟨Bm,0,none⟩) hBm).trans hm
  obtain ⟨D,h1,h2,h3⟩:=hown.mono hW
  refine callsIn_of_wp Tryz.func83 rfl trivial ?_ rfl
  simp only [Tryz.ntmps83,List.size_toArray,List.length_cons,List.length_nil,Nat.reduceAdd,Nat.reduceSub,Array.replicate_succ,Array.replicate_zero,List.push_toArray,List.append_toArray,List.nil_append,List.cons_append]
  have H2:=hid h2;have H3:=hid h3
  clear h2 h3
  gi_wp2_with (first
    | (gi_at_range;refine wpListIn_range_own _ rfl _ 63 rfl 68 62 Mg υ63 _ b n _ rfl h1 ?_;intro w0 hrg0 hg0 hs0)
    | gi_in)
  go_frame
  gi_loopw [3] (fun _ wr=>∃ (left:Lit→Bool) (cnt:Nat) (K:List (Int×Int)),wr.ranges Tryz.prog 68 ptR b W.heap.size n D left cnt∧GathO g left K∧J K wr)
    (fun _ wr=>wr.rangeLeft b W.heap.size)
  case atStart=>
    refine ⟨_,_,[],hrg0,⟨List.nodup_nil,fun p h=>(by cases h),fun p hp hg hl=>?_⟩,hJ [] W w0 none h0 hg0 (fun r e=>by cases e)⟩
    have z:=H2.out p hp
    rw [hg] at z;rw [show KO.kl p=kLD p from rfl,hl] at z;cases z
  case round=>
    obtain ⟨left,cnt,K,hrg,hC,hJs⟩:=hrel
    gi_wp2_with (first
      | (gi_at_next;refine wpListIn_next_ranges _ rfl _ rfl 68 Mg ptR kVD id (fun key kl hk=>by obtain ⟨p,_,e,_⟩:=It hk;exact ⟨p,e⟩) (fun v _ _=>⟨v,rfl⟩) b W.heap.size n _ _ _ rfl hrg ?_ ?_)
      | gi_in)
    · intro hc0 hl0
      gi_wp2
      go_end0
      exact ⟨⟨_,rfl⟩,K,⟨hC.nd,fun p=>⟨fun hp=>⟨(hC.wf p hp).1,(hC.wf p hp).2.1⟩,fun hp=>hC.all p hp.1 hp.2 (hl0 _)⟩⟩,hJs⟩
    · intro x1 x2 c kl yd yp w2 cnt2 hkey hlk hv hat hrg2 hlt hg2 hs2 hen
      obtain ⟨x',hx,ex,rfl⟩:=It hkey
      have e:x'=(x1,x2):=by
        simp only [kVD,Value.agg.injEq,Array.mk.injEq,List.cons.injEq,Value.int.injEq,true_and,and_true] at ex
        exact Prod.ext ex.1.symm ex.2.symm
      subst e
      have hgx:(g (x1,x2)).isSome=true:=(H2.out (x1,x2) hx).symm.trans (Maps.has_true_of_atKey hat)
      have hC2:=hC.step hx hgx hlk
      have hlen:K.length<L.length:=by
        have z:=Ep (B:=L) hC2.nd (fun p hp=>hL p (hC2.wf p hp).1 (hC2.wf p hp).2.1)
        rw [List.length_append] at z
        exact z
      have hJ2:J K w2:=hJ K wr w2 (some W.heap.size) hJs hg2 (fun r e=>by cases e;exact ⟨Nat.le_refl _,hrg.iter_walk⟩)
      obtain ⟨B2,hB2⟩:∃ B2,B2=w2.heap.size:=⟨_,rfl⟩
      have hrg3:=hrg2
      clear hs2
      have Hhat:=hid hat
      clear hat
      have hJ3:J K (w2.alloc (.cells #[ν x1,ν x2] 68)):=hJ K w2 _ none hJ2 (World.grownBy_alloc w2 _ none) (fun r e=>by cases e)
      obtain ⟨fn,tmps,assign,body,hy,hR⟩:=hY K (x1,x2) _ hJ3 hlen
      clear hY hJ2 hJ3
      simp only [kVD] at hen hy ⊢
      gi_wp2
      refine hR.mono ?_
      rintro e W3 ⟨rfl,hJ3,hk3⟩
      gi_wp2
      have hrg4:=(hrg3.of_walks (KeepsWalks.alloc _ _)).of_walks hk3
      go_roundw
      case rel=>exact ⟨_,cnt2,K++[(x1,x2)],hrg4,hC2,hJ3⟩
      case measure=>rw [hrg4.left_eq,hrg.left_eq];exact hlt
def apI (w0:World) (K:List (Int×Int)) (W:World):Prop:=
  (∃ v,W.heap[w0.heap.size]? = some (.cells #[v] 103 (0,0))∧W.ownsRow w0.heap.size 68 2 v K.length (K.flatMap kvC))∧Below w0.heap.size w0 W
theorem GH {W:World} {base:Nat} {e:TypeId} {size:Nat} {v:Value} {k:Nat} {xs:List Value} (h:W.ownsRow base e size v k xs) {j:Nat} {o:Obj} (hj:W.heap[j]? = some o) (ho:∀ c,o≠.cells c e (0,0)):v.ownBlock=none∨v.ownBlock≠some j:=by
  rcases h.2 with ⟨rfl,_⟩ | ⟨g,cap,cur,rfl,_,hgb,_⟩
  · exact .inl rfl
  · refine .inr fun e'=>?_
    have:g=j:=by simpa [Value.ownBlock] using e'
    subst this;rw [hgb] at hj;cases hj;exact ho cur rfl
theorem Or (w0:World):OwnFrom (w0.heap.size+1) (apI w0):=fun K W W' row ⟨⟨v,hv,hr⟩,hb⟩ hg hrow=>by
  refine ⟨⟨v,(grownBy_keeps_cells hg (fun r e=>(hrow r e).2) hv rfl).trans hv,hr.kept hg ?_⟩,hb.grown hg hb.size (fun k e=>by have:=(hrow k e).1;omega)⟩
  cases row with
  | none=>rcases hr.2 with ⟨rfl,_⟩ | ⟨g,cap,cur,rfl,_,hgb,_⟩;exact .inl rfl;exact .inr (by simp [Value.ownBlock])
  | some r=>
    obtain ⟨_,o,ho,hc⟩:=hrow r rfl
    exact GH hr ho (fun c e=>by rw [e] at hc;cases hc)
def SB (B:Nat) (mk:Int×Int→Nat→Act) (x:Int×Int) (a':Act) (W:World):Prop:=∃ Bx,B≤Bx∧Blk W Bx 68 (kvC x)∧a'=mk x Bx
theorem Qo {B:Nat} {mk:Int×Int→Nat→Act}:∀ (x:Int×Int) (a':Act) (X:World) (l:Nat) (o:Loop) (o':Obj),SB B mk x a' X→X.heap[l]? = some (.loop o)→SB B mk x a' (X.putObj l o'):=by
  rintro x a' X l o o' ⟨Bx,hB,hb,rfl⟩ hl
  refine ⟨Bx,hB,?_,rfl⟩
  have hne:Bx≠l:=by
    rintro rfl
    rw [show X.heap[Bx]? = _ from hb] at hl
    cases hl
  exact (World.putObj_heap_other hne).trans hb
theorem Qd {W:World} {b:Nat} {t:TypeId} {x y:Value} (h:Blk W b t [x,y]):∀ j u,[x,y][j]? = some u→W.cell? ((⟨b,0,none⟩:Addr).add j)=some u
  | 0,u,e=>by cases e;exact h.cell (i:=0) (by simp)
  | 1,u,e=>by cases e;exact h.cell (i:=1) (by simp)
  | j+2,u,e=>by simp at e
theorem Qp {W:World} {b:Nat} {v:Value} {t:TypeId} (h:W.heap[b]? = some (.cells #[v] t (0,0))):W.cell? ⟨b,0,none⟩=some v:=by simp [World.cell?,h]
theorem Np {W:World} {b:Nat} {v:Value} {t:TypeId} (h:W.heap[b]? = some (.cells #[v] t (0,0))):W.frozen? ⟨b,0,none⟩=false:=by simp [World.frozen?,h]
theorem Qq {W W':World} {base b k:Nat} {v:Value} {xs:List Value} (hr:W.ownsRow base 68 2 v k xs) (h:W.heap[b]? = some (.cells #[v] 103 (0,0))) (hg:W.grownBy W' v.ownBlock):W'.heap[b]? = some (.cells #[v] 103 (0,0)):=
  (hg.block b (Array.getElem?_eq_some_iff.1 h).1 (by
    rcases GH hr h (fun c e=>by cases e) with e | e
    · rw [e];simp
    · exact fun e'=>e e'.symm)).trans h
theorem RP {W:World} {b:Nat} {v:Value} {t:TypeId} (v':Value) (h:W.heap[b]? = some (.cells #[v] t (0,0))):(W.setCell ⟨b,0,none⟩ v').heap[b]? = some (.cells #[v'] t (0,0)):=by
  obtain ⟨hlt,hk⟩:=Array.getElem?_eq_some_iff.1 h
  show (W.heap.modify b _)[b]? = _
  rw [Array.getElem?_eq_getElem (by rw [Array.size_modify];exact hlt),Array.getElem_modify_self,hk]
  rfl
theorem Lk {W:World} {base:Nat} {e:TypeId} {size:Nat} {v:Value} {k:Nat} {xs:List Value} (h:W.ownsRow base e size v k xs) {j:Nat} {o:Obj} (hj:v.ownBlock=some j) (ho:W.heap[j]? = some o):o.isCells=true:=by
  rcases h.2 with ⟨rfl,_⟩ | ⟨g,cap,cur,rfl,_,hgb,_⟩
  · simp [Value.ownBlock] at hj
  · have:g=j:=by simpa [Value.ownBlock] using hj
    subst this;rw [hgb] at ho;cases ho;rfl
theorem QQ:(Tryz.prog.info? 68).map (fun i=>(i.zero,i.size,i.bytes))=some (some (.agg #[ν 0,ν 0]),2,16):=κ
theorem Nn {w:World} {lb:Array Value} {S:List (Int×Int)→Prop} {N:Nat} (hN:N≤1000) (hseq:SeqGives Fence.wide 4 Tryz.prog 83 lb kVD S N w) :
    CallsIn Fence.wide 5 Tryz.prog 93 #[.slice none 0 0,.func (.func 83) #[] lb] w fun e w'=>
      ∃ v K,e=.returned v∧S K∧w'.ownsRow w.heap.size 68 2 v K.length (K.flatMap kvC)∧Below w.heap.size w w':=by
  refine callsIn_of_wp_marks Tryz.func93 rfl trivial ?_ rfl
  simp only [Tryz.ntmps93,List.size_toArray,List.length_cons,List.length_nil,Nat.reduceAdd,Nat.reduceSub,Array.replicate_succ,Array.replicate_zero,List.push_toArray,List.append_toArray,List.nil_append,List.cons_append]
  gi_wp2
  have hv0:(w.alloc (.cells #[.slice none 0 0] 103)).heap[w.heap.size]? = some (.cells #[.slice none 0 0] 103 (0,0)):=World.alloc_heap_new w _
  have b0:Below w.heap.size w (w.alloc (.cells #[.slice none 0 0] 103)):=(Below.refl _ w).alloc (Nat.le_refl _) _
  have hsz:(w.alloc (.cells #[.slice none 0 0] 103)).heap.size=w.heap.size+1:=by simp
  refine Jz rfl ω (gf:=83) (lb:=lb) rfl trivial (enters_of Tryz.func83 κ rfl)
    hseq b0 rfl (apI w) (by rw [hsz];exact Or w) ⟨⟨_,hv0,⟨rfl,.inl ⟨rfl,rfl⟩⟩⟩,b0⟩
    (SB (w.heap.size+1) (fun x Bx=>{ tmps:=#[.slice none 0 0,.func (.func 83) #[] lb,π w.heap.size,undef,.slice none 0 0,π Bx,.func (.func 83) #[] lb,kVD x,undef,undef,undef,undef,undef],defers:=[] })) Qo ?assign ?body ?done
  case assign=>
    rintro l pre ⟨x1,x2⟩ W K hI hlt hK
    simp only [kVD]
    gi_wp2
    have hrow':=hI.1
    exact hK _ _ (KeepsOthers.alloc W _) ((Or w).alloc _ hI) ⟨W.heap.size,by rw [hsz] at hlt;exact hlt,heap_alloc_new W _,rfl⟩
  case body=>
    rintro l pre ⟨x1,x2⟩ a' W ⟨⟨v,hv,hr⟩,hb⟩ ⟨Bx,hBx,hx,rfl⟩ hlt hlen
    have hc:W.cell? ⟨w.heap.size,0,none⟩=some v:=by simp [World.cell?,hv]
    have hf:W.frozen? ⟨w.heap.size,0,none⟩=false:=by simp [World.frozen?,hv]
    have c0:W.cell? ⟨Bx,0,none⟩=some (ν x1):=hx.cell (i:=0) (by simp [kvC])
    have c1:W.cell? ⟨Bx,1,none⟩=some (ν x2):=hx.cell (i:=1) (by simp [kvC])
    obtain ⟨i0,hi,hz0,hz1,hz2⟩:=info_parts QQ
    have hsz1:=hb.size
    have hr1:(W.alloc (.cells #[ν x1,ν x2] 68)).ownsRow w.heap.size 68 2 v pre.length (pre.flatMap kvC):=hr.alloc _
    have hnew:Blk (W.alloc (.cells #[ν x1,ν x2] 68)) W.heap.size 68 [ν x1,ν x2]:=heap_alloc_new W _
    have hlt0:w.heap.size<W.heap.size:=(Array.getElem?_eq_some_iff.1 hv).1
    have hv1:=(Below.heap_alloc W (.cells #[ν x1,ν x2] 68) _ hlt0).trans hv
    simp only [kVD]
    gi_wp2_with (gi_at_builtin;refine wpListIn_append_own _ rfl _ _ 103 rfl w.heap.size 68 i0 (.agg #[ν 0,ν 0]) 2 16 υ103 hi hz0 hz1 hz2 rfl (by decide) _ _ _ rfl hr1 ⟨W.heap.size,0,none⟩ 1 1 [ν x1,ν x2] rfl rfl (Qd hnew) (by simp [Value.oneCell']) (by unfold maxLen;omega) ω (by simp;omega) ?_;intro v' w3 hown3 hg3 hnil3;clear hnil3;have hg3':(W.alloc (.cells #[ν x1,ν x2] 68)).grownBy w3 v.ownBlock:=hg3;have hv3:=Qq hr1 hv1 hg3';have hc3:=Qp hv3;have hf3:=Np hv3;obtain ⟨sa,sc,rfl,hO3⟩:=Fe hown3;clear hown3)
    have hgs:w3.grownBy (w3.setCell ⟨w.heap.size,0,none⟩ (.slice sa (pre.length+1) sc)) (some w.heap.size):=⟨rfl,rfl,rfl,(KeepsWalks.setCell w3 _ _).size,fun k _ hk=>Below.heap_setCell _ _ _ k (fun e=>hk (by rw [e]))⟩
    have hb3:Below w.heap.size w w3:=(hb.alloc hb.size _).grown hg3' (by simp;omega) (fun k e=>(hr1.lt k e).1)
    have hr4:(w3.setCell ⟨w.heap.size,0,none⟩ (.slice sa (pre.length+1) sc)).ownsRow w.heap.size 68 2 (.slice sa (pre.length+1) sc) (pre.length+1) (pre.flatMap kvC++[ν x1,ν x2]):=World.ownsRow.kept hO3 hgs (GH hO3 hv3 (fun c e=>by cases e))
    refine ⟨(KeepsOthers.alloc W _).trans ((KeepsOthers.of_grownBy hg3' (fun j o=>Lk hr1)).trans (KeepsOthers.setCell w3 _ _)),⟨_,RP _ hv3,?_⟩,hb3.grown hgs hb3.size (fun k e=>by cases e;exact Nat.le_refl _)⟩
    rw [List.length_append,List.flatMap_append]
    exact hr4
  case done=>
    rintro D K W hD hS ⟨⟨v,hv,hr⟩,hb⟩ hk
    have hc:W.cell? ⟨w.heap.size,0,none⟩=some v:=by simp [World.cell?,hv]
    gi_wp2
    refine ⟨by simp,.inl ⟨_,_,rfl,run_takeDeferred hk,?_⟩⟩
    refine ⟨_,results_tmp rfl _ _ _,v,K,rfl,hS,hr.kept (grownBy_putObj' _ _ _) (GH hr hk (fun c e=>by cases e)),hb.grown (grownBy_putObj' _ _ _) hb.size (fun k e=>by cases e;rw [hsz] at hD;omega)⟩
end
section
open Go.Shelf
def Oe:Go.Shelf.Ren:=⟨fun | 20=>108 | n=>n,fun | 24=>68 | 22=>103 | 3=>3 | 25=>108 | 4=>4 | 0=>0 | n=>n,fun | n=>n⟩
def OQ:Go.Shelf.Ren:=⟨fun | 14=>94 | 20=>108 | 21=>109 | 22=>110 | 23=>111 | 24=>112 | 25=>113 | 26=>114 | 27=>115 | 46=>129 | 47=>130 | 48=>131 | 49=>132 | 50=>133 | 15=>95 | 57=>149 | 28=>116 | 29=>117 | n=>n,fun | 24=>68 | 22=>103 | 3=>3 | 25=>108 | 4=>4 | 0=>0 | 46=>162 | 45=>161 | 50=>166 | 66=>182 | 39=>145 | 55=>171 | 70=>186 | 76=>200 | 77=>201 | 53=>169 | 5=>5 | 9=>9 | n=>n,fun | n=>n⟩
def Jv:Go.Shelf.Ren:=⟨fun | 6=>82 | 15=>95 | 14=>94 | 28=>116 | 29=>117 | 20=>108 | 21=>109 | 22=>110 | 23=>111 | 24=>112 | 25=>113 | 26=>114 | 27=>115 | 46=>129 | 47=>130 | 48=>131 | 49=>132 | 50=>133 | 57=>149 | n=>n,fun | 22=>103 | 24=>68 | 25=>108 | 3=>3 | 39=>145 | 0=>0 | 53=>169 | 55=>171 | 4=>4 | 46=>162 | 45=>161 | 50=>166 | 5=>5 | 9=>9 | 66=>182 | 70=>186 | 76=>200 | 77=>201 | n=>n,fun | n=>n⟩
theorem IY:Go.Proofs.SlLaysF0.n6 Tryz.prog Jv:={
  mixed:=κ
  f6:=⟨Tryz.f82.name,by decide,Tryz.func82.trans (congrArg some κ)⟩
  f14:=⟨Tryz.f94.name,by decide,Tryz.func94.trans (congrArg some κ)⟩
  f15:=Tryz.func95.trans (congrArg some κ)
  f20:=⟨Tryz.f108.name,by decide,Tryz.func108.trans (congrArg some κ)⟩
  f21:=⟨Tryz.f109.name,by decide,Tryz.func109.trans (congrArg some κ)⟩
  f22:=⟨Tryz.f110.name,by decide,Tryz.func110.trans (congrArg some κ)⟩
  f23:=⟨Tryz.f111.name,by decide,Tryz.func111.trans (congrArg some κ)⟩
  f24:=⟨Tryz.f112.name,by decide,Tryz.func112.trans (congrArg some κ)⟩
  f25:=⟨Tryz.f113.name,by decide,Tryz.func113.trans (congrArg some κ)⟩
  f26:=⟨Tryz.f114.name,by decide,Tryz.func114.trans (congrArg some κ)⟩
  f27:=⟨Tryz.f115.name,by decide,Tryz.func115.trans (congrArg some κ)⟩
  f28:=Tryz.func116.trans (congrArg some κ)
  f29:=Tryz.func117.trans (congrArg some κ)
  f46:=⟨Tryz.f129.name,by decide,Tryz.func129.trans (congrArg some κ)⟩
  f47:=Tryz.func130.trans (congrArg some κ)
  f48:=Tryz.func131.trans (congrArg some κ)
  f49:=⟨Tryz.f132.name,by decide,Tryz.func132.trans (congrArg some κ)⟩
  f50:=⟨Tryz.f133.name,by decide,Tryz.func133.trans (congrArg some κ)⟩
  f57:=⟨Tryz.f149.name,by decide,Tryz.func149.trans (congrArg some κ)⟩
  t0:=υ0
  a0:=Tryz.isAgg0
  z0:=Tryz.sizeOf0
  v0:=Tryz.zeroValue0
  t3:=υ3
  a3:=Tryz.isAgg3
  z3:=Tryz.sizeOf3
  v3:=Tryz.zeroValue3
  t4:=υ4
  a4:=Tryz.isAgg4
  z4:=Tryz.sizeOf4
  v4:=Tryz.zeroValue4
  t5:=υ5
  a5:=Tryz.isAgg5
  z5:=Tryz.sizeOf5
  v5:=Tryz.zeroValue5
  t9:=υ9
  a9:=Tryz.isAgg9
  z9:=Tryz.sizeOf9
  v9:=Tryz.zeroValue9
  t22:=υ103
  a22:=Tryz.isAgg103
  z22:=Tryz.sizeOf103
  v22:=Tryz.zeroValue103
  t25:=υ108
  a25:=Tryz.isAgg108
  z25:=Tryz.sizeOf108
  v25:=Tryz.zeroValue108
  t39:=υ145
  a39:=Tryz.isAgg145
  z39:=Tryz.sizeOf145
  v39:=Tryz.zeroValue145
  t45:=υ161
  a45:=Tryz.isAgg161
  z45:=Tryz.sizeOf161
  v45:=Tryz.zeroValue161
  t46:=υ162
  a46:=Tryz.isAgg162
  z46:=Tryz.sizeOf162
  v46:=Tryz.zeroValue162
  t50:=υ166
  a50:=Tryz.isAgg166
  z50:=Tryz.sizeOf166
  v50:=Tryz.zeroValue166
  t53:=υ169
  a53:=Tryz.isAgg169
  z53:=Tryz.sizeOf169
  v53:=Tryz.zeroValue169
  t55:=υ171
  a55:=Tryz.isAgg171
  z55:=Tryz.sizeOf171
  v55:=Tryz.zeroValue171
  t66:=υ182
  a66:=Tryz.isAgg182
  z66:=Tryz.sizeOf182
  v66:=Tryz.zeroValue182
  t70:=υ186
  a70:=Tryz.isAgg186
  z70:=Tryz.sizeOf186
  v70:=Tryz.zeroValue186
  t76:=υ200
  a76:=Tryz.isAgg200
  z76:=Tryz.sizeOf200
  v76:=Tryz.zeroValue200
  t77:=υ201
  a77:=Tryz.isAgg201
  z77:=Tryz.sizeOf201
  v77:=Tryz.zeroValue201 }
open Go.RowKit Go.Lib Go.Sort in
theorem slices_SortFunc_none {α:Type} [Inhabited α] (p:Option Addr) (cap:Nat) (fv:Value) (w:World) :
    Calls Tryz.prog 82 #[.slice p 0 cap,fv] w fun e w'=>e=.returned (.tuple #[])∧w'=w:=AnyF.slices_SortFunc_none IY p cap fv w
open Go.RowKit Go.Lib Go.Sort in
theorem slices_SortFunc_total {α:Type} [Inhabited α] (k:Nat) (aE:∀ w,(isAgg 68).run Tryz.prog w=.ok true w) (zE:∀ w,(Go.sizeOf 68).run Tryz.prog w=.ok k w) (enc:α→List Value) (hk:∀ x,(enc x).length=k) (h1:∀ x,∀ v∈enc x,v.oneCell'=true) (cf:α→α→Int) (hO:SWO (ltOf cf)) (g:Nat) (cb:Array Value) (blk off cap:Nat) (d:Array α) (w:World) (eg:∀ args w,(callFunc g args).run Tryz.prog w=.ok (.enter g args) w) (hcmp:CmpLays Tryz.prog g cb enc k cf blk off d.size w) (hH:HoldsK enc k w blk off d) (hblk:blk<w.heap.size) (hsz:d.size<4611686018427387904) (hT:∀ x y,(ltOf cf) x y=false→(ltOf cf) y x=false→x=y) :
    Calls Tryz.prog 82 #[.slice (some ⟨blk,off,none⟩) d.size cap,.func (.func g) #[] cb] w fun e w'=>
      e=.returned (.tuple #[])∧∃ n os,w'=sortWorldK enc k w blk off n (d.toList.mergeSort fun x y=>!(ltOf cf) y x).toArray os:=AnyQ.slices_SortFunc_total IY k aE zE enc hk h1 cf hO g cb blk off cap d w eg hcmp hH hblk hsz hT
end
section
open Go.RowKit Go.Sort Go.Lib
theorem MB {α:Type} [Inhabited α] {enc:α→List Value} {sz:Nat} (h:∀ x,(enc x).length=sz) (d:Array α):flatK enc sz d=(d.toList.flatMap enc).toArray:=by
  apply Array.ext'
  refine List.ext_getElem? fun i=>?_
  by_cases hi:i<d.size*sz
  · have hsz:0<sz:=Nat.pos_of_ne_zero fun e=>by subst e;simp at hi
    have hd:i / sz<d.size:=Nat.div_lt_of_lt_mul (by rw [Nat.mul_comm];exact hi)
    have hm:i % sz<sz:=Nat.mod_lt _ hsz
    rw [show (d.toList.flatMap enc).toArray.toList=d.toList.flatMap enc from rfl]
    rw [KA h (L:=d.toList) (j:=i / sz) (k:=i % sz) default (by simpa using hd) hm (by rw [Nat.mul_comm];exact Nat.div_add_mod i sz)]
    have e:d.toList.getD (i / sz) default=d[i / sz]!:=by simp [List.getD_eq_getElem?_getD,getElem!_pos,hd]
    rw [e,Array.getElem?_toList,Array.getElem?_eq_getElem (by simpa using hi)]
    have hl:i % sz<(enc d[i / sz]!).length:=by rw [h];exact hm
    rw [List.getElem?_eq_getElem hl]
    simp [flatK,hl]
  · rw [List.getElem?_eq_none (by simp [flatK];omega),List.getElem?_eq_none (by show (d.toList.flatMap enc).length≤i;rw [NJ h];simp;omega)]
theorem JR {w:World} {g:Nat} {cur:Array Value} {e:TypeId} {ss:List Value} (hb:w.heap[g]? = some (.cells cur e (0,0))) (ht:cur.toList.take ss.length=ss):Holds id w g 0 ss.toArray:=by
  intro j hj
  have hj':j<ss.length:=by simpa using hj
  refine ⟨?_,by simp [World.frozen?,hb]⟩
  have h1:(cur.toList.take ss.length)[j]? = ss[j]?:=by rw [ht]
  rw [List.getElem?_take_of_lt hj'] at h1
  simp only [World.cell?,hb,Nat.zero_add]
  simp only [Option.isSome_none,Bool.false_eq_true,if_false]
  rw [← Array.getElem?_toList,h1]
  simp [hj']
theorem Me {w:World} {g n:Nat} {os:Array Obj} {cur:Array Value} {e:TypeId} {fr:Nat×Nat} (d:Array Value) (hb:w.heap[g]? = some (.cells cur e fr)) :
    (grow (putRow id (Sort.ahead w n) g 0 d) os).heap[g]? = some (.cells (putCells id 0 d cur) e fr):=by
  have hg:g<w.heap.size:=(Array.getElem?_eq_some_iff.1 hb).1
  rw [heap_grow_old _ _ (by simpa using hg)]
  simp [putRow,mapBlock,Sort.ahead,Array.getElem?_modify,hb,onCells]
theorem JQ {w:World} {g n:Nat} {os:Array Obj} (d:Array Value):w.grownBy (grow (putRow id (Sort.ahead w n) g 0 d) os) (some g):=by
  refine ⟨rfl,rfl,rfl,by simp,fun k hk hne=>?_⟩
  rw [heap_grow_old _ _ (by simpa using hk)]
  have:g≠k:=fun e=>hne (by rw [e])
  simp [putRow,mapBlock,Sort.ahead,Array.getElem?_modify,this]
theorem Le (cur:Array Value) (ts:List Value) (h:ts.length≤cur.size):(putCells id 0 ts.toArray cur).toList.take ts.length=ts:=by
  apply List.ext_getElem?
  intro j
  by_cases hj:j<ts.length
  · rw [List.getElem?_take_of_lt hj,Array.getElem?_toList]
    simp [putCells,hj,show j<cur.size by omega]
  · rw [List.getElem?_take_eq_none ω,List.getElem?_eq_none ω]
theorem PO {α:Type} [Inhabited α] {enc:α→List Value} {sz:Nat} (henc:∀ x,(enc x).length=sz) {w:World} {B:Nat} {e:TypeId} {g c:Nat} {L:List α} (h:Own w B e sz (some ⟨g,0,none⟩) L.length c (L.flatMap enc)) :
    HoldsK enc sz w g 0 L.toArray∧g<w.heap.size∧∀ n os (M:List α),M.length=L.length→Own (sortWorldK enc sz w g 0 n M.toArray os) B e sz (some ⟨g,0,none⟩) M.length c (M.flatMap enc)∧w.grownBy (sortWorldK enc sz w g 0 n M.toArray os) (some g):=by
  obtain ⟨h0,h1⟩:=h
  rcases h1 with ⟨hv,_⟩ | ⟨g',cap,cur,hv,hbase,hb,h2,h3,h4,h5⟩
  · cases hv
  · cases hv
    have hlen:∀ M:List α,M.length=L.length→(M.flatMap enc).length=L.length*sz:=fun M hM=>by rw [NJ henc,hM]
    refine ⟨?_,(Array.getElem?_eq_some_iff.1 hb).1,fun n os M hM=>?_⟩
    · unfold HoldsK
      rw [MB henc]
      exact JR hb (by rw [show L.toArray.toList=L from rfl,hlen L rfl];exact h5)
    · unfold sortWorldK putRowK
      rw [MB henc,show M.toArray.toList=M from rfl]
      have hcap:L.length*sz≤cur.size:=by rw [h4];exact Nat.mul_le_mul_right _ h2
      refine ⟨⟨by rw [hlen M hM,hM],.inr ⟨g,c,_,rfl,hbase,Me _ hb,ω,h3,by simp [putCells,h4],?_⟩⟩,JQ _⟩
      have:=Le cur (M.flatMap enc) (by rw [hlen M hM];exact hcap)
      rw [hM,← hlen M hM];exact this
end
section
open Go.Sort Go.Lib
theorem CF (g off:Nat) (w:World):(Instr.fieldAt 68 (.pointer (some ⟨g,off,none⟩)) 0).run Tryz.prog w=.ok (.pointer (some ⟨g,off+0,none⟩)) w:=rfl
theorem El (g off:Nat) (w:World):(Instr.fieldAt 68 (.pointer (some ⟨g,off,none⟩)) 1).run Tryz.prog w=.ok (.pointer (some ⟨g,off+1,none⟩)) w:=rfl
theorem CI (args:Array Value) (w:World):(callFunc 93 args).run Tryz.prog w=.ok (.enter 93 args) w:=by
 have h:=Tryz.func93
 go_simp
theorem Eb (args:Array Value) (w:World):(callFunc 81 args).run Tryz.prog w=.ok (.enter 81 args) w:=by
 have h:=Tryz.func81
 go_simp
theorem CL (args:Array Value) (w:World):(callFunc 82 args).run Tryz.prog w=.ok (.enter 82 args) w:=by
 have h:=Tryz.func82
 go_simp
theorem SI (w:World) (p q:Int×Int) (hp:(1≤p.1∧p.1≤8)∧0≤p.2∧p.2<8) (hq:(1≤q.1∧q.1≤8)∧0≤q.2∧q.2<8) :
  CallsR Tryz.prog 63 #[.agg #[ν p.1,ν p.2],.agg #[ν q.1,ν q.2]] w (fun v w'=>v=ν (if p.1≠q.1 then p.1-q.1 else p.2-q.2)∧∃ k os,w'=Go.Sort.grow (w.drewN k) os):=by
 have hS:Sep w []:=Sep.nil w
 refine AE Tryz.func63 rfl (N:=20) Tryz.ntmps63 (by show 2≤20;decide) [(0,.agg #[ν p.1,ν p.2]),(1,.agg #[ν q.1,ν q.2])] rfl fun _ h1=>sqr fun _ hK3=>so (wn rfl) fun _ hK1=>Dc h1 rfl rfl rfl rfl rfl (z:=[ν p.1,ν p.2]) rfl hS fun _ g4 w7 h5 s8 b9 _=>hK1 _ _ ?_
 refine so (wn rfl) fun _ hK2=>Dc h5 rfl rfl rfl rfl rfl (z:=[ν q.1,ν q.2]) rfl s8 fun _ g1 w1 h2 s1 b1 _=>hK2 _ _ ?_
 refine mv h2 rfl fun _ h3=>wpList_nil<|hK3 _ _<|sq fun _ hK4=>sqr fun _ hK5=>fav h3 rfl (CF _ _) fun _ h4=>ldv h4 s1 1 υ3 rfl rfl rfl rfl fun _ h6=>fav h6 rfl (CF _ _) fun _ h7=>ldv h7 s1 0 υ3 rfl rfl rfl rfl fun _ h8=>bv h8 (z:=.bool (decide (p.1≠q.1))) rfl (cNe _ _ _ _ rfl) fun _ h9=>h9.sn [9,4,3,2,0,1] rfl fun h10=>hK5 _ _ ?_
 rcases bC (decide (p.1≠q.1)) with hc1 | hc1
 ·skip
  have hp1:p.1≠q.1:=(dT hc1)
  refine wcT h10 rfl hc1<|h10.sk [4,3,2,0,1] rfl fun h11=>sqr fun _ hK6=>fav h11 rfl (CF _ _) fun _ h12=>ldv h12 s1 1 υ3 rfl rfl rfl rfl fun _ h13=>fav h13 rfl (CF _ _) fun _ h14=>ldv h14 s1 0 υ3 rfl rfl rfl rfl fun _ h15=>bv h15 (z:=ν (p.1-q.1)) rfl (Ij _ _ _ ω ω ω) fun _ h16=>h16.sk [14,13,12,11,10,3,2,0,1] rfl fun h17=>mv h17 rfl fun _ h18=>?_
  refine h18.sn [4,3,2,0,1] rfl fun h19=>hK6 _ _<|wp_ret ?_
  try simp only [Exit.then,Exit.inBlock]
  refine Bi (v:=ν (p.1-q.1)) (Ce h19 rfl rfl) h19.defs ?_
  refine ⟨by rw [if_pos ω],0,?_⟩
  obtain ⟨ob9,rfl⟩:=b9
  obtain ⟨ob17,rfl⟩:=b1
  exact ⟨_,by rw [Go.Sort.alloc_eq_grow,Go.Sort.alloc_eq_grow,Go.Sort.grow_grow];rfl⟩
 ·skip
  have hp2:¬ (p.1≠q.1):=(dF hc1)
  refine wcF h10 rfl hc1<|h10.sk [4,3,2,0,1] rfl fun h20=>wp_skip<|hK4 _ _<|sqr fun _ hK7=>fav h20 rfl (El _ _) fun _ h21=>ldv h21 s1 1 υ3 rfl rfl rfl rfl fun _ h22=>fav h22 rfl (El _ _) fun _ h23=>ldv h23 s1 0 υ3 rfl rfl rfl rfl fun _ h24=>bv h24 (z:=ν (p.2-q.2)) rfl (Ij _ _ _ ω ω ω) fun _ h25=>h25.sk [19,18,17,16,15,3,2,0,1] rfl fun h26=>?_
  refine mv h26 rfl fun _ h27=>h27.sn [4,3,2,0,1] rfl fun h28=>hK7 _ _<|wp_ret ?_
  try simp only [Exit.then,Exit.inBlock]
  refine Bi (v:=ν (p.2-q.2)) (Ce h28 rfl rfl) h28.defs ?_
  refine ⟨by rw [if_neg ω],0,?_⟩
  obtain ⟨ob9,rfl⟩:=b9
  obtain ⟨ob17,rfl⟩:=b1
  exact ⟨_,by rw [Go.Sort.alloc_eq_grow,Go.Sort.alloc_eq_grow,Go.Sort.grow_grow];rfl⟩
abbrev DF:=Fin 8×Fin 8
def df (p:DF):Int×Int:=(((p.1.val+1:Nat):Int),((p.2.val:Nat):Int))
theorem Sr (p:DF):(1≤(df p).1∧(df p).1≤8)∧0≤(df p).2∧(df p).2<8:=by
 have h1:=p.1.isLt
 have h2:=p.2.isLt
 unfold df
 refine ⟨⟨?_,?_⟩,?_,?_⟩<;>simp only<;>omega
theorem SJ {p q:DF} (h:df p=df q):p=q:=by
 unfold df at h
 have h1:=(Prod.mk.inj h).1
 have h2:=(Prod.mk.inj h).2
 exact Prod.ext (Fin.ext ω) (Fin.ext ω)
theorem Ss:∀ {K:List (Int×Int)},(∀ p∈K,(1≤p.1∧p.1≤8)∧0≤p.2∧p.2<8)→∃ M:List DF,K=M.map df
 | [],_=>⟨[],rfl⟩
 | p::K,h=>by
  obtain ⟨M,hM⟩:=Ss (K:=K) (fun q hq=>h q (List.mem_cons_of_mem _ hq))
  have hp:=h p List.mem_cons_self
  refine ⟨(⟨(p.1-1).toNat,ω⟩,⟨p.2.toNat,ω⟩)::M,?_⟩
  rw [List.map_cons,← hM]
  congr 1
  unfold df
  exact Prod.ext (by show p.1=_;simp only;omega) (by show p.2=_;simp only;omega)
def Ny (p:DF):List Value:=kvC (df p)
theorem OE (M:List DF):(M.map df).flatMap kvC=M.flatMap Ny:=by induction M<;>simp_all [Ny]
def cfD (x y:DF):Int:=if (df x).1≠(df y).1 then (df x).1-(df y).1 else (df x).2-(df y).2
theorem Mj (x y:DF):ltOf cfD x y=true↔(df x).1<(df y).1∨((df x).1=(df y).1∧(df x).2<(df y).2):=by
 unfold ltOf cfD
 rw [decide_eq_true_eq]
 split<;>omega
theorem KB (x y:DF):ltOf cfD x y=false↔¬ ((df x).1<(df y).1∨((df x).1=(df y).1∧(df x).2<(df y).2)):=by
 rw [← Mj];simp
theorem TE:Go.Sort.SWO (ltOf cfD):=by
 refine ⟨fun x=>?_,fun x y z h1 h2=>?_,fun x y z h1 h2=>?_⟩
 ·rw [KB];omega
 ·rw [Mj] at *;omega
 ·rw [KB] at *;omega
theorem Uk (x y:DF) (h1:ltOf cfD x y=false) (h2:ltOf cfD y x=false):x=y:=by
 rw [KB] at *
 exact SJ (Prod.ext ω ω)
theorem Tj (args:Array Value) (w:World):(callFunc 63 args).run Tryz.prog w=.ok (.enter 63 args) w:=by
 have h:=Tryz.func63
 go_simp
theorem Si {w:World} {B:Nat} {a:Option Addr} {c:Nat} {F:FsM} {K:List (Int×Int)} {R:List Ch} (hS:Sep w (Ai B 68 2 a K.length c (K.flatMap kvC)::R)) (hp:K.Perm (DS F)) :
  CallsR Tryz.prog 82 #[.slice a K.length c,.func (.func 63) #[] #[]] w fun v w'=>v=.tuple #[]∧Sep w' (Ai 0 68 2 a (DS F).length c ((DS F).flatMap kvC)::R):=by
 have hO:Own w 0 68 2 a K.length c (K.flatMap kvC):=Own.low (hS.get 0 rfl) (Nat.zero_le _)
 obtain ⟨M,rfl⟩:=Ss (K:=K) (fun p h=>Pz (List.mem_filter.1 (hp.mem_iff.1 h)).1)
 cases a with
 | none=>
  have hn:(M.map df).length=0:=by
   rcases hO.2 with ⟨_,h0⟩ | ⟨g',cap,cur,hv,_⟩
   ·exact h0
   ·cases hv
  have hM:M=[]:=List.eq_nil_of_length_eq_zero (by simpa using hn)
  subst hM
  have ha:DS F=[]:=List.eq_nil_of_length_eq_zero (by rw [← hp.length_eq];rfl)
  rw [ha]
  refine (slices_SortFunc_none (α:=DF) none c _ w).mono fun e w' q=>⟨_,q.1,rfl,?_⟩
  rw [q.2]
  exact Sep.upd hS 0 rfl (Turns.refl (fun _=>False) w) (fun k _ e=>e.elim) (c':=Ai 0 68 2 none 0 c []) hO (fun k hk=>.inl hk)
 | some ad=>
  have had:∃ q,ad=⟨q,0,none⟩:=by
   rcases hO.2 with ⟨hv,_⟩ | ⟨g',cap,cur,hv,_⟩
   ·cases hv
   ·cases hv;exact ⟨g',rfl⟩
  obtain ⟨q,rfl⟩:=had
  rw [OE,List.length_map] at hO
  obtain ⟨h1,h2,h3⟩:=PO (enc:=Ny) (fun _=>rfl) hO
  have hlen:M.length≤64:=by have:=hp.length_eq;rw [List.length_map] at this;have:=IL F;omega
  have hcmp:CmpLays Tryz.prog 63 #[] Ny 2 cfD q 0 M.toArray.size w:=fun m os dk _ x y=>
   Calls.mono (SI _ (df x) (df y) (Sr x) (Sr y)) fun e w' ⟨v,e1,e2,r⟩=>⟨by rw [e1,e2];rfl,r⟩
  have hc:=slices_SortFunc_total (α:=DF) 2 Tryz.isAgg68 Tryz.sizeOf68 Ny (fun _=>rfl) (fun x v hv=>by simp [Ny,kvC] at hv;rcases hv with rfl | rfl<;>rfl) cfD TE 63 #[] q 0 c M.toArray w Tj hcmp h1 h2 (by simp;omega) Uk
  rw [List.length_map]
  refine hc.mono fun e w' r=>?_
  obtain ⟨r1,n,os,rfl⟩:=r
  refine ⟨_,r1,rfl,?_⟩
  obtain ⟨M',hM'⟩:∃ M',M'=M.mergeSort fun x y=>!(ltOf cfD) y x:=⟨_,rfl⟩
  have hperm:M'.Perm M:=by rw [hM'];exact List.mergeSort_perm _ _
  have hsorted:(M'.map df).Pairwise (fun p q=>p.1<q.1∨(p.1=q.1∧p.2≤q.2)):=by
   rw [List.pairwise_map,hM']
   refine (List.pairwise_mergeSort (le:=fun x y=>!(ltOf cfD) y x) (fun x y z a b=>?_) (fun x y=>?_) M).imp fun {x y} hxy=>?_
   ·simp only [Bool.not_eq_true'] at a b ⊢
    exact TE.ntrans z y x b a
   ·cases hb:ltOf cfD y x
    ·rfl
    ·simp only [Bool.not_true,Bool.false_or,Bool.not_eq_true']
     rw [Mj] at hb;rw [KB];omega
   ·simp only [Bool.not_eq_true'] at hxy
    rw [KB] at hxy;omega
  have hall:M'.map df=DS F:=by
   refine List.Perm.eq_of_pairwise (le:=fun p q=>decide (p.1<q.1∨(p.1=q.1∧p.2≤q.2))) (fun a b _ _ h1 h2=>?_) (hsorted.imp fun {a b} h=>decide_eq_true h) ((OA F).imp fun {a b} h=>decide_eq_true ω) ((hperm.map df).trans hp)
   simp only [decide_eq_true_eq] at h1 h2
   exact Prod.ext ω ω
  have hl':M'.length=M.length:=hperm.length_eq
  obtain ⟨o1,o2⟩:=h3 n os M' hl'
  rw [← hM',← hall,OE,List.length_map]
  exact Sep.upd hS 0 rfl (Turns.of_row (r:=some q) o2) (fun k _ hk=>hk) (c':=Ai 0 68 2 (some ⟨q,0,none⟩) M'.length c (M'.flatMap Ny)) o1 (fun k hk=>.inl hk)
def Oo (w:World) (g:Int×Int→Option (Option Nat)) (lb:Array Value):Prop:=
 ∀ L:List (Int×Int),(∀ p,wfD p→(g p).isSome=true→p∈L)→SeqGives Fence.wide 4 Tryz.prog 83 lb kVD (Ls g) L.length w
theorem Pe {w:World} {R:List Ch} {g:Int×Int→Option (Option Nat)} {lb:Array Value} {L:List (Int×Int)} (hS:Sep w R) (hK:Oo w g lb) (hL:∀ p,wfD p→(g p).isSome=true→p∈L) (hl:L.length≤1000) :
  CallsR Tryz.prog 93 #[.slice none 0 0,.func (.func 83) #[] lb] w fun v w'=>∃ K a c,v=.slice a K.length c∧Sep w' (Ai 0 68 2 a K.length c (K.flatMap kvC)::R)∧Ls g K:=
 ((callsIn_wide (n:=5)).1 (Nn hl (hK L hL))).mono fun e w' ⟨v,K,e1,hO,hr,hb⟩=>by
  obtain ⟨a,c,rfl,hO2⟩:=Fe hr
  exact ⟨_,e1,K,a,c,rfl,hS.own hb hO2,hO⟩
theorem RX {w:World} {ob n:Nat} {g:Int×Int→Option (Option Nat)} {R:List Ch} (hS0:Sep w ([AP KO ob n g]++R)) :
  CallsR Tryz.prog 62 #[.map (some ob)] w (fun v w'=>∃ lb,v=.func (.func 83) #[] lb∧Oo w' g lb∧Sep w' ([AP KO ob n g]++R)):=by
 have hS:Sep w [AP KO ob n g,Ch.many R]:=Sep.tail_many (xs:=[_]) hS0;clear hS0
 refine AE Tryz.func62 rfl (N:=4) Tryz.ntmps62 (by show 1≤4;decide) [(0,.map (some ob))] rfl fun _ h1=>sqr fun _ hK3=>so (wn rfl) fun _ hK1=>Dc h1 rfl rfl rfl rfl rfl (z:=[.map (some ob)]) rfl hS fun _ g4 w7 h5 s8 _ _=>hK1 _ _ ?_
 refine mv h5 rfl fun _ h2=>wpList_nil<|hK3 _ _<|sqr fun _ hK2=>sv1 h2 rfl (v:=.func (.func 83) #[] #[π g4]) (FW h2 (xs:=[]) (ys:=[.tmp 1]) rfl (vs:=[]) (us:=[π g4]) rfl rfl) fun _ h3=>h3.sk [3,1,0] rfl fun h4=>mv h4 rfl fun _ h6=>h6.sn [2,1,0] rfl fun h7=>hK2 _ _<|wp_ret ?_
 try simp only [Exit.then,Exit.inBlock]
 refine Bi (v:=.func (.func 83) #[] #[π g4]) (Ce h7 rfl rfl) h7.defs ?_
 have hb:Blk _ _ _ _:=s8.get 0 rfl
 exact ⟨_,rfl,fun L hL=>MK hb.lt (hb.cell (i:=0) (by simp)) (s8.get 1 rfl:MapG KO _ _ _ _) hL,Sep.tail_un (xs:=[_]) (s8.pk [1,2] rfl)⟩
theorem Nr {w:World} {R:List Ch} {g:Int×Int→Option (Option Nat)} {lb:Array Value} {L:List (Int×Int)} (hS0:Sep w R) (hK:Oo w g lb) (hL:∀ p,wfD p→(g p).isSome=true→p∈L) (hl:L.length≤1000) :
  CallsR Tryz.prog 81 #[.func (.func 83) #[] lb] w fun v w'=>∃ K a c,v=.slice a K.length c∧Sep w' (Ai 0 68 2 a K.length c (K.flatMap kvC)::R)∧Ls g K:=by
 have hS:Sep w [Ch.many R]:=Sep.tail_many (xs:=[]) hS0;clear hS0
 refine AE Tryz.func81 rfl (N:=5) Tryz.ntmps81 (by show 1≤5;decide) [(0,.func (.func 83) #[] lb)] rfl fun _ h1=>sqr fun _ hK3=>mv h1 rfl fun _ h4=>wpList_nil<|hK3 _ _<|sqr fun _ hK6=>mv h4 rfl fun _ h7=>cl h7 rfl CI (Pe (g:=g) hS hK hL hl) fun _ v1 w1 r1 h2=>?_
 obtain ⟨Kx9,kax10,kcx11,rfl,s1,hG16⟩:=r1
 refine h2.sk [4,3,0] rfl fun h3=>mv h3 rfl fun _ h5=>h5.sn [2,0] rfl fun h6=>hK6 _ _<|wp_ret ?_
 try simp only [Exit.then,Exit.inBlock]
 refine Bi (v:=.slice kax10 Kx9.length kcx11) (Ce h6 rfl rfl) h6.defs ?_
 exact ⟨_,_,_,rfl,Sep.tail_un (xs:=[_]) s1,hG16⟩
theorem PU {w:World} {R:List Ch} {g:Int×Int→Option (Option Nat)} {lb:Array Value} {L:List (Int×Int)} {F:FsM} (hS0:Sep w R) (hK:Oo w g lb) (hL:∀ p,wfD p→(g p).isSome=true→p∈L) (hl:L.length≤1000) (hF:∀ {K:List (Int×Int)},Ls g K→K.Perm (DS F)) :
  CallsR Tryz.prog 61 #[.func (.func 83) #[] lb,.func (.func 63) #[] #[]] w fun v w'=>∃ a c,v=.slice a (DS F).length c∧Sep w' (Ai 0 68 2 a (DS F).length c ((DS F).flatMap kvC)::R):=by
 have hS:Sep w [Ch.many R]:=Sep.tail_many (xs:=[]) hS0;clear hS0
 refine AE Tryz.func61 rfl (N:=12) Tryz.ntmps61 (by show 2≤12;decide) [(0,.func (.func 83) #[] lb),(1,.func (.func 63) #[] #[])] rfl fun _ h1=>sqr fun _ hK3=>mv h1 rfl fun _ h4=>wpList_nil<|hK3 _ _<|sqr fun _ hK6=>mv h4 rfl fun _ h7=>cl h7 rfl Eb (Nr (g:=g) hS hK hL hl) fun _ v1 w1 r1 h2=>?_
 obtain ⟨Kx9,kax10,kcx11,rfl,s1,hG16⟩:=r1
 refine mv h2 rfl fun _ h3=>h3.sn [5,4,0,1] rfl fun h5=>hK6 _ _<|sqr fun _ hK1=>mvs 2 h5 rfl fun _ h6=>cl h6 rfl CL (Si (F:=F) s1 (hF hG16)) fun _ v2 w2 r2 h8=>?_
 obtain ⟨rfl,s2⟩:=r2
 refine h8.sn [5,4,0,1] rfl fun h9=>hK1 _ _<|sqr fun _ hK2=>mv h9 rfl fun _ h10=>h10.sk [11,5,0,1] rfl fun h11=>mv h11 rfl fun _ h12=>h12.sn [4,5,0,1] rfl fun h13=>hK2 _ _<|wp_ret ?_
 try simp only [Exit.then,Exit.inBlock]
 refine Bi (v:=.slice kax10 Kx9.length kcx11) (Ce h13 rfl rfl) h13.defs ?_
 exact ⟨_,_,by rw [(hF hG16).length_eq],Sep.tail_un (xs:=[_]) s2⟩
theorem Tt {F:FsM} {A:AdM} {δ:Nat→Int} (hF:FsC F δ) {K:List (Int×Int)} (h:Ls (opG F A) K):K.Perm (DS F):=
 (List.perm_ext_iff_of_nodup h.1 (Oz F)).2 fun p=>by
  rw [h.2,DX hF]
  have e:(opG F A p).isSome=(Az F.O p.1 p.2).isSome:=by unfold opG elA;rw [Option.isSome_map]
  rw [e]
  refine ⟨fun q=>q.2,fun q=>⟨?_,q⟩⟩
  obtain ⟨m,hm⟩:=Option.isSome_iff_exists.1 q
  exact wfO hF hm
theorem QU {F:FsM} {A:AdM} {δ:Nat→Int} (hF:FsC F δ):∀ p,wfD p→(opG F A p).isSome=true→p∈DS F:=fun p _ h=>by
 rw [DX hF]
 unfold opG elA at h;rw [Option.isSome_map] at h;exact h
end
end Go.Proofs.YtcanemamnmmbcaaGreatDoor
