/- Parts of the proof. -/
import Derived.LaidEql
import Derived.Shelf.Strings.Repeat
import Derived.Test.YtcanemamnmmbcaaGreatDoorQae
namespace Go.Proofs.YtcanemamnmmbcaaGreatDoor
open Go.RowKit
set_option linter.unusedSimpArgs false
set_option linter.unusedVariables false
set_option linter.unusedSectionVars false
set_option maxRecDepth 100000
set_option maxHeartbeats 8000000
section
open Go.Maps (Keyed)
section
variable {ι α:Type} [DecidableEq ι] {K:MapK ι α} {w w':World} {b n r cnt:Nat} {g:ι→Option α} {left:ι→Bool}
def Jd (g:ι→Option α) (i:ι) (a:Option α):ι→Option α:=fun j=>if j=i then a else g j
theorem GA (g:ι→Option α) (i:ι) (a:Option α):Jd g i a i=a:=if_pos rfl
theorem GL (g:ι→Option α) {i j:ι} (a:Option α) (h:j≠i):Jd g i a j=g j:=if_neg h
theorem MapK.lit (K:MapK ι α) {i:ι} (h:K.ok i):WideAt.IsKeyLit (K.kl i):=K.law.key (K.key h)
theorem MapK.ne (K:MapK ι α) {i j:ι} (hi:K.ok i) (hj:K.ok j) (h:j≠i):K.kl j≠K.kl i:=fun e=>h (K.inj hj hi e)
theorem MapK.same (K:MapK ι α) {i j:ι} (hi:K.ok i) (hj:K.ok j):(K.kl j).sameKey (K.kl i)=decide (j=i):=by
  by_cases e:j=i
  · subst e;rw [WideAt.sameKey_self (K.lit hi)];simp
  · cases hs:(K.kl j).sameKey (K.kl i)
    · simp [e]
    · exact absurd (WideAt.sameKey_eq hs) (K.ne hi hj e)
theorem MapG.lt (h:MapG K w b n g):b<w.heap.size:=by obtain ⟨D,h,_⟩:=h;exact h.lt
theorem MapG.turns {X:Nat→Prop} (h:MapG K w b n g) (t:Turns X w w') (hx:¬ X b):MapG K w' b n g:=by
  obtain ⟨D,h1,h2,h3⟩:=h
  exact ⟨D,t.map h1 hx,h2,h3⟩
theorem MapG.mono (h:MapG K w b n g) (bl:Below w.heap.size w w'):MapG K w' b n g:=h.turns (X:=fun _=>False) (Turns.of_below bl) (fun e=>e)
theorem MapG.more (h:MapG K w b n g) {m:Nat} (hm:n≤m):MapG K w b m g:=by
  obtain ⟨D,h1,h2,h3⟩:=h
  exact ⟨D,h1.mono hm,h2,h3⟩
theorem MapG.new (w:World):MapG K (w.alloc (.map #[] 0)) w.heap.size 0 (fun _=>none):=
  ⟨_,World.ownsMap_made w _ _ _,fun i _=>rfl,fun i a _ e=>by cases e⟩
theorem MapG.look (h:MapG K w b n g) {i:ι} (hi:K.ok i):(Instr.lookup K.t (.map (some b)) (K.kv i) true).run Tryz.prog w=.ok (.tuple #[K.av ((g i).getD K.z),.bool (g i).isSome]) w:=by
  obtain ⟨D,h1,h2,h3⟩:=h
  obtain ⟨v,ps,hrun,hR⟩:=h1.look_ok K.law K.und (K.zero w) (K.Rmk K.z) (K.key hi)
  rw [h2 i hi] at hrun
  obtain ⟨a,rfl,ha⟩:=K.Rinv hR
  rw [hrun]
  cases hg:g i with
  | some c=>
    have:=(h3 i c hi hg (K.ad K.z)).symm.trans ha
    rw [K.dinj this];rfl
  | none=>
    have z:=h2 i hi
    rw [hg] at z
    have:=(Maps.atKey_of_not_has z (K.ad K.z)).symm.trans ha
    rw [K.dinj this];rfl
theorem MapG.store (h:MapG K w b n g) (hn:n<maxLen) {i:ι} (hi:K.ok i) (a:α) :
    ∃ w',(Instr.mapUpdate K.t (.map (some b)) (K.kv i) (K.av a)).run Tryz.prog w=.ok () w'∧MapG K w' b (n+1) (Jd g i (some a))∧Turns (fun k=>k=b) w w':=by
  obtain ⟨D,h1,h2,h3⟩:=h
  have hm:=h1.isMap
  obtain ⟨w',hrun,h',ht⟩:=h1.store K.law K.und hn (K.key hi) (K.Rmk a)
  refine ⟨w',hrun,⟨_,h',fun j hj=>?_,fun j c hj hc z=>?_⟩,Turns.of_grown ht.grown rfl⟩
  · by_cases e:j=i
    · subst e;rw [GA,Maps.has_put_same hm (K.lit hj)];rfl
    · rw [GL _ _ e,Maps.has_put_other (K.ne hi hj e)];exact h2 j hj
  · by_cases e:j=i
    · subst e;rw [GA] at hc;cases hc;exact Maps.atKey_put_same hm (K.lit hj) _ _
    · rw [GL _ _ e] at hc;rw [Maps.atKey_put_other (K.ne hi hj e)];exact h3 j c hj hc z
theorem Ni {D:DataW Unit} {i:ι} (hi:K.ok i) (h2:∀ i,K.ok i→Maps.has D (K.kl i)=(g i).isSome) (h3:∀ i a,K.ok i→g i=some a→∀ z,D.atKey (K.kl i) z=K.ad a) :
    (∀ j,K.ok j→Maps.has (D.del (K.kl i)) (K.kl j)=(Jd g i none j).isSome)∧(∀ j a,K.ok j→Jd g i none j=some a→∀ z,(D.del (K.kl i)).atKey (K.kl j) z=K.ad a):=by
  refine ⟨fun j hj=>?_,fun j c hj hc z=>?_⟩
  · by_cases e:j=i
    · subst e;rw [GA,Maps.has_del_same];rfl
    · rw [GL _ _ e,Maps.has_del_other (K.ne hi hj e)];exact h2 j hj
  · by_cases e:j=i
    · subst e;rw [GA] at hc;cases hc
    · rw [GL _ _ e] at hc;rw [Maps.atKey_del_other (K.ne hi hj e)];exact h3 j c hj hc z
theorem MapG.drop (h:MapG K w b n g) {i:ι} (hi:K.ok i) (ty:TypeId) :
    ∃ w',(Builtin.delete_ #[K.t,K.k] ty #[.map (some b),K.kv i]).run Tryz.prog w=.ok (.tuple #[]) w'∧MapG K w' b n (Jd g i none)∧Turns (fun k=>k=b) w w':=by
  obtain ⟨D,h1,h2,h3⟩:=h
  obtain ⟨w',hrun,h',ht⟩:=h1.drop K.law K.und (K.key hi) ty
  obtain ⟨v1,v2⟩:=Ni hi h2 h3
  exact ⟨w',hrun,⟨_,h',v1,v2⟩,Turns.of_grown ht.grown rfl⟩
def RanG (K:MapK ι α) (w:World) (b r n:Nat) (g:ι→Option α) (left:ι→Bool) (cnt:Nat):Prop:=
  ∃ (D:DataW Unit) (lf:Lit→Bool),w.ranges Tryz.prog K.k K.R b r n D lf cnt∧(∀ i,K.ok i→Maps.has D (K.kl i)=(g i).isSome)∧(∀ i a,K.ok i→g i=some a→∀ z,D.atKey (K.kl i) z=K.ad a)∧∀ i,K.ok i→lf (K.kl i)=left i
theorem RanG.map (h:RanG K w b r n g left cnt):MapG K w b n g:=by
  obtain ⟨D,lf,h1,h2,h3,_⟩:=h
  exact ⟨D,h1.owns,h2,h3⟩
theorem RanG.ne (h:RanG K w b r n g left cnt):r≠b:=by obtain ⟨D,lf,h1,_⟩:=h;exact h1.ne
theorem RanG.lt (h:RanG K w b r n g left cnt):r<w.heap.size:=by obtain ⟨D,lf,h1,_⟩:=h;exact h1.lt
theorem RanG.left_eq (h:RanG K w b r n g left cnt):w.rangeLeft b r=cnt:=by obtain ⟨D,lf,h1,_⟩:=h;exact h1.left_eq
theorem RanG.turns {X:Nat→Prop} (h:RanG K w b r n g left cnt) (t:Turns X w w') (hb:¬ X b) (hr:¬ X r):RanG K w' b r n g left cnt:=by
  obtain ⟨D,lf,h1,h2,h3,h4⟩:=h
  refine ⟨D,lf,?_,h2,h3,h4⟩
  have q1:=h1.owns.lt
  have q2:=h1.lt
  obtain ⟨es,clock,since,seen,c0,hb',F,hs,hD,hr',rest⟩:=h1
  exact ⟨es,clock,since,seen,c0,(t.block b q1 hb).trans hb',F,hs,hD,(t.block r q2 hr).trans hr',rest⟩
theorem RanG.mono (h:RanG K w b r n g left cnt) (bl:Below w.heap.size w w'):RanG K w' b r n g left cnt:=h.turns (X:=fun _=>False) (Turns.of_below bl) (fun e=>e) (fun e=>e)
theorem RanG.congr {g':ι→Option α} {left':ι→Bool} (h:RanG K w b r n g left cnt) (hg:∀ i,K.ok i→g' i=g i) (hl:∀ i,K.ok i→left' i=left i):RanG K w b r n g' left' cnt:=by
  obtain ⟨D,lf,h1,h2,h3,h4⟩:=h
  exact ⟨D,lf,h1,fun i hi=>by rw [hg i hi];exact h2 i hi,fun i a hi ha=>h3 i a hi (by rw [← hg i hi];exact ha),fun i hi=>by rw [hl i hi];exact h4 i hi⟩
theorem MapG.range (h:MapG K w b n g):∃ w',(Instr.range K.t (.map (some b))).run Tryz.prog w=.ok (π w.heap.size) w'∧(∃ cnt,RanG K w' b w.heap.size n g (fun i=>(g i).isSome) cnt)∧Below w.heap.size w w':=by
  obtain ⟨D,h1,h2,h3⟩:=h
  obtain ⟨w',hrun,r1,r2,r3⟩:=h1.range K.law K.und
  exact ⟨w',hrun,⟨_,D,_,r1,h2,h3,fun i hi=>h2 i hi⟩,⟨r2.os,r2.tape,r2.output,r2.size,fun k hk=>r2.block k hk (by simp)⟩⟩
theorem RanG.next (h:RanG K w b r n g left cnt) (ty:TypeId) :
    ((∀ i,K.ok i→left i=false)∧(Instr.next (π r) false ty).run Tryz.prog w=.ok (.tuple #[.bool false]) w) ∨
    ∃ i a w' cnt',K.ok i∧left i=true∧g i=some a∧(Instr.next (π r) false ty).run Tryz.prog w=.ok (.tuple #[.bool true,K.kv i,K.av a]) w' ∧
      RanG K w' b r n g (fun j=>left j&&!decide (j=i)) cnt'∧cnt'<cnt∧Turns (fun k=>k=r) w w'∧(Instr.entry (π r)).run Tryz.prog w'=.ok (.tuple #[K.kv i,K.av a]) w':=by
  obtain ⟨D,lf,h1,h2,h3,h4⟩:=h
  rcases h1.next K.law ty with ⟨_,hl,hrun⟩ | ⟨key,v,kl,y,w',cnt',hkey,hlk,hv,hat,hrun,hrg,hlt,hgr,hsz,hen⟩
  · exact .inl ⟨fun i hi=>by rw [← h4 i hi];exact hl _,hrun⟩
  · obtain ⟨i,hi,rfl,rfl⟩:=K.inv hkey
    obtain ⟨a,rfl,ha⟩:=K.Rinv (show K.R v=some (y.1,y.2) from hv)
    have hh:=h2 i hi
    rw [Maps.has_true_of_atKey hat] at hh
    obtain ⟨c,hc⟩:=Option.isSome_iff_exists.1 hh.symm
    have e:=(h3 i c hi hc (K.ad a)).symm.trans ((hat _).trans ha)
    obtain rfl:=K.dinj e
    refine .inr ⟨i,c,w',cnt',hi,by rw [← h4 i hi];exact hlk,hc,hrun,⟨D,_,hrg,h2,h3,fun j hj=>?_⟩,hlt,Turns.of_grown hgr rfl,hen⟩
    rw [h4 j hj,K.same hi hj]
theorem RanG.drop (h:RanG K w b r n g left cnt) {i:ι} (hi:K.ok i) (ty:TypeId) :
    ∃ w' cnt',(Builtin.delete_ #[K.t,K.k] ty #[.map (some b),K.kv i]).run Tryz.prog w=.ok (.tuple #[]) w'∧RanG K w' b r n (Jd g i none) (fun j=>left j&&!decide (j=i)) cnt'∧cnt'≤cnt∧Turns (fun k=>k=b) w w':=by
  obtain ⟨D,lf,h1,h2,h3,h4⟩:=h
  obtain ⟨w',cnt',hrun,h',hc,ht⟩:=h1.drop K.law K.und (K.key hi) ty
  obtain ⟨v1,v2⟩:=Ni hi h2 h3
  exact ⟨w',cnt',hrun,⟨_,_,h',v1,v2,fun j hj=>by rw [h4 j hj,K.same hi hj]⟩,hc,Turns.of_grown ht.grown rfl⟩
end
end
section
section
variable {ι α:Type} [DecidableEq ι] {K:MapK ι α} {w w':World} {b n r cnt:Nat} {g:ι→Option α} {left:ι→Bool}
theorem MapG.look1 (h:MapG K w b n g) {i:ι} (hi:K.ok i):(Instr.lookup K.t (.map (some b)) (K.kv i) false).run Tryz.prog w=.ok (K.av ((g i).getD K.z)) w:=by
  obtain ⟨D,h1,h2,h3⟩:=h
  obtain ⟨v,ps,hrun,hR⟩:=h1.lookup K.law K.und (K.zero w) (K.Rmk K.z) (K.key hi)
  obtain ⟨a,rfl,ha⟩:=K.Rinv hR
  rw [hrun]
  cases hg:g i with
  | some c=>
    have:=(h3 i c hi hg (K.ad K.z)).symm.trans ha
    rw [K.dinj this];rfl
  | none=>
    have z:=h2 i hi
    rw [hg] at z
    have:=(Maps.atKey_of_not_has z (K.ad K.z)).symm.trans ha
    rw [K.dinj this];rfl
def AP (K:MapK ι α) (b n:Nat) (g:ι→Option α):Ch where
  F k:=k=b
  P w:=MapG K w b n g
  keep h t:=h.turns t (fun q=>q rfl)
  lt h k hk:=hk ▸ h.lt
def UA (K:MapK ι α) (b r n:Nat) (g:ι→Option α) (left:ι→Bool) (cnt:Nat):Ch where
  F k:=k=b∨k=r
  P w:=RanG K w b r n g left cnt
  keep h t:=h.turns t (fun q=>q (.inl rfl)) (fun q=>q (.inr rfl))
  lt h k hk:=by rcases hk with rfl | rfl;exact h.map.lt;exact h.lt
end
section
variable {ι α:Type} [DecidableEq ι] {M:MapK ι α} {b n r cnt:Nat} {g:ι→Option α} {left:ι→Bool} {Q:Exit→Act→World→Prop} {o:Oper} {a:Act} {w w':World} {N:Nat} {l:List (Nat×Value)} {K:Act→World→Prop} {cs:List Ch}
theorem Nl (M:MapK ι α) (h:Kn N l a) {d:Nat} (hd:o.dst=some d) (hdN:decide (d<N)=true) (hf:l.all (fun x=>!(x.1 == d))=true) {T:TypeId} (ho:o.op=.makeMap T none) (hS:Sep w cs)
    (k:∀ a' b w',Kn N ((d,.map (some b))::l) a'→Sep w' (AP M b 0 (fun _=>none)::cs)→(∃ o,w'=w.alloc o)→b=w.heap.size→K a' w'):Oper.wp Tryz.prog o a w K Q:=
  Cr h hd hdN hf (v:=.map (some w.heap.size)) (w':=w.alloc (.map #[] 0)) (by unfold execOp;rw [ho];rfl) fun a' h'=>k a' _ _ h' (hS.push (Mw _ _) (MapG.new w) (fun k e=>by cases e;exact Nat.le_refl _)) ⟨_,rfl⟩ rfl
theorem Um (h:Kn N l a) (hd:o.dst=none) {T:TypeId} {m x y:Operand} (ho:o.op=.mapUpdate T m x y) (hT:T=M.t) (hS:Sep w cs) (i:Nat) (hi:cs[i]? = some (AP M b n g)) (hm:opv l m=some (.map (some b))) {p:ι} {u:α} (hx:opv l x=some (M.kv p)) (hy:opv l y=some (M.av u)) (hn:n<maxLen) (hp:M.ok p)
    {cs':List Ch} (hcs:cs.set i (AP M b (n+1) (Jd g p (some u)))=cs') (k:∀ a' w',Kn N l a'→Sep w' cs'→Turns (fun k=>k=b) w w'→K a' w'):Oper.wp Tryz.prog o a w K Q:=by
  subst hT
  obtain ⟨w',hr,hm',t⟩:=(hS.get i hi:MapG M w b n g).store hn hp u
  refine Hz (w':=w') h hd ?_ fun a' h'=>k a' _ h' (by rw [← hcs];exact hS.upd i hi t (fun k _ e=>e) hm' (fun k e=>.inl e)) t
  unfold execOp;rw [ho];simp only [h.op hm,h.op hx,h.op hy]
  rw [Sem.run_bind,hr];rfl
theorem Ul (h:Kn N l a) (hd:o.dst=none) {T T':TypeId} {m x:Operand} (ho:o.op=.call { callee:=.builtin .delete,args:=#[m,x],argTypes:=#[T,T'] }) (hT:T=M.t) (hT':T'=M.k) (hS:Sep w cs) (i:Nat) (hi:cs[i]? = some (AP M b n g)) (hm:opv l m=some (.map (some b))) {p:ι} (hx:opv l x=some (M.kv p)) (hp:M.ok p)
    {cs':List Ch} (hcs:cs.set i (AP M b n (Jd g p none))=cs') (k:∀ a' w',Kn N l a'→Sep w' cs'→Turns (fun k=>k=b) w w'→K a' w'):Oper.wp Tryz.prog o a w K Q:=by
  subst hT;subst hT'
  obtain ⟨w',hr,hm',t⟩:=(hS.get i hi:MapG M w b n g).drop hp o.type
  refine SA (w':=w') h hd (v:=.tuple #[]) ?_ fun a' h'=>k a' _ h' (by rw [← hcs];exact hS.upd i hi t (fun k _ e=>e) hm' (fun k e=>.inl e)) t
  unfold execOp;rw [ho]
  simp only [resolve,invoke,builtin,Sem.run_bind,Sem.run_pure,Result.andThen_ok,List.map_toArray,List.map_cons,List.map_nil,h.op hm,h.op hx,hr]
end
end
section
open Go.Maps (Keyed)
structure AdM where
  ad:Nat→Nat
  mb:Nat→Nat
  ld:Nat→Int
  B:Nat
  C:Nat
def BY (b:Bool):Int:=if b=true then 2 else 1
theorem IP (b:Bool):decide (BY b=2)=b:=by cases b<;>rfl
theorem Ks (b:Bool):decide (BY b=1)=!b:=by cases b<;>rfl
theorem Jn (b:Bool):decide (BY b≠2)=!b:=by cases b<;>rfl
def BB (F:FsM) (A:AdM) (k:Nat):Int:=if F.dir k=true then A.ld k else (F.at k).links
def mpM (F:FsM) (A:AdM) (k:Nat):Option Nat:=if F.dir k=true then some (A.mb k) else none
def ndV (F:FsM) (A:AdM) (k:Nat):List Value:=[ν (BY (F.dir k)),ν (BB F A k),.string (Ad (F.at k).data),.map (mpM F A k)]
def ptV:Option Nat→Value
  | some g=>.pointer (some ⟨g,0,none⟩)
  | none=>.pointer none
def ptD:Option Nat→DataW Unit
  | some g=>.lit (.int .i64 ((g:Int)+1))
  | none=>.lit (.int .i64 0)
def ptR:Value→Option (DataW Unit×List MemPlace)
  | .pointer none=>some (ptD none,[])
  | .pointer (some ⟨g,0,none⟩)=>some (ptD (some g),[])
  | _=>none
theorem Rq (a:Option Nat):ptR (ptV a)=some (ptD a,[]):=by cases a<;>rfl
theorem ON {v:Value} {d:DataW Unit} {ps:List MemPlace} (h:ptR v=some (d,ps)):∃ a,v=ptV a∧d=ptD a:=by
  unfold ptR at h
  split at h
  · cases h;exact ⟨none,rfl,rfl⟩
  · cases h;exact ⟨some _,rfl,rfl⟩
  · cases h
theorem OM {a b:Option Nat} (h:ptD a=ptD b):a=b:=by
  cases a<;>cases b<;>simp [ptD] at h ⊢<;>omega
def Nh (s:ByteArray):Lit:=.string s.data.toList
theorem QT:Keyed Tryz.prog 9:=Maps.string_keyed υ9
theorem RW {s:ByteArray} (h:s.size≤maxLen):keyOf Tryz.prog 9 (.string s)=some (Nh s):=by
  unfold keyOf mapKey
  rw [υ9]
  simp [h,Nh]
theorem Iu {v:Value} {l:Lit} (h:keyOf Tryz.prog 9 v=some l):∃ s:ByteArray,s.size≤maxLen∧v=.string s∧l=Nh s:=by
  unfold keyOf mapKey at h
  rw [υ9] at h
  cases v with
  | string s=>
    simp only [] at h
    split at h
    · rename_i hs;exact ⟨s,hs,rfl,(Option.some.inj h).symm⟩
    · cases h
  | _=>simp at h
theorem RC {s t:ByteArray} (h:Nh s=Nh t):s=t:=by
  simp only [Nh,Lit.string.injEq] at h
  exact ByteArray.ext (Array.toList_inj.1 h)
def KN:MapK ByteArray (Option Nat) where
  t:=95
  k:=9
  e:=62
  ok:=fun s=>s.size≤maxLen
  kv:=fun s=>.string s
  kl:=Nh
  av:=ptV
  ad:=ptD
  R:=ptR
  z:=none
  law:=QT
  und:=υ95
  key:=RW
  inv:=fun {v l} h=>Iu h
  inj:=fun _ _ h=>RC h
  Rmk:=Rq
  Rinv:=ON
  dinj:=OM
  zero:=fun w=>κ
theorem RV:WideMaps.KeyLaw Tryz.prog 68:=deep_law_laid QW (m:=2) ω (of_decide_eq_true κ) κ (by rw [υ68])
theorem Mg:Keyed Tryz.prog 68:=Keyed.of_law RV
def kVD (p:Int×Int):Value:=.agg #[ν p.1,ν p.2]
def kLD (p:Int×Int):Lit:=.string (keyBytes [.int .i64 p.1,.int .i64 p.2])
def wfD (p:Int×Int):Prop:=(Lit.int .i64 p.1).wf=true∧(Lit.int .i64 p.2).wf=true
theorem QS:Tryz.prog.keyType 68=true:=κ
theorem JT:Tryz.prog.cellsOf 68=2:=κ
theorem Mf {p:Int×Int} (h:wfD p):keyOf Tryz.prog 68 (kVD p)=some (kLD p):=by
  obtain ⟨d,hd⟩:=RG
  have hf:(kVD p).formed Tryz.prog 68=true:=by simp [kVD,Value.formed,υ68,JT]
  have hk:Tryz.prog.keyLits (d+2) 68 (kVD p).cells.toList=some [.int .i64 p.1,.int .i64 p.2]:=by
    unfold Program.keyLits
    rw [υ68]
    simp [kVD,Value.cells,JT,Ox,MJ _ _ h.1,MJ _ _ h.2]
  unfold keyOf
  rw [Tryz.underlying68,hd]
  simp only [QS,hf,hk,Bool.and_self,if_true,Option.map_some]
  rfl
theorem It {v:Value} {l:Lit} (h:keyOf Tryz.prog 68 v=some l):∃ p,wfD p∧v=kVD p∧l=kLD p:=by
  obtain ⟨d,hd⟩:=RG
  unfold keyOf at h
  rw [υ68,hd] at h
  simp only [] at h
  split at h
  · rename_i hc
    simp only [Bool.and_eq_true] at hc
    cases v with
    | agg cs=>
      have hs:cs.size=2:=by have:=hc.2;simpa [Value.formed,υ68,JT] using this
      obtain ⟨x,y,rfl⟩:=RM hs
      obtain ⟨ls,hls,rfl⟩:=Option.map_eq_some_iff.1 h
      unfold Program.keyLits at hls
      rw [Tryz.underlying68] at hls
      simp [Value.cells,JT,Ox] at hls
      rcases ha:Tryz.prog.keyLits (d+1) 3 [x] with _ | a
      · simp [ha] at hls
      rcases hb:Tryz.prog.keyLits (d+1) 3 [y] with _ | c
      · simp [ha,hb] at hls
      simp [ha,hb] at hls
      subst hls
      obtain ⟨n,rfl,hn,rfl⟩:=IO ha
      obtain ⟨m,rfl,hm,rfl⟩:=IO hb
      exact ⟨(n,m),⟨hn,hm⟩,rfl,rfl⟩
    | _=>simp [Value.formed,υ68] at hc
  · cases h
theorem RU {p q:Int×Int} (hp:wfD p) (hq:wfD q) (e:kLD p=kLD q):p=q:=by
  have z:=Mg.inj (Mf hp) (by rw [e];exact Mf hq)
  simp [kVD] at z
  exact Prod.ext z.1 z.2
def KO:MapK (Int×Int) (Option Nat) where
  t:=63
  k:=68
  e:=62
  ok:=wfD
  kv:=kVD
  kl:=kLD
  av:=ptV
  ad:=ptD
  R:=ptR
  z:=none
  law:=Mg
  und:=υ63
  key:=Mf
  inv:=fun {v l} h=>It h
  inj:=fun hp hq h=>RU hp hq h
  Rmk:=Rq
  Rinv:=ON
  dinj:=OM
  zero:=fun w=>κ
def elA (A:AdM) (m:Option Nat):Option (Option Nat):=m.map fun k=>some (A.ad k)
structure NdP (F:FsM) (A:AdM) (w:World):Prop where
  nd:∀ k,k<F.N.length→Blk w (A.ad k) 97 (ndV F A k)
  mp:∀ k,k<F.N.length→F.dir k=true→MapG KN w (A.mb k) A.B (fun s=>elA A (Aj F.E k s))
  inj:∀ j k,j<F.N.length→k<F.N.length→A.ad j=A.ad k→j=k
  minj:∀ j k,j<F.N.length→k<F.N.length→F.dir j=true→F.dir k=true→A.mb j=A.mb k→j=k
theorem Ow {w:World} {g b n:Nat} {e:TypeId} {L:List Value} {ι α:Type} [DecidableEq ι] {K:MapK ι α} {f:ι→Option α} (h:Blk w g e L) (hm:MapG K w b n f):g≠b:=by
  intro q
  subst q
  obtain ⟨D,⟨es,clock,hb,_⟩,_⟩:=hm
  rw [show w.heap[g]? = _ from h] at hb
  cases hb
theorem NdP.turns {F:FsM} {A:AdM} {w w':World} (h:NdP F A w) {X:Nat→Prop} (t:Turns X w w') (h1:∀ k,k<F.N.length→¬ X (A.ad k)) (h2:∀ k,k<F.N.length→F.dir k=true→¬ X (A.mb k)):NdP F A w':=
  ⟨fun k hk=>t.blk (h.nd k hk) (h1 k hk),fun k hk hd=>(h.mp k hk hd).turns t (h2 k hk hd),h.inj,h.minj⟩
def Rg (F:FsM) (A:AdM):Ch where
  F b:=∃ k,k<F.N.length∧(b=A.ad k∨(F.dir k=true∧b=A.mb k))
  P w:=NdP F A w
  keep h t:=h.turns t (fun k hk q=>q ⟨k,hk,.inl rfl⟩) (fun k hk hd q=>q ⟨k,hk,.inr ⟨hd,rfl⟩⟩)
  lt {w} h b:=by
    rintro ⟨k,hk,e | ⟨hd,e⟩⟩
    · rw [e];exact (h.nd k hk).lt
    · rw [e];exact (h.mp k hk hd).lt
section
variable {F:FsM} {A:AdM} {w:World} {k:Nat}
theorem NdP.c0 (h:NdP F A w) (hk:k<F.N.length) {T:TypeId} {d:TypeDesc} (hu:Tryz.prog.underlying T=some d) (hr:d.isRow=false):(Instr.loadAt T (π (A.ad k))).run Tryz.prog w=.ok (ν (BY (F.dir k))) w:=ldB hu hr (h.nd k hk) rfl
theorem NdP.c1 (h:NdP F A w) (hk:k<F.N.length) {T:TypeId} {d:TypeDesc} (hu:Tryz.prog.underlying T=some d) (hr:d.isRow=false):(Instr.loadAt T (.pointer (some ⟨A.ad k,1,none⟩))).run Tryz.prog w=.ok (ν (BB F A k)) w:=ldB hu hr (h.nd k hk) rfl
theorem NdP.c2 (h:NdP F A w) (hk:k<F.N.length) {T:TypeId} {d:TypeDesc} (hu:Tryz.prog.underlying T=some d) (hr:d.isRow=false):(Instr.loadAt T (.pointer (some ⟨A.ad k,2,none⟩))).run Tryz.prog w=.ok (.string (Ad (F.at k).data)) w:=ldB hu hr (h.nd k hk) rfl
theorem NdP.c3 (h:NdP F A w) (hk:k<F.N.length) (hd:F.dir k=true) {T:TypeId} {d:TypeDesc} (hu:Tryz.prog.underlying T=some d) (hr:d.isRow=false):(Instr.loadAt T (.pointer (some ⟨A.ad k,3,none⟩))).run Tryz.prog w=.ok (.map (some (A.mb k))) w:=ldB hu hr (h.nd k hk) (show (ndV F A k)[3]? = _ by unfold ndV mpM;rw [if_pos hd];rfl)
theorem NdP.c3n (h:NdP F A w) (hk:k<F.N.length) (hd:F.dir k=false) {T:TypeId} {d:TypeDesc} (hu:Tryz.prog.underlying T=some d) (hr:d.isRow=false):(Instr.loadAt T (.pointer (some ⟨A.ad k,3,none⟩))).run Tryz.prog w=.ok (.map none) w:=ldB hu hr (h.nd k hk) (show (ndV F A k)[3]? = _ by unfold ndV mpM;rw [if_neg (AI hd)];rfl)
theorem NdP.lookY (h:NdP F A w) (hk:k<F.N.length) (hd:F.dir k=true) {s:ByteArray} (hs:s.size≤maxLen) {m:Nat} (hl:Aj F.E k s=some m):(Instr.lookup 95 (.map (some (A.mb k))) (.string s) false).run Tryz.prog w=.ok (π (A.ad m)) w:=by
  have e:(elA A (Aj F.E k s)).getD KN.z=some (A.ad m):=by rw [hl];rfl
  exact ((h.mp k hk hd).look1 (i:=s) hs).trans (congrArg (fun v=>Result.ok (ptV v) w) e)
theorem NdP.lookN (h:NdP F A w) (hk:k<F.N.length) (hd:F.dir k=true) {s:ByteArray} (hs:s.size≤maxLen) (hl:Aj F.E k s=none):(Instr.lookup 95 (.map (some (A.mb k))) (.string s) false).run Tryz.prog w=.ok (.pointer none) w:=by
  have e:(elA A (Aj F.E k s)).getD KN.z=none:=by rw [hl];rfl
  exact ((h.mp k hk hd).look1 (i:=s) hs).trans (congrArg (fun v=>Result.ok (ptV v) w) e)
def opG (F:FsM) (A:AdM) (p:Int×Int):Option (Option Nat):=elA A (Az F.O p.1 p.2)
theorem IV {ob n:Nat} (h:MapG KO w ob n (opG F A)) {c fd:Int} (hw:wfD (c,fd)) {m:Nat} (hl:Az F.O c fd=some m):(Instr.lookup 63 (.map (some ob)) (.agg #[ν c,ν fd]) false).run Tryz.prog w=.ok (π (A.ad m)) w:=by
  have e:(opG F A (c,fd)).getD KO.z=some (A.ad m):=by unfold opG;rw [hl];rfl
  exact (h.look1 (i:=(c,fd)) hw).trans (congrArg (fun v=>Result.ok (ptV v) w) e)
theorem KH {ob n:Nat} (h:MapG KO w ob n (opG F A)) {c fd:Int} (hw:wfD (c,fd)) (hl:Az F.O c fd=none):(Instr.lookup 63 (.map (some ob)) (.agg #[ν c,ν fd]) false).run Tryz.prog w=.ok (.pointer none) w:=by
  have e:(opG F A (c,fd)).getD KO.z=none:=by unfold opG;rw [hl];rfl
  exact (h.look1 (i:=(c,fd)) hw).trans (congrArg (fun v=>Result.ok (ptV v) w) e)
theorem NdP.eqIn (h:NdP F A w) {j:Nat} (hj:j<F.N.length) (hk:k<F.N.length) {T E:TypeId} (hu:Tryz.prog.underlying T=some (.pointer E)) {i:TypeInfo} (hi:Tryz.prog.info? E=some i) (hz:i.size≠0) (d:Nat) :
    (Op.equalIn (d+1) T (π (A.ad j)) (π (A.ad k))).run Tryz.prog w=.ok (decide (j=k)) w:=by
  by_cases e:j=k
  · subst e
    simp [Op.equalIn,run_underlying hu,sizeOf,typeInfo,hi,hz,run_sameAddr_same]
  · have hne:(⟨A.ad j,0,none⟩:Addr)≠⟨A.ad k,0,none⟩:=fun q=>e (h.inj j k hj hk (by injection q))
    simp [Op.equalIn,run_underlying hu,sizeOf,typeInfo,hi,hz,run_sameAddr_other w hne (h.nd j hj) (h.nd k hk),e]
theorem Kr:∃ i,Tryz.prog.info? 97=some i∧i.size≠0:=by
  have h:(Tryz.prog.info? 97).map (fun i=>decide (i.size≠0))=some true:=κ
  cases hq:Tryz.prog.info? 97 with
  | none=>rw [hq] at h;cases h
  | some i=>rw [hq] at h;exact ⟨i,rfl,of_decide_eq_true (Option.some.inj h)⟩
theorem NdP.eq (h:NdP F A w) {j:Nat} (hj:j<F.N.length) (hk:k<F.N.length) (x y:Operand) :
    (do eqGuard .eql 62 x y (π (A.ad j)) (π (A.ad k));binOp .eql 62 (π (A.ad j)) (π (A.ad k)):Sem Value).run Tryz.prog w=.ok (.bool (decide (j=k))) w:=by
  obtain ⟨i,hi,hz⟩:=Kr
  have e:=h.eqIn hj hk υ62 hi hz 9999
  have e:(Op.equal 62 (π (A.ad j)) (π (A.ad k))).run Tryz.prog w=.ok (decide (j=k)) w:=e
  simp [eqGuard,binOp,Sem.run_bind,e]
end
theorem Ti (T:TypeId) {E:TypeId} (hu:Tryz.prog.underlying T=some (.pointer E)) (x y:Operand) (p:Addr) (w:World) :
    (do eqGuard .eql T x y (.pointer none) (.pointer (some p));binOp .eql T (.pointer none) (.pointer (some p)):Sem Value).run Tryz.prog w=.ok (.bool false) w:=by
  have e0:∀ d,(Op.equalIn (d+1) T (.pointer none) (.pointer (some p))).run Tryz.prog w=.ok false w:=fun d=>by simp [Op.equalIn,run_underlying hu]
  have e:(Op.equal T (.pointer none) (.pointer (some p))).run Tryz.prog w=.ok false w:=e0 9999
  simp [eqGuard,binOp,Sem.run_bind,e]
theorem Th (T:TypeId) {ps rs:Array TypeId} {vr:Bool} (hu:Tryz.prog.underlying T=some (.func ps rs vr)) (x y:Operand) (f:Fn) (a b:Array Value) (w:World) :
    (do eqGuard .eql T x y (.func f a b) .nilFunc;binOp .eql T (.func f a b) .nilFunc:Sem Value).run Tryz.prog w=.ok (.bool false) w:=by
  have e0:∀ d,(Op.equalIn (d+1) T (.func f a b) .nilFunc).run Tryz.prog w=.ok false w:=fun d=>by simp [Op.equalIn,run_underlying hu]
  have e:(Op.equal T (.func f a b) .nilFunc).run Tryz.prog w=.ok false w:=e0 9999
  simp [eqGuard,binOp,Sem.run_bind,e]
theorem SF (T:TypeId) {ps rs:Array TypeId} {vr:Bool} (hu:Tryz.prog.underlying T=some (.func ps rs vr)) (x y:Operand) (w:World) :
    (do eqGuard .eql T x y .nilFunc .nilFunc;binOp .eql T .nilFunc .nilFunc:Sem Value).run Tryz.prog w=.ok (.bool true) w:=by
  have e0:∀ d,(Op.equalIn (d+1) T .nilFunc .nilFunc).run Tryz.prog w=.ok true w:=fun d=>by simp [Op.equalIn,run_underlying hu]
  have e:(Op.equal T .nilFunc .nilFunc).run Tryz.prog w=.ok true w:=e0 9999
  simp [eqGuard,binOp,Sem.run_bind,e]
section
variable {P:Program} {o:Oper} {a:Act} {N:Nat} {l:List (Nat×Value)}
theorem GO (h:Kn N l a) {x y:Operand} {b:BinOp} {T ty:TypeId} (ho:o.op=.binOp b T x y ty) {v u z:Value} (hx:opv l x=some v) (hy:opv l y=some u) {w:World} (hf:(do eqGuard b T x y v u;binOp b T v u:Sem Value).run P w=.ok z w):(execOp a.eval o).run P w=.ok (.value z) w:=by
  unfold execOp;rw [ho];simp only [h.op hx,h.op hy];exact GP hf
end
end
section
def FsM.nE (F:FsM):FsM:=⟨F.N,F.E,[]⟩
def AdM.nC (A:AdM):AdM:={ A with C:=0 }
def AO (F:FsM) (A:AdM):Ch:=Rg F.nE A.nC
abbrev cP (cf ob:Nat) (F:FsM) (A:AdM):List Ch:=[Ah cf 65 [π (A.ad 0),.map (some ob)],AO F A,AP KO ob A.C (opG F A)]
def AdM.inc (A:AdM):AdM:={ A with B:=A.B+1 }
def AdM.inC (A:AdM):AdM:={ A with C:=A.C+1 }
def AdM.lnk (A:AdM) (k:Nat) (i:Int):AdM:={ A with ld:=fun j=>if j=k then i else A.ld j }
def AdM.new (A:AdM) (n g b:Nat):AdM:={ A with ad:=fun k=>if k=n then g else A.ad k,mb:=fun k=>if k=n then b else A.mb k,ld:=fun k=>if k=n then 1 else A.ld k }
structure NdSet (F:FsM) (A:AdM) (k off:Nat) (v:Value) (F':FsM) (A':AdM):Prop where
  n:F'.N.length=F.N.length
  dir:∀ j,F'.dir j=F.dir j
  ad:A'.ad=A.ad
  mb:A'.mb=A.mb
  B:A'.B=A.B
  E:F'.E=F.E
  eq:ndV F' A' k=splice (ndV F A k) off [v]
  ne:∀ j,j<F.N.length→j≠k→ndV F' A' j=ndV F A j
section
variable {F F':FsM} {A A':AdM} {w w':World} {k off:Nat} {v:Value}
theorem NdP.set (h:NdP F A w) (hk:k<F.N.length) (hs:NdSet F A k off v F' A') (t:Turns (fun b=>b=A.ad k) w w') (hb:Blk w' (A.ad k) 97 (splice (ndV F A k) off [v])):NdP F' A' w' where
  nd j hj:=by
    rw [hs.n] at hj
    rw [hs.ad]
    by_cases e:j=k
    · subst e;rw [hs.eq];exact hb
    · rw [hs.ne j hj e];exact t.blk (h.nd j hj) (fun q=>e (h.inj j k hj hk q))
  mp j hj hd:=by
    rw [hs.n] at hj
    rw [hs.dir] at hd
    have z:=(h.mp j hj hd).turns t (fun q=>Ow (h.nd k hk) (h.mp j hj hd) q.symm)
    have e:(fun s=>elA A' (Aj F'.E j s))=fun s=>elA A (Aj F.E j s):=by
      funext s;unfold elA;rw [hs.E,hs.ad]
    rw [hs.mb,hs.B,e];exact z
  inj i j hi hj:=by rw [hs.n] at hi hj;rw [hs.ad];exact h.inj i j hi hj
  minj i j hi hj hdi hdj:=by rw [hs.n] at hi hj;rw [hs.dir] at hdi hdj;rw [hs.mb];exact h.minj i j hi hj hdi hdj
theorem KE (hn:F'.N.length=F.N.length) (hd:∀ j,F'.dir j=F.dir j) (ha:A'.ad=A.ad) (hm:A'.mb=A.mb):∀ b,(Rg F' A').F b→(Rg F A).F b:=by
  rintro b ⟨j,hj,e⟩
  rw [hn] at hj
  rw [ha,hm,hd] at e
  exact ⟨j,hj,e⟩
theorem NdP.names (h:NdP F A w) (hk:k<F.N.length) (hd:F.dir k=true) {B':Nat} (hN:F'.N=F.N) (hB:A.B≤B') (hE:∀ j,j≠k→∀ t,Aj F'.E j t=Aj F.E j t) (t:Turns (fun b=>b=A.mb k) w w')
    (hm:MapG KN w' (A.mb k) B' (fun s=>elA A (Aj F'.E k s))):NdP F' { A with B:=B' } w':=by
  have hat:∀ j,F'.at j=F.at j:=fun j=>by unfold FsM.at;rw [hN]
  have hdir:∀ j,F'.dir j=F.dir j:=fun j=>congrArg NodeM.dir (hat j)
  have hV:∀ j,ndV F' { A with B:=B' } j=ndV F A j:=fun j=>by unfold ndV BB mpM;rw [hat,hdir]
  exact {
    nd:=fun j hj=>by
      rw [hN] at hj
      rw [hV]
      exact t.blk (h.nd j hj) (fun q=>Ow (h.nd j hj) (h.mp k hk hd) q)
    mp:=fun j hj hdj=>by
      rw [hN] at hj
      rw [hdir] at hdj
      by_cases e:j=k
      · subst e;exact hm
      · have z:=((h.mp j hj hdj).turns t (fun q=>e (h.minj j k hj hk hdj hd q))).more hB
        have e2:(fun s=>elA { A with B:=B' } (Aj F'.E j s))=fun s=>elA A (Aj F.E j s):=by
          funext s;unfold elA;rw [hE j e]
        rw [e2];exact z
    inj:=fun i j hi hj=>by rw [hN] at hi hj;exact h.inj i j hi hj
    minj:=fun i j hi hj hdi hdj=>by rw [hN] at hi hj;rw [hdir] at hdi hdj;exact h.minj i j hi hj hdi hdj }
end
section
variable {P:Program} {Q:Exit→Act→World→Prop} {o:Oper} {a:Act} {w w':World} {N:Nat} {l:List (Nat×Value)} {K:Act→World→Prop} {cs:List Ch} {F F':FsM} {A A':AdM} {k off m:Nat}
theorem Es (h:Kn N l a) (hd:o.dst=none) {T:TypeId} {x y:Operand} (ho:o.op=.store T x y) (hS:Sep w cs) (i:Nat) (hi:cs[i]? = some (AO F A)) (hx:opv l x=some (.pointer (some ⟨A.ad k,off,none⟩))) {u:Value} (hy:opv l y=some u) (hu:u.cells=#[u]) (h1:u.oneCell'=true)
    (hn:(P.info? T).map (·.size)=some 1) (hk:k<F.N.length) (hoff:off<4) (hset:NdSet F.nE A.nC k off u F'.nE A'.nC) {cs':List Ch} (hcs:cs.set i (AO F' A')=cs')
    (K2:∀ a' w',Kn N l a'→Sep w' cs'→K a' w'):Oper.wp P o a w K Q:=by
  have hN:NdP F.nE A.nC w:=hS.get i hi
  have hb:Blk w (A.ad k) 97 (ndV F.nE A.nC k):=hN.nd k hk
  have hlen:(ndV F.nE A.nC k).length=4:=rfl
  have hfit:off+([u]:List Value).length≤(ndV F.nE A.nC k).length:=by rw [hlen];show off+1≤4;omega
  obtain ⟨h2,h3⟩:=Blk.setCells [u] off w (ndV F.nE A.nC k) hb hfit
  have hr:=run_storeAt_mid (P:=P) w (A.ad k) off T #[u] (by simpa using hb.there off 1 hfit) (by simpa using hn) (by simpa using h1)
  have t:Turns (fun b=>b=A.ad k) w (w.setCells (A.ad k) off [u]):=Turns.of_grown h3 rfl
  refine Hz (w':=w.setCells (A.ad k) off [u]) h hd ?_ fun a' h'=>K2 a' _ h' ?_
  · unfold execOp;rw [ho];simp only [h.op hx,h.op hy]
    rw [Sem.run_bind,GK hu,hr]
    rfl
  · rw [← hcs]
    exact hS.upd i hi t (fun b _ e=>⟨k,hk,.inl e⟩) (c':=AO F' A') (hN.set hk hset t h2) (fun b hb=>.inl (KE hset.n hset.dir hset.ad hset.mb b hb))
theorem GM (h:Kn N l a) (hd:o.dst=none) {T:TypeId} {mm x y:Operand} (ho:o.op=.mapUpdate T mm x y) (hT:T=95) (hS:Sep w cs) (i:Nat) (hi:cs[i]? = some (AO F A)) (hm:opv l mm=some (.map (some (A.mb k)))) {s:ByteArray} (hx:opv l x=some (.string s)) (hy:opv l y=some (π (A.ad m)))
    (hk:k<F.N.length) (hdir:F.dir k=true) (hs:s.size≤maxLen) (hB:A.B<maxLen) (hN:F'.N=F.N) (hE:∀ j t,Aj F'.E j t=if j=k∧t=s then some m else Aj F.E j t) {cs':List Ch} (hcs:cs.set i (AO F' A.inc)=cs')
    (K2:∀ a' w',Kn N l a'→Sep w' cs'→K a' w'):Oper.wp Tryz.prog o a w K Q:=by
  subst hT
  have hP:NdP F.nE A.nC w:=hS.get i hi
  obtain ⟨w',hr,hm',t⟩:=(hP.mp k hk hdir).store hB (i:=s) hs (some (A.ad m))
  have hm2:MapG KN w' (A.mb k) (A.B+1) (fun u=>elA A (Aj F'.nE.E k u)):=by
    have e:Jd (fun u=>elA A (Aj F.nE.E k u)) s (some (some (A.ad m)))=fun u=>elA A (Aj F'.nE.E k u):=by
      funext u
      show (if u=s then _ else _)=elA A (Aj F'.E k u)
      rw [hE]
      by_cases q:u=s
      · rw [if_pos q,if_pos ⟨rfl,q⟩];rfl
      · rw [if_neg q,if_neg (fun z=>q z.2)];rfl
    rw [← e];exact hm'
  refine Hz (w':=w') h hd ?_ fun a' h'=>K2 a' _ h' ?_
  · unfold execOp;rw [ho];simp only [h.op hm,h.op hx,h.op hy]
    rw [Sem.run_bind,show (Instr.mapUpdate 95 (.map (some (A.mb k))) (.string s) (π (A.ad m))).run Tryz.prog w=.ok () w' from hr];rfl
  · rw [← hcs]
    refine hS.upd i hi t (fun b _ e=>⟨k,hk,.inr ⟨hdir,e⟩⟩) (c':=AO F' A.inc) (hP.names hk hdir (F':=F'.nE) hN (Nat.le_succ _) (fun j hj u=>by show Aj F'.E j u=_;rw [hE,if_neg (fun q=>hj q.1)];rfl) t hm2) (fun b hb=>.inl ?_)
    exact KE (F:=F.nE) (F':=F'.nE) (A:=A.nC) (A':=A.inc.nC) (by show F'.N.length=_;rw [hN];rfl) (fun j=>by show (F'.N.getD j Ap).dir=_;rw [hN];rfl) rfl rfl b hb
theorem Ta (h:Kn N l a) (hd:o.dst=none) {T T':TypeId} {mm x:Operand} (ho:o.op=.call { callee:=.builtin .delete,args:=#[mm,x],argTypes:=#[T,T'] }) (hT:T=95) (hT':T'=9) (hS:Sep w cs) (i:Nat) (hi:cs[i]? = some (AO F A)) (hm:opv l mm=some (.map (some (A.mb k)))) {s:ByteArray} (hx:opv l x=some (.string s))
    (hk:k<F.N.length) (hdir:F.dir k=true) (hs:s.size≤maxLen) (hN:F'.N=F.N) (hE:∀ j t,Aj F'.E j t=if j=k∧t=s then none else Aj F.E j t) {cs':List Ch} (hcs:cs.set i (AO F' A)=cs')
    (K2:∀ a' w',Kn N l a'→Sep w' cs'→K a' w'):Oper.wp Tryz.prog o a w K Q:=by
  subst hT;subst hT'
  have hP:NdP F.nE A.nC w:=hS.get i hi
  obtain ⟨w',hr,hm',t⟩:=(hP.mp k hk hdir).drop (i:=s) hs o.type
  have hm2:MapG KN w' (A.mb k) A.B (fun u=>elA A (Aj F'.nE.E k u)):=by
    have e:Jd (fun u=>elA A (Aj F.nE.E k u)) s none=fun u=>elA A (Aj F'.nE.E k u):=by
      funext u
      show (if u=s then _ else _)=elA A (Aj F'.E k u)
      rw [hE]
      by_cases q:u=s
      · rw [if_pos q,if_pos ⟨rfl,q⟩];rfl
      · rw [if_neg q,if_neg (fun z=>q z.2)];rfl
    rw [← e];exact hm'
  refine SA (w':=w') h hd (v:=.tuple #[]) ?_ fun a' h'=>K2 a' _ h' ?_
  · unfold execOp;rw [ho]
    have hr':(Builtin.delete_ #[95,9] o.type #[.map (some (A.mb k)),.string s]).run Tryz.prog w=.ok (.tuple #[]) w':=hr
    simp only [resolve,invoke,builtin,Sem.run_bind,Sem.run_pure,Result.andThen_ok,List.map_toArray,List.map_cons,List.map_nil,h.op hm,h.op hx,hr']
  · rw [← hcs]
    refine hS.upd i hi t (fun b _ e=>⟨k,hk,.inr ⟨hdir,e⟩⟩) (c':=AO F' A) (hP.names hk hdir (F':=F'.nE) hN (Nat.le_refl _) (fun j hj u=>by show Aj F'.E j u=_;rw [hE,if_neg (fun q=>hj q.1)];rfl) t hm2) (fun b hb=>.inl ?_)
    exact KE (F:=F.nE) (F':=F'.nE) (A:=A.nC) (A':=A.nC) (by show F'.N.length=_;rw [hN];rfl) (fun j=>by show (F'.N.getD j Ap).dir=_;rw [hN];rfl) rfl rfl b hb
theorem On {ob n:Nat} (h:Kn N l a) (hd:o.dst=none) {T:TypeId} {mm x y:Operand} (ho:o.op=.mapUpdate T mm x y) (hT:T=63) (hS:Sep w cs) (i:Nat) (hi:cs[i]? = some (AP KO ob n (opG F A))) (hm:opv l mm=some (.map (some ob))) {c fd:Int} (hx:opv l x=some (.agg #[ν c,ν fd])) (hy:opv l y=some (π (A.ad m)))
    (hw:wfD (c,fd)) (hB:n<maxLen) (hO:∀ c' fd',Az F'.O c' fd'=if c'=c∧fd'=fd then some m else Az F.O c' fd') {cs':List Ch} (hcs:cs.set i (AP KO ob (n+1) (opG F' A))=cs')
    (K2:∀ a' w',Kn N l a'→Sep w' cs'→K a' w'):Oper.wp Tryz.prog o a w K Q:=by
  have e:Jd (opG F A) (c,fd) (some (some (A.ad m)))=opG F' A:=by
    funext u
    show (if u=(c,fd) then _ else _)=elA A (Az F'.O u.1 u.2)
    rw [hO]
    by_cases q:u=(c,fd)
    · rw [if_pos q,if_pos ⟨congrArg Prod.fst q,congrArg Prod.snd q⟩];rfl
    · rw [if_neg q,if_neg (fun z=>q (Prod.ext z.1 z.2))];rfl
  exact Um (M:=KO) (p:=(c,fd)) (u:=some (A.ad m)) h hd ho hT hS i hi hm hx hy hB hw (cs':=cs') (by rw [e];exact hcs) (fun a' w' h' s' _=>K2 a' w' h' s')
theorem RK {ob n:Nat} (h:Kn N l a) (hd:o.dst=none) {T T':TypeId} {mm x:Operand} (ho:o.op=.call { callee:=.builtin .delete,args:=#[mm,x],argTypes:=#[T,T'] }) (hT:T=63) (hT':T'=68) (hS:Sep w cs) (i:Nat) (hi:cs[i]? = some (AP KO ob n (opG F A))) (hm:opv l mm=some (.map (some ob))) {c fd:Int} (hx:opv l x=some (.agg #[ν c,ν fd]))
    (hw:wfD (c,fd)) (hO:∀ c' fd',Az F'.O c' fd'=if c'=c∧fd'=fd then none else Az F.O c' fd') {cs':List Ch} (hcs:cs.set i (AP KO ob n (opG F' A))=cs')
    (K2:∀ a' w',Kn N l a'→Sep w' cs'→K a' w'):Oper.wp Tryz.prog o a w K Q:=by
  have e:Jd (opG F A) (c,fd) none=opG F' A:=by
    funext u
    show (if u=(c,fd) then _ else _)=elA A (Az F'.O u.1 u.2)
    rw [hO]
    by_cases q:u=(c,fd)
    · rw [if_pos q,if_pos ⟨congrArg Prod.fst q,congrArg Prod.snd q⟩];rfl
    · rw [if_neg q,if_neg (fun z=>q (Prod.ext z.1 z.2))];rfl
  exact Ul (M:=KO) (p:=(c,fd)) h hd ho hT hT' hS i hi hm hx hw (cs':=cs') (by rw [e];exact hcs) (fun a' w' h' s' _=>K2 a' w' h' s')
end
theorem FJ {F:FsM} {A:AdM} {k:Nat} (hk:k<F.N.length) (d:List UInt8):NdSet F.nE A.nC k 2 (σ d) (BS F k d).nE A.nC:=by
  have ha:∀ j,(BS F k d).nE.at j=if j=k then { F.at k with data:=d } else F.at j:=fun j=>He hk d j
  have hd:∀ j,(BS F k d).nE.dir j=F.nE.dir j:=fun j=>Gj hk d j
  refine ⟨List.length_set,hd,rfl,rfl,rfl,rfl,?_,fun j hj hne=>?_⟩
  · unfold ndV BB mpM;rw [hd,ha,if_pos rfl];rfl
  · unfold ndV BB mpM;rw [hd,ha,if_neg hne];rfl
theorem Ix {F:FsM} {A:AdM} {k:Nat} {i j:Int} (hk:k<F.N.length) (hf:F.dir k=false) (hj:j=(F.at k).links+i):NdSet F.nE A.nC k 1 (ν j) (By F k i).nE A.nC:=by
  have ha:∀ j,(By F k i).nE.at j=if j=k then { F.at k with links:=(F.at k).links+i } else F.at j:=fun j=>Hl hk i j
  have hd:∀ j,(By F k i).nE.dir j=F.nE.dir j:=fun j=>Dz hk i j
  have hf':F.nE.dir k=false:=hf
  subst hj
  refine ⟨List.length_set,hd,rfl,rfl,rfl,rfl,?_,fun j hj hne=>?_⟩
  · unfold ndV BB mpM;rw [hd,ha,if_pos rfl,hf'];rfl
  · unfold ndV BB mpM;rw [hd,ha,if_neg hne];rfl
theorem LF {F:FsM} {A:AdM} {k:Nat} {j:Int} (hd:F.dir k=true):NdSet F.nE A.nC k 1 (ν j) F.nE (A.lnk k j).nC:=by
  have hd':F.nE.dir k=true:=hd
  refine ⟨rfl,fun _=>rfl,rfl,rfl,rfl,rfl,?_,fun i hi hne=>?_⟩
  · unfold ndV BB mpM
    rw [hd',show (A.lnk k j).nC.ld k=j from if_pos rfl];rfl
  · unfold ndV BB mpM
    rw [show (A.lnk k j).nC.ld i=A.nC.ld i from if_neg hne];rfl
theorem NdP.join {F:FsM} {A:AdM} {w:World} {δ:Nat→Int} (h:NdP F A w) (hF:FsC F δ∨F.E=[]) {g b:Nat} {dir:Bool} (hb:Blk w g 97 [ν (BY dir),ν 1,σ [],.map (if dir=true then some b else none)]) (hm:dir=true→MapG KN w b A.B (fun _=>none))
    (ha:∀ k,k<F.N.length→g≠A.ad k) (hma:dir=true→∀ k,k<F.N.length→F.dir k=true→b≠A.mb k):NdP (AH F dir) (A.new F.N.length g b) w:=by
  have hE:∀ x∈F.E,x.dn<F.N.length∧x.nd<F.N.length:=fun x hx=>by
    rcases hF with q | q
    · exact ⟨(q.e x hx).1.1,(q.e x hx).2.1.1⟩
    · rw [q] at hx;cases hx
  have hold:∀ k,k<F.N.length→(A.new F.N.length g b).ad k=A.ad k:=fun k hk=>if_neg ω
  have hnew:(A.new F.N.length g b).ad F.N.length=g:=if_pos rfl
  have hlook:∀ k s,elA (A.new F.N.length g b) (Aj F.E k s)=elA A (Aj F.E k s):=fun k s=>by
    cases hl:Aj F.E k s with
    | none=>rfl
    | some m=>
      obtain ⟨x,hx,_,_,e⟩:=BZ hl
      show some (some ((A.new F.N.length g b).ad m))=some (some (A.ad m))
      rw [hold m (by rw [← e];exact (hE x hx).2)]
  have hV:∀ k,k<F.N.length→ndV (AH F dir) (A.new F.N.length g b) k=ndV F A k:=fun k hk=>by
    have e1:(AH F dir).at k=F.at k:=by rw [Fc,if_neg ω]
    have e2:(AH F dir).dir k=F.dir k:=congrArg NodeM.dir e1
    have e3:(A.new F.N.length g b).ld k=A.ld k:=if_neg ω
    have e4:(A.new F.N.length g b).mb k=A.mb k:=if_neg ω
    unfold ndV BB mpM
    rw [e1,e2,e3,e4]
  have hVn:ndV (AH F dir) (A.new F.N.length g b) F.N.length=[ν (BY dir),ν 1,σ [],.map (if dir=true then some b else none)]:=by
    have e1:(AH F dir).at F.N.length=⟨dir,[],1⟩:=by rw [Fc,if_pos rfl]
    have e2:(AH F dir).dir F.N.length=dir:=congrArg NodeM.dir e1
    have e3:(A.new F.N.length g b).ld F.N.length=1:=if_pos rfl
    have e4:(A.new F.N.length g b).mb F.N.length=b:=if_pos rfl
    unfold ndV BB mpM
    rw [e1,e2,e3,e4]
    cases dir<;>rfl
  have hlen:(AH F dir).N.length=F.N.length+1:=CN F dir
  exact {
    nd:=fun k hk=>by
      by_cases e:k=F.N.length
      · subst e;rw [hnew,hVn];exact hb
      · rw [hold k ω,hV k ω];exact h.nd k ω
    mp:=fun k hk hd=>by
      rw [Di] at hd
      by_cases e:k=F.N.length
      · subst e
        rw [if_pos rfl] at hd
        have e4:(A.new F.N.length g b).mb F.N.length=b:=if_pos rfl
        have e5:(fun s=>elA (A.new F.N.length g b) (Aj (AH F dir).E F.N.length s))=fun _=>none:=by
          funext s
          show elA _ (Aj F.E F.N.length s)=none
          cases hl:Aj F.E F.N.length s with
          | none=>rfl
          | some m=>
            obtain ⟨x,hx,e,_,_⟩:=BZ hl
            have:=(hE x hx).1
            omega
        rw [e4,e5];exact hm hd
      · rw [if_neg e] at hd
        have e4:(A.new F.N.length g b).mb k=A.mb k:=if_neg e
        have e5:(fun s=>elA (A.new F.N.length g b) (Aj (AH F dir).E k s))=fun s=>elA A (Aj F.E k s):=by
          funext s;exact hlook k s
        rw [e4,e5];exact h.mp k ω hd
    inj:=fun i j hi hj e=>by
      rw [hlen] at hi hj
      by_cases e1:i=F.N.length<;>by_cases e2:j=F.N.length
      · omega
      · rw [e1,hnew,hold j ω] at e;exact absurd e (ha j ω)
      · rw [e2,hnew,hold i ω] at e;exact absurd e.symm (ha i ω)
      · rw [hold i ω,hold j ω] at e;exact h.inj i j ω ω e
    minj:=fun i j hi hj hdi hdj e=>by
      rw [hlen] at hi hj
      rw [Di] at hdi hdj
      have em:∀ k,k≠F.N.length→(A.new F.N.length g b).mb k=A.mb k:=fun k hk=>if_neg hk
      have en:(A.new F.N.length g b).mb F.N.length=b:=if_pos rfl
      by_cases e1:i=F.N.length<;>by_cases e2:j=F.N.length
      · omega
      · rw [if_pos e1] at hdi
        rw [if_neg e2] at hdj
        rw [e1,en,em j e2] at e;exact absurd e (hma hdi j ω hdj)
      · rw [if_neg e1] at hdi
        rw [if_pos e2] at hdj
        rw [e2,en,em i e1] at e;exact absurd e.symm (hma hdj i ω hdi)
      · rw [if_neg e1] at hdi
        rw [if_neg e2] at hdj
        rw [em i e1,em j e2] at e;exact h.minj i j ω ω hdi hdj e }
theorem Sep.joinF {F:FsM} {A:AdM} {w:World} {R:List Ch} (hF:FsC F (fun _=>0)) {g:Nat} (h:Sep w (Ah g 97 [ν 1,ν 1,σ [],.map none]::AO F A::R)):Sep w (AO (AH F false) (A.new F.N.length g 0)::R):=by
  have hb:Blk w g _ _:=h.get 0 rfl
  have hN:NdP F.nE A.nC w:=h.get 1 rfl
  have hap:∀ k,k<F.N.length→g≠A.ad k:=fun k hk e=>h.ap 0 1 _ _ ω rfl rfl g rfl ⟨k,hk,.inl e⟩
  have hj:NdP (AH F.nE false) (A.nC.new F.N.length g 0) w:=hN.join (δ:=fun _=>0) (.inl ⟨hF.n0,hF.e,hF.ed,hF.du,(fun x hx=>by cases hx),List.Pairwise.nil,hF.k⟩) (dir:=false) hb (fun q=>by cases q) hap (fun q=>by cases q)
  refine Sep.turn (A:=[_,_]) (A':=[AO (AH F false) (A.new F.N.length g 0)]) h (Turns.refl (fun _=>False) w) (fun k _ e=>e.elim) (Sep.cons (c:=AO (AH F false) (A.new F.N.length g 0)) hj (Sep.nil w) (fun i d e=>by simp at e)) ?_
  intro i c hi b hb'
  cases i with
  | succ i=>simp at hi
  | zero=>
    cases hi
    obtain ⟨k,hk,e⟩:=hb'
    have hlen:(AH F.nE false).N.length=F.N.length+1:=CN F.nE false
    have hk':k<F.N.length+1:=by have:k<(AH F.nE false).N.length:=hk;omega
    by_cases e1:k=F.N.length
    · rcases e with e | ⟨e,_⟩
      · rw [e1,show (A.new F.N.length g 0).nC.ad F.N.length=g from if_pos rfl] at e
        exact .inr ⟨0,_,rfl,e⟩
      · rw [show (AH F false).nE.dir k=(AH F false).dir k from rfl,Di,if_pos e1] at e;cases e
    · rcases e with e | ⟨e,e2⟩
      · rw [show (A.new F.N.length g 0).nC.ad k=A.ad k from if_neg e1] at e
        exact .inr ⟨1,_,rfl,k,by show k<F.N.length;omega,.inl e⟩
      · rw [show (AH F false).nE.dir k=(AH F false).dir k from rfl,Di,if_neg e1] at e
        rw [show (A.new F.N.length g 0).nC.mb k=A.mb k from if_neg e1] at e2
        exact .inr ⟨1,_,rfl,k,by show k<F.N.length;omega,.inr ⟨e,e2⟩⟩
theorem Sep.joinD {F:FsM} {A:AdM} {w:World} {R:List Ch} (hF:FsC F (fun _=>0)∨F.E=[]) {g b:Nat} (h:Sep w (Ah g 97 [ν 2,ν 1,σ [],.map (some b)]::AP KN b 0 (fun _=>none)::AO F A::R)):Sep w (AO (AH F true) (A.new F.N.length g b)::R):=by
  have hb:Blk w g _ _:=h.get 0 rfl
  have hm:MapG KN w b 0 (fun _=>none):=h.get 1 rfl
  have hN:NdP F.nE A.nC w:=h.get 2 rfl
  have hap:∀ k,k<F.N.length→g≠A.ad k:=fun k hk e=>h.ap 0 2 _ _ ω rfl rfl g rfl ⟨k,hk,.inl e⟩
  have hap2:∀ k,k<F.N.length→F.dir k=true→b≠A.mb k:=fun k hk hd e=>h.ap 1 2 _ _ ω rfl rfl b rfl ⟨k,hk,.inr ⟨hd,e⟩⟩
  have hj:NdP (AH F.nE true) (A.nC.new F.N.length g b) w:=hN.join (δ:=fun _=>0) (hF.imp (fun hF=>⟨hF.n0,hF.e,hF.ed,hF.du,(fun x hx=>by cases hx),List.Pairwise.nil,hF.k⟩) (fun e=>e)) (dir:=true) hb (fun _=>hm.more (Nat.zero_le _)) hap (fun _=>hap2)
  refine Sep.turn (A:=[_,_,_]) (A':=[AO (AH F true) (A.new F.N.length g b)]) h (Turns.refl (fun _=>False) w) (fun k _ e=>e.elim) (Sep.cons (c:=AO (AH F true) (A.new F.N.length g b)) hj (Sep.nil w) (fun i d e=>by simp at e)) ?_
  intro i c hi q hb'
  cases i with
  | succ i=>simp at hi
  | zero=>
    cases hi
    obtain ⟨k,hk,e⟩:=hb'
    have hlen:(AH F.nE true).N.length=F.N.length+1:=CN F.nE true
    have hk':k<F.N.length+1:=by have:k<(AH F.nE true).N.length:=hk;omega
    by_cases e1:k=F.N.length
    · rcases e with e | ⟨_,e⟩
      · rw [e1,show (A.new F.N.length g b).nC.ad F.N.length=g from if_pos rfl] at e
        exact .inr ⟨0,_,rfl,e⟩
      · rw [e1,show (A.new F.N.length g b).nC.mb F.N.length=b from if_pos rfl] at e
        exact .inr ⟨1,_,rfl,e⟩
    · rcases e with e | ⟨e,e2⟩
      · rw [show (A.new F.N.length g b).nC.ad k=A.ad k from if_neg e1] at e
        exact .inr ⟨2,_,rfl,k,by show k<F.N.length;omega,.inl e⟩
      · rw [show (AH F true).nE.dir k=(AH F true).dir k from rfl,Di,if_neg e1] at e
        rw [show (A.new F.N.length g b).nC.mb k=A.mb k from if_neg e1] at e2
        exact .inr ⟨2,_,rfl,k,by show k<F.N.length;omega,.inr ⟨e,e2⟩⟩
theorem Ml {F:FsM} {A:AdM} (hF:FsC F (fun _=>0)) (g b:Nat):opG F (A.new F.N.length g b)=opG F A:=by
  funext p
  unfold opG elA
  cases hl:Az F.O p.1 p.2 with
  | none=>rfl
  | some m=>
    have:=(hF.look_fd hl).1
    show some (some (if m=F.N.length then g else A.ad m))=some (some (A.ad m))
    rw [if_neg ω]
end
section
open Go.Shelf
def KZ:Go.Shelf.Ren:=⟨fun | 105=>86 | 212=>96 | 99=>97 | 165=>98 | 166=>99 | 170=>100 | 169=>101 | 263=>118 | 264=>119 | 206=>120 | 240=>121 | 241=>122 | 276=>134 | 277=>135 | n=>n,fun | 9=>9 | 3=>3 | 4=>4 | 20=>20 | 0=>0 | 46=>145 | 109=>146 | 5=>5 | 72=>151 | 76=>154 | 51=>169 | 146=>172 | 53=>171 | 148=>174 | 70=>148 | 37=>149 | 75=>153 | 127=>176 | 164=>188 | 80=>157 | n=>n,fun | n=>n⟩
theorem SY:Go.Proofs.Lays.n105 Tryz.prog KZ:={
  mixed:=κ
  f99:=Tryz.func97.trans (congrArg some κ)
  f105:=Tryz.func86.trans (congrArg some κ)
  f165:=Tryz.func98.trans (congrArg some κ)
  f166:=Tryz.func99.trans (congrArg some κ)
  f169:=Tryz.func101.trans (congrArg some κ)
  f170:=Tryz.func100.trans (congrArg some κ)
  f206:=Tryz.func120.trans (congrArg some κ)
  f212:=Tryz.func96.trans (congrArg some κ)
  f240:=Tryz.func121.trans (congrArg some κ)
  f241:=Tryz.func122.trans (congrArg some κ)
  f263:=Tryz.func118.trans (congrArg some κ)
  f264:=Tryz.func119.trans (congrArg some κ)
  f276:=Tryz.func134.trans (congrArg some κ)
  f277:=Tryz.func135.trans (congrArg some κ)
  t0:=υ0
  a0:=Tryz.isAgg0
  z0:=Tryz.sizeOf0
  v0:=Tryz.zeroValue0
  t3:=υ3
  a3:=Tryz.isAgg3
  z3:=Tryz.sizeOf3
  v3:=Tryz.zeroValue3
  t4:=υ4
  a4:=Tryz.isAgg4
  z4:=Tryz.sizeOf4
  v4:=Tryz.zeroValue4
  t5:=υ5
  a5:=Tryz.isAgg5
  z5:=Tryz.sizeOf5
  v5:=Tryz.zeroValue5
  t9:=υ9
  a9:=Tryz.isAgg9
  z9:=Tryz.sizeOf9
  v9:=Tryz.zeroValue9
  t20:=υ20
  a20:=Tryz.isAgg20
  z20:=Tryz.sizeOf20
  v20:=Tryz.zeroValue20
  t37:=υ149
  a37:=Tryz.isAgg149
  z37:=Tryz.sizeOf149
  v37:=Tryz.zeroValue149
  t46:=υ145
  a46:=Tryz.isAgg145
  z46:=Tryz.sizeOf145
  v46:=Tryz.zeroValue145
  t51:=υ169
  a51:=Tryz.isAgg169
  z51:=Tryz.sizeOf169
  v51:=Tryz.zeroValue169
  t53:=υ171
  a53:=Tryz.isAgg171
  z53:=Tryz.sizeOf171
  v53:=Tryz.zeroValue171
  t70:=υ148
  a70:=Tryz.isAgg148
  z70:=Tryz.sizeOf148
  v70:=Tryz.zeroValue148
  t72:=υ151
  a72:=Tryz.isAgg151
  z72:=Tryz.sizeOf151
  v72:=Tryz.zeroValue151
  t75:=υ153
  a75:=Tryz.isAgg153
  z75:=Tryz.sizeOf153
  v75:=Tryz.zeroValue153
  t76:=υ154
  a76:=Tryz.isAgg154
  z76:=Tryz.sizeOf154
  v76:=Tryz.zeroValue154
  t109:=υ146
  a109:=Tryz.isAgg146
  z109:=Tryz.sizeOf146
  v109:=Tryz.zeroValue146
  t127:=υ176
  a127:=Tryz.isAgg176
  z127:=Tryz.sizeOf176
  v127:=Tryz.zeroValue176
  t146:=υ172
  a146:=Tryz.isAgg172
  z146:=Tryz.sizeOf172
  v146:=Tryz.zeroValue172
  t148:=υ174
  a148:=Tryz.isAgg174
  z148:=Tryz.sizeOf174
  v148:=Tryz.zeroValue174
  t164:=υ188
  a164:=Tryz.isAgg188
  z164:=Tryz.sizeOf188
  v164:=Tryz.zeroValue188 }
theorem IE:Builder.Extra Tryz.prog KZ:={
  sizeBuilder:=κ
  liesBuilder:=κ
  t5:=υ5
  a5:=Tryz.isAgg5
  z5:=Tryz.sizeOf5
  v5:=Tryz.zeroValue5
  infoByte:=κ
  cellsByte:=κ
  sizeByte:=κ
  neB5:=by decide }
open Go.RowKit Go.Lib in
theorem strings_Repeat (s:ByteArray) (c:Nat) (w:World) (hc:c≤9223372036854775807) (hlen:s.size*c≤140737488355328) :
    Calls Tryz.prog 86 #[.string s,ν c] w fun e w'=>e=.returned (.string ⟨(Lib.repeatL s.data.toList c).toArray⟩)∧Below w.heap.size w w':=Any.strings_Repeat SY IE s c w hc hlen
end
section
theorem MR {s:ByteArray} (h:mayN s=true):s.size≤12:=by
 unfold mayN at h
 simp only [Bool.and_eq_true,decide_eq_true_eq] at h
 exact h.1.1.1.2
theorem IT {s:ByteArray} (h:mayN s=true):s.size≤maxLen:=Nat.le_trans (MR h) (by unfold maxLen;omega)
theorem Py {α:Type} {x:Option α} (h:x=none):x.isSome=false:=by rw [h];rfl
theorem CU {s:ByteArray} (h:mayN s=true):s.size≤maxLen:=IT h
theorem JS {L:List ByteArray} (h:L.all mayN=true) {i:Nat} (hi:i<L.length):(L.getD i AL).size≤maxLen:=by
 rw [List.getD_eq_getElem?_getD,List.getElem?_eq_getElem hi]
 exact IT (List.all_eq_true.1 h _ (List.getElem_mem hi))
theorem Je {F:FsM}:∀ {L:List ByteArray} {n:Nat},¬ (Am F n L).1=0→Am F n L=((Am F n L).1,0)
 | [],n,h=>absurd rfl h
 | s::L,n,h=>by
  unfold Am at h ⊢
  by_cases hd:F.dir n=true
  ·rw [if_pos hd] at h ⊢
   cases hl:Aj F.E n s with
   | none=>rfl
   | some m=>rw [hl] at h;exact Je h
  ·rw [if_neg hd]
theorem QL {F:FsM} {X:List UInt8} (h:¬ (Ab F X).1=0):Ab F X=((Ab F X).1,0):=by
 cases hp:Ag X with
 | none=>rw [Hi hp]
 | some L=>rw [CY hp] at h ⊢;exact Je h
def Js (X:List UInt8):Bool:=decide (Ag X≠none∧Ag X≠some [])
theorem OJ {X:List UInt8} (h:Ag X=none∨Ag X=some []):Js X=false:=decide_eq_false fun q=>h.elim q.1 q.2
theorem Rm {X:List UInt8} {M:List ByteArray} {x:ByteArray} (h:Ag X=some (M++[x])):Js X=true:=decide_eq_true (by rw [h];exact ⟨(fun q=>by cases q),(fun q=>by simp at q)⟩)
theorem Sd {X:List UInt8} {n:Nat} (h:n≤X.length):X.take n=Bc X n:=by
 unfold Bc;rw [show n-X.length=0 by omega];simp
theorem Se {X:List UInt8} {n k:Nat} (h:X.length<n∧k=n-X.length):X++List.replicate k 0=Bc X n:=by
 unfold Bc;rw [List.take_of_length_le ω,h.2]
theorem LO:∀ k,Lib.repeatL [(0:UInt8)] k=List.replicate k 0
 | 0=>rfl
 | k+1=>by
  rw [List.replicate_succ,← LO k];rfl
theorem Rr {w:World} {R:List Ch} (hS:Sep w R) {k:Nat} (hk:k≤1000):CallsR Tryz.prog 86 #[σ [0],ν (k:Int)] w (fun v w'=>v=σ (List.replicate k 0)∧Sep w' R):=
 (strings_Repeat (Ad [0]) k w ω (by rw [show (Ad [0]).size=1 from rfl];omega)).mono fun e w' ⟨e1,hb⟩=>⟨_,e1,by
  have:(Ad [0]).data.toList=[0]:=rfl
  rw [this,LO];rfl,hS.mono hb⟩
theorem Uh (T E:TypeId) {P:Program} (hu:P.underlying T=some (.slice E)) (hE:((P.info? E).map (·.size)).isSome=true) (ad:Option Addr) (n c:Nat) {b:Nat} (hb:b≤c) (w:World) :
  (Instr.sliceAt T (.slice ad n c) none (some (ν (b:Int))) (some (ν (b:Int)))).run P w=.ok (.slice ad b b) w:=by
 have i1:(b:Int)≤c:=ω
 cases hq:P.info? E with
 | none=>simp [hq] at hE
 | some q=>
  simp [Instr.sliceAt,Instr.slice,Instr.sliceBounds,Instr.sliceBound,asIntOf,underlying,hu,Sem.run_bind,sizeOf,typeInfo,hq,i1]
  cases ad<;>simp [Addr.add]<;>exact fun q=>absurd q ω
theorem TD {P:Program} {o:Oper} {a:Act} {N:Nat} {l:List (Nat×Value)} (h:Kn N l a) {T:TypeId} {x hi mx:Operand} (ho:o.op=.slice T x none (some hi) (some mx)) {v u vh vm:Value} (hx:opv l x=some v) (hh:opv l hi=some vh) (hm:opv l mx=some vm) (hf:∀ w,(Instr.sliceAt T v none (some vh) (some vm)).run P w=.ok u w) (w:World):(execOp a.eval o).run P w=.ok (.value u) w:=by
 unfold execOp;rw [ho]
 simp only [h.op hx,h.op hh,h.op hm,Option.map_none,Option.map_some]
 exact GP (hf w)
theorem Fx {w:World} {R:List Ch} {X:List UInt8} (hS:Sep w R) (hX:X.length≤1000) {L:List ByteArray} (h:Ag X=some L) :
  CallsR Tryz.prog 76 #[σ X] w fun v w'=>∃ pa pc,v=.tuple #[.slice pa L.length pc,ν 0]∧Sep w' (Ai 0 9 1 pa L.length pc (L.flatMap sE)::R):=
 (Hp X hX w).mono fun e w' ⟨a,c,e1,hO,hb⟩=>by
  rw [h] at e1 hO
  exact ⟨_,e1,a,c,rfl,by rw [Mc];exact hS.own hb hO⟩
theorem Ho {w:World} {R:List Ch} {X:List UInt8} (hS:Sep w R) (hX:X.length≤1000) (h:Ag X=none) :
  CallsR Tryz.prog 76 #[σ X] w fun v w'=>∃ pa pc,v=.tuple #[.slice pa 0 pc,ν 15]∧Sep w' R:=
 (Hp X hX w).mono fun e w' ⟨a,c,e1,hO,hb⟩=>by
  rw [h] at e1
  exact ⟨_,e1,a,c,rfl,hS.mono hb⟩
theorem Px {w:World} {R:List Ch} (hS:Sep w R) (X Y:List UInt8) (hX:X.length≤1000) (hY:Y.length≤1000):CallsR Tryz.prog 78 #[σ X,σ Y] w (fun v w'=>v=.bool (Da (Ag X) (Ag Y))∧Sep w' R):=
 (MH X Y hX hY w).mono fun e w' ⟨e1,hb⟩=>⟨_,e1,rfl,hS.mono hb⟩
theorem Gm {w:World} {cf ob:Nat} {F:FsM} {A:AdM} {R:List Ch} {δ:Nat→Int} (hS0:Sep w ((cP cf ob F A)++R)) (hok:FsC F δ) (hz:SmF F) {c fd:Int} (hwf:wfD (c,fd)) {m:Nat} (hl:Az F.O c fd=some m) :
  CallsR Tryz.prog 73 #[π cf,ν c,ν fd] w (fun v w'=>v=.tuple #[π (A.ad m),ν 0]∧Sep w' ((cP cf ob F A)++R)):=by
 have hS:=Sep.tail_many (xs:=cP cf ob F A) hS0;clear hS0
 have hz0:=hz;obtain ⟨hz1,hz2,hz3⟩:F.N.length≤1000∧F.E.length≤1000∧F.O.length≤1000:=hz
 refine AE Tryz.func73 rfl (N:=20) Tryz.ntmps73 (by show 3≤20;decide) [(0,π cf),(1,ν c),(2,ν fd)] rfl fun _ h1=>sqr fun _ hK3=>mvs 2 h1 rfl fun _ h6=>wpList_nil<|hK3 _ _<|sqr fun _ hK8=>mvs 2 h6 rfl fun _ h2=>fav h2 rfl (Cj _ _) fun _ h3=>ldv h3 hS 0 υ63 rfl rfl rfl rfl fun _ h4=>mvs 2 h4 rfl fun _ h5=>bu h5 (v:=.agg #[ν c,ν fd]) rfl (fun w=>κ) fun _ h7=>?_
 refine sw1 h7 rfl (DR h7 rfl rfl rfl (IV (F:=F) (A:=A) (hS.get 2 rfl:MapG KO _ _ _ _) (by exact hwf) hl)) fun _ h8=>mv h8 rfl fun _ h9=>h9.sn [8,7,6,0,1,2] rfl fun h10=>hK8 _ _<|sq fun _ hK1=>sqr fun _ hK2=>mv h10 rfl fun _ h11=>bv h11 rfl (JN _ υ62 _ _ _) fun _ h12=>h12.sn [18,8,7,6,0,1,2] rfl fun h13=>hK2 _ _<|wcF h13 rfl rfl ?_
 refine h13.sk [8,7,6,0,1,2] rfl fun h14=>wp_skip<|hK1 _ _<|sqr fun _ hK4=>mv h14 rfl fun _ h15=>h15.sk [19,8,7,0,1,2] rfl fun h16=>mv h16 rfl fun _ h17=>h17.sk [6,19,8,0,1,2] rfl fun h18=>mv h18 rfl fun _ h19=>h19.sn [7,6,8,0,1,2] rfl fun h20=>hK4 _ _ ?_
 refine wp_ret ?_
 try simp only [Exit.then,Exit.inBlock]
 refine Bi (v:=.tuple #[π (A.ad m),ν 0]) (Gc h20 rfl rfl rfl) h20.defs ?_
 exact ⟨rfl,Sep.tail_un (xs:=[_,_,_]) hS⟩
theorem Hh {w:World} {cf ob:Nat} {F:FsM} {A:AdM} {R:List Ch} {δ:Nat→Int} (hS0:Sep w ((cP cf ob F A)++R)) (hok:FsC F δ) (hz:SmF F) {c fd:Int} (hwf:wfD (c,fd)) (hl:Az F.O c fd=none) :
  CallsR Tryz.prog 73 #[π cf,ν c,ν fd] w (fun v w'=>v=.tuple #[.pointer none,ν 16]∧Sep w' ((cP cf ob F A)++R)):=by
 have hS:=Sep.tail_many (xs:=cP cf ob F A) hS0;clear hS0
 have hz0:=hz;obtain ⟨hz1,hz2,hz3⟩:F.N.length≤1000∧F.E.length≤1000∧F.O.length≤1000:=hz
 refine AE Tryz.func73 rfl (N:=20) Tryz.ntmps73 (by show 3≤20;decide) [(0,π cf),(1,ν c),(2,ν fd)] rfl fun _ h1=>sqr fun _ hK3=>mvs 2 h1 rfl fun _ h6=>wpList_nil<|hK3 _ _<|sqr fun _ hK8=>mvs 2 h6 rfl fun _ h2=>fav h2 rfl (Cj _ _) fun _ h3=>ldv h3 hS 0 υ63 rfl rfl rfl rfl fun _ h4=>mvs 2 h4 rfl fun _ h5=>bu h5 (v:=.agg #[ν c,ν fd]) rfl (fun w=>κ) fun _ h7=>?_
 have hm1:=AG (Py hl)
 refine sw1 h7 rfl (DR h7 rfl rfl rfl (KH (F:=F) (A:=A) (hS.get 2 rfl:MapG KO _ _ _ _) (by exact hwf) hm1)) fun _ h8=>mv h8 rfl fun _ h9=>h9.sn [8,7,6,0,1,2] rfl fun h10=>hK8 _ _<|sq fun _ hK1=>sqr fun _ hK2=>mv h10 rfl fun _ h11=>bv h11 rfl (JN _ υ62 _ _ _) fun _ h12=>h12.sn [18,8,7,6,0,1,2] rfl fun h13=>hK2 _ _<|wcT h13 rfl rfl ?_
 refine h13.sk [8,7,6,0,1,2] rfl fun h14=>sqr fun _ hK4=>h14.sk [8,7,0,1,2] rfl fun h15=>mv h15 rfl fun _ h16=>h16.sk [6,8,0,1,2] rfl fun h17=>mv h17 rfl fun _ h18=>wpList_nil<|hK4 _ _<|wp_ret ?_
 try simp only [Exit.then,Exit.inBlock]
 refine Bi (v:=.tuple #[.pointer none,.int .i64 16]) (Gc h18 rfl rfl rfl) h18.defs ?_
 exact ⟨rfl,Sep.tail_un (xs:=[_,_,_]) hS⟩
theorem Jk {w:World} {cf ob:Nat} {F:FsM} {A:AdM} {R:List Ch} {δ:Nat→Int} (hS0:Sep w ((cP cf ob F A)++R)) (hok:FsC F δ) (hz:SmF F) {c:Int} (hcl:1≤c∧c≤8) {i0:Nat} (hl:Dt F c=some i0) :
  CallsR Tryz.prog 72 #[π cf,ν c] w (fun v w'=>v=.tuple #[ν (i0:Int),ν 0]∧Sep w' ((cP cf ob F A)++R)):=by
 have hS:=Sep.tail_many (xs:=cP cf ob F A) hS0;clear hS0
 have hz0:=hz;obtain ⟨hz1,hz2,hz3⟩:F.N.length≤1000∧F.E.length≤1000∧F.O.length≤1000:=hz
 refine AE Tryz.func72 rfl (N:=21) Tryz.ntmps72 (by show 2≤21;decide) [(0,π cf),(1,ν c)] rfl fun _ h1=>sqr fun _ hK3=>mvs 2 h1 rfl fun _ h6=>wpList_nil<|hK3 _ _<|sq fun _ hK8=>sqr fun _ hK9=>mv h6 rfl fun _ h2=>wpList_nil<|hK9 _ _<|wp_block ?_
 refine DK (fun (i:Nat) a' w'=>Kn 21 [(7,ν (i:Int)),(5,ν 0),(4,ν 0),(0,π cf),(1,ν c)] a'∧Sep w' [Ah cf 65 [π (A.ad 0),.map (some ob)],AO F A,AP KO ob A.C (opG F A),Ch.many R]∧(Dt F c=((List.range 8).drop i).find? fun fd:Nat=>(Az F.O c (fd:Int)).isNone)∧(i≤8)) (fun (i:Nat)=>8-i) 0 ⟨h2.subs rfl,hS,rfl,ω⟩ ?_
 rintro i1 a1 w1 ⟨h3,s1,hfr17,hi818⟩ K1 hK1
 refine sqr fun _ hK2=>bv h3 (z:=.bool (decide ((i1:Int)<8))) rfl (cLt _ _ _ _ rfl) fun _ h4=>wpList_nil<|hK2 _ _<|sq fun _ hK4=>?_
 rcases bC (decide ((i1:Int)<8)) with hc1 | hc1
 ·skip
  have hp1:(i1:Int)<8:=(dT hc1)
  refine wcT h4 rfl hc1<|h4.sk [7,5,4,0,1] rfl fun h5=>wp_skip<|hK4 _ _<|sq fun _ hK5=>wp_block ?_
  refine sqr fun _ hK6=>mvs 2 h5 rfl fun _ h7=>h7.sn [6,7,5,4,0,1] rfl fun h8=>hK6 _ _<|sqr fun _ hK7=>mvs 2 h8 rfl fun _ h9=>fav h9 rfl (Cj _ _) fun _ h10=>ldv h10 s1 0 υ63 rfl rfl rfl rfl fun _ h11=>mvs 2 h11 rfl fun _ h12=>bu h12 (v:=.agg #[ν c,ν (i1:Int)]) rfl (fun w=>κ) fun _ h13=>?_
  rcases bC ((Az F.O c (i1:Int)).isSome) with hc2 | hc2
  ·skip
   obtain ⟨m1,hm1⟩:=Option.isSome_iff_exists.1 hc2;have hml53:=FsC.look_fd hok hm1
   refine sw1 h13 rfl (DR h13 rfl rfl rfl (IV (F:=F) (A:=A) (s1.get 2 rfl:MapG KO _ _ _ _) ⟨wf_i64 ω ω,wf_i64 ω ω⟩ hm1)) fun _ h14=>bv h14 rfl (JN _ υ62 _ _ _) fun _ h15=>h15.sn [18,6,7,5,4,0,1] rfl fun h16=>hK7 _ _<|wcF h16 rfl rfl<|h16.sk [6,7,5,4,0,1] rfl fun h17=>wp_skip<|hK5 _ _<|wp_region_lit<|bv h17 (z:=ν ((i1+1:Nat):Int)) rfl (DG _ _ _ ω ω ω) fun _ h18=>h18.sk [20,6,5,4,0,1] rfl fun h19=>?_
   refine mv h19 rfl fun _ h20=>h20.sk [7,6,5,4,0,1] rfl fun h21=>wpList_nil ?_
   exact hK1 (i1+1) _ _ ⟨h21.subs rfl,s1,(Ir hfr17 ω hc2),ω⟩ ω
  ·skip
   have hm2:=AG hc2
   refine sw1 h13 rfl (DR h13 rfl rfl rfl (KH (F:=F) (A:=A) (s1.get 2 rfl:MapG KO _ _ _ _) ⟨wf_i64 ω ω,wf_i64 ω ω⟩ hm2)) fun _ h22=>bv h22 rfl (JN _ υ62 _ _ _) fun _ h23=>h23.sn [18,6,7,5,4,0,1] rfl fun h24=>hK7 _ _<|wcT h24 rfl rfl<|h24.sk [6,7,5,4,0,1] rfl fun h25=>sqr fun _ hK10=>mv h25 rfl fun _ h26=>h26.sk [19,6,7,5,0,1] rfl fun h27=>mv h27 rfl fun _ h28=>?_
   refine h28.sk [4,19,6,7,0,1] rfl fun h29=>mv h29 rfl fun _ h30=>h30.sn [5,4,6,7,0,1] rfl fun h31=>hK10 _ _<|wp_ret ?_
   try simp only [Exit.then,Exit.inBlock]
   refine Bi (v:=.tuple #[ν (i1:Int),ν 0]) (Gc h31 rfl rfl rfl) h31.defs ?_
   have hq:i1=i0:=Option.some.inj ((IM hfr17 ω hc2).symm.trans hl)
   exact ⟨by rw [hq],Sep.tail_un (xs:=[_,_,_]) s1⟩
 ·skip
  have hp2:¬ ((i1:Int)<8):=(dF hc1)
  refine wcF h4 rfl hc1<|h4.sk [7,5,4,0,1] rfl fun h32=>wp_exit ?_
  refine hK8 _ _ ?_
  refine sqr fun _ hK11=>h32.sk [7,5,0,1] rfl fun h33=>mv h33 rfl fun _ h34=>h34.sk [4,7,0,1] rfl fun h35=>mv h35 rfl fun _ h36=>wpList_nil<|hK11 _ _<|wp_ret ?_
  try simp only [Exit.then,Exit.inBlock]
  refine Bi (v:=.tuple #[ν 0,ν 17]) (Gc h36 rfl rfl rfl) h36.defs ?_
  exact absurd ((Iq hfr17 ω).symm.trans hl) (by intro q;cases q)
theorem Km {w:World} {cf ob:Nat} {F:FsM} {A:AdM} {R:List Ch} {δ:Nat→Int} (hS0:Sep w ((cP cf ob F A)++R)) (hok:FsC F δ) (hz:SmF F) {c:Int} (hcl:1≤c∧c≤8) (hl:Dt F c=none) :
  CallsR Tryz.prog 72 #[π cf,ν c] w (fun v w'=>v=.tuple #[ν 0,ν 17]∧Sep w' ((cP cf ob F A)++R)):=by
 have hS:=Sep.tail_many (xs:=cP cf ob F A) hS0;clear hS0
 have hz0:=hz;obtain ⟨hz1,hz2,hz3⟩:F.N.length≤1000∧F.E.length≤1000∧F.O.length≤1000:=hz
 refine AE Tryz.func72 rfl (N:=21) Tryz.ntmps72 (by show 2≤21;decide) [(0,π cf),(1,ν c)] rfl fun _ h1=>sqr fun _ hK3=>mvs 2 h1 rfl fun _ h6=>wpList_nil<|hK3 _ _<|sq fun _ hK8=>sqr fun _ hK9=>mv h6 rfl fun _ h2=>wpList_nil<|hK9 _ _<|wp_block ?_
 refine DK (fun (i:Nat) a' w'=>Kn 21 [(7,ν (i:Int)),(5,ν 0),(4,ν 0),(0,π cf),(1,ν c)] a'∧Sep w' [Ah cf 65 [π (A.ad 0),.map (some ob)],AO F A,AP KO ob A.C (opG F A),Ch.many R]∧(Dt F c=((List.range 8).drop i).find? fun fd:Nat=>(Az F.O c (fd:Int)).isNone)∧(i≤8)) (fun (i:Nat)=>8-i) 0 ⟨h2.subs rfl,hS,rfl,ω⟩ ?_
 rintro i1 a1 w1 ⟨h3,s1,hfr17,hi818⟩ K1 hK1
 refine sqr fun _ hK2=>bv h3 (z:=.bool (decide ((i1:Int)<8))) rfl (cLt _ _ _ _ rfl) fun _ h4=>wpList_nil<|hK2 _ _<|sq fun _ hK4=>?_
 rcases bC (decide ((i1:Int)<8)) with hc1 | hc1
 ·skip
  have hp1:(i1:Int)<8:=(dT hc1)
  refine wcT h4 rfl hc1<|h4.sk [7,5,4,0,1] rfl fun h5=>wp_skip<|hK4 _ _<|sq fun _ hK5=>wp_block ?_
  refine sqr fun _ hK6=>mvs 2 h5 rfl fun _ h7=>h7.sn [6,7,5,4,0,1] rfl fun h8=>hK6 _ _<|sqr fun _ hK7=>mvs 2 h8 rfl fun _ h9=>fav h9 rfl (Cj _ _) fun _ h10=>ldv h10 s1 0 υ63 rfl rfl rfl rfl fun _ h11=>mvs 2 h11 rfl fun _ h12=>bu h12 (v:=.agg #[ν c,ν (i1:Int)]) rfl (fun w=>κ) fun _ h13=>?_
  rcases bC ((Az F.O c (i1:Int)).isSome) with hc2 | hc2
  ·skip
   obtain ⟨m1,hm1⟩:=Option.isSome_iff_exists.1 hc2;have hml53:=FsC.look_fd hok hm1
   refine sw1 h13 rfl (DR h13 rfl rfl rfl (IV (F:=F) (A:=A) (s1.get 2 rfl:MapG KO _ _ _ _) ⟨wf_i64 ω ω,wf_i64 ω ω⟩ hm1)) fun _ h14=>bv h14 rfl (JN _ υ62 _ _ _) fun _ h15=>h15.sn [18,6,7,5,4,0,1] rfl fun h16=>hK7 _ _<|wcF h16 rfl rfl<|h16.sk [6,7,5,4,0,1] rfl fun h17=>wp_skip<|hK5 _ _<|wp_region_lit<|bv h17 (z:=ν ((i1+1:Nat):Int)) rfl (DG _ _ _ ω ω ω) fun _ h18=>h18.sk [20,6,5,4,0,1] rfl fun h19=>?_
   refine mv h19 rfl fun _ h20=>h20.sk [7,6,5,4,0,1] rfl fun h21=>wpList_nil ?_
   exact hK1 (i1+1) _ _ ⟨h21.subs rfl,s1,(Ir hfr17 ω hc2),ω⟩ ω
  ·skip
   have hm2:=AG hc2
   refine sw1 h13 rfl (DR h13 rfl rfl rfl (KH (F:=F) (A:=A) (s1.get 2 rfl:MapG KO _ _ _ _) ⟨wf_i64 ω ω,wf_i64 ω ω⟩ hm2)) fun _ h22=>bv h22 rfl (JN _ υ62 _ _ _) fun _ h23=>h23.sn [18,6,7,5,4,0,1] rfl fun h24=>hK7 _ _<|wcT h24 rfl rfl<|h24.sk [6,7,5,4,0,1] rfl fun h25=>sqr fun _ hK10=>mv h25 rfl fun _ h26=>h26.sk [19,6,7,5,0,1] rfl fun h27=>mv h27 rfl fun _ h28=>?_
   refine h28.sk [4,19,6,7,0,1] rfl fun h29=>mv h29 rfl fun _ h30=>h30.sn [5,4,6,7,0,1] rfl fun h31=>hK10 _ _<|wp_ret ?_
   try simp only [Exit.then,Exit.inBlock]
   refine Bi (v:=.tuple #[ν (i1:Int),ν 0]) (Gc h31 rfl rfl rfl) h31.defs ?_
   exact absurd ((IM hfr17 ω hc2).symm.trans hl) (by intro q;cases q)
 ·skip
  have hp2:¬ ((i1:Int)<8):=(dF hc1)
  refine wcF h4 rfl hc1<|h4.sk [7,5,4,0,1] rfl fun h32=>wp_exit ?_
  refine hK8 _ _ ?_
  refine sqr fun _ hK11=>h32.sk [7,5,0,1] rfl fun h33=>mv h33 rfl fun _ h34=>h34.sk [4,7,0,1] rfl fun h35=>mv h35 rfl fun _ h36=>wpList_nil<|hK11 _ _<|wp_ret ?_
  try simp only [Exit.then,Exit.inBlock]
  refine Bi (v:=.tuple #[ν 0,ν 17]) (Gc h36 rfl rfl rfl) h36.defs ?_
  exact ⟨rfl,Sep.tail_un (xs:=[_,_,_]) s1⟩
theorem Hn {w:World} {R:List Ch} {X:List UInt8} (hS0:Sep w R) (hX:X.length≤1000) {L:List ByteArray} (hp:Ag X=some L) (hL:1≤L.length) :
  CallsR Tryz.prog 85 #[σ X] w fun v w'=>∃ pa pc,v=.tuple #[.slice pa (L.length-1) (L.length-1),.string (L.getD (L.length-1) AL),ν 0]∧Sep w' (Ai 0 9 1 pa L.length pc (L.flatMap sE)::R):=by
 have hS:Sep w [Ch.many R]:=Sep.tail_many (xs:=[]) hS0;clear hS0;have hL6:=Do hp
 refine AE Tryz.func85 rfl (N:=31) Tryz.ntmps85 (by show 1≤31;decide) [(0,σ X)] rfl fun _ h1=>sqr fun _ hK3=>mvs 3 h1 rfl fun _ h8=>wpList_nil<|hK3 _ _<|sqr fun _ hK1=>mv h8 rfl fun _ h2=>cl h2 rfl Ci (Fx (X:=X) hS ω hp) fun _ v1 w2 r1 h3=>?_
 obtain ⟨pax13,pcx14,rfl,s1⟩:=r1
 refine mvs 5 h3 rfl fun _ h4=>h4.sn [6,5,4,3,2,0] rfl fun h5=>hK1 _ _<|sq fun _ hK2=>sqr fun _ hK4=>mv h5 rfl fun _ h6=>bv h6 rfl (cNe _ _ _ _ rfl) fun _ h7=>mv h7 rfl fun _ h9=>sv h9 (wF h9 (E:=false) rfl rfl rfl) rfl rfl rfl (Aq h9 rfl rfl) fun _ h10=>sv h10 (wF h10 (E:=false) rfl rfl rfl) rfl rfl rfl (CR h10 rfl rfl υ33) fun _ h11=>sv h11 (wF h11 (E:=false) rfl rfl rfl) rfl rfl rfl (BF h11 rfl rfl rfl (cEq _ _ _ _ (decide_eq_false ω))) fun _ h12=>?_
 refine sv1 h12 rfl (Eh h12 rfl rfl rfl) fun _ h13=>h13.sn [19,6,5,4,3,2,0] rfl fun h14=>hK4 _ _<|wcF h14 rfl rfl<|h14.sk [6,5,4,3,2,0] rfl fun h15=>wp_skip<|hK2 _ _<|sqr fun _ hK5=>mv h15 rfl fun _ h16=>sv1 h16 rfl (CR h16 rfl rfl υ33) fun _ h17=>bv h17 (z:=ν ((L.length-1:Nat):Int)) rfl (Ij _ _ _ ω ω ω) fun _ h18=>?_
 refine mv h18 rfl fun _ h19=>h19.sn [7,6,5,4,3,2,0] rfl fun h20=>hK5 _ _<|sq fun _ hK6=>?_
 have s2:=s1.drew
 refine wp_region_held_drew (S:=fun w'=>Sep w' [Ai 0 9 1 pax13 L.length pcx14 (L.flatMap sE),Ch.many R]) κ s2 (fun hq1=>?_)
 refine tv1 hq1 h20 0 rfl rfl (fun w1 _=>(Aq h20 rfl rfl) w1) fun _ h21=>?_
 refine tv1 hq1 h21 1 rfl rfl (fun w1 _=>(Aq h21 rfl rfl) w1) fun _ h22=>?_
 refine tv1 hq1 h22 2 rfl rfl (fun w1 _=>(Aq h22 rfl rfl) w1) fun _ h23=>?_
 have hcap70:=OI (s2.get 0 rfl:Own _ _ _ _ _ _ _ _)
 refine tv1 hq1 h23 3 rfl rfl (fun w1 _=>(TD h23 rfl rfl rfl rfl (fun w=>Uh 33 9 υ33 κ pax13 L.length pcx14 (b:=L.length-1) ω w)) w1) fun _ h24=>?_
 refine tv1 hq1 h24 4 rfl rfl (fun w1 _=>(Aq h24 rfl rfl) w1) fun _ h25=>?_
 refine tv1 hq1 h25 5 rfl rfl (fun w1 _=>(Aq h25 rfl rfl) w1) fun _ h26=>?_
 obtain ⟨q77,hq2⟩:=AT (s2.get 0 rfl:Own _ _ _ _ _ _ _ _)
 refine tv1 hq1 h26 6 rfl rfl (v:=.pointer (some ⟨q77,L.length-1,none⟩)) (fun w1 _=>(Ay h26 rfl rfl rfl (fun w=>ixO υ33 κ (sz:=1) (hq2 ω) (j:=L.length-1) rfl ω ω w)) w1) fun _ h27=>?_
 refine tv1 hq1 h27 7 rfl rfl (fun w1 hSw=>(rld h27 rfl rfl (BJ Ea υ9 rfl (hSw.get 0 rfl:Own _ _ _ _ _ _ _ _) (hq2 ω) AL (j:=L.length-1) (f:=0) ω (by decide) ω rfl))) fun _ h28=>?_
 refine h28.sk [30,29,28,27,26,25,24,23,7,6,5,4,3,0] rfl fun h29=>?_
 refine tv1 hq1 h29 8 rfl rfl (fun w1 _=>(CH h29 rfl rfl) w1) fun _ h30=>?_
 refine h30.sk [2,30,29,28,27,26,25,24,23,7,6,5,4,0] rfl fun h31=>?_
 refine tv1 hq1 h31 9 rfl rfl (fun w1 _=>(CH h31 rfl rfl) w1) fun _ h32=>?_
 refine h32.sk [3,2,30,29,28,27,26,25,24,23,7,6,5,0] rfl fun h33=>?_
 refine tv1 hq1 h33 10 rfl rfl (fun w1 _=>(CH h33 rfl rfl) w1) fun _ h34=>?_
 refine h34.sk [4,3,2,7,6,5,0] rfl fun h35=>?_
 refine wpAnyH_done κ ?_ _
 refine hK6 _ _ ?_
 refine wp_ret ?_
 try simp only [Exit.then,Exit.inBlock]
 refine Bi (v:=.tuple #[.slice pax13 (L.length-1) (L.length-1),.string (L.getD (L.length-1) AL),ν 0]) (Hs h35 rfl rfl rfl rfl) h35.defs ?_
 exact ⟨pax13,pcx14,rfl,Sep.tail_un (xs:=[_]) s2⟩
theorem ER {w:World} {R:List Ch} {X:List UInt8} (hS:Sep w R) (hX:X.length≤1000) (ho:Ag X=none∨Ag X=some []) :
  CallsR Tryz.prog 85 #[σ X] w fun v w'=>v=.tuple #[.slice none 0 0,σ [],ν 15]∧Sep w' R:=
 (MT X hX ho w).mono fun e w' ⟨e1,hb⟩=>⟨_,e1,rfl,hS.mono hb⟩
theorem Jy {w:World} {cf ob:Nat} {F:FsM} {A:AdM} {R:List Ch} {δ:Nat→Int} {L:List ByteArray} {a:Option Addr} {n c c2 k0:Nat} {e0:Int} (hS0:Sep w (Ai 0 9 1 a L.length c (L.flatMap sE)::(cP cf ob F A)++R)) (hok:FsC F δ) (hz:SmF F) (hall:L.all mayN=true) (hn:n≤L.length) (hl:L.length≤1000) (hw0:Am F 0 (L.take n)=(0,k0)) :
  CallsR Tryz.prog 84 #[π cf,.slice a n c2] w (fun v w'=>v=.tuple #[π (A.ad k0),ν 0]∧Sep w' (Ai 0 9 1 a L.length c (L.flatMap sE)::(cP cf ob F A)++R)):=by
 have hS:Sep w [Ai 0 9 1 a L.length c (L.flatMap sE),Ah cf 65 [π (A.ad 0),.map (some ob)],AO F A,AP KO ob A.C (opG F A),Ch.many R]:=Sep.tail_many (xs:=[_,_,_,_]) hS0;clear hS0
 have hz0:=hz;obtain ⟨hz1,hz2,hz3⟩:F.N.length≤1000∧F.E.length≤1000∧F.O.length≤1000:=hz
 refine AE Tryz.func84 rfl (N:=34) Tryz.ntmps84 (by show 2≤34;decide) [(0,π cf),(1,.slice a n c2)] rfl fun _ h1=>sqr fun _ hK3=>mvs 2 h1 rfl fun _ h6=>wpList_nil<|hK3 _ _<|sqr fun _ hK8=>mvs 2 h6 rfl fun _ h2=>fav h2 rfl (Em _ _) fun _ h3=>ldv h3 hS 1 υ62 rfl rfl rfl rfl fun _ h4=>mv h4 rfl fun _ h5=>h5.sk [6,5,4,0,1] rfl fun h7=>?_
 refine wpList_nil<|hK8 _ _<|sq fun _ hK1=>sqr fun _ hK2=>mv h7 rfl fun _ h8=>sv1 h8 rfl (CR h8 rfl rfl υ33) fun _ h9=>mv h9 rfl fun _ h10=>wpList_nil<|hK2 _ _<|wp_block ?_
 refine Jg (fun (i:Nat) (k:Nat) a' w'=>Kn 34 [(15,ν (i:Int)),(14,ν (n:Int)),(13,.slice a n c2),(6,π (A.ad k)),(5,ν 0),(4,.pointer none),(0,π cf),(1,.slice a n c2)] a'∧Sep w' [Ai 0 9 1 a L.length c (L.flatMap sE),Ah cf 65 [π (A.ad 0),.map (some ob)],AO F A,AP KO ob A.C (opG F A),Ch.many R]∧(Am F 0 (L.take n)=Am F k ((L.take n).drop i))∧(k<F.N.length)) (fun (i:Nat) (k:Nat)=>n-i) 0 0 ⟨h10.subs rfl,hS,rfl,hok.n0.1⟩ ?_
 rintro i1 k1 a1 w1 ⟨h11,s1,hw33,hk34⟩ K1 hK4
 refine sqr fun _ hK5=>bv h11 (z:=.bool (decide ((i1:Int)<(n:Int)))) rfl (cLt _ _ _ _ rfl) fun _ h12=>wpList_nil<|hK5 _ _<|sq fun _ hK6=>?_
 rcases bC (decide ((i1:Int)<(n:Int))) with hc1 | hc1
 ·skip
  have hp1:(i1:Int)<(n:Int):=(dT hc1)
  refine wcT h12 rfl hc1<|h12.sk [15,14,13,6,5,4,0,1] rfl fun h13=>wp_skip<|hK6 _ _<|sq fun _ hK7=>wp_block ?_
  refine sq fun _ hK9=>wp_region_lit ?_
  obtain ⟨q46,hq1⟩:=AT (s1.get 0 rfl:Own _ _ _ _ _ _ _ _)
  refine sv1 h13 rfl (v:=.pointer (some ⟨q46,i1,none⟩)) (Ay h13 rfl rfl rfl (fun w=>ixO υ33 κ (sz:=1) (hq1 ω) (j:=i1) rfl ω ω w)) fun _ h14=>sw1 h14 rfl (v:=.string (L.getD i1 AL)) (rld h14 rfl rfl (BJ Ea υ9 rfl (s1.get 0 rfl:Own _ _ _ _ _ _ _ _) (hq1 ω) AL (j:=i1) (f:=0) ω (by decide) ω rfl)) fun _ h15=>mv h15 rfl fun _ h16=>h16.sn [8,15,14,13,6,5,4,0,1] rfl fun h17=>hK9 _ _<|sq fun _ hK10=>sqr fun _ hK11=>mvs 2 h17 rfl fun _ h18=>sv1 h18 rfl (v:=π (A.ad k1)) (rfa h18 rfl rfl (fun w=>AJ (A.ad k1) 0 w)) fun _ h19=>sw1 h19 rfl (v:=ν (BY (F.dir k1))) (rld h19 rfl rfl (NdP.c0 (F:=FsM.nE F) (A:=AdM.nC A) (k:=k1) (s1.get 2 rfl:NdP _ _ _) (show k1<F.N.length from ω) υ3 rfl)) fun _ h20=>bv h20 (z:=.bool (!(F.dir k1))) rfl (cNe _ _ _ _ (Jn _)) fun _ h21=>?_
  refine h21.sn [23,8,15,14,13,6,5,4,0,1] rfl fun h22=>hK11 _ _ ?_
  rcases bC (F.dir k1) with hc2 | hc2
  ·skip
   refine wcF h22 rfl (Bq hc2)<|h22.sk [8,15,14,13,6,5,4,0,1] rfl fun h23=>wp_skip<|hK10 _ _<|sqr fun _ hK12=>mvs 2 h23 rfl fun _ h24=>sv1 h24 rfl (rfa h24 rfl rfl (fun w=>AQ (A.ad k1) 0 w)) fun _ h25=>sw1 h25 rfl (rld h25 rfl rfl (NdP.c3 (F:=FsM.nE F) (A:=AdM.nC A) (k:=k1) (s1.get 2 rfl:NdP _ _ _) (show k1<F.N.length from ω) hc2 υ95 rfl)) fun _ h26=>mv h26 rfl fun _ h27=>?_
   rcases bC ((Aj F.E k1 (L.getD i1 AL)).isSome) with hc3 | hc3
   ·skip
    obtain ⟨m1,hm1⟩:=Option.isSome_iff_exists.1 hc3;have hml86:=FsC.look_lt hok hm1
    refine sw1 h27 rfl (DR h27 rfl rfl rfl (NdP.lookY (F:=FsM.nE F) (A:=AdM.nC A) (k:=k1) (s1.get 2 rfl:NdP _ _ _) (show k1<F.N.length from ω) hc2 (JS hall ω) hm1)) fun _ h28=>h28.sk [29,28,27,26,25,24,8,15,14,13,5,4,0,1] rfl fun h29=>mv h29 rfl fun _ h30=>h30.sn [6,8,15,14,13,5,4,0,1] rfl fun h31=>hK12 _ _<|sqr fun _ hK13=>mv h31 rfl fun _ h32=>bv h32 rfl (JN _ υ62 _ _ _) fun _ h33=>h33.sn [31,6,8,15,14,13,5,4,0,1] rfl fun h34=>hK13 _ _ ?_
    refine wcF h34 rfl rfl<|h34.sk [6,8,15,14,13,5,4,0,1] rfl fun h35=>wp_skip<|hK7 _ _<|wp_region_lit<|bv h35 (z:=ν ((i1+1:Nat):Int)) rfl (DG _ _ _ ω ω ω) fun _ h36=>h36.sk [32,6,8,14,13,5,4,0,1] rfl fun h37=>mv h37 rfl fun _ h38=>h38.sk [15,6,8,14,13,5,4,0,1] rfl fun h39=>wpList_nil ?_
    exact hK4 (i1+1) m1 _ _ ⟨h39.subs rfl,s1,(hw33.trans (ID ω (L:=L) hc2 hm1)),(hok.look_lt hm1).1⟩ ω
   ·skip
    have hm2:=AG hc3
    refine sw1 h27 rfl (DR h27 rfl rfl rfl (NdP.lookN (F:=FsM.nE F) (A:=AdM.nC A) (k:=k1) (s1.get 2 rfl:NdP _ _ _) (show k1<F.N.length from ω) hc2 (JS hall ω) hm2)) fun _ h40=>h40.sk [29,28,27,26,25,24,8,15,14,13,5,4,0,1] rfl fun h41=>mv h41 rfl fun _ h42=>h42.sn [6,8,15,14,13,5,4,0,1] rfl fun h43=>hK12 _ _<|sqr fun _ hK14=>mv h43 rfl fun _ h44=>bv h44 rfl (JN _ υ62 _ _ _) fun _ h45=>h45.sn [31,6,8,15,14,13,5,4,0,1] rfl fun h46=>hK14 _ _ ?_
    refine wcT h46 rfl rfl<|h46.sk [6,8,15,14,13,5,4,0,1] rfl fun h47=>sqr fun _ hK15=>h47.sk [6,8,15,14,13,5,0,1] rfl fun h48=>mv h48 rfl fun _ h49=>h49.sk [4,6,8,15,14,13,0,1] rfl fun h50=>mv h50 rfl fun _ h51=>wpList_nil<|hK15 _ _<|wp_ret ?_
    try simp only [Exit.then,Exit.inBlock]
    refine Bi (v:=.tuple #[.pointer none,ν 10]) (Gc h51 rfl rfl rfl) h51.defs ?_
    have hq:=hw0.symm.trans (hw33.trans (IC ω (L:=L) hc2 hm2))
    exact absurd (Prod.mk.inj hq).1 (by decide)
  ·skip
   refine wcT h22 rfl (Bt hc2)<|h22.sk [8,15,14,13,6,5,4,0,1] rfl fun h52=>sqr fun _ hK16=>h52.sk [8,15,14,13,6,5,0,1] rfl fun h53=>mv h53 rfl fun _ h54=>h54.sk [4,8,15,14,13,6,0,1] rfl fun h55=>mv h55 rfl fun _ h56=>wpList_nil<|hK16 _ _<|wp_ret ?_
   try simp only [Exit.then,Exit.inBlock]
   refine Bi (v:=.tuple #[.pointer none,ν 12]) (Gc h56 rfl rfl rfl) h56.defs ?_
   have hq:=hw0.symm.trans (hw33.trans (Hu ω (L:=L) hc2))
   exact absurd (Prod.mk.inj hq).1 (by decide)
 ·skip
  have hp2:¬ ((i1:Int)<(n:Int)):=(dF hc1)
  refine wcF h12 rfl hc1<|h12.sk [15,14,13,6,5,4,0,1] rfl fun h57=>wp_exit ?_
  refine hK1 _ _ ?_
  refine sqr fun _ hK17=>mv h57 rfl fun _ h58=>h58.sk [33,15,14,13,6,5,0,1] rfl fun h59=>mv h59 rfl fun _ h60=>h60.sk [4,33,15,14,13,6,0,1] rfl fun h61=>mv h61 rfl fun _ h62=>h62.sn [5,4,15,14,13,6,0,1] rfl fun h63=>hK17 _ _<|wp_ret ?_
  try simp only [Exit.then,Exit.inBlock]
  refine Bi (v:=.tuple #[π (A.ad k1),ν 0]) (Gc h63 rfl rfl rfl) h63.defs ?_
  have hq:=hw0.symm.trans (hw33.trans (Jx ω))
  exact ⟨by rw [(Prod.mk.inj hq).2],Sep.tail_un (xs:=[_,_,_,_]) s1⟩
theorem Lf {w:World} {cf ob:Nat} {F:FsM} {A:AdM} {R:List Ch} {δ:Nat→Int} {L:List ByteArray} {a:Option Addr} {n c c2 k0:Nat} {e0:Int} (hS0:Sep w (Ai 0 9 1 a L.length c (L.flatMap sE)::(cP cf ob F A)++R)) (hok:FsC F δ) (hz:SmF F) (hall:L.all mayN=true) (hn:n≤L.length) (hl:L.length≤1000) (hw0:Am F 0 (L.take n)=(e0,0)) (he0:e0≠0) :
  CallsR Tryz.prog 84 #[π cf,.slice a n c2] w (fun v w'=>v=.tuple #[.pointer none,ν e0]∧Sep w' (Ai 0 9 1 a L.length c (L.flatMap sE)::(cP cf ob F A)++R)):=by
 have hS:Sep w [Ai 0 9 1 a L.length c (L.flatMap sE),Ah cf 65 [π (A.ad 0),.map (some ob)],AO F A,AP KO ob A.C (opG F A),Ch.many R]:=Sep.tail_many (xs:=[_,_,_,_]) hS0;clear hS0
 have hz0:=hz;obtain ⟨hz1,hz2,hz3⟩:F.N.length≤1000∧F.E.length≤1000∧F.O.length≤1000:=hz
 refine AE Tryz.func84 rfl (N:=34) Tryz.ntmps84 (by show 2≤34;decide) [(0,π cf),(1,.slice a n c2)] rfl fun _ h1=>sqr fun _ hK3=>mvs 2 h1 rfl fun _ h6=>wpList_nil<|hK3 _ _<|sqr fun _ hK8=>mvs 2 h6 rfl fun _ h2=>fav h2 rfl (Em _ _) fun _ h3=>ldv h3 hS 1 υ62 rfl rfl rfl rfl fun _ h4=>mv h4 rfl fun _ h5=>h5.sk [6,5,4,0,1] rfl fun h7=>?_
 refine wpList_nil<|hK8 _ _<|sq fun _ hK1=>sqr fun _ hK2=>mv h7 rfl fun _ h8=>sv1 h8 rfl (CR h8 rfl rfl υ33) fun _ h9=>mv h9 rfl fun _ h10=>wpList_nil<|hK2 _ _<|wp_block ?_
 refine Jg (fun (i:Nat) (k:Nat) a' w'=>Kn 34 [(15,ν (i:Int)),(14,ν (n:Int)),(13,.slice a n c2),(6,π (A.ad k)),(5,ν 0),(4,.pointer none),(0,π cf),(1,.slice a n c2)] a'∧Sep w' [Ai 0 9 1 a L.length c (L.flatMap sE),Ah cf 65 [π (A.ad 0),.map (some ob)],AO F A,AP KO ob A.C (opG F A),Ch.many R]∧(Am F 0 (L.take n)=Am F k ((L.take n).drop i))∧(k<F.N.length)) (fun (i:Nat) (k:Nat)=>n-i) 0 0 ⟨h10.subs rfl,hS,rfl,hok.n0.1⟩ ?_
 rintro i1 k1 a1 w1 ⟨h11,s1,hw33,hk34⟩ K1 hK4
 refine sqr fun _ hK5=>bv h11 (z:=.bool (decide ((i1:Int)<(n:Int)))) rfl (cLt _ _ _ _ rfl) fun _ h12=>wpList_nil<|hK5 _ _<|sq fun _ hK6=>?_
 rcases bC (decide ((i1:Int)<(n:Int))) with hc1 | hc1
 ·skip
  have hp1:(i1:Int)<(n:Int):=(dT hc1)
  refine wcT h12 rfl hc1<|h12.sk [15,14,13,6,5,4,0,1] rfl fun h13=>wp_skip<|hK6 _ _<|sq fun _ hK7=>wp_block ?_
  refine sq fun _ hK9=>wp_region_lit ?_
  obtain ⟨q46,hq1⟩:=AT (s1.get 0 rfl:Own _ _ _ _ _ _ _ _)
  refine sv1 h13 rfl (v:=.pointer (some ⟨q46,i1,none⟩)) (Ay h13 rfl rfl rfl (fun w=>ixO υ33 κ (sz:=1) (hq1 ω) (j:=i1) rfl ω ω w)) fun _ h14=>sw1 h14 rfl (v:=.string (L.getD i1 AL)) (rld h14 rfl rfl (BJ Ea υ9 rfl (s1.get 0 rfl:Own _ _ _ _ _ _ _ _) (hq1 ω) AL (j:=i1) (f:=0) ω (by decide) ω rfl)) fun _ h15=>mv h15 rfl fun _ h16=>h16.sn [8,15,14,13,6,5,4,0,1] rfl fun h17=>hK9 _ _<|sq fun _ hK10=>sqr fun _ hK11=>mvs 2 h17 rfl fun _ h18=>sv1 h18 rfl (v:=π (A.ad k1)) (rfa h18 rfl rfl (fun w=>AJ (A.ad k1) 0 w)) fun _ h19=>sw1 h19 rfl (v:=ν (BY (F.dir k1))) (rld h19 rfl rfl (NdP.c0 (F:=FsM.nE F) (A:=AdM.nC A) (k:=k1) (s1.get 2 rfl:NdP _ _ _) (show k1<F.N.length from ω) υ3 rfl)) fun _ h20=>bv h20 (z:=.bool (!(F.dir k1))) rfl (cNe _ _ _ _ (Jn _)) fun _ h21=>?_
  refine h21.sn [23,8,15,14,13,6,5,4,0,1] rfl fun h22=>hK11 _ _ ?_
  rcases bC (F.dir k1) with hc2 | hc2
  ·skip
   refine wcF h22 rfl (Bq hc2)<|h22.sk [8,15,14,13,6,5,4,0,1] rfl fun h23=>wp_skip<|hK10 _ _<|sqr fun _ hK12=>mvs 2 h23 rfl fun _ h24=>sv1 h24 rfl (rfa h24 rfl rfl (fun w=>AQ (A.ad k1) 0 w)) fun _ h25=>sw1 h25 rfl (rld h25 rfl rfl (NdP.c3 (F:=FsM.nE F) (A:=AdM.nC A) (k:=k1) (s1.get 2 rfl:NdP _ _ _) (show k1<F.N.length from ω) hc2 υ95 rfl)) fun _ h26=>mv h26 rfl fun _ h27=>?_
   rcases bC ((Aj F.E k1 (L.getD i1 AL)).isSome) with hc3 | hc3
   ·skip
    obtain ⟨m1,hm1⟩:=Option.isSome_iff_exists.1 hc3;have hml86:=FsC.look_lt hok hm1
    refine sw1 h27 rfl (DR h27 rfl rfl rfl (NdP.lookY (F:=FsM.nE F) (A:=AdM.nC A) (k:=k1) (s1.get 2 rfl:NdP _ _ _) (show k1<F.N.length from ω) hc2 (JS hall ω) hm1)) fun _ h28=>h28.sk [29,28,27,26,25,24,8,15,14,13,5,4,0,1] rfl fun h29=>mv h29 rfl fun _ h30=>h30.sn [6,8,15,14,13,5,4,0,1] rfl fun h31=>hK12 _ _<|sqr fun _ hK13=>mv h31 rfl fun _ h32=>bv h32 rfl (JN _ υ62 _ _ _) fun _ h33=>h33.sn [31,6,8,15,14,13,5,4,0,1] rfl fun h34=>hK13 _ _ ?_
    refine wcF h34 rfl rfl<|h34.sk [6,8,15,14,13,5,4,0,1] rfl fun h35=>wp_skip<|hK7 _ _<|wp_region_lit<|bv h35 (z:=ν ((i1+1:Nat):Int)) rfl (DG _ _ _ ω ω ω) fun _ h36=>h36.sk [32,6,8,14,13,5,4,0,1] rfl fun h37=>mv h37 rfl fun _ h38=>h38.sk [15,6,8,14,13,5,4,0,1] rfl fun h39=>wpList_nil ?_
    exact hK4 (i1+1) m1 _ _ ⟨h39.subs rfl,s1,(hw33.trans (ID ω (L:=L) hc2 hm1)),(hok.look_lt hm1).1⟩ ω
   ·skip
    have hm2:=AG hc3
    refine sw1 h27 rfl (DR h27 rfl rfl rfl (NdP.lookN (F:=FsM.nE F) (A:=AdM.nC A) (k:=k1) (s1.get 2 rfl:NdP _ _ _) (show k1<F.N.length from ω) hc2 (JS hall ω) hm2)) fun _ h40=>h40.sk [29,28,27,26,25,24,8,15,14,13,5,4,0,1] rfl fun h41=>mv h41 rfl fun _ h42=>h42.sn [6,8,15,14,13,5,4,0,1] rfl fun h43=>hK12 _ _<|sqr fun _ hK14=>mv h43 rfl fun _ h44=>bv h44 rfl (JN _ υ62 _ _ _) fun _ h45=>h45.sn [31,6,8,15,14,13,5,4,0,1] rfl fun h46=>hK14 _ _ ?_
    refine wcT h46 rfl rfl<|h46.sk [6,8,15,14,13,5,4,0,1] rfl fun h47=>sqr fun _ hK15=>h47.sk [6,8,15,14,13,5,0,1] rfl fun h48=>mv h48 rfl fun _ h49=>h49.sk [4,6,8,15,14,13,0,1] rfl fun h50=>mv h50 rfl fun _ h51=>wpList_nil<|hK15 _ _<|wp_ret ?_
    try simp only [Exit.then,Exit.inBlock]
    refine Bi (v:=.tuple #[.pointer none,ν 10]) (Gc h51 rfl rfl rfl) h51.defs ?_
    have hq:=hw0.symm.trans (hw33.trans (IC ω (L:=L) hc2 hm2))
    exact ⟨by rw [(Prod.mk.inj hq).1],Sep.tail_un (xs:=[_,_,_,_]) s1⟩
  ·skip
   refine wcT h22 rfl (Bt hc2)<|h22.sk [8,15,14,13,6,5,4,0,1] rfl fun h52=>sqr fun _ hK16=>h52.sk [8,15,14,13,6,5,0,1] rfl fun h53=>mv h53 rfl fun _ h54=>h54.sk [4,8,15,14,13,6,0,1] rfl fun h55=>mv h55 rfl fun _ h56=>wpList_nil<|hK16 _ _<|wp_ret ?_
   try simp only [Exit.then,Exit.inBlock]
   refine Bi (v:=.tuple #[.pointer none,ν 12]) (Gc h56 rfl rfl rfl) h56.defs ?_
   have hq:=hw0.symm.trans (hw33.trans (Hu ω (L:=L) hc2))
   exact ⟨by rw [(Prod.mk.inj hq).1],Sep.tail_un (xs:=[_,_,_,_]) s1⟩
 ·skip
  have hp2:¬ ((i1:Int)<(n:Int)):=(dF hc1)
  refine wcF h12 rfl hc1<|h12.sk [15,14,13,6,5,4,0,1] rfl fun h57=>wp_exit ?_
  refine hK1 _ _ ?_
  refine sqr fun _ hK17=>mv h57 rfl fun _ h58=>h58.sk [33,15,14,13,6,5,0,1] rfl fun h59=>mv h59 rfl fun _ h60=>h60.sk [4,33,15,14,13,6,0,1] rfl fun h61=>mv h61 rfl fun _ h62=>h62.sn [5,4,15,14,13,6,0,1] rfl fun h63=>hK17 _ _<|wp_ret ?_
  try simp only [Exit.then,Exit.inBlock]
  refine Bi (v:=.tuple #[π (A.ad k1),ν 0]) (Gc h63 rfl rfl rfl) h63.defs ?_
  have hq:=hw0.symm.trans (hw33.trans (Jx ω))
  exact absurd (Prod.mk.inj hq).1 he0
theorem ED {w:World} {cf ob:Nat} {F:FsM} {A:AdM} {R:List Ch} {δ:Nat→Int} (hS0:Sep w ((cP cf ob F A)++R)) (hok:FsC F δ) (hz:SmF F) {X:List UInt8} (hX:X.length≤1000) (hf:(Ab F X).1=0) :
  CallsR Tryz.prog 69 #[π cf,σ X] w (fun v w'=>v=.tuple #[π (A.ad (Ab F X).2),ν 0]∧Sep w' ((cP cf ob F A)++R)):=by
 have hS:=Sep.tail_many (xs:=cP cf ob F A) hS0;clear hS0
 have hz0:=hz;obtain ⟨hz1,hz2,hz3⟩:F.N.length≤1000∧F.E.length≤1000∧F.O.length≤1000:=hz
 refine AE Tryz.func69 rfl (N:=21) Tryz.ntmps69 (by show 2≤21;decide) [(0,π cf),(1,σ X)] rfl fun _ h1=>sqr fun _ hK3=>mvs 2 h1 rfl fun _ h6=>wpList_nil<|hK3 _ _<|sqr fun _ hK8=>mv h6 rfl fun _ h9=>?_
 rcases bC ((Ag X).isSome) with hc1 | hc1
 ·skip
  obtain ⟨L13,hL14⟩:=Option.isSome_iff_exists.1 hc1
  have h2:=Do hL14
  have hwk:Am F 0 (L13.take L13.length)=(0,(Ab F X).2):=by rw [List.take_length,← CY hL14,← hf]
  refine cl h9 rfl Ci (Fx (X:=X) hS ω hL14) fun _ v1 w1 r1 h3=>?_
  obtain ⟨pax16,pcx17,rfl,s1⟩:=r1
  refine mvs 5 h3 rfl fun _ h4=>h4.sn [7,6,5,4,0,1] rfl fun h5=>hK8 _ _<|sq fun _ hK1=>sqr fun _ hK2=>mv h5 rfl fun _ h7=>bv h7 rfl (cNe _ _ _ _ rfl) fun _ h8=>h8.sn [14,7,6,5,4,0,1] rfl fun h10=>hK2 _ _<|wcF h10 rfl rfl<|h10.sk [7,6,5,4,0,1] rfl fun h11=>?_
  refine wp_skip<|hK1 _ _<|sqr fun _ hK4=>mvs 2 h11 rfl fun _ h12=>cl h12 rfl CX (Jy (e0:=0) (cf:=cf) (F:=F) s1 hok hz0 (FI hL14) ω ω hwk) fun _ v2 w2 r2 h13=>?_
  obtain ⟨rfl,s2⟩:=r2
  refine mvs 2 h13 rfl fun _ h14=>h14.sk [20,19,18,17,16,7,6,5,0,1] rfl fun h15=>mv h15 rfl fun _ h16=>h16.sk [4,20,19,18,17,16,7,6,0,1] rfl fun h17=>mv h17 rfl fun _ h18=>h18.sn [5,4,7,6,0,1] rfl fun h19=>hK4 _ _<|wp_ret ?_
  try simp only [Exit.then,Exit.inBlock]
  refine Bi (v:=.tuple #[π (A.ad (Ab F X).2),ν 0]) (Gc h19 rfl rfl rfl) h19.defs ?_
  exact ⟨rfl,Sep.tail_un (xs:=[_,_,_]) (s2.pk [1,2,3,4] rfl)⟩
 ·skip
  refine cl h9 rfl Ci (Ho (X:=X) hS ω (AG hc1)) fun _ v3 w3 r3 h20=>?_
  obtain ⟨pax68,pcx69,rfl,s3⟩:=r3
  refine mvs 5 h20 rfl fun _ h21=>h21.sn [7,6,5,4,0,1] rfl fun h22=>hK8 _ _<|sq fun _ hK5=>sqr fun _ hK6=>mv h22 rfl fun _ h23=>bv h23 rfl (cNe _ _ _ _ rfl) fun _ h24=>h24.sn [14,7,6,5,4,0,1] rfl fun h25=>hK6 _ _<|wcT h25 rfl rfl<|h25.sk [7,6,5,4,0,1] rfl fun h26=>?_
  refine sqr fun _ hK7=>mv h26 rfl fun _ h27=>h27.sk [15,7,6,5,0,1] rfl fun h28=>mv h28 rfl fun _ h29=>h29.sk [4,15,7,6,0,1] rfl fun h30=>mv h30 rfl fun _ h31=>h31.sn [5,4,7,6,0,1] rfl fun h32=>hK7 _ _<|wp_ret ?_
  try simp only [Exit.then,Exit.inBlock]
  refine Bi (v:=.tuple #[.pointer none,ν 15]) (Gc h32 rfl rfl rfl) h32.defs ?_
  exact absurd hf (by rw [Hi (AG hc1)];decide)
theorem Fd {w:World} {cf ob:Nat} {F:FsM} {A:AdM} {R:List Ch} {δ:Nat→Int} (hS0:Sep w ((cP cf ob F A)++R)) (hok:FsC F δ) (hz:SmF F) {X:List UInt8} (hX:X.length≤1000) (hf:¬ (Ab F X).1=0) :
  CallsR Tryz.prog 69 #[π cf,σ X] w (fun v w'=>v=.tuple #[.pointer none,ν (Ab F X).1]∧Sep w' ((cP cf ob F A)++R)):=by
 have hS:=Sep.tail_many (xs:=cP cf ob F A) hS0;clear hS0
 have hz0:=hz;obtain ⟨hz1,hz2,hz3⟩:F.N.length≤1000∧F.E.length≤1000∧F.O.length≤1000:=hz
 refine AE Tryz.func69 rfl (N:=21) Tryz.ntmps69 (by show 2≤21;decide) [(0,π cf),(1,σ X)] rfl fun _ h1=>sqr fun _ hK3=>mvs 2 h1 rfl fun _ h6=>wpList_nil<|hK3 _ _<|sqr fun _ hK8=>mv h6 rfl fun _ h9=>?_
 rcases bC ((Ag X).isSome) with hc1 | hc1
 ·skip
  obtain ⟨L13,hL14⟩:=Option.isSome_iff_exists.1 hc1
  have h2:=Do hL14
  have hwk:Am F 0 (L13.take L13.length)=((Ab F X).1,0):=by rw [List.take_length,← CY hL14];exact QL hf
  refine cl h9 rfl Ci (Fx (X:=X) hS ω hL14) fun _ v1 w1 r1 h3=>?_
  obtain ⟨pax16,pcx17,rfl,s1⟩:=r1
  refine mvs 5 h3 rfl fun _ h4=>h4.sn [7,6,5,4,0,1] rfl fun h5=>hK8 _ _<|sq fun _ hK1=>sqr fun _ hK2=>mv h5 rfl fun _ h7=>bv h7 rfl (cNe _ _ _ _ rfl) fun _ h8=>h8.sn [14,7,6,5,4,0,1] rfl fun h10=>hK2 _ _<|wcF h10 rfl rfl<|h10.sk [7,6,5,4,0,1] rfl fun h11=>?_
  refine wp_skip<|hK1 _ _<|sqr fun _ hK4=>mvs 2 h11 rfl fun _ h12=>cl h12 rfl CX (Lf (k0:=0) (cf:=cf) (F:=F) s1 hok hz0 (FI hL14) ω ω hwk ω) fun _ v2 w2 r2 h13=>?_
  obtain ⟨rfl,s2⟩:=r2
  refine mvs 2 h13 rfl fun _ h14=>h14.sk [20,19,18,17,16,7,6,5,0,1] rfl fun h15=>mv h15 rfl fun _ h16=>h16.sk [4,20,19,18,17,16,7,6,0,1] rfl fun h17=>mv h17 rfl fun _ h18=>h18.sn [5,4,7,6,0,1] rfl fun h19=>hK4 _ _<|wp_ret ?_
  try simp only [Exit.then,Exit.inBlock]
  refine Bi (v:=.tuple #[.pointer none,ν ((Ab F X).1)]) (Gc h19 rfl rfl rfl) h19.defs ?_
  exact ⟨rfl,Sep.tail_un (xs:=[_,_,_]) (s2.pk [1,2,3,4] rfl)⟩
 ·skip
  refine cl h9 rfl Ci (Ho (X:=X) hS ω (AG hc1)) fun _ v3 w3 r3 h20=>?_
  obtain ⟨pax68,pcx69,rfl,s3⟩:=r3
  refine mvs 5 h20 rfl fun _ h21=>h21.sn [7,6,5,4,0,1] rfl fun h22=>hK8 _ _<|sq fun _ hK5=>sqr fun _ hK6=>mv h22 rfl fun _ h23=>bv h23 rfl (cNe _ _ _ _ rfl) fun _ h24=>h24.sn [14,7,6,5,4,0,1] rfl fun h25=>hK6 _ _<|wcT h25 rfl rfl<|h25.sk [7,6,5,4,0,1] rfl fun h26=>?_
  refine sqr fun _ hK7=>mv h26 rfl fun _ h27=>h27.sk [15,7,6,5,0,1] rfl fun h28=>mv h28 rfl fun _ h29=>h29.sk [4,15,7,6,0,1] rfl fun h30=>mv h30 rfl fun _ h31=>h31.sn [5,4,7,6,0,1] rfl fun h32=>hK7 _ _<|wp_ret ?_
  try simp only [Exit.then,Exit.inBlock]
  refine Bi (v:=.tuple #[.pointer none,ν 15]) (Gc h32 rfl rfl rfl) h32.defs ?_
  exact ⟨by rw [Hi (AG hc1)],Sep.tail_un (xs:=[_,_,_]) s3⟩
theorem EV {w:World} {cf ob:Nat} {F:FsM} {A:AdM} {R:List Ch} {δ:Nat→Int} (hS0:Sep w ((cP cf ob F A)++R)) (hok:FsC F δ) (hz:SmF F) {X:List UInt8} (hX:X.length≤1000) (hf:(Aa F X).1=0) :
  CallsR Tryz.prog 71 #[π cf,σ X] w (fun v w'=>v=.tuple #[π (A.ad (Aa F X).2.1),.string (Aa F X).2.2,ν 0]∧Sep w' ((cP cf ob F A)++R)):=by
 have hS:=Sep.tail_many (xs:=cP cf ob F A) hS0;clear hS0
 have hz0:=hz;obtain ⟨hz1,hz2,hz3⟩:F.N.length≤1000∧F.E.length≤1000∧F.O.length≤1000:=hz
 refine AE Tryz.func71 rfl (N:=36) Tryz.ntmps71 (by show 2≤36;decide) [(0,π cf),(1,σ X)] rfl fun _ h1=>sqr fun _ hK3=>mvs 3 h1 rfl fun _ h8=>wpList_nil<|hK3 _ _<|sqr fun _ hK1=>mv h8 rfl fun _ h2=>?_
 rcases bC ((Ag X).isSome) with hc1 | hc1
 ·skip
  rcases bC (decide (Ag X=some [])) with hc2 | hc2
  ·skip
   have hp1:Ag X=some []:=(dT hc2)
   refine cl h2 rfl Cl (ER (X:=X) hS ω (.inr (dT hc2))) fun _ v1 w1 r1 h3=>?_
   obtain ⟨rfl,s1⟩:=r1
   refine mvs 7 h3 rfl fun _ h4=>h4.sn [9,8,7,6,5,4,0,1] rfl fun h5=>hK1 _ _<|sq fun _ hK2=>sqr fun _ hK4=>mv h5 rfl fun _ h6=>bv h6 rfl (cNe _ _ _ _ rfl) fun _ h7=>h7.sn [18,9,8,7,6,5,4,0,1] rfl fun h9=>hK4 _ _<|wcT h9 rfl rfl<|h9.sk [9,8,7,6,5,4,0,1] rfl fun h10=>?_
   refine sqr fun _ hK5=>mv h10 rfl fun _ h11=>h11.sk [19,9,8,7,6,5,0,1] rfl fun h12=>mv h12 rfl fun _ h13=>h13.sk [4,19,9,8,7,6,0,1] rfl fun h14=>mv h14 rfl fun _ h15=>h15.sk [5,4,19,9,8,7,0,1] rfl fun h16=>mv h16 rfl fun _ h17=>h17.sn [6,5,4,9,8,7,0,1] rfl fun h18=>hK5 _ _ ?_
   refine wp_ret ?_
   try simp only [Exit.then,Exit.inBlock]
   refine Bi (v:=.tuple #[.pointer none,σ [],ν 15]) (Hs h18 rfl rfl rfl rfl) h18.defs ?_
   have hq:Aa F X=(15,0,AL):=(show Ag X=none∨Ag X=some [] from (.inr (dT hc2))).elim Fz ET
   exact absurd (congrArg Prod.fst hq) ω
  ·skip
   have hp2:¬ (Ag X=some []):=(dF hc2)
   obtain ⟨M61,x62,hL63⟩:=HD hc1 (dF hc2)
   have hl64:(M61++[x62]).length=M61.length+1:=List.length_append;have h19:=Do hL63
   refine cl h2 rfl Cl (Hn (X:=X) hS ω hL63 ω) fun _ v2 w2 r2 h20=>?_
   obtain ⟨pax66,pcx67,rfl,s2⟩:=r2
   refine mvs 7 h20 rfl fun _ h21=>h21.sn [9,8,7,6,5,4,0,1] rfl fun h22=>hK1 _ _<|sq fun _ hK6=>sqr fun _ hK7=>mv h22 rfl fun _ h23=>bv h23 rfl (cNe _ _ _ _ rfl) fun _ h24=>h24.sn [18,9,8,7,6,5,4,0,1] rfl fun h25=>hK7 _ _<|wcF h25 rfl rfl<|h25.sk [9,8,7,6,5,4,0,1] rfl fun h26=>?_
   refine wp_skip<|hK6 _ _<|sqr fun _ hK8=>mvs 2 h26 rfl fun _ h27=>?_
   rcases bC (decide ((Am F 0 M61).1=0)) with hc3 | hc3
   ·skip
    have hp3:(Am F 0 M61).1=0:=(dT hc3)
    have hlt106:(Am F 0 M61).2<F.N.length:=hok.walk_lt _ _ hok.n0.1
    have hwk105:Am F 0 ((M61++[x62]).take ((M61++[x62]).length-1))=(0,(Am F 0 M61).2):=by rw [EX,← dT hc3]
    refine cl h27 rfl CX (Jy (e0:=0) (cf:=cf) (F:=F) s2 hok hz0 (FI hL63) ω ω hwk105) fun _ v3 w3 r3 h28=>?_
    obtain ⟨rfl,s3⟩:=r3
    refine mvs 4 h28 rfl fun _ h29=>h29.sk [10,25,24,20,23,22,21,8,7,6,5,4,0,1] rfl fun h30=>mv h30 rfl fun _ h31=>h31.sn [9,10,8,7,6,5,4,0,1] rfl fun h32=>hK8 _ _<|sq fun _ hK9=>sqr fun _ hK10=>mv h32 rfl fun _ h33=>bv h33 rfl (cNe _ _ _ _ rfl) fun _ h34=>h34.sn [27,9,10,8,7,6,5,4,0,1] rfl fun h35=>hK10 _ _ ?_
    refine wcF h35 rfl rfl<|h35.sk [9,10,8,7,6,5,4,0,1] rfl fun h36=>wp_skip<|hK9 _ _<|sq fun _ hK11=>sqr fun _ hK12=>mvs 2 h36 rfl fun _ h37=>sv1 h37 rfl (rfa h37 rfl rfl (fun w=>AJ (A.ad (Am F 0 M61).2) 0 w)) fun _ h38=>sw1 h38 rfl (rld h38 rfl rfl (NdP.c0 (F:=FsM.nE F) (A:=AdM.nC A) (k:=((Am F 0 M61).2)) (s3.get 2 rfl:NdP _ _ _) (show (Am F 0 M61).2<F.N.length from ω) υ3 rfl)) fun _ h39=>bv h39 (z:=.bool (!(F.dir ((Am F 0 M61).2)))) rfl (cNe _ _ _ _ (Jn _)) fun _ h40=>h40.sn [33,9,10,8,7,6,5,4,0,1] rfl fun h41=>hK12 _ _ ?_
    rcases bC (F.dir ((Am F 0 M61).2)) with hc4 | hc4
    ·skip
     refine wcF h41 rfl (Bq hc4)<|h41.sk [9,10,8,7,6,5,4,0,1] rfl fun h42=>wp_skip<|hK11 _ _<|sqr fun _ hK13=>mvs 2 h42 rfl fun _ h43=>h43.sk [35,34,9,10,8,7,6,5,0,1] rfl fun h44=>mv h44 rfl fun _ h45=>h45.sk [4,35,34,9,10,8,7,6,0,1] rfl fun h46=>mv h46 rfl fun _ h47=>h47.sk [5,4,35,34,9,10,8,7,0,1] rfl fun h48=>?_
     refine mv h48 rfl fun _ h49=>h49.sn [6,5,4,9,10,8,7,0,1] rfl fun h50=>hK13 _ _<|wp_ret ?_
     try simp only [Exit.then,Exit.inBlock]
     refine Bi (v:=.tuple #[π (A.ad (Am F 0 M61).2),.string ((M61++[x62]).getD ((M61++[x62]).length-1) AL),ν 0]) (Hs h50 rfl rfl rfl rfl) h50.defs ?_
     have hq:=(Cz (F:=F) hL63).trans (Ju (dT hc3) hc4)
     exact ⟨by rw [hq,Hx],Sep.tail_un (xs:=[_,_,_]) (s3.pk [1,2,3,4] rfl)⟩
    ·skip
     refine wcT h41 rfl (Bt hc4)<|h41.sk [9,10,8,7,6,5,4,0,1] rfl fun h51=>sqr fun _ hK14=>h51.sk [9,10,8,7,6,5,0,1] rfl fun h52=>mv h52 rfl fun _ h53=>h53.sk [4,9,10,8,7,6,0,1] rfl fun h54=>mv h54 rfl fun _ h55=>h55.sk [5,4,9,10,8,7,0,1] rfl fun h56=>mv h56 rfl fun _ h57=>wpList_nil<|hK14 _ _ ?_
     refine wp_ret ?_
     try simp only [Exit.then,Exit.inBlock]
     refine Bi (v:=.tuple #[.pointer none,σ [],ν 12]) (Hs h57 rfl rfl rfl rfl) h57.defs ?_
     have hq:=(Cz (F:=F) hL63).trans (GJ (dT hc3) hc4)
     exact absurd (congrArg Prod.fst hq) ω
   ·skip
    have hp4:¬ ((Am F 0 M61).1=0):=(dF hc3)
    have hlt179:(Am F 0 M61).2<F.N.length:=hok.walk_lt _ _ hok.n0.1
    have hwk178:Am F 0 ((M61++[x62]).take ((M61++[x62]).length-1))=((Am F 0 M61).1,0):=by rw [EX];exact Je (dF hc3)
    refine cl h27 rfl CX (Lf (k0:=0) (cf:=cf) (F:=F) s2 hok hz0 (FI hL63) ω ω hwk178 ω) fun _ v4 w4 r4 h58=>?_
    obtain ⟨rfl,s4⟩:=r4
    refine mvs 4 h58 rfl fun _ h59=>h59.sk [10,25,24,20,23,22,21,8,7,6,5,4,0,1] rfl fun h60=>mv h60 rfl fun _ h61=>h61.sn [9,10,8,7,6,5,4,0,1] rfl fun h62=>hK8 _ _<|sq fun _ hK15=>sqr fun _ hK16=>mv h62 rfl fun _ h63=>bv h63 rfl (cNe _ _ _ _ (decide_eq_true ω)) fun _ h64=>h64.sn [27,9,10,8,7,6,5,4,0,1] rfl fun h65=>hK16 _ _ ?_
    refine wcT h65 rfl rfl<|h65.sk [9,10,8,7,6,5,4,0,1] rfl fun h66=>sqr fun _ hK17=>mv h66 rfl fun _ h67=>h67.sk [28,9,10,8,7,6,5,0,1] rfl fun h68=>mv h68 rfl fun _ h69=>h69.sk [4,28,9,10,8,7,6,0,1] rfl fun h70=>mv h70 rfl fun _ h71=>h71.sk [5,4,28,9,10,8,7,0,1] rfl fun h72=>mv h72 rfl fun _ h73=>?_
    refine h73.sn [6,5,4,9,10,8,7,0,1] rfl fun h74=>hK17 _ _<|wp_ret ?_
    try simp only [Exit.then,Exit.inBlock]
    refine Bi (v:=.tuple #[.pointer none,σ [],ν ((Am F 0 M61).1)]) (Hs h74 rfl rfl rfl rfl) h74.defs ?_
    have hq:=(Cz (F:=F) hL63).trans (Iz (dF hc3))
    exact absurd (congrArg Prod.fst hq) ω
 ·skip
  refine cl h2 rfl Cl (ER (X:=X) hS ω (.inl (AG hc1))) fun _ v5 w5 r5 h75=>?_
  obtain ⟨rfl,s5⟩:=r5
  refine mvs 7 h75 rfl fun _ h76=>h76.sn [9,8,7,6,5,4,0,1] rfl fun h77=>hK1 _ _<|sq fun _ hK18=>sqr fun _ hK19=>mv h77 rfl fun _ h78=>bv h78 rfl (cNe _ _ _ _ rfl) fun _ h79=>h79.sn [18,9,8,7,6,5,4,0,1] rfl fun h80=>hK19 _ _<|wcT h80 rfl rfl<|h80.sk [9,8,7,6,5,4,0,1] rfl fun h81=>?_
  refine sqr fun _ hK20=>mv h81 rfl fun _ h82=>h82.sk [19,9,8,7,6,5,0,1] rfl fun h83=>mv h83 rfl fun _ h84=>h84.sk [4,19,9,8,7,6,0,1] rfl fun h85=>mv h85 rfl fun _ h86=>h86.sk [5,4,19,9,8,7,0,1] rfl fun h87=>mv h87 rfl fun _ h88=>h88.sn [6,5,4,9,8,7,0,1] rfl fun h89=>hK20 _ _ ?_
  refine wp_ret ?_
  try simp only [Exit.then,Exit.inBlock]
  refine Bi (v:=.tuple #[.pointer none,σ [],ν 15]) (Hs h89 rfl rfl rfl rfl) h89.defs ?_
  have hq:Aa F X=(15,0,AL):=(show Ag X=none∨Ag X=some [] from (.inl (AG hc1))).elim Fz ET
  exact absurd (congrArg Prod.fst hq) ω
theorem Gw {w:World} {cf ob:Nat} {F:FsM} {A:AdM} {R:List Ch} {δ:Nat→Int} (hS0:Sep w ((cP cf ob F A)++R)) (hok:FsC F δ) (hz:SmF F) {X:List UInt8} (hX:X.length≤1000) (hf:¬ (Aa F X).1=0) :
  CallsR Tryz.prog 71 #[π cf,σ X] w (fun v w'=>v=.tuple #[.pointer none,σ [],ν (Aa F X).1]∧Sep w' ((cP cf ob F A)++R)):=by
 have hS:=Sep.tail_many (xs:=cP cf ob F A) hS0;clear hS0
 have hz0:=hz;obtain ⟨hz1,hz2,hz3⟩:F.N.length≤1000∧F.E.length≤1000∧F.O.length≤1000:=hz
 refine AE Tryz.func71 rfl (N:=36) Tryz.ntmps71 (by show 2≤36;decide) [(0,π cf),(1,σ X)] rfl fun _ h1=>sqr fun _ hK3=>mvs 3 h1 rfl fun _ h8=>wpList_nil<|hK3 _ _<|sqr fun _ hK1=>mv h8 rfl fun _ h2=>?_
 rcases bC ((Ag X).isSome) with hc1 | hc1
 ·skip
  rcases bC (decide (Ag X=some [])) with hc2 | hc2
  ·skip
   have hp1:Ag X=some []:=(dT hc2)
   refine cl h2 rfl Cl (ER (X:=X) hS ω (.inr (dT hc2))) fun _ v1 w1 r1 h3=>?_
   obtain ⟨rfl,s1⟩:=r1
   refine mvs 7 h3 rfl fun _ h4=>h4.sn [9,8,7,6,5,4,0,1] rfl fun h5=>hK1 _ _<|sq fun _ hK2=>sqr fun _ hK4=>mv h5 rfl fun _ h6=>bv h6 rfl (cNe _ _ _ _ rfl) fun _ h7=>h7.sn [18,9,8,7,6,5,4,0,1] rfl fun h9=>hK4 _ _<|wcT h9 rfl rfl<|h9.sk [9,8,7,6,5,4,0,1] rfl fun h10=>?_
   refine sqr fun _ hK5=>mv h10 rfl fun _ h11=>h11.sk [19,9,8,7,6,5,0,1] rfl fun h12=>mv h12 rfl fun _ h13=>h13.sk [4,19,9,8,7,6,0,1] rfl fun h14=>mv h14 rfl fun _ h15=>h15.sk [5,4,19,9,8,7,0,1] rfl fun h16=>mv h16 rfl fun _ h17=>h17.sn [6,5,4,9,8,7,0,1] rfl fun h18=>hK5 _ _ ?_
   refine wp_ret ?_
   try simp only [Exit.then,Exit.inBlock]
   refine Bi (v:=.tuple #[.pointer none,σ [],ν 15]) (Hs h18 rfl rfl rfl rfl) h18.defs ?_
   have hq:Aa F X=(15,0,AL):=(show Ag X=none∨Ag X=some [] from (.inr (dT hc2))).elim Fz ET
   exact ⟨by rw [hq],Sep.tail_un (xs:=[_,_,_]) s1⟩
  ·skip
   have hp2:¬ (Ag X=some []):=(dF hc2)
   obtain ⟨M61,x62,hL63⟩:=HD hc1 (dF hc2)
   have hl64:(M61++[x62]).length=M61.length+1:=List.length_append;have h19:=Do hL63
   refine cl h2 rfl Cl (Hn (X:=X) hS ω hL63 ω) fun _ v2 w2 r2 h20=>?_
   obtain ⟨pax66,pcx67,rfl,s2⟩:=r2
   refine mvs 7 h20 rfl fun _ h21=>h21.sn [9,8,7,6,5,4,0,1] rfl fun h22=>hK1 _ _<|sq fun _ hK6=>sqr fun _ hK7=>mv h22 rfl fun _ h23=>bv h23 rfl (cNe _ _ _ _ rfl) fun _ h24=>h24.sn [18,9,8,7,6,5,4,0,1] rfl fun h25=>hK7 _ _<|wcF h25 rfl rfl<|h25.sk [9,8,7,6,5,4,0,1] rfl fun h26=>?_
   refine wp_skip<|hK6 _ _<|sqr fun _ hK8=>mvs 2 h26 rfl fun _ h27=>?_
   rcases bC (decide ((Am F 0 M61).1=0)) with hc3 | hc3
   ·skip
    have hp3:(Am F 0 M61).1=0:=(dT hc3)
    have hlt106:(Am F 0 M61).2<F.N.length:=hok.walk_lt _ _ hok.n0.1
    have hwk105:Am F 0 ((M61++[x62]).take ((M61++[x62]).length-1))=(0,(Am F 0 M61).2):=by rw [EX,← dT hc3]
    refine cl h27 rfl CX (Jy (e0:=0) (cf:=cf) (F:=F) s2 hok hz0 (FI hL63) ω ω hwk105) fun _ v3 w3 r3 h28=>?_
    obtain ⟨rfl,s3⟩:=r3
    refine mvs 4 h28 rfl fun _ h29=>h29.sk [10,25,24,20,23,22,21,8,7,6,5,4,0,1] rfl fun h30=>mv h30 rfl fun _ h31=>h31.sn [9,10,8,7,6,5,4,0,1] rfl fun h32=>hK8 _ _<|sq fun _ hK9=>sqr fun _ hK10=>mv h32 rfl fun _ h33=>bv h33 rfl (cNe _ _ _ _ rfl) fun _ h34=>h34.sn [27,9,10,8,7,6,5,4,0,1] rfl fun h35=>hK10 _ _ ?_
    refine wcF h35 rfl rfl<|h35.sk [9,10,8,7,6,5,4,0,1] rfl fun h36=>wp_skip<|hK9 _ _<|sq fun _ hK11=>sqr fun _ hK12=>mvs 2 h36 rfl fun _ h37=>sv1 h37 rfl (rfa h37 rfl rfl (fun w=>AJ (A.ad (Am F 0 M61).2) 0 w)) fun _ h38=>sw1 h38 rfl (rld h38 rfl rfl (NdP.c0 (F:=FsM.nE F) (A:=AdM.nC A) (k:=((Am F 0 M61).2)) (s3.get 2 rfl:NdP _ _ _) (show (Am F 0 M61).2<F.N.length from ω) υ3 rfl)) fun _ h39=>bv h39 (z:=.bool (!(F.dir ((Am F 0 M61).2)))) rfl (cNe _ _ _ _ (Jn _)) fun _ h40=>h40.sn [33,9,10,8,7,6,5,4,0,1] rfl fun h41=>hK12 _ _ ?_
    rcases bC (F.dir ((Am F 0 M61).2)) with hc4 | hc4
    ·skip
     refine wcF h41 rfl (Bq hc4)<|h41.sk [9,10,8,7,6,5,4,0,1] rfl fun h42=>wp_skip<|hK11 _ _<|sqr fun _ hK13=>mvs 2 h42 rfl fun _ h43=>h43.sk [35,34,9,10,8,7,6,5,0,1] rfl fun h44=>mv h44 rfl fun _ h45=>h45.sk [4,35,34,9,10,8,7,6,0,1] rfl fun h46=>mv h46 rfl fun _ h47=>h47.sk [5,4,35,34,9,10,8,7,0,1] rfl fun h48=>?_
     refine mv h48 rfl fun _ h49=>h49.sn [6,5,4,9,10,8,7,0,1] rfl fun h50=>hK13 _ _<|wp_ret ?_
     try simp only [Exit.then,Exit.inBlock]
     refine Bi (v:=.tuple #[π (A.ad (Am F 0 M61).2),.string ((M61++[x62]).getD ((M61++[x62]).length-1) AL),ν 0]) (Hs h50 rfl rfl rfl rfl) h50.defs ?_
     have hq:=(Cz (F:=F) hL63).trans (Ju (dT hc3) hc4)
     exact absurd (congrArg Prod.fst hq) ω
    ·skip
     refine wcT h41 rfl (Bt hc4)<|h41.sk [9,10,8,7,6,5,4,0,1] rfl fun h51=>sqr fun _ hK14=>h51.sk [9,10,8,7,6,5,0,1] rfl fun h52=>mv h52 rfl fun _ h53=>h53.sk [4,9,10,8,7,6,0,1] rfl fun h54=>mv h54 rfl fun _ h55=>h55.sk [5,4,9,10,8,7,0,1] rfl fun h56=>mv h56 rfl fun _ h57=>wpList_nil<|hK14 _ _ ?_
     refine wp_ret ?_
     try simp only [Exit.then,Exit.inBlock]
     refine Bi (v:=.tuple #[.pointer none,σ [],ν 12]) (Hs h57 rfl rfl rfl rfl) h57.defs ?_
     have hq:=(Cz (F:=F) hL63).trans (GJ (dT hc3) hc4)
     exact ⟨by rw [hq],Sep.tail_un (xs:=[_,_,_]) (s3.pk [1,2,3,4] rfl)⟩
   ·skip
    have hp4:¬ ((Am F 0 M61).1=0):=(dF hc3)
    have hlt179:(Am F 0 M61).2<F.N.length:=hok.walk_lt _ _ hok.n0.1
    have hwk178:Am F 0 ((M61++[x62]).take ((M61++[x62]).length-1))=((Am F 0 M61).1,0):=by rw [EX];exact Je (dF hc3)
    refine cl h27 rfl CX (Lf (k0:=0) (cf:=cf) (F:=F) s2 hok hz0 (FI hL63) ω ω hwk178 ω) fun _ v4 w4 r4 h58=>?_
    obtain ⟨rfl,s4⟩:=r4
    refine mvs 4 h58 rfl fun _ h59=>h59.sk [10,25,24,20,23,22,21,8,7,6,5,4,0,1] rfl fun h60=>mv h60 rfl fun _ h61=>h61.sn [9,10,8,7,6,5,4,0,1] rfl fun h62=>hK8 _ _<|sq fun _ hK15=>sqr fun _ hK16=>mv h62 rfl fun _ h63=>bv h63 rfl (cNe _ _ _ _ (decide_eq_true ω)) fun _ h64=>h64.sn [27,9,10,8,7,6,5,4,0,1] rfl fun h65=>hK16 _ _ ?_
    refine wcT h65 rfl rfl<|h65.sk [9,10,8,7,6,5,4,0,1] rfl fun h66=>sqr fun _ hK17=>mv h66 rfl fun _ h67=>h67.sk [28,9,10,8,7,6,5,0,1] rfl fun h68=>mv h68 rfl fun _ h69=>h69.sk [4,28,9,10,8,7,6,0,1] rfl fun h70=>mv h70 rfl fun _ h71=>h71.sk [5,4,28,9,10,8,7,0,1] rfl fun h72=>mv h72 rfl fun _ h73=>?_
    refine h73.sn [6,5,4,9,10,8,7,0,1] rfl fun h74=>hK17 _ _<|wp_ret ?_
    try simp only [Exit.then,Exit.inBlock]
    refine Bi (v:=.tuple #[.pointer none,σ [],ν ((Am F 0 M61).1)]) (Hs h74 rfl rfl rfl rfl) h74.defs ?_
    have hq:=(Cz (F:=F) hL63).trans (Iz (dF hc3))
    exact ⟨by rw [hq],Sep.tail_un (xs:=[_,_,_]) (s4.pk [1,2,3,4] rfl)⟩
 ·skip
  refine cl h2 rfl Cl (ER (X:=X) hS ω (.inl (AG hc1))) fun _ v5 w5 r5 h75=>?_
  obtain ⟨rfl,s5⟩:=r5
  refine mvs 7 h75 rfl fun _ h76=>h76.sn [9,8,7,6,5,4,0,1] rfl fun h77=>hK1 _ _<|sq fun _ hK18=>sqr fun _ hK19=>mv h77 rfl fun _ h78=>bv h78 rfl (cNe _ _ _ _ rfl) fun _ h79=>h79.sn [18,9,8,7,6,5,4,0,1] rfl fun h80=>hK19 _ _<|wcT h80 rfl rfl<|h80.sk [9,8,7,6,5,4,0,1] rfl fun h81=>?_
  refine sqr fun _ hK20=>mv h81 rfl fun _ h82=>h82.sk [19,9,8,7,6,5,0,1] rfl fun h83=>mv h83 rfl fun _ h84=>h84.sk [4,19,9,8,7,6,0,1] rfl fun h85=>mv h85 rfl fun _ h86=>h86.sk [5,4,19,9,8,7,0,1] rfl fun h87=>mv h87 rfl fun _ h88=>h88.sn [6,5,4,9,8,7,0,1] rfl fun h89=>hK20 _ _ ?_
  refine wp_ret ?_
  try simp only [Exit.then,Exit.inBlock]
  refine Bi (v:=.tuple #[.pointer none,σ [],ν 15]) (Hs h89 rfl rfl rfl rfl) h89.defs ?_
  have hq:Aa F X=(15,0,AL):=(show Ag X=none∨Ag X=some [] from (.inl (AG hc1))).elim Fz ET
  exact ⟨by rw [hq],Sep.tail_un (xs:=[_,_,_]) s5⟩
theorem JE {w:World} {R:List Ch} (hS0:Sep w R) (X:List UInt8) (hX:X.length≤1000) :
  CallsR Tryz.prog 77 #[σ X] w (fun v w'=>v=.bool (Js X)∧Sep w' R):=by
 have hS:Sep w [Ch.many R]:=Sep.tail_many (xs:=[]) hS0;clear hS0
 refine AE Tryz.func77 rfl (N:=14) Tryz.ntmps77 (by show 1≤14;decide) [(0,σ X)] rfl fun _ h1=>sqr fun _ hK3=>mv h1 rfl fun _ h4=>wpList_nil<|hK3 _ _<|sqr fun _ hK6=>mv h4 rfl fun _ h7=>?_
 rcases bC ((Ag X).isSome) with hc9 | hc9
 ·skip
  rcases bC (decide (Ag X=some [])) with hc1 | hc1
  ·skip
   have hp1:Ag X=some []:=(dT hc1)
   refine cl h7 rfl Cl (ER (X:=X) hS ω (.inr (dT hc1))) fun _ v1 w1 r1 h2=>?_
   obtain ⟨rfl,s1⟩:=r1
   refine mvs 7 h2 rfl fun _ h3=>h3.sn [5,2,0] rfl fun h5=>hK6 _ _<|sqr fun _ hK1=>mv h5 rfl fun _ h6=>bv h6 rfl (cEq _ _ _ _ rfl) fun _ h8=>h8.sk [13,12,5,0] rfl fun h9=>mv h9 rfl fun _ h10=>h10.sn [2,5,0] rfl fun h11=>hK1 _ _ ?_
   refine wp_ret ?_
   try simp only [Exit.then,Exit.inBlock]
   refine Bi (v:=.bool false) (Ce h11 rfl rfl) h11.defs ?_
   exact ⟨congrArg Value.bool ((OJ (.inr (dT hc1))).symm),Sep.tail_un (xs:=[]) s1⟩
  ·skip
   have hp2:¬ (Ag X=some []):=(dF hc1)
   obtain ⟨M45,x46,hL47⟩:=HD hc9 (dF hc1)
   have hl48:(M45++[x46]).length=M45.length+1:=List.length_append;have h12:=Do hL47
   refine cl h7 rfl Cl (Hn (X:=X) hS ω hL47 ω) fun _ v2 w2 r2 h13=>?_
   obtain ⟨pax50,pcx51,rfl,s2⟩:=r2
   refine mvs 7 h13 rfl fun _ h14=>h14.sn [5,2,0] rfl fun h15=>hK6 _ _<|sqr fun _ hK2=>mv h15 rfl fun _ h16=>bv h16 rfl (cEq _ _ _ _ rfl) fun _ h17=>h17.sk [13,12,5,0] rfl fun h18=>mv h18 rfl fun _ h19=>h19.sn [2,5,0] rfl fun h20=>hK2 _ _ ?_
   refine wp_ret ?_
   try simp only [Exit.then,Exit.inBlock]
   refine Bi (v:=.bool true) (Ce h20 rfl rfl) h20.defs ?_
   exact ⟨congrArg Value.bool ((Rm hL47).symm),Sep.tail_un (xs:=[]) (s2.pk [1] rfl)⟩
 ·skip
  refine cl h7 rfl Cl (ER (X:=X) hS ω (.inl (AG hc9))) fun _ v3 w3 r3 h21=>?_
  obtain ⟨rfl,s3⟩:=r3
  refine mvs 7 h21 rfl fun _ h22=>h22.sn [5,2,0] rfl fun h23=>hK6 _ _<|sqr fun _ hK4=>mv h23 rfl fun _ h24=>bv h24 rfl (cEq _ _ _ _ rfl) fun _ h25=>h25.sk [13,12,5,0] rfl fun h26=>mv h26 rfl fun _ h27=>h27.sn [2,5,0] rfl fun h28=>hK4 _ _ ?_
  refine wp_ret ?_
  try simp only [Exit.then,Exit.inBlock]
  refine Bi (v:=.bool false) (Ce h28 rfl rfl) h28.defs ?_
  exact ⟨congrArg Value.bool ((OJ (.inl (AG hc9))).symm),Sep.tail_un (xs:=[]) s3⟩
theorem Gx {w:World} {R:List Ch} (hS0:Sep w R) (X:List UInt8) {n:Nat} (hX:X.length≤1000) (hn:n≤1000) :
  CallsR Tryz.prog 74 #[σ X,ν (n:Int)] w (fun v w'=>v=σ (Bc X n)∧Sep w' R):=by
 have hS:Sep w [Ch.many R]:=Sep.tail_many (xs:=[]) hS0;clear hS0
 refine AE Tryz.func74 rfl (N:=19) Tryz.ntmps74 (by show 2≤19;decide) [(0,σ X),(1,ν (n:Int))] rfl fun _ h1=>sqr fun _ hK3=>mv h1 rfl fun _ h4=>wpList_nil<|hK3 _ _<|sq fun _ hK6=>sqr fun _ hK7=>mvs 2 h4 rfl fun _ h2=>sv1 h2 rfl (CP h2 rfl rfl υ9) fun _ h3=>bv h3 (z:=.bool (decide ((n:Int)≤(X.length:Int)))) rfl (cLe _ _ _ _ rfl) fun _ h5=>h5.sn [8,4,0,1] rfl fun h6=>hK7 _ _ ?_
 rcases bC (decide ((n:Int)≤(X.length:Int))) with hc1 | hc1
 ·skip
  have hp1:(n:Int)≤(X.length:Int):=(dT hc1)
  refine wcT h6 rfl hc1<|h6.sk [4,0,1] rfl fun h7=>sqr fun _ hK1=>mvs 2 h7 rfl fun _ h8=>sv1 h8 rfl (EK h8 rfl rfl (vl:=none) (vh:=(some (ν (n:Int)))) rfl rfl (fun w=>(fun w=>((slT 9 υ9 X (a:=0) (b:=n) (.inl ⟨rfl,rfl⟩) (.inr ⟨_,rfl,rfl⟩) ω ω) w).trans (by rw [List.drop_zero])) w)) fun _ h9=>h9.sk [11,10,9,0,1] rfl fun h10=>mv h10 rfl fun _ h11=>h11.sn [4,0,1] rfl fun h12=>hK1 _ _<|wp_ret ?_
  try simp only [Exit.then,Exit.inBlock]
  refine Bi (v:=.string (Ad (X.take n))) (Ce h12 rfl rfl) h12.defs ?_
  exact ⟨congrArg (fun z=>Value.string (Ad z)) (Sd (by omega)),Sep.tail_un (xs:=[]) hS⟩
 ·skip
  have hp2:¬ ((n:Int)≤(X.length:Int)):=(dF hc1)
  refine wcF h6 rfl hc1<|h6.sk [4,0,1] rfl fun h13=>wp_skip<|hK6 _ _<|sqr fun _ hK2=>mvs 3 h13 rfl fun _ h14=>sv1 h14 rfl (CP h14 rfl rfl υ9) fun _ h15=>bv h15 (z:=ν ((n:Int)-(X.length:Int))) rfl (Ij _ _ _ ω ω ω) fun _ h16=>cl h16 rfl II ((by have z:=Rr hS (k:=((n:Int)-(X.length:Int)).toNat) ω;rw [show ((((n:Int)-(X.length:Int)).toNat:Nat):Int)=(n:Int)-(X.length:Int) by omega] at z;exact z)) fun _ v1 w1 r1 h17=>?_
  obtain ⟨rfl,s1⟩:=r1
  have hr51:(List.replicate (((n:Int)-(X.length:Int)).toNat) (0:UInt8)).length=(((n:Int)-(X.length:Int)).toNat):=List.length_replicate
  refine bv h17 (z:=σ (X++(List.replicate (((n:Int)-(X.length:Int)).toNat) (0:UInt8)))) rfl (DQ _ _ _ X (List.replicate (((n:Int)-(X.length:Int)).toNat) (0:UInt8)) (by (try simp only [List.length_append,List.length_take,List.length_drop,List.length_cons,List.length_nil]);omega)) fun _ h18=>h18.sk [18,17,16,15,14,13,12,0,1] rfl fun h19=>mv h19 rfl fun _ h20=>h20.sn [4,0,1] rfl fun h21=>hK2 _ _<|wp_ret ?_
  try simp only [Exit.then,Exit.inBlock]
  refine Bi (v:=σ (X++(List.replicate (((n:Int)-(X.length:Int)).toNat) (0:UInt8)))) (Ce h21 rfl rfl) h21.defs ?_
  exact ⟨congrArg (fun z=>Value.string (Ad z)) (Se (by omega)),Sep.tail_un (xs:=[]) s1⟩
end
section
theorem MapG.len {ι α:Type} [DecidableEq ι] {K:MapK ι α} {w:World} {b n:Nat} {g:ι→Option α} (h:MapG K w b n g) {L:List ι} (hnd:L.Nodup) (hL:∀ i,i∈L↔K.ok i∧(g i).isSome=true) (ty:TypeId) :
  (Builtin.len_ #[K.t] ty #[.map (some b)]).run Tryz.prog w=.ok (ν (L.length:Int)) w:=by
 obtain ⟨D,h1,h2,h3⟩:=h
 have hrun:=h1.len K.und ty
 suffices hs:Maps.size D=L.length by rw [hs] at hrun;exact hrun
 have ht:Maps.Tidy D:=h1.tidy K.law
 obtain ⟨es,clock,hb,Ft,hsz,hD⟩:=h1
 obtain ⟨E,hE,hpw⟩:=ht
 have hread:∀ p∈E,∃ i,K.ok i∧p.1=K.kl i:=by
  intro p hp
  have e1:E=(es.toList.map (WideElems.rg Tryz.prog K.k K.R)).foldr DataW.insert []:=by
   have:=hE.symm.trans hD;injection this
  rw [e1] at hp
  have hp2:=(Go.WideShapes.sorted_perm (es.toList.map (WideElems.rg Tryz.prog K.k K.R))).mem_iff.1 hp
  obtain ⟨x,hx,rfl⟩:=List.mem_map.1 hp2
  obtain ⟨y,hy⟩:=Ft.reads x hx
  have hk:=WideElems.rd_key hy
  obtain ⟨i,hi,_,e2⟩:=K.inv hk
  exact ⟨i,hi,by rw [show WideElems.rg Tryz.prog K.k K.R x=y from WideElems.rg_of hy];exact e2⟩
 subst hE
 show E.length=L.length
 have n1:(E.map (·.1)).Nodup:=List.pairwise_map.2 hpw
 have n2:(L.map K.kl).Nodup:=List.pairwise_map.2 (List.Pairwise.imp_of_mem (fun {i j} hi hj hne e=>hne (K.inj ((hL i).1 hi).1 ((hL j).1 hj).1 e)) hnd)
 have hp:=(List.perm_ext_iff_of_nodup n1 n2).2 fun l=>by
  constructor
  ·intro hl
   obtain ⟨p,hp,rfl⟩:=List.mem_map.1 hl
   obtain ⟨i,hi,e⟩:=hread p hp
   rw [e]
   refine List.mem_map.2 ⟨i,(hL i).2 ⟨hi,?_⟩,rfl⟩
   rw [← h2 i hi,Maps.has_eq,List.any_eq_true]
   exact ⟨p,hp,by rw [e];exact WideAt.sameKey_self (K.lit hi)⟩
  ·intro hl
   obtain ⟨i,hi,rfl⟩:=List.mem_map.1 hl
   obtain ⟨hi1,hi2⟩:=(hL i).1 hi
   rw [← h2 i hi1,Maps.has_eq,List.any_eq_true] at hi2
   obtain ⟨p,hp,hs⟩:=hi2
   exact List.mem_map.2 ⟨p,hp,WideAt.sameKey_eq hs⟩
 have:=hp.length_eq
 rw [List.length_map,List.length_map] at this
 exact this
theorem DB {E:List EntM} {k:Nat} {s:ByteArray}:s∈Al E k↔(Aj E k s).isSome=true:=by
 unfold Al Aj
 rw [Option.isSome_map,List.find?_isSome]
 constructor
 ·intro h
  obtain ⟨x,hx,rfl⟩:=List.mem_map.1 h
  obtain ⟨h1,h2⟩:=List.mem_filter.1 hx
  exact ⟨x,h1,decide_eq_true ⟨dT h2,rfl⟩⟩
 ·rintro ⟨x,hx,h⟩
  have h:=dT h
  exact List.mem_map.2 ⟨x,List.mem_filter.2 ⟨hx,decide_eq_true h.1⟩,h.2⟩
theorem Hm {E:List EntM} (h:E.Pairwise (fun x y=>¬ (x.dn=y.dn∧x.nm=y.nm))) (k:Nat):(Al E k).Nodup:=by
 unfold Al
 refine List.pairwise_map.2 (List.Pairwise.imp_of_mem (fun {x y} hx hy hne e=>?_) (h.filter _))
 exact hne ⟨(dT (List.mem_filter.1 hx).2).trans (dT (List.mem_filter.1 hy).2).symm,e⟩
theorem Jp {F:FsM} {δ:Nat→Int} (h:FsC F δ) {k:Nat} {s:ByteArray} (hs:s∈Al F.E k):mayN s=true:=by
 unfold Al at hs
 obtain ⟨x,hx,rfl⟩:=List.mem_map.1 hs
 exact (h.e x (List.mem_filter.1 hx).1).2.2
theorem Hv (E:List EntM) (k:Nat):BG E k=(Al E k).length:=by unfold BG Al;rw [List.length_map]
theorem NY {o:Oper} {a:Act} {N:Nat} {l:List (Nat×Value)} {F:FsM} {A:AdM} {δ:Nat→Int} {k:Nat} (h:Kn N l a) {x:Operand} {T:TypeId} (ho:o.op=.call { callee:=.builtin .len,args:=#[x],argTypes:=#[T] }) (hx:opv l x=some (.map (some (A.mb k)))) {w:World} (hP:NdP F.nE A.nC w) (hok:FsC F δ) (hk:k<F.N.length) (hd:F.dir k=true) (hT:T=95:=by rfl):(execOp a.eval o).run Tryz.prog w=.ok (.value (ν ((BG F.E k:Nat):Int))) w:=by
 subst hT
 refine FK h (xs:=[x]) (vs:=[.map (some (A.mb k))]) ho (by simp [hx]) fun cs=>?_
 have z:=(hP.mp k hk hd).len (Hm hok.ed k) (fun s=>by
  constructor
  ·intro hs
   refine ⟨IT (Jp hok hs),?_⟩
   have:=DB.1 hs
   show (elA A.nC (Aj F.E k s)).isSome=true
   unfold elA;rw [Option.isSome_map];exact this
  ·rintro ⟨_,hs⟩
   have hs:(elA A.nC (Aj F.E k s)).isSome=true:=hs
   unfold elA at hs;rw [Option.isSome_map] at hs
   exact DB.2 hs) o.type
 rw [Hv]
 have z':(Builtin.len_ #[95] o.type #[.map (some (A.mb k))]).run Tryz.prog w=.ok (ν ((Al F.E k).length:Int)) w:=z
 show (builtin .len #[95] o.type cs #[.map (some (A.mb k))]).run Tryz.prog w=_
 simp only [builtin,Sem.run_bind,z']
 rfl
theorem Sg {o:Oper} {a:Act} {N:Nat} {l:List (Nat×Value)} (h:Kn N l a) {x:Operand} {T:TypeId} (ho:o.op=.call { callee:=.builtin .len,args:=#[x],argTypes:=#[T] }) (hx:opv l x=some (.map none)) (w:World) (hT:T=95:=by rfl):(execOp a.eval o).run Tryz.prog w=.ok (.value (ν 0)) w:=by
 subst hT
 have hu:=υ95
 refine FK h (xs:=[x]) (vs:=[.map none]) ho (by simp [hx]) fun cs=>?_
 simp [builtin,Builtin.len_,run_underlying hu,Sem.run_bind]
 rfl
def BH (F:FsM) (n m:Nat):Int:=if m=n then 0 else if F.dir n=true∧F.dir m=false then 12 else if F.dir n=true∧0<BG F.E m then 14 else if F.dir n=false∧F.dir m=true then 13 else 0
def KK (F:FsM) (k:Nat):Prop:=k=0∨∃ x∈F.E,x.nd=k
structure AdOk (F:FsM) (A:AdM) (n:Nat):Prop where
 ld:∀ k,F.dir k=true→KK F k→A.ld k=1
 hB:A.B≤n
 hC:A.C≤n
theorem AdOk.step {F F':FsM} {A A':AdM} {n:Nat} (h:AdOk F A n) (hr:∀ k,F'.dir k=true→KK F' k→(F.dir k=true∧KK F k∧A'.ld k=A.ld k)∨A'.ld k=1) (hB:A'.B≤A.B+1) (hC:A'.C≤A.C+1):AdOk F' A' (n+1) where
 ld k hd hk:=by
  rcases hr k hd hk with ⟨h1,h2,h3⟩ | h1
  ·rw [h3];exact h.ld k h1 h2
  ·exact h1
 hB:=by have:=h.hB;omega
 hC:=by have:=h.hC;omega
theorem FL {w:World} {cf ob:Nat} {F:FsM} {A:AdM} {R:List Ch} {δ:Nat→Int} (hS0:Sep w ((cP cf ob F A)++R)) (hok:FsC F δ) (hz:SmF F) {X:List UInt8} (hX:X.length≤1000) (hp:(Aa F X).1=0) :
  CallsR Tryz.prog 75 #[π cf,σ X] w (fun v w'=>v=ν 0∧Sep w' ((cP cf ob (As F (Aa F X).2.1 (Aa F X).2.2) A)++R)):=by
 have hS:=Sep.tail_many (xs:=cP cf ob F A) hS0;clear hS0
 have hz0:=hz;obtain ⟨hz1,hz2,hz3⟩:F.N.length≤1000∧F.E.length≤1000∧F.O.length≤1000:=hz
 refine AE Tryz.func75 rfl (N:=23) Tryz.ntmps75 (by show 2≤23;decide) [(0,π cf),(1,σ X)] rfl fun _ h1=>sqr fun _ hK3=>mv h1 rfl fun _ h4=>wpList_nil<|hK3 _ _<|sqr fun _ hK6=>mvs 2 h4 rfl fun _ h9=>?_
 have hpl11:=FsC.place (F:=F) (X:=X) hok ω
 have hpl11a:=hpl11.1.1
 refine cl h9 rfl BC (EV (cf:=cf) (F:=F) hS hok hz0 ω ω) fun _ v1 w1 r1 h2=>?_
 obtain ⟨rfl,s1⟩:=r1
 refine mvs 7 h2 rfl fun _ h3=>h3.sn [7,6,5,4,0,1] rfl fun h5=>hK6 _ _<|sq fun _ hK1=>sqr fun _ hK2=>mv h5 rfl fun _ h6=>bv h6 rfl (cEq _ _ _ _ rfl) fun _ h7=>h7.sn [16,7,6,5,4,0,1] rfl fun h8=>hK2 _ _<|wcT h8 rfl rfl<|h8.sk [7,6,5,4,0,1] rfl fun h10=>?_
 refine wp_region_lit<|mvs 2 h10 rfl fun _ h11=>sv1 h11 rfl (rfa h11 rfl rfl (fun w=>AQ (A.ad (Aa F X).2.1) 0 w)) fun _ h12=>sw1 h12 rfl (rld h12 rfl rfl (NdP.c3 (F:=FsM.nE F) (A:=AdM.nC A) (k:=((Aa F X).2.1)) (s1.get 1 rfl:NdP _ _ _) (show (Aa F X).2.1<F.N.length from ω) hpl11.1.2 υ95 rfl)) fun _ h13=>mv h13 rfl fun _ h14=>so (wn rfl) fun _ hK4=>Ta (F:=F) (A:=A) (F':=(As F ((Aa F X).2.1) ((Aa F X).2.2))) (k:=((Aa F X).2.1)) h14 rfl rfl rfl rfl s1 1 rfl rfl rfl ω hpl11.1.2 (CU hpl11.2) rfl (fun j t=>Bw _ _ _ _ _) (cs':=[Ah cf 65 [π (A.ad 0),.map (some ob)],AO (As F ((Aa F X).2.1) ((Aa F X).2.2)) A,AP KO ob A.C (opG F A),Ch.many R]) rfl fun _ w2 h15 s2=>hK4 _ _ ?_
 refine h15.sn [7,6,5,4,0,1] rfl fun h16=>hK1 _ _<|sqr fun _ hK5=>mv h16 rfl fun _ h17=>h17.sk [22,7,6,5,0,1] rfl fun h18=>mv h18 rfl fun _ h19=>h19.sn [4,7,6,5,0,1] rfl fun h20=>hK5 _ _<|wp_ret ?_
 try simp only [Exit.then,Exit.inBlock]
 refine Bi (v:=ν 0) (Ce h20 rfl rfl) h20.defs ?_
 exact ⟨rfl,Sep.tail_un (xs:=[_,_,_]) s2⟩
theorem Eo {w:World} {cf ob:Nat} {F:FsM} {A:AdM} {R:List Ch} {δ:Nat→Int} (hS0:Sep w ((cP cf ob F A)++R)) (hok:FsC F δ) (hz:SmF F) {n0 m0:Nat} (hn0:n0<F.N.length) (hm0:m0<F.N.length) :
  CallsR Tryz.prog 79 #[π (A.ad n0),π (A.ad m0)] w (fun v w'=>v=ν (BH F n0 m0)∧Sep w' ((cP cf ob F A)++R)):=by
 have hS:=Sep.tail_many (xs:=cP cf ob F A) hS0;clear hS0
 have hz0:=hz;obtain ⟨hz1,hz2,hz3⟩:F.N.length≤1000∧F.E.length≤1000∧F.O.length≤1000:=hz
 refine AE Tryz.func79 rfl (N:=49) Tryz.ntmps79 (by show 2≤49;decide) [(0,π (A.ad n0)),(1,π (A.ad m0))] rfl fun _ h1=>sqr fun _ hK3=>mv h1 rfl fun _ h4=>wpList_nil<|hK3 _ _<|sq fun _ hK6=>wp_block ?_
 refine sqr fun _ hK7=>mvs 2 h4 rfl fun _ h2=>sw1 h2 rfl (GO h2 rfl rfl rfl (NdP.eq (F:=FsM.nE F) (A:=AdM.nC A) (j:=m0) (k:=n0) (hS.get 1 rfl:NdP _ _ _) (show m0<F.N.length from ω) (show n0<F.N.length from ω) _ _)) fun _ h3=>mv h3 rfl fun _ h5=>h5.sn [5,4,0,1] rfl fun h6=>hK7 _ _ ?_
 rcases bC (decide (m0=n0)) with hc1 | hc1
 ·skip
  have hp1:m0=n0:=(dT hc1)
  refine wcT h6 rfl hc1<|h6.sk [4,0,1] rfl fun h7=>sqr fun _ hK1=>h7.sk [0,1] rfl fun h8=>mv h8 rfl fun _ h9=>wpList_nil<|hK1 _ _<|wp_ret ?_
  try simp only [Exit.then,Exit.inBlock]
  refine Bi (v:=ν 0) (Ce h9 rfl rfl) h9.defs ?_
  have hq:BH F n0 m0=0:=by unfold BH;rw [if_pos (dT hc1)]
  exact ⟨by rw [hq],Sep.tail_un (xs:=[_,_,_]) hS⟩
 ·skip
  have hp2:¬ (m0=n0):=(dF hc1)
  refine wcF h6 rfl hc1<|h6.sk [4,0,1] rfl fun h10=>sqr fun _ hK2=>mvs 2 h10 rfl fun _ h11=>sv1 h11 rfl (rfa h11 rfl rfl (fun w=>AJ (A.ad n0) 0 w)) fun _ h12=>sw1 h12 rfl (rld h12 rfl rfl (NdP.c0 (F:=FsM.nE F) (A:=AdM.nC A) (k:=n0) (hS.get 1 rfl:NdP _ _ _) (show n0<F.N.length from ω) υ3 rfl)) fun _ h13=>bv h13 (z:=.bool (F.dir n0)) rfl (cEq _ _ _ _ (IP _)) fun _ h14=>mv h14 rfl fun _ h15=>sg h15 (wT h15 rfl rfl rfl) rfl rfl rfl (fun hC1=>(Aq h15 rfl rfl) _) fun _ h16=>sg h16 (wT h16 rfl rfl rfl) rfl rfl rfl (fun hC2=>(CJ h16 rfl (opg rfl hC2)) _) fun _ h17=>?_
  refine sg h17 (wT h17 rfl rfl rfl) rfl rfl rfl (fun hC3=>(rfa h17 rfl (opg rfl hC3) (fun w=>AJ (A.ad m0) 0 w)) _) fun _ h18=>sg h18 (wT h18 rfl rfl rfl) rfl rfl rfl (fun hC4=>(rld h18 rfl (opg rfl hC4) (NdP.c0 (F:=FsM.nE F) (A:=AdM.nC A) (k:=m0) (hS.get 1 rfl:NdP _ _ _) (show m0<F.N.length from ω) υ3 rfl))) fun _ h19=>sg h19 (wT h19 rfl rfl rfl) rfl rfl rfl (fun hC5=>(BF h19 rfl (opg rfl hC5) rfl (cEq _ _ _ _ (Ks _))) _) fun _ h20=>sv1 h20 rfl (Ej h20 rfl (E:=(F.dir n0)) (F:=(!(F.dir m0))) rfl rfl rfl (fun e=>if_pos (by rw [e];try rfl))) fun _ h21=>mv h21 rfl fun _ h22=>h22.sn [9,4,0,1] rfl fun h23=>hK2 _ _ ?_
  rcases bC ((F.dir n0)&&(!(F.dir m0))) with hc2 | hc2
  ·skip
   have hp3:((F.dir n0)=true)∧((F.dir m0)=false):=(And.intro (AA hc2).1 (AW (AA hc2).2))
   refine wcT h23 rfl hc2<|h23.sk [4,0,1] rfl fun h24=>sqr fun _ hK4=>h24.sk [0,1] rfl fun h25=>mv h25 rfl fun _ h26=>wpList_nil<|hK4 _ _<|wp_ret ?_
   try simp only [Exit.then,Exit.inBlock]
   refine Bi (v:=ν 12) (Ce h26 rfl rfl) h26.defs ?_
   have hq:BH F n0 m0=12:=by unfold BH;rw [if_neg (dF hc1),if_pos (show F.dir n0=true∧F.dir m0=false from ⟨(AA hc2).1,(AW (AA hc2).2)⟩)]
   exact ⟨by rw [hq],Sep.tail_un (xs:=[_,_,_]) hS⟩
  ·skip
   have hp4:((F.dir n0)=false)∨((F.dir m0)=true):=((IG hc2).imp (fun q=>q) (fun q=>(DC q)))
   refine wcF h23 rfl hc2<|h23.sk [4,0,1] rfl fun h27=>sqr fun _ hK5=>mvs 2 h27 rfl fun _ h28=>sv1 h28 rfl (rfa h28 rfl rfl (fun w=>AJ (A.ad n0) 0 w)) fun _ h29=>sw1 h29 rfl (rld h29 rfl rfl (NdP.c0 (F:=FsM.nE F) (A:=AdM.nC A) (k:=n0) (hS.get 1 rfl:NdP _ _ _) (show n0<F.N.length from ω) υ3 rfl)) fun _ h30=>bv h30 (z:=.bool (F.dir n0)) rfl (cEq _ _ _ _ (IP _)) fun _ h31=>mv h31 rfl fun _ h32=>sg h32 (wT h32 rfl rfl rfl) rfl rfl rfl (fun hC6=>(Aq h32 rfl rfl) _) fun _ h33=>sg h33 (wT h33 rfl rfl rfl) rfl rfl rfl (fun hC7=>(CJ h33 rfl (opg rfl hC7)) _) fun _ h34=>?_
   refine sg h34 (wT h34 rfl rfl rfl) rfl rfl rfl (fun hC8=>(rfa h34 rfl (opg rfl hC8) (fun w=>AQ (A.ad m0) 0 w)) _) fun _ h35=>?_
   rcases bC (F.dir n0) with hc3 | hc3
   ·skip
    rcases bC (F.dir m0) with hc4 | hc4
    ·skip
     refine sw h35 ((wT h35 rfl rfl rfl).trans hc3) rfl rfl rfl (rld h35 rfl (opg rfl hc3) (NdP.c3 (F:=FsM.nE F) (A:=AdM.nC A) (k:=m0) (hS.get 1 rfl:NdP _ _ _) (show m0<F.N.length from ω) hc4 υ95 rfl)) fun _ h36=>sw h36 ((wT h36 rfl rfl rfl).trans hc3) rfl rfl rfl (NY (F:=F) (A:=A) (k:=m0) h36 rfl rfl (hS.get 1 rfl:NdP _ _ _) hok ω hc4) fun _ h37=>sv h37 ((wT h37 rfl rfl rfl).trans hc3) rfl rfl rfl (BF h37 rfl rfl rfl (cGt _ _ _ _ rfl)) fun _ h38=>sv1 h38 rfl (BO h38 rfl (E:=(F.dir n0)) (b:=true) rfl hc3 rfl) fun _ h39=>mv h39 rfl fun _ h40=>h40.sn [22,4,0,1] rfl fun h41=>hK5 _ _ ?_
     rcases bC (decide (((BG F.E m0:Nat):Int)>0)) with hc5 | hc5
     ·skip
      have hp5:((BG F.E m0:Nat):Int)>0:=(dT hc5)
      refine wcT h41 rfl hc5<|h41.sk [4,0,1] rfl fun h42=>sqr fun _ hK8=>h42.sk [0,1] rfl fun h43=>mv h43 rfl fun _ h44=>wpList_nil<|hK8 _ _<|wp_ret ?_
      try simp only [Exit.then,Exit.inBlock]
      refine Bi (v:=ν 14) (Ce h44 rfl rfl) h44.defs ?_
      have hq:BH F n0 m0=14:=by unfold BH;rw [if_neg (dF hc1),if_neg (show ¬ (F.dir n0=true∧F.dir m0=false) from (fun q=>AI q.2 hc4)),if_pos (show F.dir n0=true∧0<BG F.E m0 from ⟨hc3,ω⟩)]
      exact ⟨by rw [hq],Sep.tail_un (xs:=[_,_,_]) hS⟩
     ·skip
      have hp6:¬ (((BG F.E m0:Nat):Int)>0):=(dF hc5)
      refine wcF h41 rfl hc5<|h41.sk [4,0,1] rfl fun h45=>sqr fun _ hK9=>mvs 2 h45 rfl fun _ h46=>sv1 h46 rfl (rfa h46 rfl rfl (fun w=>AJ (A.ad n0) 0 w)) fun _ h47=>sw1 h47 rfl (rld h47 rfl rfl (NdP.c0 (F:=FsM.nE F) (A:=AdM.nC A) (k:=n0) (hS.get 1 rfl:NdP _ _ _) (show n0<F.N.length from ω) υ3 rfl)) fun _ h48=>bv h48 (z:=.bool (!(F.dir n0))) rfl (cEq _ _ _ _ (Ks _)) fun _ h49=>mv h49 rfl fun _ h50=>su h50 ((wT h50 rfl rfl rfl).trans (Bq hc3)) rfl rfl rfl fun _ h51=>su h51 ((wT h51 rfl rfl rfl).trans (Bq hc3)) rfl rfl rfl fun _ h52=>?_
      refine su h52 ((wT h52 rfl rfl rfl).trans (Bq hc3)) rfl rfl rfl fun _ h53=>su h53 ((wT h53 rfl rfl rfl).trans (Bq hc3)) rfl rfl rfl fun _ h54=>su h54 ((wT h54 rfl rfl rfl).trans (Bq hc3)) rfl rfl rfl fun _ h55=>sv1 h55 rfl (BO h55 rfl (E:=(!(F.dir n0))) (b:=false) rfl (Bq hc3) rfl) fun _ h56=>mv h56 rfl fun _ h57=>h57.sn [36,4,0,1] rfl fun h58=>hK9 _ _<|wcF h58 rfl rfl<|h58.sk [4,0,1] rfl fun h59=>wp_skip<|hK6 _ _ ?_
      refine sqr fun _ hK10=>h59.sk [0,1] rfl fun h60=>mv h60 rfl fun _ h61=>wpList_nil<|hK10 _ _<|wp_ret ?_
      try simp only [Exit.then,Exit.inBlock]
      refine Bi (v:=ν 0) (Ce h61 rfl rfl) h61.defs ?_
      have hq:BH F n0 m0=0:=by unfold BH;rw [if_neg (dF hc1),if_neg (show ¬ (F.dir n0=true∧F.dir m0=false) from (fun q=>AI q.2 hc4)),if_neg (show ¬ (F.dir n0=true∧0<BG F.E m0) from (fun q=>absurd q.2 ω)),if_neg (show ¬ (F.dir n0=false∧F.dir m0=true) from (fun q=>AI q.1 hc3))]
      exact ⟨by rw [hq],Sep.tail_un (xs:=[_,_,_]) hS⟩
    ·skip
     refine sw h35 ((wT h35 rfl rfl rfl).trans hc3) rfl rfl rfl (rld h35 rfl (opg rfl hc3) (NdP.c3n (F:=FsM.nE F) (A:=AdM.nC A) (k:=m0) (hS.get 1 rfl:NdP _ _ _) (show m0<F.N.length from ω) hc4 υ95 rfl)) fun _ h62=>sv h62 ((wT h62 rfl rfl rfl).trans hc3) rfl rfl rfl (Sg h62 rfl rfl) fun _ h63=>sv h63 ((wT h63 rfl rfl rfl).trans hc3) rfl rfl rfl (BF h63 rfl rfl rfl (cGt _ _ _ _ rfl)) fun _ h64=>sv1 h64 rfl (BO h64 rfl (E:=(F.dir n0)) (b:=true) rfl hc3 rfl) fun _ h65=>mv h65 rfl fun _ h66=>h66.sn [22,4,0,1] rfl fun h67=>hK5 _ _<|wcF h67 rfl rfl<|h67.sk [4,0,1] rfl fun h68=>sq fun _ hK11=>wp_region_lit ?_
     refine mvs 2 h68 rfl fun _ h69=>sv1 h69 rfl (rfa h69 rfl rfl (fun w=>AJ (A.ad n0) 0 w)) fun _ h70=>sw1 h70 rfl (rld h70 rfl rfl (NdP.c0 (F:=FsM.nE F) (A:=AdM.nC A) (k:=n0) (hS.get 1 rfl:NdP _ _ _) (show n0<F.N.length from ω) υ3 rfl)) fun _ h71=>bv h71 (z:=.bool (!(F.dir n0))) rfl (cEq _ _ _ _ (Ks _)) fun _ h72=>mv h72 rfl fun _ h73=>su h73 ((wT h73 rfl rfl rfl).trans (Bq hc3)) rfl rfl rfl fun _ h74=>su h74 ((wT h74 rfl rfl rfl).trans (Bq hc3)) rfl rfl rfl fun _ h75=>su h75 ((wT h75 rfl rfl rfl).trans (Bq hc3)) rfl rfl rfl fun _ h76=>su h76 ((wT h76 rfl rfl rfl).trans (Bq hc3)) rfl rfl rfl fun _ h77=>su h77 ((wT h77 rfl rfl rfl).trans (Bq hc3)) rfl rfl rfl fun _ h78=>?_
     refine sv1 h78 rfl (BO h78 rfl (E:=(!(F.dir n0))) (b:=false) rfl (Bq hc3) rfl) fun _ h79=>mv h79 rfl fun _ h80=>h80.sn [36,4,0,1] rfl fun h81=>hK11 _ _<|wcF h81 rfl rfl<|h81.sk [4,0,1] rfl fun h82=>wp_skip<|hK6 _ _<|sqr fun _ hK12=>h82.sk [0,1] rfl fun h83=>mv h83 rfl fun _ h84=>?_
     refine wpList_nil<|hK12 _ _<|wp_ret ?_
     try simp only [Exit.then,Exit.inBlock]
     refine Bi (v:=ν 0) (Ce h84 rfl rfl) h84.defs ?_
     exact (hp4.elim (fun z=>AI z hc3) (fun z=>AI hc4 z)).elim
   ·skip
    refine su h35 ((wT h35 rfl rfl rfl).trans hc3) rfl rfl rfl fun _ h85=>su h85 ((wT h85 rfl rfl rfl).trans hc3) rfl rfl rfl fun _ h86=>su h86 ((wT h86 rfl rfl rfl).trans hc3) rfl rfl rfl fun _ h87=>sv1 h87 rfl (BO h87 rfl (E:=(F.dir n0)) (b:=false) rfl hc3 rfl) fun _ h88=>mv h88 rfl fun _ h89=>h89.sn [22,4,0,1] rfl fun h90=>hK5 _ _<|wcF h90 rfl rfl<|h90.sk [4,0,1] rfl fun h91=>sq fun _ hK13=>wp_region_lit ?_
    refine mvs 2 h91 rfl fun _ h92=>sv1 h92 rfl (rfa h92 rfl rfl (fun w=>AJ (A.ad n0) 0 w)) fun _ h93=>sw1 h93 rfl (rld h93 rfl rfl (NdP.c0 (F:=FsM.nE F) (A:=AdM.nC A) (k:=n0) (hS.get 1 rfl:NdP _ _ _) (show n0<F.N.length from ω) υ3 rfl)) fun _ h94=>bv h94 (z:=.bool (!(F.dir n0))) rfl (cEq _ _ _ _ (Ks _)) fun _ h95=>mv h95 rfl fun _ h96=>sv h96 ((wT h96 rfl rfl rfl).trans (Bt hc3)) rfl rfl rfl (Aq h96 rfl rfl) fun _ h97=>sv h97 ((wT h97 rfl rfl rfl).trans (Bt hc3)) rfl rfl rfl (CJ h97 rfl rfl) fun _ h98=>sv h98 ((wT h98 rfl rfl rfl).trans (Bt hc3)) rfl rfl rfl (rfa h98 rfl rfl (fun w=>AJ (A.ad m0) 0 w)) fun _ h99=>sw h99 ((wT h99 rfl rfl rfl).trans (Bt hc3)) rfl rfl rfl (rld h99 rfl rfl (NdP.c0 (F:=FsM.nE F) (A:=AdM.nC A) (k:=m0) (hS.get 1 rfl:NdP _ _ _) (show m0<F.N.length from ω) υ3 rfl)) fun _ h100=>sv h100 ((wT h100 rfl rfl rfl).trans (Bt hc3)) rfl rfl rfl (BF h100 rfl rfl rfl (cEq _ _ _ _ (IP _))) fun _ h101=>?_
    refine sv1 h101 rfl (BO h101 rfl (E:=(!(F.dir n0))) (b:=true) rfl (Bt hc3) rfl) fun _ h102=>mv h102 rfl fun _ h103=>h103.sn [36,4,0,1] rfl fun h104=>hK13 _ _ ?_
    rcases bC (F.dir m0) with hc6 | hc6
    ·skip
     refine wcT h104 rfl hc6<|h104.sk [4,0,1] rfl fun h105=>sqr fun _ hK14=>h105.sk [0,1] rfl fun h106=>mv h106 rfl fun _ h107=>wpList_nil<|hK14 _ _<|wp_ret ?_
     try simp only [Exit.then,Exit.inBlock]
     refine Bi (v:=ν 13) (Ce h107 rfl rfl) h107.defs ?_
     have hq:BH F n0 m0=13:=by unfold BH;rw [if_neg (dF hc1),if_neg (show ¬ (F.dir n0=true∧F.dir m0=false) from (fun q=>AI hc3 q.1)),if_neg (show ¬ (F.dir n0=true∧0<BG F.E m0) from (fun q=>AI hc3 q.1)),if_pos (show F.dir n0=false∧F.dir m0=true from ⟨hc3,hc6⟩)]
     exact ⟨by rw [hq],Sep.tail_un (xs:=[_,_,_]) hS⟩
    ·skip
     refine wcF h104 rfl hc6<|h104.sk [4,0,1] rfl fun h108=>wp_skip<|hK6 _ _<|sqr fun _ hK15=>h108.sk [0,1] rfl fun h109=>mv h109 rfl fun _ h110=>wpList_nil<|hK15 _ _<|wp_ret ?_
     try simp only [Exit.then,Exit.inBlock]
     refine Bi (v:=ν 0) (Ce h110 rfl rfl) h110.defs ?_
     have hq:BH F n0 m0=0:=by unfold BH;rw [if_neg (dF hc1),if_neg (show ¬ (F.dir n0=true∧F.dir m0=false) from (fun q=>AI hc3 q.1)),if_neg (show ¬ (F.dir n0=true∧0<BG F.E m0) from (fun q=>AI hc3 q.1)),if_neg (show ¬ (F.dir n0=false∧F.dir m0=true) from (fun q=>AI hc6 q.2))]
     exact ⟨by rw [hq],Sep.tail_un (xs:=[_,_,_]) hS⟩
theorem KD {w:World} {R:List Ch} (hS0:Sep w R) :
  CallsR Tryz.prog 46 #[] w (fun v w'=>∃ gn gm,v=π gn∧Sep w' (Ah gn 97 [ν 2,ν 1,σ [],.map (some gm)]::AP KN gm 0 (fun _=>none)::R)):=by
 have hS:Sep w [Ch.many R]:=Sep.tail_many (xs:=[]) hS0;clear hS0
 refine AE Tryz.func46 rfl (N:=4) Tryz.ntmps46 (by show 0≤4;decide) [] rfl fun _ h1=>sqr fun _ hK3=>mv h1 rfl fun _ h4=>wpList_nil<|hK3 _ _<|sqr fun _ hK6=>so (wn rfl) fun _ hK1=>Nl KN h4 rfl rfl rfl rfl hS fun _ b7 w1 h8 s1 _ _=>hK1 _ _ ?_
 refine bu h8 (v:=.agg #[ν 2,ν 1,σ [],.map (some b7)]) rfl (fun w=>κ) fun _ h2=>so (wn rfl) fun _ hK2=>Dc h2 rfl rfl rfl rfl rfl (z:=[ν 2,ν 1,σ [],.map (some b7)]) rfl s1 fun _ g1 w2 h3 s2 _ _=>hK2 _ _ ?_
 refine h3.sk [3,2,1] rfl fun h5=>mv h5 rfl fun _ h6=>h6.sn [0] rfl fun h7=>hK6 _ _<|wp_ret ?_
 try simp only [Exit.then,Exit.inBlock]
 refine Bi (v:=π g1) (Ce h7 rfl rfl) h7.defs ?_
 exact ⟨g1,b7,rfl,Sep.tail_un (xs:=[_,_]) s2⟩
end
end Go.Proofs.YtcanemamnmmbcaaGreatDoor
