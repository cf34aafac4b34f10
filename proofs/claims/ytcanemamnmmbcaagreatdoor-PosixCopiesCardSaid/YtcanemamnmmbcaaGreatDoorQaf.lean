/- Parts of the proof. -/
import Derived.LaidEql
import Derived.Shelf.Strings.Repeat
import Derived.Test.YtcanemamnmmbcaaGreatDoorQae
namespace Go.Proofs.YtcanemamnmmbcaaGreatDoor
open Go.RowKit
set_option linter.unusedSimpArgs false
set_option linter.unusedVariables false
set_option linter.unusedSectionVars false
set_option maxRecDepth 100000
set_option maxHeartbeats 8000000
section
open Go.Maps (Keyed)
section
variable {ι α:Type} [DecidableEq ι] {K:MapK ι α} {w w':World} {b n r cnt:Nat} {g:ι→Option α} {left:ι→Bool}
def HY (g:ι→Option α) (i:ι) (a:Option α):ι→Option α:=fun j=>if j=i then a else g j
theorem Gq (g:ι→Option α) (i:ι) (a:Option α):HY g i a i=a:=if_pos rfl
theorem GE (g:ι→Option α) {i j:ι} (a:Option α) (h:j≠i):HY g i a j=g j:=if_neg h
theorem MapK.lit (K:MapK ι α) {i:ι} (h:K.ok i):WideAt.IsKeyLit (K.kl i):=K.law.key (K.key h)
theorem MapK.ne (K:MapK ι α) {i j:ι} (hi:K.ok i) (hj:K.ok j) (h:j≠i):K.kl j≠K.kl i:=fun e=>h (K.inj hj hi e)
theorem MapK.same (K:MapK ι α) {i j:ι} (hi:K.ok i) (hj:K.ok j):(K.kl j).sameKey (K.kl i)=decide (j=i):=by
  by_cases e:j=i
  · subst e;rw [WideAt.sameKey_self (K.lit hi)];simp
  · cases hs:(K.kl j).sameKey (K.kl i)
    · simp [e]
    · exact absurd (WideAt.sameKey_eq hs) (K.ne hi hj e)
theorem MapG.lt (h:MapG K w b n g):b<w.heap.size:=by obtain ⟨D,h,_⟩:=h;exact h.lt
theorem MapG.turns {X:Nat→Prop} (h:MapG K w b n g) (t:Turns X w w') (hx:¬ X b):MapG K w' b n g:=by
  obtain ⟨D,h1,h2,h3⟩:=h
  exact ⟨D,t.map h1 hx,h2,h3⟩
theorem MapG.mono (h:MapG K w b n g) (bl:Below w.heap.size w w'):MapG K w' b n g:=h.turns (X:=fun _=>False) (Turns.of_below bl) (fun e=>e)
theorem MapG.more (h:MapG K w b n g) {m:Nat} (hm:n≤m):MapG K w b m g:=by
  obtain ⟨D,h1,h2,h3⟩:=h
  exact ⟨D,h1.mono hm,h2,h3⟩
theorem MapG.new (w:World):MapG K (w.alloc (.map #[] 0)) w.heap.size 0 (fun _=>none):=
  ⟨_,World.ownsMap_made w _ _ _,fun i _=>rfl,fun i a _ e=>by cases e⟩
theorem MapG.look (h:MapG K w b n g) {i:ι} (hi:K.ok i):(Instr.lookup K.t (.map (some b)) (K.kv i) true).run Tryz.prog w=.ok (.tuple #[K.av ((g i).getD K.z),.bool (g i).isSome]) w:=by
  obtain ⟨D,h1,h2,h3⟩:=h
  obtain ⟨v,ps,hrun,hR⟩:=h1.look_ok K.law K.und (K.zero w) (K.Rmk K.z) (K.key hi)
  rw [h2 i hi] at hrun
  obtain ⟨a,rfl,ha⟩:=K.Rinv hR
  rw [hrun]
  cases hg:g i with
  | some c=>
    have:=(h3 i c hi hg (K.ad K.z)).symm.trans ha
    rw [K.dinj this];rfl
  | none=>
    have z:=h2 i hi
    rw [hg] at z
    have:=(Maps.atKey_of_not_has z (K.ad K.z)).symm.trans ha
    rw [K.dinj this];rfl
theorem MapG.store (h:MapG K w b n g) (hn:n<maxLen) {i:ι} (hi:K.ok i) (a:α) :
    ∃ w',(Instr.mapUpdate K.t (.map (some b)) (K.kv i) (K.av a)).run Tryz.prog w=.ok () w'∧MapG K w' b (n+1) (HY g i (some a))∧Turns (fun k=>k=b) w w':=by
  obtain ⟨D,h1,h2,h3⟩:=h
  have hm:=h1.isMap
  obtain ⟨w',hrun,h',ht⟩:=h1.store K.law K.und hn (K.key hi) (K.Rmk a)
  refine ⟨w',hrun,⟨_,h',fun j hj=>?_,fun j c hj hc z=>?_⟩,Turns.of_grown ht.grown rfl⟩
  · by_cases e:j=i
    · subst e;rw [Gq,Maps.has_put_same hm (K.lit hj)];rfl
    · rw [GE _ _ e,Maps.has_put_other (K.ne hi hj e)];exact h2 j hj
  · by_cases e:j=i
    · subst e;rw [Gq] at hc;cases hc;exact Maps.atKey_put_same hm (K.lit hj) _ _
    · rw [GE _ _ e] at hc;rw [Maps.atKey_put_other (K.ne hi hj e)];exact h3 j c hj hc z
theorem MU {D:DataW Unit} {i:ι} (hi:K.ok i) (h2:∀ i,K.ok i→Maps.has D (K.kl i)=(g i).isSome) (h3:∀ i a,K.ok i→g i=some a→∀ z,D.atKey (K.kl i) z=K.ad a) :
    (∀ j,K.ok j→Maps.has (D.del (K.kl i)) (K.kl j)=(HY g i none j).isSome)∧(∀ j a,K.ok j→HY g i none j=some a→∀ z,(D.del (K.kl i)).atKey (K.kl j) z=K.ad a):=by
  refine ⟨fun j hj=>?_,fun j c hj hc z=>?_⟩
  · by_cases e:j=i
    · subst e;rw [Gq,Maps.has_del_same];rfl
    · rw [GE _ _ e,Maps.has_del_other (K.ne hi hj e)];exact h2 j hj
  · by_cases e:j=i
    · subst e;rw [Gq] at hc;cases hc
    · rw [GE _ _ e] at hc;rw [Maps.atKey_del_other (K.ne hi hj e)];exact h3 j c hj hc z
theorem MapG.drop (h:MapG K w b n g) {i:ι} (hi:K.ok i) (ty:TypeId) :
    ∃ w',(Builtin.delete_ #[K.t,K.k] ty #[.map (some b),K.kv i]).run Tryz.prog w=.ok (.tuple #[]) w'∧MapG K w' b n (HY g i none)∧Turns (fun k=>k=b) w w':=by
  obtain ⟨D,h1,h2,h3⟩:=h
  obtain ⟨w',hrun,h',ht⟩:=h1.drop K.law K.und (K.key hi) ty
  obtain ⟨v1,v2⟩:=MU hi h2 h3
  exact ⟨w',hrun,⟨_,h',v1,v2⟩,Turns.of_grown ht.grown rfl⟩
def RanG (K:MapK ι α) (w:World) (b r n:Nat) (g:ι→Option α) (left:ι→Bool) (cnt:Nat):Prop:=
  ∃ (D:DataW Unit) (lf:Lit→Bool),w.ranges Tryz.prog K.k K.R b r n D lf cnt∧(∀ i,K.ok i→Maps.has D (K.kl i)=(g i).isSome)∧(∀ i a,K.ok i→g i=some a→∀ z,D.atKey (K.kl i) z=K.ad a)∧∀ i,K.ok i→lf (K.kl i)=left i
theorem RanG.map (h:RanG K w b r n g left cnt):MapG K w b n g:=by
  obtain ⟨D,lf,h1,h2,h3,_⟩:=h
  exact ⟨D,h1.owns,h2,h3⟩
theorem RanG.ne (h:RanG K w b r n g left cnt):r≠b:=by obtain ⟨D,lf,h1,_⟩:=h;exact h1.ne
theorem RanG.lt (h:RanG K w b r n g left cnt):r<w.heap.size:=by obtain ⟨D,lf,h1,_⟩:=h;exact h1.lt
theorem RanG.left_eq (h:RanG K w b r n g left cnt):w.rangeLeft b r=cnt:=by obtain ⟨D,lf,h1,_⟩:=h;exact h1.left_eq
theorem RanG.turns {X:Nat→Prop} (h:RanG K w b r n g left cnt) (t:Turns X w w') (hb:¬ X b) (hr:¬ X r):RanG K w' b r n g left cnt:=by
  obtain ⟨D,lf,h1,h2,h3,h4⟩:=h
  refine ⟨D,lf,?_,h2,h3,h4⟩
  have q1:=h1.owns.lt
  have q2:=h1.lt
  obtain ⟨es,clock,since,seen,c0,hb',F,hs,hD,hr',rest⟩:=h1
  exact ⟨es,clock,since,seen,c0,(t.block b q1 hb).trans hb',F,hs,hD,(t.block r q2 hr).trans hr',rest⟩
theorem RanG.mono (h:RanG K w b r n g left cnt) (bl:Below w.heap.size w w'):RanG K w' b r n g left cnt:=h.turns (X:=fun _=>False) (Turns.of_below bl) (fun e=>e) (fun e=>e)
theorem RanG.congr {g':ι→Option α} {left':ι→Bool} (h:RanG K w b r n g left cnt) (hg:∀ i,K.ok i→g' i=g i) (hl:∀ i,K.ok i→left' i=left i):RanG K w b r n g' left' cnt:=by
  obtain ⟨D,lf,h1,h2,h3,h4⟩:=h
  exact ⟨D,lf,h1,fun i hi=>by rw [hg i hi];exact h2 i hi,fun i a hi ha=>h3 i a hi (by rw [← hg i hi];exact ha),fun i hi=>by rw [hl i hi];exact h4 i hi⟩
theorem MapG.range (h:MapG K w b n g):∃ w',(Instr.range K.t (.map (some b))).run Tryz.prog w=.ok (π w.heap.size) w'∧(∃ cnt,RanG K w' b w.heap.size n g (fun i=>(g i).isSome) cnt)∧Below w.heap.size w w':=by
  obtain ⟨D,h1,h2,h3⟩:=h
  obtain ⟨w',hrun,r1,r2,r3⟩:=h1.range K.law K.und
  exact ⟨w',hrun,⟨_,D,_,r1,h2,h3,fun i hi=>h2 i hi⟩,⟨r2.os,r2.tape,r2.output,r2.size,fun k hk=>r2.block k hk (by simp)⟩⟩
theorem RanG.next (h:RanG K w b r n g left cnt) (ty:TypeId) :
    ((∀ i,K.ok i→left i=false)∧(Instr.next (π r) false ty).run Tryz.prog w=.ok (.tuple #[.bool false]) w) ∨
    ∃ i a w' cnt',K.ok i∧left i=true∧g i=some a∧(Instr.next (π r) false ty).run Tryz.prog w=.ok (.tuple #[.bool true,K.kv i,K.av a]) w' ∧
      RanG K w' b r n g (fun j=>left j&&!decide (j=i)) cnt'∧cnt'<cnt∧Turns (fun k=>k=r) w w'∧(Instr.entry (π r)).run Tryz.prog w'=.ok (.tuple #[K.kv i,K.av a]) w':=by
  obtain ⟨D,lf,h1,h2,h3,h4⟩:=h
  rcases h1.next K.law ty with ⟨_,hl,hrun⟩ | ⟨key,v,kl,y,w',cnt',hkey,hlk,hv,hat,hrun,hrg,hlt,hgr,hsz,hen⟩
  · exact .inl ⟨fun i hi=>by rw [← h4 i hi];exact hl _,hrun⟩
  · obtain ⟨i,hi,rfl,rfl⟩:=K.inv hkey
    obtain ⟨a,rfl,ha⟩:=K.Rinv (show K.R v=some (y.1,y.2) from hv)
    have hh:=h2 i hi
    rw [Maps.has_true_of_atKey hat] at hh
    obtain ⟨c,hc⟩:=Option.isSome_iff_exists.1 hh.symm
    have e:=(h3 i c hi hc (K.ad a)).symm.trans ((hat _).trans ha)
    obtain rfl:=K.dinj e
    refine .inr ⟨i,c,w',cnt',hi,by rw [← h4 i hi];exact hlk,hc,hrun,⟨D,_,hrg,h2,h3,fun j hj=>?_⟩,hlt,Turns.of_grown hgr rfl,hen⟩
    rw [h4 j hj,K.same hi hj]
theorem RanG.drop (h:RanG K w b r n g left cnt) {i:ι} (hi:K.ok i) (ty:TypeId) :
    ∃ w' cnt',(Builtin.delete_ #[K.t,K.k] ty #[.map (some b),K.kv i]).run Tryz.prog w=.ok (.tuple #[]) w'∧RanG K w' b r n (HY g i none) (fun j=>left j&&!decide (j=i)) cnt'∧cnt'≤cnt∧Turns (fun k=>k=b) w w':=by
  obtain ⟨D,lf,h1,h2,h3,h4⟩:=h
  obtain ⟨w',cnt',hrun,h',hc,ht⟩:=h1.drop K.law K.und (K.key hi) ty
  obtain ⟨v1,v2⟩:=MU hi h2 h3
  exact ⟨w',cnt',hrun,⟨_,_,h',v1,v2,fun j hj=>by rw [h4 j hj,K.same hi hj]⟩,hc,Turns.of_grown ht.grown rfl⟩
end
end
section
section
variable {ι α:Type} [DecidableEq ι] {K:MapK ι α} {w w':World} {b n r cnt:Nat} {g:ι→Option α} {left:ι→Bool}
theorem MapG.look1 (h:MapG K w b n g) {i:ι} (hi:K.ok i):(Instr.lookup K.t (.map (some b)) (K.kv i) false).run Tryz.prog w=.ok (K.av ((g i).getD K.z)) w:=by
  obtain ⟨D,h1,h2,h3⟩:=h
  obtain ⟨v,ps,hrun,hR⟩:=h1.lookup K.law K.und (K.zero w) (K.Rmk K.z) (K.key hi)
  obtain ⟨a,rfl,ha⟩:=K.Rinv hR
  rw [hrun]
  cases hg:g i with
  | some c=>
    have:=(h3 i c hi hg (K.ad K.z)).symm.trans ha
    rw [K.dinj this];rfl
  | none=>
    have z:=h2 i hi
    rw [hg] at z
    have:=(Maps.atKey_of_not_has z (K.ad K.z)).symm.trans ha
    rw [K.dinj this];rfl
def AM (K:MapK ι α) (b n:Nat) (g:ι→Option α):Ch where
  F k:=k=b
  P w:=MapG K w b n g
  keep h t:=h.turns t (fun q=>q rfl)
  lt h k hk:=hk ▸ h.lt
def Ir (K:MapK ι α) (b r n:Nat) (g:ι→Option α) (left:ι→Bool) (cnt:Nat):Ch where
  F k:=k=b∨k=r
  P w:=RanG K w b r n g left cnt
  keep h t:=h.turns t (fun q=>q (.inl rfl)) (fun q=>q (.inr rfl))
  lt h k hk:=by rcases hk with rfl | rfl;exact h.map.lt;exact h.lt
end
section
variable {ι α:Type} [DecidableEq ι] {M:MapK ι α} {b n r cnt:Nat} {g:ι→Option α} {left:ι→Bool} {Q:Exit→Act→World→Prop} {o:Oper} {a:Act} {w w':World} {N:Nat} {l:List (Nat×Value)} {K:Act→World→Prop} {cs:List Ch}
theorem KX (M:MapK ι α) (h:Kn N l a) {d:Nat} (hd:o.dst=some d) (hdN:decide (d<N)=true) (hf:l.all (fun x=>!(x.1 == d))=true) {T:TypeId} (ho:o.op=.makeMap T none) (hS:Sep w cs)
    (k:∀ a' b w',Kn N ((d,.map (some b))::l) a'→Sep w' (AM M b 0 (fun _=>none)::cs)→(∃ o,w'=w.alloc o)→b=w.heap.size→K a' w'):Oper.wp Tryz.prog o a w K Q:=
  Br h hd hdN hf (v:=.map (some w.heap.size)) (w':=w.alloc (.map #[] 0)) (by unfold execOp;rw [ho];rfl) fun a' h'=>k a' _ _ h' (hS.push (KY _ _) (MapG.new w) (fun k e=>by cases e;exact Nat.le_refl _)) ⟨_,rfl⟩ rfl
theorem TF (h:Kn N l a) (hd:o.dst=none) {T:TypeId} {m x y:Operand} (ho:o.op=.mapUpdate T m x y) (hT:T=M.t) (hS:Sep w cs) (i:Nat) (hi:cs[i]? = some (AM M b n g)) (hm:opv l m=some (.map (some b))) {p:ι} {u:α} (hx:opv l x=some (M.kv p)) (hy:opv l y=some (M.av u)) (hn:n<maxLen) (hp:M.ok p)
    {cs':List Ch} (hcs:cs.set i (AM M b (n+1) (HY g p (some u)))=cs') (k:∀ a' w',Kn N l a'→Sep w' cs'→Turns (fun k=>k=b) w w'→K a' w'):Oper.wp Tryz.prog o a w K Q:=by
  subst hT
  obtain ⟨w',hr,hm',t⟩:=(hS.get i hi:MapG M w b n g).store hn hp u
  refine Hr (w':=w') h hd ?_ fun a' h'=>k a' _ h' (by rw [← hcs];exact hS.upd i hi t (fun k _ e=>e) hm' (fun k e=>.inl e)) t
  unfold execOp;rw [ho];simp only [h.op hm,h.op hx,h.op hy]
  rw [Sem.run_bind,hr];rfl
theorem Ui (h:Kn N l a) (hd:o.dst=none) {T T':TypeId} {m x:Operand} (ho:o.op=.call { callee:=.builtin .delete,args:=#[m,x],argTypes:=#[T,T'] }) (hT:T=M.t) (hT':T'=M.k) (hS:Sep w cs) (i:Nat) (hi:cs[i]? = some (AM M b n g)) (hm:opv l m=some (.map (some b))) {p:ι} (hx:opv l x=some (M.kv p)) (hp:M.ok p)
    {cs':List Ch} (hcs:cs.set i (AM M b n (HY g p none))=cs') (k:∀ a' w',Kn N l a'→Sep w' cs'→Turns (fun k=>k=b) w w'→K a' w'):Oper.wp Tryz.prog o a w K Q:=by
  subst hT;subst hT'
  obtain ⟨w',hr,hm',t⟩:=(hS.get i hi:MapG M w b n g).drop hp o.type
  refine Sv (w':=w') h hd (v:=.tuple #[]) ?_ fun a' h'=>k a' _ h' (by rw [← hcs];exact hS.upd i hi t (fun k _ e=>e) hm' (fun k e=>.inl e)) t
  unfold execOp;rw [ho]
  simp only [resolve,invoke,builtin,Sem.run_bind,Sem.run_pure,Result.andThen_ok,List.map_toArray,List.map_cons,List.map_nil,h.op hm,h.op hx,hr]
theorem Rw (h:Kn N l a) {d:Nat} (hd:o.dst=some d) (hdN:decide (d<N)=true) (hf:l.all (fun x=>!(x.1 == d))=true) {T:TypeId} {m:Operand} (ho:o.op=.range T m) (hT:T=M.t) (hS:Sep w cs) (i:Nat) (hi:cs[i]? = some (AM M b n g)) (hm:opv l m=some (.map (some b)))
    (k:∀ a' r w' cnt,Kn N ((d,π r)::l) a'→Sep w' (cs.set i (Ir M b r n g (fun i=>(g i).isSome) cnt))→Below w.heap.size w w'→K a' w'):Oper.wp Tryz.prog o a w K Q:=by
  subst hT
  obtain ⟨w',hr,⟨cnt,hR⟩,hb⟩:=(hS.get i hi:MapG M w b n g).range
  refine Br h hd hdN hf (w':=w') (by unfold execOp;rw [ho];simp only [h.op hm];exact EB hr) fun a' h'=>k a' _ _ cnt h' (hS.upd i hi (X:=fun _=>False) (Turns.of_below hb) (fun k _ e=>e.elim) (c':=Ir M b w.heap.size n g (fun i=>(g i).isSome) cnt) hR (fun k e=>?_)) hb
  rcases e with e | e
  · exact .inl e
  · exact .inr ω
theorem St (h:Kn N l a) {d:Nat} (hd:o.dst=some d) (hdN:decide (d<N)=true) (hf:l.all (fun x=>!(x.1 == d))=true) {m:Operand} (ho:o.op=.next m false) (hS:Sep w cs) (i:Nat) (hi:cs[i]? = some (Ir M b r n g left cnt)) (hm:opv l m=some (π r))
    (k1:∀ a',Kn N ((d,.tuple #[.bool false])::l) a'→(∀ p,M.ok p→left p=false)→K a' w)
    (k2:∀ a' w' p u cnt',Kn N ((d,.tuple #[.bool true,M.kv p,M.av u])::l) a'→Sep w' (cs.set i (Ir M b r n g (fun j=>left j&&!decide (j=p)) cnt'))→M.ok p→left p=true→g p=some u→cnt'<cnt→(Instr.entry (π r)).run Tryz.prog w'=.ok (.tuple #[M.kv p,M.av u]) w'→K a' w'):Oper.wp Tryz.prog o a w K Q:=by
  rcases (hS.get i hi:RanG M w b r n g left cnt).next o.type with ⟨hl,hr⟩ | ⟨p,u,w',cnt',hp,hlp,hg,hr,hR,hc,ht,hen⟩
  · exact Br h hd hdN hf (w':=w) (by unfold execOp;rw [ho];simp only [h.op hm];exact EB hr) fun a' h'=>k1 a' h' hl
  · exact Br h hd hdN hf (w':=w') (by unfold execOp;rw [ho];simp only [h.op hm];exact EB hr) fun a' h'=>k2 a' w' p u cnt' h' (hS.upd i hi ht (fun k _ e=>.inr e) (c':=Ir M b r n g (fun j=>left j&&!decide (j=p)) cnt') hR (fun k e=>.inl e)) hp hlp hg hc hen
theorem QZ {P:Program} (h:Kn N l a) {m:Operand} (ho:o.op=.entry m) {v u:Value} (hm:opv l m=some v) {w:World} (hr:(Instr.entry v).run P w=.ok u w):(execOp a.eval o).run P w=.ok (.value u) w:=by
  unfold execOp;rw [ho];simp only [h.op hm];exact EB hr
theorem Sep.ran_map {w:World} (hS:Sep w cs) (i:Nat) (hi:cs[i]? = some (Ir M b r n g left cnt)):Sep w (cs.set i (AM M b n g)):=
  hS.upd i hi (Turns.refl (fun _=>False) w) (fun k _ e=>e.elim) (hS.get i hi:RanG M w b r n g left cnt).map (fun k e=>.inl (.inl e))
end
end
section
open Go.Maps (Keyed)
structure AdM where
  ad:Nat→Nat
  mb:Nat→Nat
  ld:Nat→Int
  B:Nat
  C:Nat
def AP (b:Bool):Int:=if b=true then 2 else 1
theorem GZ (b:Bool):decide (AP b=2)=b:=by cases b<;>rfl
theorem Kh (b:Bool):decide (AP b=1)=!b:=by cases b<;>rfl
theorem Je (b:Bool):decide (AP b≠2)=!b:=by cases b<;>rfl
def AR (F:FsM) (A:AdM) (k:Nat):Int:=if F.dir k=true then A.ld k else (F.at k).links
def mpM (F:FsM) (A:AdM) (k:Nat):Option Nat:=if F.dir k=true then some (A.mb k) else none
def ndV (F:FsM) (A:AdM) (k:Nat):List Value:=[ν (AP (F.dir k)),ν (AR F A k),.string (Ad (F.at k).data),.map (mpM F A k)]
def ptV:Option Nat→Value
  | some g=>.pointer (some ⟨g,0,none⟩)
  | none=>.pointer none
def ptD:Option Nat→DataW Unit
  | some g=>.lit (.int .i64 ((g:Int)+1))
  | none=>.lit (.int .i64 0)
def ptR:Value→Option (DataW Unit×List MemPlace)
  | .pointer none=>some (ptD none,[])
  | .pointer (some ⟨g,0,none⟩)=>some (ptD (some g),[])
  | _=>none
theorem QY (a:Option Nat):ptR (ptV a)=some (ptD a,[]):=by cases a<;>rfl
theorem Ot {v:Value} {d:DataW Unit} {ps:List MemPlace} (h:ptR v=some (d,ps)):∃ a,v=ptV a∧d=ptD a:=by
  unfold ptR at h
  split at h
  · cases h;exact ⟨none,rfl,rfl⟩
  · cases h;exact ⟨some _,rfl,rfl⟩
  · cases h
theorem Or {a b:Option Nat} (h:ptD a=ptD b):a=b:=by
  cases a<;>cases b<;>simp [ptD] at h ⊢<;>omega
def MS (s:ByteArray):Lit:=.string s.data.toList
theorem QE:Keyed Tryz.prog 9:=Maps.string_keyed υ9
theorem RO {s:ByteArray} (h:s.size≤maxLen):keyOf Tryz.prog 9 (.string s)=some (MS s):=by
  unfold keyOf mapKey
  rw [υ9]
  simp [h,MS]
theorem Im {v:Value} {l:Lit} (h:keyOf Tryz.prog 9 v=some l):∃ s:ByteArray,s.size≤maxLen∧v=.string s∧l=MS s:=by
  unfold keyOf mapKey at h
  rw [υ9] at h
  cases v with
  | string s=>
    simp only [] at h
    split at h
    · rename_i hs;exact ⟨s,hs,rfl,(Option.some.inj h).symm⟩
    · cases h
  | _=>simp at h
theorem Rl {s t:ByteArray} (h:MS s=MS t):s=t:=by
  simp only [MS,Lit.string.injEq] at h
  exact ByteArray.ext (Array.toList_inj.1 h)
def KN:MapK ByteArray (Option Nat) where
  t:=95
  k:=9
  e:=62
  ok:=fun s=>s.size≤maxLen
  kv:=fun s=>.string s
  kl:=MS
  av:=ptV
  ad:=ptD
  R:=ptR
  z:=none
  law:=QE
  und:=υ95
  key:=RO
  inv:=fun {v l} h=>Im h
  inj:=fun _ _ h=>Rl h
  Rmk:=QY
  Rinv:=Ot
  dinj:=Or
  zero:=fun w=>κ
theorem RN:WideMaps.KeyLaw Tryz.prog 68:=deep_law_laid QH (m:=2) ω (of_decide_eq_true κ) κ (by rw [υ68])
theorem LT:Keyed Tryz.prog 68:=Keyed.of_law RN
def kVD (p:Int×Int):Value:=.agg #[ν p.1,ν p.2]
def kLD (p:Int×Int):Lit:=.string (keyBytes [.int .i64 p.1,.int .i64 p.2])
def wfD (p:Int×Int):Prop:=(Lit.int .i64 p.1).wf=true∧(Lit.int .i64 p.2).wf=true
theorem QD:Tryz.prog.keyType 68=true:=κ
theorem JI:Tryz.prog.cellsOf 68=2:=κ
theorem LS {p:Int×Int} (h:wfD p):keyOf Tryz.prog 68 (kVD p)=some (kLD p):=by
  obtain ⟨d,hd⟩:=Rp
  have hf:(kVD p).formed Tryz.prog 68=true:=by simp [kVD,Value.formed,υ68,JI]
  have hk:Tryz.prog.keyLits (d+2) 68 (kVD p).cells.toList=some [.int .i64 p.1,.int .i64 p.2]:=by
    unfold Program.keyLits
    rw [υ68]
    simp [kVD,Value.cells,JI,Oe,Mv _ _ h.1,Mv _ _ h.2]
  unfold keyOf
  rw [Tryz.underlying68,hd]
  simp only [QD,hf,hk,Bool.and_self,if_true,Option.map_some]
  rfl
theorem Il {v:Value} {l:Lit} (h:keyOf Tryz.prog 68 v=some l):∃ p,wfD p∧v=kVD p∧l=kLD p:=by
  obtain ⟨d,hd⟩:=Rp
  unfold keyOf at h
  rw [υ68,hd] at h
  simp only [] at h
  split at h
  · rename_i hc
    simp only [Bool.and_eq_true] at hc
    cases v with
    | agg cs=>
      have hs:cs.size=2:=by have:=hc.2;simpa [Value.formed,υ68,JI] using this
      obtain ⟨x,y,rfl⟩:=Ry hs
      obtain ⟨ls,hls,rfl⟩:=Option.map_eq_some_iff.1 h
      unfold Program.keyLits at hls
      rw [Tryz.underlying68] at hls
      simp [Value.cells,JI,Oe] at hls
      rcases ha:Tryz.prog.keyLits (d+1) 3 [x] with _ | a
      · simp [ha] at hls
      rcases hb:Tryz.prog.keyLits (d+1) 3 [y] with _ | c
      · simp [ha,hb] at hls
      simp [ha,hb] at hls
      subst hls
      obtain ⟨n,rfl,hn,rfl⟩:=IK ha
      obtain ⟨m,rfl,hm,rfl⟩:=IK hb
      exact ⟨(n,m),⟨hn,hm⟩,rfl,rfl⟩
    | _=>simp [Value.formed,υ68] at hc
  · cases h
theorem RM {p q:Int×Int} (hp:wfD p) (hq:wfD q) (e:kLD p=kLD q):p=q:=by
  have z:=LT.inj (LS hp) (by rw [e];exact LS hq)
  simp [kVD] at z
  exact Prod.ext z.1 z.2
def KO:MapK (Int×Int) (Option Nat) where
  t:=63
  k:=68
  e:=62
  ok:=wfD
  kv:=kVD
  kl:=kLD
  av:=ptV
  ad:=ptD
  R:=ptR
  z:=none
  law:=LT
  und:=υ63
  key:=LS
  inv:=fun {v l} h=>Il h
  inj:=fun hp hq h=>RM hp hq h
  Rmk:=QY
  Rinv:=Ot
  dinj:=Or
  zero:=fun w=>κ
def elA (A:AdM) (m:Option Nat):Option (Option Nat):=m.map fun k=>some (A.ad k)
structure NdP (F:FsM) (A:AdM) (w:World):Prop where
  nd:∀ k,k<F.N.length→Blk w (A.ad k) 97 (ndV F A k)
  mp:∀ k,k<F.N.length→F.dir k=true→MapG KN w (A.mb k) A.B (fun s=>elA A (Ai F.E k s))
  inj:∀ j k,j<F.N.length→k<F.N.length→A.ad j=A.ad k→j=k
  minj:∀ j k,j<F.N.length→k<F.N.length→F.dir j=true→F.dir k=true→A.mb j=A.mb k→j=k
theorem LL {w:World} {g b n:Nat} {e:TypeId} {L:List Value} {ι α:Type} [DecidableEq ι] {K:MapK ι α} {f:ι→Option α} (h:Blk w g e L) (hm:MapG K w b n f):g≠b:=by
  intro q
  subst q
  obtain ⟨D,⟨es,clock,hb,_⟩,_⟩:=hm
  rw [show w.heap[g]? = _ from h] at hb
  cases hb
theorem NdP.turns {F:FsM} {A:AdM} {w w':World} (h:NdP F A w) {X:Nat→Prop} (t:Turns X w w') (h1:∀ k,k<F.N.length→¬ X (A.ad k)) (h2:∀ k,k<F.N.length→F.dir k=true→¬ X (A.mb k)):NdP F A w':=
  ⟨fun k hk=>t.blk (h.nd k hk) (h1 k hk),fun k hk hd=>(h.mp k hk hd).turns t (h2 k hk hd),h.inj,h.minj⟩
def QQ (F:FsM) (A:AdM):Ch where
  F b:=∃ k,k<F.N.length∧(b=A.ad k∨(F.dir k=true∧b=A.mb k))
  P w:=NdP F A w
  keep h t:=h.turns t (fun k hk q=>q ⟨k,hk,.inl rfl⟩) (fun k hk hd q=>q ⟨k,hk,.inr ⟨hd,rfl⟩⟩)
  lt {w} h b:=by
    rintro ⟨k,hk,e | ⟨hd,e⟩⟩
    · rw [e];exact (h.nd k hk).lt
    · rw [e];exact (h.mp k hk hd).lt
section
variable {F:FsM} {A:AdM} {w:World} {k:Nat}
theorem NdP.c0 (h:NdP F A w) (hk:k<F.N.length) {T:TypeId} {d:TypeDesc} (hu:Tryz.prog.underlying T=some d) (hr:d.isRow=false):(Instr.loadAt T (π (A.ad k))).run Tryz.prog w=.ok (ν (AP (F.dir k))) w:=ldB hu hr (h.nd k hk) rfl
theorem NdP.c1 (h:NdP F A w) (hk:k<F.N.length) {T:TypeId} {d:TypeDesc} (hu:Tryz.prog.underlying T=some d) (hr:d.isRow=false):(Instr.loadAt T (.pointer (some ⟨A.ad k,1,none⟩))).run Tryz.prog w=.ok (ν (AR F A k)) w:=ldB hu hr (h.nd k hk) rfl
theorem NdP.c2 (h:NdP F A w) (hk:k<F.N.length) {T:TypeId} {d:TypeDesc} (hu:Tryz.prog.underlying T=some d) (hr:d.isRow=false):(Instr.loadAt T (.pointer (some ⟨A.ad k,2,none⟩))).run Tryz.prog w=.ok (.string (Ad (F.at k).data)) w:=ldB hu hr (h.nd k hk) rfl
theorem NdP.c3 (h:NdP F A w) (hk:k<F.N.length) (hd:F.dir k=true) {T:TypeId} {d:TypeDesc} (hu:Tryz.prog.underlying T=some d) (hr:d.isRow=false):(Instr.loadAt T (.pointer (some ⟨A.ad k,3,none⟩))).run Tryz.prog w=.ok (.map (some (A.mb k))) w:=ldB hu hr (h.nd k hk) (show (ndV F A k)[3]? = _ by unfold ndV mpM;rw [if_pos hd];rfl)
theorem NdP.c3n (h:NdP F A w) (hk:k<F.N.length) (hd:F.dir k=false) {T:TypeId} {d:TypeDesc} (hu:Tryz.prog.underlying T=some d) (hr:d.isRow=false):(Instr.loadAt T (.pointer (some ⟨A.ad k,3,none⟩))).run Tryz.prog w=.ok (.map none) w:=ldB hu hr (h.nd k hk) (show (ndV F A k)[3]? = _ by unfold ndV mpM;rw [if_neg (AH hd)];rfl)
theorem NdP.lookY (h:NdP F A w) (hk:k<F.N.length) (hd:F.dir k=true) {s:ByteArray} (hs:s.size≤maxLen) {m:Nat} (hl:Ai F.E k s=some m):(Instr.lookup 95 (.map (some (A.mb k))) (.string s) false).run Tryz.prog w=.ok (π (A.ad m)) w:=by
  have e:(elA A (Ai F.E k s)).getD KN.z=some (A.ad m):=by rw [hl];rfl
  exact ((h.mp k hk hd).look1 (i:=s) hs).trans (congrArg (fun v=>Result.ok (ptV v) w) e)
theorem NdP.lookN (h:NdP F A w) (hk:k<F.N.length) (hd:F.dir k=true) {s:ByteArray} (hs:s.size≤maxLen) (hl:Ai F.E k s=none):(Instr.lookup 95 (.map (some (A.mb k))) (.string s) false).run Tryz.prog w=.ok (.pointer none) w:=by
  have e:(elA A (Ai F.E k s)).getD KN.z=none:=by rw [hl];rfl
  exact ((h.mp k hk hd).look1 (i:=s) hs).trans (congrArg (fun v=>Result.ok (ptV v) w) e)
def opG (F:FsM) (A:AdM) (p:Int×Int):Option (Option Nat):=elA A (Az F.O p.1 p.2)
theorem IP {ob n:Nat} (h:MapG KO w ob n (opG F A)) {c fd:Int} (hw:wfD (c,fd)) {m:Nat} (hl:Az F.O c fd=some m):(Instr.lookup 63 (.map (some ob)) (.agg #[ν c,ν fd]) false).run Tryz.prog w=.ok (π (A.ad m)) w:=by
  have e:(opG F A (c,fd)).getD KO.z=some (A.ad m):=by unfold opG;rw [hl];rfl
  exact (h.look1 (i:=(c,fd)) hw).trans (congrArg (fun v=>Result.ok (ptV v) w) e)
theorem Kx {ob n:Nat} (h:MapG KO w ob n (opG F A)) {c fd:Int} (hw:wfD (c,fd)) (hl:Az F.O c fd=none):(Instr.lookup 63 (.map (some ob)) (.agg #[ν c,ν fd]) false).run Tryz.prog w=.ok (.pointer none) w:=by
  have e:(opG F A (c,fd)).getD KO.z=none:=by unfold opG;rw [hl];rfl
  exact (h.look1 (i:=(c,fd)) hw).trans (congrArg (fun v=>Result.ok (ptV v) w) e)
theorem NdP.eqIn (h:NdP F A w) {j:Nat} (hj:j<F.N.length) (hk:k<F.N.length) {T E:TypeId} (hu:Tryz.prog.underlying T=some (.pointer E)) {i:TypeInfo} (hi:Tryz.prog.info? E=some i) (hz:i.size≠0) (d:Nat) :
    (Op.equalIn (d+1) T (π (A.ad j)) (π (A.ad k))).run Tryz.prog w=.ok (decide (j=k)) w:=by
  by_cases e:j=k
  · subst e
    simp [Op.equalIn,run_underlying hu,sizeOf,typeInfo,hi,hz,run_sameAddr_same]
  · have hne:(⟨A.ad j,0,none⟩:Addr)≠⟨A.ad k,0,none⟩:=fun q=>e (h.inj j k hj hk (by injection q))
    simp [Op.equalIn,run_underlying hu,sizeOf,typeInfo,hi,hz,run_sameAddr_other w hne (h.nd j hj) (h.nd k hk),e]
theorem Kg:∃ i,Tryz.prog.info? 97=some i∧i.size≠0:=by
  have h:(Tryz.prog.info? 97).map (fun i=>decide (i.size≠0))=some true:=κ
  cases hq:Tryz.prog.info? 97 with
  | none=>rw [hq] at h;cases h
  | some i=>rw [hq] at h;exact ⟨i,rfl,of_decide_eq_true (Option.some.inj h)⟩
theorem NdP.eq (h:NdP F A w) {j:Nat} (hj:j<F.N.length) (hk:k<F.N.length) (x y:Operand) :
    (do eqGuard .eql 62 x y (π (A.ad j)) (π (A.ad k));binOp .eql 62 (π (A.ad j)) (π (A.ad k)):Sem Value).run Tryz.prog w=.ok (.bool (decide (j=k))) w:=by
  obtain ⟨i,hi,hz⟩:=Kg
  have e:=h.eqIn hj hk υ62 hi hz 9999
  have e:(Op.equal 62 (π (A.ad j)) (π (A.ad k))).run Tryz.prog w=.ok (decide (j=k)) w:=e
  simp [eqGuard,binOp,Sem.run_bind,e]
end
theorem Td (T:TypeId) {E:TypeId} (hu:Tryz.prog.underlying T=some (.pointer E)) (x y:Operand) (p:Addr) (w:World) :
    (do eqGuard .eql T x y (.pointer none) (.pointer (some p));binOp .eql T (.pointer none) (.pointer (some p)):Sem Value).run Tryz.prog w=.ok (.bool false) w:=by
  have e0:∀ d,(Op.equalIn (d+1) T (.pointer none) (.pointer (some p))).run Tryz.prog w=.ok false w:=fun d=>by simp [Op.equalIn,run_underlying hu]
  have e:(Op.equal T (.pointer none) (.pointer (some p))).run Tryz.prog w=.ok false w:=e0 9999
  simp [eqGuard,binOp,Sem.run_bind,e]
theorem Tc (T:TypeId) {ps rs:Array TypeId} {vr:Bool} (hu:Tryz.prog.underlying T=some (.func ps rs vr)) (x y:Operand) (f:Fn) (a b:Array Value) (w:World) :
    (do eqGuard .eql T x y (.func f a b) .nilFunc;binOp .eql T (.func f a b) .nilFunc:Sem Value).run Tryz.prog w=.ok (.bool false) w:=by
  have e0:∀ d,(Op.equalIn (d+1) T (.func f a b) .nilFunc).run Tryz.prog w=.ok false w:=fun d=>by simp [Op.equalIn,run_underlying hu]
  have e:(Op.equal T (.func f a b) .nilFunc).run Tryz.prog w=.ok false w:=e0 9999
  simp [eqGuard,binOp,Sem.run_bind,e]
theorem Sz (T:TypeId) {ps rs:Array TypeId} {vr:Bool} (hu:Tryz.prog.underlying T=some (.func ps rs vr)) (x y:Operand) (w:World) :
    (do eqGuard .eql T x y .nilFunc .nilFunc;binOp .eql T .nilFunc .nilFunc:Sem Value).run Tryz.prog w=.ok (.bool true) w:=by
  have e0:∀ d,(Op.equalIn (d+1) T .nilFunc .nilFunc).run Tryz.prog w=.ok true w:=fun d=>by simp [Op.equalIn,run_underlying hu]
  have e:(Op.equal T .nilFunc .nilFunc).run Tryz.prog w=.ok true w:=e0 9999
  simp [eqGuard,binOp,Sem.run_bind,e]
section
variable {P:Program} {o:Oper} {a:Act} {N:Nat} {l:List (Nat×Value)}
theorem GG (h:Kn N l a) {x y:Operand} {b:BinOp} {T ty:TypeId} (ho:o.op=.binOp b T x y ty) {v u z:Value} (hx:opv l x=some v) (hy:opv l y=some u) {w:World} (hf:(do eqGuard b T x y v u;binOp b T v u:Sem Value).run P w=.ok z w):(execOp a.eval o).run P w=.ok (.value z) w:=by
  unfold execOp;rw [ho];simp only [h.op hx,h.op hy];exact EB hf
end
end
section
def FsM.nE (F:FsM):FsM:=⟨F.N,F.E,[]⟩
def AdM.nC (A:AdM):AdM:={ A with C:=0 }
def Av (F:FsM) (A:AdM):Ch:=QQ F.nE A.nC
abbrev cP (cf ob:Nat) (F:FsM) (A:AdM):List Ch:=[Ah cf 65 [π (A.ad 0),.map (some ob)],Av F A,AM KO ob A.C (opG F A)]
def AdM.inc (A:AdM):AdM:={ A with B:=A.B+1 }
def AdM.inC (A:AdM):AdM:={ A with C:=A.C+1 }
def AdM.lnk (A:AdM) (k:Nat) (i:Int):AdM:={ A with ld:=fun j=>if j=k then i else A.ld j }
def AdM.new (A:AdM) (n g b:Nat):AdM:={ A with ad:=fun k=>if k=n then g else A.ad k,mb:=fun k=>if k=n then b else A.mb k,ld:=fun k=>if k=n then 1 else A.ld k }
structure NdSet (F:FsM) (A:AdM) (k off:Nat) (v:Value) (F':FsM) (A':AdM):Prop where
  n:F'.N.length=F.N.length
  dir:∀ j,F'.dir j=F.dir j
  ad:A'.ad=A.ad
  mb:A'.mb=A.mb
  B:A'.B=A.B
  E:F'.E=F.E
  eq:ndV F' A' k=splice (ndV F A k) off [v]
  ne:∀ j,j<F.N.length→j≠k→ndV F' A' j=ndV F A j
section
variable {F F':FsM} {A A':AdM} {w w':World} {k off:Nat} {v:Value}
theorem NdP.set (h:NdP F A w) (hk:k<F.N.length) (hs:NdSet F A k off v F' A') (t:Turns (fun b=>b=A.ad k) w w') (hb:Blk w' (A.ad k) 97 (splice (ndV F A k) off [v])):NdP F' A' w' where
  nd j hj:=by
    rw [hs.n] at hj
    rw [hs.ad]
    by_cases e:j=k
    · subst e;rw [hs.eq];exact hb
    · rw [hs.ne j hj e];exact t.blk (h.nd j hj) (fun q=>e (h.inj j k hj hk q))
  mp j hj hd:=by
    rw [hs.n] at hj
    rw [hs.dir] at hd
    have z:=(h.mp j hj hd).turns t (fun q=>LL (h.nd k hk) (h.mp j hj hd) q.symm)
    have e:(fun s=>elA A' (Ai F'.E j s))=fun s=>elA A (Ai F.E j s):=by
      funext s;unfold elA;rw [hs.E,hs.ad]
    rw [hs.mb,hs.B,e];exact z
  inj i j hi hj:=by rw [hs.n] at hi hj;rw [hs.ad];exact h.inj i j hi hj
  minj i j hi hj hdi hdj:=by rw [hs.n] at hi hj;rw [hs.dir] at hdi hdj;rw [hs.mb];exact h.minj i j hi hj hdi hdj
theorem Kv (hn:F'.N.length=F.N.length) (hd:∀ j,F'.dir j=F.dir j) (ha:A'.ad=A.ad) (hm:A'.mb=A.mb):∀ b,(QQ F' A').F b→(QQ F A).F b:=by
  rintro b ⟨j,hj,e⟩
  rw [hn] at hj
  rw [ha,hm,hd] at e
  exact ⟨j,hj,e⟩
theorem NdP.names (h:NdP F A w) (hk:k<F.N.length) (hd:F.dir k=true) {B':Nat} (hN:F'.N=F.N) (hB:A.B≤B') (hE:∀ j,j≠k→∀ t,Ai F'.E j t=Ai F.E j t) (t:Turns (fun b=>b=A.mb k) w w')
    (hm:MapG KN w' (A.mb k) B' (fun s=>elA A (Ai F'.E k s))):NdP F' { A with B:=B' } w':=by
  have hat:∀ j,F'.at j=F.at j:=fun j=>by unfold FsM.at;rw [hN]
  have hdir:∀ j,F'.dir j=F.dir j:=fun j=>congrArg NodeM.dir (hat j)
  have hV:∀ j,ndV F' { A with B:=B' } j=ndV F A j:=fun j=>by unfold ndV AR mpM;rw [hat,hdir]
  exact {
    nd:=fun j hj=>by
      rw [hN] at hj
      rw [hV]
      exact t.blk (h.nd j hj) (fun q=>LL (h.nd j hj) (h.mp k hk hd) q)
    mp:=fun j hj hdj=>by
      rw [hN] at hj
      rw [hdir] at hdj
      by_cases e:j=k
      · subst e;exact hm
      · have z:=((h.mp j hj hdj).turns t (fun q=>e (h.minj j k hj hk hdj hd q))).more hB
        have e2:(fun s=>elA { A with B:=B' } (Ai F'.E j s))=fun s=>elA A (Ai F.E j s):=by
          funext s;unfold elA;rw [hE j e]
        rw [e2];exact z
    inj:=fun i j hi hj=>by rw [hN] at hi hj;exact h.inj i j hi hj
    minj:=fun i j hi hj hdi hdj=>by rw [hN] at hi hj;rw [hdir] at hdi hdj;exact h.minj i j hi hj hdi hdj }
end
section
variable {P:Program} {Q:Exit→Act→World→Prop} {o:Oper} {a:Act} {w w':World} {N:Nat} {l:List (Nat×Value)} {K:Act→World→Prop} {cs:List Ch} {F F':FsM} {A A':AdM} {k off m:Nat}
theorem Ef (h:Kn N l a) (hd:o.dst=none) {T:TypeId} {x y:Operand} (ho:o.op=.store T x y) (hS:Sep w cs) (i:Nat) (hi:cs[i]? = some (Av F A)) (hx:opv l x=some (.pointer (some ⟨A.ad k,off,none⟩))) {u:Value} (hy:opv l y=some u) (hu:u.cells=#[u]) (h1:u.oneCell'=true)
    (hn:(P.info? T).map (·.size)=some 1) (hk:k<F.N.length) (hoff:off<4) (hset:NdSet F.nE A.nC k off u F'.nE A'.nC) {cs':List Ch} (hcs:cs.set i (Av F' A')=cs')
    (K2:∀ a' w',Kn N l a'→Sep w' cs'→K a' w'):Oper.wp P o a w K Q:=by
  have hN:NdP F.nE A.nC w:=hS.get i hi
  have hb:Blk w (A.ad k) 97 (ndV F.nE A.nC k):=hN.nd k hk
  have hlen:(ndV F.nE A.nC k).length=4:=rfl
  have hfit:off+([u]:List Value).length≤(ndV F.nE A.nC k).length:=by rw [hlen];show off+1≤4;omega
  obtain ⟨h2,h3⟩:=Blk.setCells [u] off w (ndV F.nE A.nC k) hb hfit
  have hr:=run_storeAt_mid (P:=P) w (A.ad k) off T #[u] (by simpa using hb.there off 1 hfit) (by simpa using hn) (by simpa using h1)
  have t:Turns (fun b=>b=A.ad k) w (w.setCells (A.ad k) off [u]):=Turns.of_grown h3 rfl
  refine Hr (w':=w.setCells (A.ad k) off [u]) h hd ?_ fun a' h'=>K2 a' _ h' ?_
  · unfold execOp;rw [ho];simp only [h.op hx,h.op hy]
    rw [Sem.run_bind,GD hu,hr]
    rfl
  · rw [← hcs]
    exact hS.upd i hi t (fun b _ e=>⟨k,hk,.inl e⟩) (c':=Av F' A') (hN.set hk hset t h2) (fun b hb=>.inl (Kv hset.n hset.dir hset.ad hset.mb b hb))
theorem FU (h:Kn N l a) (hd:o.dst=none) {T:TypeId} {mm x y:Operand} (ho:o.op=.mapUpdate T mm x y) (hT:T=95) (hS:Sep w cs) (i:Nat) (hi:cs[i]? = some (Av F A)) (hm:opv l mm=some (.map (some (A.mb k)))) {s:ByteArray} (hx:opv l x=some (.string s)) (hy:opv l y=some (π (A.ad m)))
    (hk:k<F.N.length) (hdir:F.dir k=true) (hs:s.size≤maxLen) (hB:A.B<maxLen) (hN:F'.N=F.N) (hE:∀ j t,Ai F'.E j t=if j=k∧t=s then some m else Ai F.E j t) {cs':List Ch} (hcs:cs.set i (Av F' A.inc)=cs')
    (K2:∀ a' w',Kn N l a'→Sep w' cs'→K a' w'):Oper.wp Tryz.prog o a w K Q:=by
  subst hT
  have hP:NdP F.nE A.nC w:=hS.get i hi
  obtain ⟨w',hr,hm',t⟩:=(hP.mp k hk hdir).store hB (i:=s) hs (some (A.ad m))
  have hm2:MapG KN w' (A.mb k) (A.B+1) (fun u=>elA A (Ai F'.nE.E k u)):=by
    have e:HY (fun u=>elA A (Ai F.nE.E k u)) s (some (some (A.ad m)))=fun u=>elA A (Ai F'.nE.E k u):=by
      funext u
      show (if u=s then _ else _)=elA A (Ai F'.E k u)
      rw [hE]
      by_cases q:u=s
      · rw [if_pos q,if_pos ⟨rfl,q⟩];rfl
      · rw [if_neg q,if_neg (fun z=>q z.2)];rfl
    rw [← e];exact hm'
  refine Hr (w':=w') h hd ?_ fun a' h'=>K2 a' _ h' ?_
  · unfold execOp;rw [ho];simp only [h.op hm,h.op hx,h.op hy]
    rw [Sem.run_bind,show (Instr.mapUpdate 95 (.map (some (A.mb k))) (.string s) (π (A.ad m))).run Tryz.prog w=.ok () w' from hr];rfl
  · rw [← hcs]
    refine hS.upd i hi t (fun b _ e=>⟨k,hk,.inr ⟨hdir,e⟩⟩) (c':=Av F' A.inc) (hP.names hk hdir (F':=F'.nE) hN (Nat.le_succ _) (fun j hj u=>by show Ai F'.E j u=_;rw [hE,if_neg (fun q=>hj q.1)];rfl) t hm2) (fun b hb=>.inl ?_)
    exact Kv (F:=F.nE) (F':=F'.nE) (A:=A.nC) (A':=A.inc.nC) (by show F'.N.length=_;rw [hN];rfl) (fun j=>by show (F'.N.getD j Ar).dir=_;rw [hN];rfl) rfl rfl b hb
theorem SX (h:Kn N l a) (hd:o.dst=none) {T T':TypeId} {mm x:Operand} (ho:o.op=.call { callee:=.builtin .delete,args:=#[mm,x],argTypes:=#[T,T'] }) (hT:T=95) (hT':T'=9) (hS:Sep w cs) (i:Nat) (hi:cs[i]? = some (Av F A)) (hm:opv l mm=some (.map (some (A.mb k)))) {s:ByteArray} (hx:opv l x=some (.string s))
    (hk:k<F.N.length) (hdir:F.dir k=true) (hs:s.size≤maxLen) (hN:F'.N=F.N) (hE:∀ j t,Ai F'.E j t=if j=k∧t=s then none else Ai F.E j t) {cs':List Ch} (hcs:cs.set i (Av F' A)=cs')
    (K2:∀ a' w',Kn N l a'→Sep w' cs'→K a' w'):Oper.wp Tryz.prog o a w K Q:=by
  subst hT;subst hT'
  have hP:NdP F.nE A.nC w:=hS.get i hi
  obtain ⟨w',hr,hm',t⟩:=(hP.mp k hk hdir).drop (i:=s) hs o.type
  have hm2:MapG KN w' (A.mb k) A.B (fun u=>elA A (Ai F'.nE.E k u)):=by
    have e:HY (fun u=>elA A (Ai F.nE.E k u)) s none=fun u=>elA A (Ai F'.nE.E k u):=by
      funext u
      show (if u=s then _ else _)=elA A (Ai F'.E k u)
      rw [hE]
      by_cases q:u=s
      · rw [if_pos q,if_pos ⟨rfl,q⟩];rfl
      · rw [if_neg q,if_neg (fun z=>q z.2)];rfl
    rw [← e];exact hm'
  refine Sv (w':=w') h hd (v:=.tuple #[]) ?_ fun a' h'=>K2 a' _ h' ?_
  · unfold execOp;rw [ho]
    have hr':(Builtin.delete_ #[95,9] o.type #[.map (some (A.mb k)),.string s]).run Tryz.prog w=.ok (.tuple #[]) w':=hr
    simp only [resolve,invoke,builtin,Sem.run_bind,Sem.run_pure,Result.andThen_ok,List.map_toArray,List.map_cons,List.map_nil,h.op hm,h.op hx,hr']
  · rw [← hcs]
    refine hS.upd i hi t (fun b _ e=>⟨k,hk,.inr ⟨hdir,e⟩⟩) (c':=Av F' A) (hP.names hk hdir (F':=F'.nE) hN (Nat.le_refl _) (fun j hj u=>by show Ai F'.E j u=_;rw [hE,if_neg (fun q=>hj q.1)];rfl) t hm2) (fun b hb=>.inl ?_)
    exact Kv (F:=F.nE) (F':=F'.nE) (A:=A.nC) (A':=A.nC) (by show F'.N.length=_;rw [hN];rfl) (fun j=>by show (F'.N.getD j Ar).dir=_;rw [hN];rfl) rfl rfl b hb
theorem NX {ob n:Nat} (h:Kn N l a) (hd:o.dst=none) {T:TypeId} {mm x y:Operand} (ho:o.op=.mapUpdate T mm x y) (hT:T=63) (hS:Sep w cs) (i:Nat) (hi:cs[i]? = some (AM KO ob n (opG F A))) (hm:opv l mm=some (.map (some ob))) {c fd:Int} (hx:opv l x=some (.agg #[ν c,ν fd])) (hy:opv l y=some (π (A.ad m)))
    (hw:wfD (c,fd)) (hB:n<maxLen) (hO:∀ c' fd',Az F'.O c' fd'=if c'=c∧fd'=fd then some m else Az F.O c' fd') {cs':List Ch} (hcs:cs.set i (AM KO ob (n+1) (opG F' A))=cs')
    (K2:∀ a' w',Kn N l a'→Sep w' cs'→K a' w'):Oper.wp Tryz.prog o a w K Q:=by
  have e:HY (opG F A) (c,fd) (some (some (A.ad m)))=opG F' A:=by
    funext u
    show (if u=(c,fd) then _ else _)=elA A (Az F'.O u.1 u.2)
    rw [hO]
    by_cases q:u=(c,fd)
    · rw [if_pos q,if_pos ⟨congrArg Prod.fst q,congrArg Prod.snd q⟩];rfl
    · rw [if_neg q,if_neg (fun z=>q (Prod.ext z.1 z.2))];rfl
  exact TF (M:=KO) (p:=(c,fd)) (u:=some (A.ad m)) h hd ho hT hS i hi hm hx hy hB hw (cs':=cs') (by rw [e];exact hcs) (fun a' w' h' s' _=>K2 a' w' h' s')
theorem Rt {ob n:Nat} (h:Kn N l a) (hd:o.dst=none) {T T':TypeId} {mm x:Operand} (ho:o.op=.call { callee:=.builtin .delete,args:=#[mm,x],argTypes:=#[T,T'] }) (hT:T=63) (hT':T'=68) (hS:Sep w cs) (i:Nat) (hi:cs[i]? = some (AM KO ob n (opG F A))) (hm:opv l mm=some (.map (some ob))) {c fd:Int} (hx:opv l x=some (.agg #[ν c,ν fd]))
    (hw:wfD (c,fd)) (hO:∀ c' fd',Az F'.O c' fd'=if c'=c∧fd'=fd then none else Az F.O c' fd') {cs':List Ch} (hcs:cs.set i (AM KO ob n (opG F' A))=cs')
    (K2:∀ a' w',Kn N l a'→Sep w' cs'→K a' w'):Oper.wp Tryz.prog o a w K Q:=by
  have e:HY (opG F A) (c,fd) none=opG F' A:=by
    funext u
    show (if u=(c,fd) then _ else _)=elA A (Az F'.O u.1 u.2)
    rw [hO]
    by_cases q:u=(c,fd)
    · rw [if_pos q,if_pos ⟨congrArg Prod.fst q,congrArg Prod.snd q⟩];rfl
    · rw [if_neg q,if_neg (fun z=>q (Prod.ext z.1 z.2))];rfl
  exact Ui (M:=KO) (p:=(c,fd)) h hd ho hT hT' hS i hi hm hx hw (cs':=cs') (by rw [e];exact hcs) (fun a' w' h' s' _=>K2 a' w' h' s')
end
theorem Fz {F:FsM} {A:AdM} {k:Nat} (hk:k<F.N.length) (d:List UInt8):NdSet F.nE A.nC k 2 (σ d) (BX F k d).nE A.nC:=by
  have ha:∀ j,(BX F k d).nE.at j=if j=k then { F.at k with data:=d } else F.at j:=fun j=>IC hk d j
  have hd:∀ j,(BX F k d).nE.dir j=F.nE.dir j:=fun j=>Hl hk d j
  refine ⟨List.length_set,hd,rfl,rfl,rfl,rfl,?_,fun j hj hne=>?_⟩
  · unfold ndV AR mpM;rw [hd,ha,if_pos rfl];rfl
  · unfold ndV AR mpM;rw [hd,ha,if_neg hne];rfl
theorem Io {F:FsM} {A:AdM} {k:Nat} {i j:Int} (hk:k<F.N.length) (hf:F.dir k=false) (hj:j=(F.at k).links+i):NdSet F.nE A.nC k 1 (ν j) (BE F k i).nE A.nC:=by
  have ha:∀ j,(BE F k i).nE.at j=if j=k then { F.at k with links:=(F.at k).links+i } else F.at j:=fun j=>IL hk i j
  have hd:∀ j,(BE F k i).nE.dir j=F.nE.dir j:=fun j=>DE hk i j
  have hf':F.nE.dir k=false:=hf
  subst hj
  refine ⟨List.length_set,hd,rfl,rfl,rfl,rfl,?_,fun j hj hne=>?_⟩
  · unfold ndV AR mpM;rw [hd,ha,if_pos rfl,hf'];rfl
  · unfold ndV AR mpM;rw [hd,ha,if_neg hne];rfl
theorem Lu {F:FsM} {A:AdM} {k:Nat} {j:Int} (hd:F.dir k=true):NdSet F.nE A.nC k 1 (ν j) F.nE (A.lnk k j).nC:=by
  have hd':F.nE.dir k=true:=hd
  refine ⟨rfl,fun _=>rfl,rfl,rfl,rfl,rfl,?_,fun i hi hne=>?_⟩
  · unfold ndV AR mpM
    rw [hd',show (A.lnk k j).nC.ld k=j from if_pos rfl];rfl
  · unfold ndV AR mpM
    rw [show (A.lnk k j).nC.ld i=A.nC.ld i from if_neg hne];rfl
theorem NdP.join {F:FsM} {A:AdM} {w:World} {δ:Nat→Int} (h:NdP F A w) (hF:FsC F δ∨F.E=[]) {g b:Nat} {dir:Bool} (hb:Blk w g 97 [ν (AP dir),ν 1,σ [],.map (if dir=true then some b else none)]) (hm:dir=true→MapG KN w b A.B (fun _=>none))
    (ha:∀ k,k<F.N.length→g≠A.ad k) (hma:dir=true→∀ k,k<F.N.length→F.dir k=true→b≠A.mb k):NdP (AL F dir) (A.new F.N.length g b) w:=by
  have hE:∀ x∈F.E,x.dn<F.N.length∧x.nd<F.N.length:=fun x hx=>by
    rcases hF with q | q
    · exact ⟨(q.e x hx).1.1,(q.e x hx).2.1.1⟩
    · rw [q] at hx;cases hx
  have hold:∀ k,k<F.N.length→(A.new F.N.length g b).ad k=A.ad k:=fun k hk=>if_neg ω
  have hnew:(A.new F.N.length g b).ad F.N.length=g:=if_pos rfl
  have hlook:∀ k s,elA (A.new F.N.length g b) (Ai F.E k s)=elA A (Ai F.E k s):=fun k s=>by
    cases hl:Ai F.E k s with
    | none=>rfl
    | some m=>
      obtain ⟨x,hx,_,_,e⟩:=BL hl
      show some (some ((A.new F.N.length g b).ad m))=some (some (A.ad m))
      rw [hold m (by rw [← e];exact (hE x hx).2)]
  have hV:∀ k,k<F.N.length→ndV (AL F dir) (A.new F.N.length g b) k=ndV F A k:=fun k hk=>by
    have e1:(AL F dir).at k=F.at k:=by rw [FB,if_neg ω]
    have e2:(AL F dir).dir k=F.dir k:=congrArg NodeM.dir e1
    have e3:(A.new F.N.length g b).ld k=A.ld k:=if_neg ω
    have e4:(A.new F.N.length g b).mb k=A.mb k:=if_neg ω
    unfold ndV AR mpM
    rw [e1,e2,e3,e4]
  have hVn:ndV (AL F dir) (A.new F.N.length g b) F.N.length=[ν (AP dir),ν 1,σ [],.map (if dir=true then some b else none)]:=by
    have e1:(AL F dir).at F.N.length=⟨dir,[],1⟩:=by rw [FB,if_pos rfl]
    have e2:(AL F dir).dir F.N.length=dir:=congrArg NodeM.dir e1
    have e3:(A.new F.N.length g b).ld F.N.length=1:=if_pos rfl
    have e4:(A.new F.N.length g b).mb F.N.length=b:=if_pos rfl
    unfold ndV AR mpM
    rw [e1,e2,e3,e4]
    cases dir<;>rfl
  have hlen:(AL F dir).N.length=F.N.length+1:=CF F dir
  exact {
    nd:=fun k hk=>by
      by_cases e:k=F.N.length
      · subst e;rw [hnew,hVn];exact hb
      · rw [hold k ω,hV k ω];exact h.nd k ω
    mp:=fun k hk hd=>by
      rw [Dr] at hd
      by_cases e:k=F.N.length
      · subst e
        rw [if_pos rfl] at hd
        have e4:(A.new F.N.length g b).mb F.N.length=b:=if_pos rfl
        have e5:(fun s=>elA (A.new F.N.length g b) (Ai (AL F dir).E F.N.length s))=fun _=>none:=by
          funext s
          show elA _ (Ai F.E F.N.length s)=none
          cases hl:Ai F.E F.N.length s with
          | none=>rfl
          | some m=>
            obtain ⟨x,hx,e,_,_⟩:=BL hl
            have:=(hE x hx).1
            omega
        rw [e4,e5];exact hm hd
      · rw [if_neg e] at hd
        have e4:(A.new F.N.length g b).mb k=A.mb k:=if_neg e
        have e5:(fun s=>elA (A.new F.N.length g b) (Ai (AL F dir).E k s))=fun s=>elA A (Ai F.E k s):=by
          funext s;exact hlook k s
        rw [e4,e5];exact h.mp k ω hd
    inj:=fun i j hi hj e=>by
      rw [hlen] at hi hj
      by_cases e1:i=F.N.length<;>by_cases e2:j=F.N.length
      · omega
      · rw [e1,hnew,hold j ω] at e;exact absurd e (ha j ω)
      · rw [e2,hnew,hold i ω] at e;exact absurd e.symm (ha i ω)
      · rw [hold i ω,hold j ω] at e;exact h.inj i j ω ω e
    minj:=fun i j hi hj hdi hdj e=>by
      rw [hlen] at hi hj
      rw [Dr] at hdi hdj
      have em:∀ k,k≠F.N.length→(A.new F.N.length g b).mb k=A.mb k:=fun k hk=>if_neg hk
      have en:(A.new F.N.length g b).mb F.N.length=b:=if_pos rfl
      by_cases e1:i=F.N.length<;>by_cases e2:j=F.N.length
      · omega
      · rw [if_pos e1] at hdi
        rw [if_neg e2] at hdj
        rw [e1,en,em j e2] at e;exact absurd e (hma hdi j ω hdj)
      · rw [if_neg e1] at hdi
        rw [if_pos e2] at hdj
        rw [e2,en,em i e1] at e;exact absurd e.symm (hma hdj i ω hdi)
      · rw [if_neg e1] at hdi
        rw [if_neg e2] at hdj
        rw [em i e1,em j e2] at e;exact h.minj i j ω ω hdi hdj e }
theorem Sep.joinF {F:FsM} {A:AdM} {w:World} {R:List Ch} (hF:FsC F (fun _=>0)) {g:Nat} (h:Sep w (Ah g 97 [ν 1,ν 1,σ [],.map none]::Av F A::R)):Sep w (Av (AL F false) (A.new F.N.length g 0)::R):=by
  have hb:Blk w g _ _:=h.get 0 rfl
  have hN:NdP F.nE A.nC w:=h.get 1 rfl
  have hap:∀ k,k<F.N.length→g≠A.ad k:=fun k hk e=>h.ap 0 1 _ _ ω rfl rfl g rfl ⟨k,hk,.inl e⟩
  have hj:NdP (AL F.nE false) (A.nC.new F.N.length g 0) w:=hN.join (δ:=fun _=>0) (.inl ⟨hF.n0,hF.e,hF.ed,hF.du,(fun x hx=>by cases hx),List.Pairwise.nil,hF.k⟩) (dir:=false) hb (fun q=>by cases q) hap (fun q=>by cases q)
  refine Sep.turn (A:=[_,_]) (A':=[Av (AL F false) (A.new F.N.length g 0)]) h (Turns.refl (fun _=>False) w) (fun k _ e=>e.elim) (Sep.cons (c:=Av (AL F false) (A.new F.N.length g 0)) hj (Sep.nil w) (fun i d e=>by simp at e)) ?_
  intro i c hi b hb'
  cases i with
  | succ i=>simp at hi
  | zero=>
    cases hi
    obtain ⟨k,hk,e⟩:=hb'
    have hlen:(AL F.nE false).N.length=F.N.length+1:=CF F.nE false
    have hk':k<F.N.length+1:=by have:k<(AL F.nE false).N.length:=hk;omega
    by_cases e1:k=F.N.length
    · rcases e with e | ⟨e,_⟩
      · rw [e1,show (A.new F.N.length g 0).nC.ad F.N.length=g from if_pos rfl] at e
        exact .inr ⟨0,_,rfl,e⟩
      · rw [show (AL F false).nE.dir k=(AL F false).dir k from rfl,Dr,if_pos e1] at e;cases e
    · rcases e with e | ⟨e,e2⟩
      · rw [show (A.new F.N.length g 0).nC.ad k=A.ad k from if_neg e1] at e
        exact .inr ⟨1,_,rfl,k,by show k<F.N.length;omega,.inl e⟩
      · rw [show (AL F false).nE.dir k=(AL F false).dir k from rfl,Dr,if_neg e1] at e
        rw [show (A.new F.N.length g 0).nC.mb k=A.mb k from if_neg e1] at e2
        exact .inr ⟨1,_,rfl,k,by show k<F.N.length;omega,.inr ⟨e,e2⟩⟩
theorem Sep.joinD {F:FsM} {A:AdM} {w:World} {R:List Ch} (hF:FsC F (fun _=>0)∨F.E=[]) {g b:Nat} (h:Sep w (Ah g 97 [ν 2,ν 1,σ [],.map (some b)]::AM KN b 0 (fun _=>none)::Av F A::R)):Sep w (Av (AL F true) (A.new F.N.length g b)::R):=by
  have hb:Blk w g _ _:=h.get 0 rfl
  have hm:MapG KN w b 0 (fun _=>none):=h.get 1 rfl
  have hN:NdP F.nE A.nC w:=h.get 2 rfl
  have hap:∀ k,k<F.N.length→g≠A.ad k:=fun k hk e=>h.ap 0 2 _ _ ω rfl rfl g rfl ⟨k,hk,.inl e⟩
  have hap2:∀ k,k<F.N.length→F.dir k=true→b≠A.mb k:=fun k hk hd e=>h.ap 1 2 _ _ ω rfl rfl b rfl ⟨k,hk,.inr ⟨hd,e⟩⟩
  have hj:NdP (AL F.nE true) (A.nC.new F.N.length g b) w:=hN.join (δ:=fun _=>0) (hF.imp (fun hF=>⟨hF.n0,hF.e,hF.ed,hF.du,(fun x hx=>by cases hx),List.Pairwise.nil,hF.k⟩) (fun e=>e)) (dir:=true) hb (fun _=>hm.more (Nat.zero_le _)) hap (fun _=>hap2)
  refine Sep.turn (A:=[_,_,_]) (A':=[Av (AL F true) (A.new F.N.length g b)]) h (Turns.refl (fun _=>False) w) (fun k _ e=>e.elim) (Sep.cons (c:=Av (AL F true) (A.new F.N.length g b)) hj (Sep.nil w) (fun i d e=>by simp at e)) ?_
  intro i c hi q hb'
  cases i with
  | succ i=>simp at hi
  | zero=>
    cases hi
    obtain ⟨k,hk,e⟩:=hb'
    have hlen:(AL F.nE true).N.length=F.N.length+1:=CF F.nE true
    have hk':k<F.N.length+1:=by have:k<(AL F.nE true).N.length:=hk;omega
    by_cases e1:k=F.N.length
    · rcases e with e | ⟨_,e⟩
      · rw [e1,show (A.new F.N.length g b).nC.ad F.N.length=g from if_pos rfl] at e
        exact .inr ⟨0,_,rfl,e⟩
      · rw [e1,show (A.new F.N.length g b).nC.mb F.N.length=b from if_pos rfl] at e
        exact .inr ⟨1,_,rfl,e⟩
    · rcases e with e | ⟨e,e2⟩
      · rw [show (A.new F.N.length g b).nC.ad k=A.ad k from if_neg e1] at e
        exact .inr ⟨2,_,rfl,k,by show k<F.N.length;omega,.inl e⟩
      · rw [show (AL F true).nE.dir k=(AL F true).dir k from rfl,Dr,if_neg e1] at e
        rw [show (A.new F.N.length g b).nC.mb k=A.mb k from if_neg e1] at e2
        exact .inr ⟨2,_,rfl,k,by show k<F.N.length;omega,.inr ⟨e,e2⟩⟩
theorem LW {F:FsM} {A:AdM} (hF:FsC F (fun _=>0)) (g b:Nat):opG F (A.new F.N.length g b)=opG F A:=by
  funext p
  unfold opG elA
  cases hl:Az F.O p.1 p.2 with
  | none=>rfl
  | some m=>
    have:=(hF.look_fd hl).1
    show some (some (if m=F.N.length then g else A.ad m))=some (some (A.ad m))
    rw [if_neg ω]
end
section
open Go.Shelf
def KM:Go.Shelf.Ren:=⟨fun | 105=>86 | 212=>96 | 99=>97 | 165=>98 | 166=>99 | 170=>100 | 169=>101 | 263=>118 | 264=>119 | 206=>120 | 240=>121 | 241=>122 | 276=>134 | 277=>135 | n=>n,fun | 9=>9 | 3=>3 | 4=>4 | 20=>20 | 0=>0 | 46=>145 | 109=>146 | 5=>5 | 72=>151 | 76=>154 | 51=>169 | 146=>172 | 53=>171 | 148=>174 | 70=>148 | 37=>149 | 75=>153 | 127=>176 | 164=>188 | 80=>157 | n=>n,fun | n=>n⟩
theorem SV:Go.Proofs.Lays.n105 Tryz.prog KM:={
  mixed:=κ
  f99:=Tryz.func97.trans (congrArg some κ)
  f105:=Tryz.func86.trans (congrArg some κ)
  f165:=Tryz.func98.trans (congrArg some κ)
  f166:=Tryz.func99.trans (congrArg some κ)
  f169:=Tryz.func101.trans (congrArg some κ)
  f170:=Tryz.func100.trans (congrArg some κ)
  f206:=Tryz.func120.trans (congrArg some κ)
  f212:=Tryz.func96.trans (congrArg some κ)
  f240:=Tryz.func121.trans (congrArg some κ)
  f241:=Tryz.func122.trans (congrArg some κ)
  f263:=Tryz.func118.trans (congrArg some κ)
  f264:=Tryz.func119.trans (congrArg some κ)
  f276:=Tryz.func134.trans (congrArg some κ)
  f277:=Tryz.func135.trans (congrArg some κ)
  t0:=υ0
  a0:=Tryz.isAgg0
  z0:=Tryz.sizeOf0
  v0:=Tryz.zeroValue0
  t3:=υ3
  a3:=Tryz.isAgg3
  z3:=Tryz.sizeOf3
  v3:=Tryz.zeroValue3
  t4:=υ4
  a4:=Tryz.isAgg4
  z4:=Tryz.sizeOf4
  v4:=Tryz.zeroValue4
  t5:=υ5
  a5:=Tryz.isAgg5
  z5:=Tryz.sizeOf5
  v5:=Tryz.zeroValue5
  t9:=υ9
  a9:=Tryz.isAgg9
  z9:=Tryz.sizeOf9
  v9:=Tryz.zeroValue9
  t20:=υ20
  a20:=Tryz.isAgg20
  z20:=Tryz.sizeOf20
  v20:=Tryz.zeroValue20
  t37:=υ149
  a37:=Tryz.isAgg149
  z37:=Tryz.sizeOf149
  v37:=Tryz.zeroValue149
  t46:=υ145
  a46:=Tryz.isAgg145
  z46:=Tryz.sizeOf145
  v46:=Tryz.zeroValue145
  t51:=υ169
  a51:=Tryz.isAgg169
  z51:=Tryz.sizeOf169
  v51:=Tryz.zeroValue169
  t53:=υ171
  a53:=Tryz.isAgg171
  z53:=Tryz.sizeOf171
  v53:=Tryz.zeroValue171
  t70:=υ148
  a70:=Tryz.isAgg148
  z70:=Tryz.sizeOf148
  v70:=Tryz.zeroValue148
  t72:=υ151
  a72:=Tryz.isAgg151
  z72:=Tryz.sizeOf151
  v72:=Tryz.zeroValue151
  t75:=υ153
  a75:=Tryz.isAgg153
  z75:=Tryz.sizeOf153
  v75:=Tryz.zeroValue153
  t76:=υ154
  a76:=Tryz.isAgg154
  z76:=Tryz.sizeOf154
  v76:=Tryz.zeroValue154
  t109:=υ146
  a109:=Tryz.isAgg146
  z109:=Tryz.sizeOf146
  v109:=Tryz.zeroValue146
  t127:=υ176
  a127:=Tryz.isAgg176
  z127:=Tryz.sizeOf176
  v127:=Tryz.zeroValue176
  t146:=υ172
  a146:=Tryz.isAgg172
  z146:=Tryz.sizeOf172
  v146:=Tryz.zeroValue172
  t148:=υ174
  a148:=Tryz.isAgg174
  z148:=Tryz.sizeOf174
  v148:=Tryz.zeroValue174
  t164:=υ188
  a164:=Tryz.isAgg188
  z164:=Tryz.sizeOf188
  v164:=Tryz.zeroValue188 }
theorem Iw:Builder.Extra Tryz.prog KM:={
  sizeBuilder:=κ
  liesBuilder:=κ
  t5:=υ5
  a5:=Tryz.isAgg5
  z5:=Tryz.sizeOf5
  v5:=Tryz.zeroValue5
  infoByte:=κ
  cellsByte:=κ
  sizeByte:=κ
  neB5:=by decide }
open Go.RowKit Go.Lib in
theorem strings_Repeat (s:ByteArray) (c:Nat) (w:World) (hc:c≤9223372036854775807) (hlen:s.size*c≤140737488355328) :
    Calls Tryz.prog 86 #[.string s,ν c] w fun e w'=>e=.returned (.string ⟨(Lib.repeatL s.data.toList c).toArray⟩)∧Below w.heap.size w w':=Any.strings_Repeat SV Iw s c w hc hlen
end
end Go.Proofs.YtcanemamnmmbcaaGreatDoor
