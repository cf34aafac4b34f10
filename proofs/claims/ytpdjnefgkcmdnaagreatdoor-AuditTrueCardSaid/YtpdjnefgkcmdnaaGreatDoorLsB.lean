/- What is done to a map, looked at as a function. -/
import Derived.Test.YtpdjnefgkcmdnaaGreatDoorLsA
namespace Go.Proofs.YtpdjnefgkcmdnaaGreatDoor
open Go.RowKit
open Go.Maps (Keyed)
set_option linter.unusedSimpArgs false
set_option linter.unusedVariables false
set_option linter.unusedSectionVars false
set_option maxRecDepth 100000

section
variable {ι α:Type} [DecidableEq ι] {K:MapK ι α} {w w':World} {b n r cnt:Nat} {g:ι→Option α} {left:ι→Bool}
def updG (g:ι→Option α) (i:ι) (a:Option α):ι→Option α:=fun j=>if j=i then a else g j
theorem updG_same (g:ι→Option α) (i:ι) (a:Option α):updG g i a i=a:=if_pos rfl
theorem updG_ne (g:ι→Option α) {i j:ι} (a:Option α) (h:j≠i):updG g i a j=g j:=if_neg h
theorem MapK.lit (K:MapK ι α) {i:ι} (h:K.ok i):WideAt.IsKeyLit (K.kl i):=K.law.key (K.key h)
theorem MapK.ne (K:MapK ι α) {i j:ι} (hi:K.ok i) (hj:K.ok j) (h:j≠i):K.kl j≠K.kl i:=fun e=>h (K.inj hj hi e)
theorem MapK.same (K:MapK ι α) {i j:ι} (hi:K.ok i) (hj:K.ok j):(K.kl j).sameKey (K.kl i)=decide (j=i):=by
  by_cases e:j=i
  · subst e;rw [WideAt.sameKey_self (K.lit hi)];simp
  · cases hs:(K.kl j).sameKey (K.kl i)
    · simp [e]
    · exact absurd (WideAt.sameKey_eq hs) (K.ne hi hj e)
theorem MapG.lt (h:MapG K w b n g):b<w.heap.size:=by obtain ⟨D,h,_⟩:=h;exact h.lt
theorem MapG.turns {X:Nat→Prop} (h:MapG K w b n g) (t:Turns X w w') (hx:¬ X b):MapG K w' b n g:=by
  obtain ⟨D,h1,h2,h3⟩:=h
  exact ⟨D,t.map h1 hx,h2,h3⟩
theorem MapG.mono (h:MapG K w b n g) (bl:Below w.heap.size w w'):MapG K w' b n g:=h.turns (X:=fun _=>False) (Turns.of_below bl) (fun e=>e)
theorem MapG.more (h:MapG K w b n g) {m:Nat} (hm:n≤m):MapG K w b m g:=by
  obtain ⟨D,h1,h2,h3⟩:=h
  exact ⟨D,h1.mono hm,h2,h3⟩
theorem MapG.new (w:World):MapG K (w.alloc (.map #[] 0)) w.heap.size 0 (fun _=>none):=
  ⟨_,World.ownsMap_made w _ _ _,fun i _=>rfl,fun i a _ e=>by cases e⟩
/-- v, ok := m[k] -/
theorem MapG.look (h:MapG K w b n g) {i:ι} (hi:K.ok i):(Instr.lookup K.t (.map (some b)) (K.kv i) true).run Tryz.prog w=.ok (.tuple #[K.av ((g i).getD K.z),.bool (g i).isSome]) w:=by
  obtain ⟨D,h1,h2,h3⟩:=h
  obtain ⟨v,ps,hrun,hR⟩:=h1.look_ok K.law K.und (K.zero w) (K.Rmk K.z) (K.key hi)
  rw [h2 i hi] at hrun
  obtain ⟨a,rfl,ha⟩:=K.Rinv hR
  rw [hrun]
  cases hg:g i with
  | some c=>
    have:=(h3 i c hi hg (K.ad K.z)).symm.trans ha
    rw [K.dinj this];rfl
  | none=>
    have z:=h2 i hi
    rw [hg] at z
    have:=(Maps.atKey_of_not_has z (K.ad K.z)).symm.trans ha
    rw [K.dinj this];rfl
/-- m[k] = v -/
theorem MapG.store (h:MapG K w b n g) (hn:n<maxLen) {i:ι} (hi:K.ok i) (a:α) :
    ∃ w',(Instr.mapUpdate K.t (.map (some b)) (K.kv i) (K.av a)).run Tryz.prog w=.ok () w'∧MapG K w' b (n+1) (updG g i (some a))∧Turns (fun k=>k=b) w w':=by
  obtain ⟨D,h1,h2,h3⟩:=h
  have hm:=h1.isMap
  obtain ⟨w',hrun,h',ht⟩:=h1.store K.law K.und hn (K.key hi) (K.Rmk a)
  refine ⟨w',hrun,⟨_,h',fun j hj=>?_,fun j c hj hc z=>?_⟩,Turns.of_grown ht.grown rfl⟩
  · by_cases e:j=i
    · subst e;rw [updG_same,Maps.has_put_same hm (K.lit hj)];rfl
    · rw [updG_ne _ _ e,Maps.has_put_other (K.ne hi hj e)];exact h2 j hj
  · by_cases e:j=i
    · subst e;rw [updG_same] at hc;cases hc;exact Maps.atKey_put_same hm (K.lit hj) _ _
    · rw [updG_ne _ _ e] at hc;rw [Maps.atKey_put_other (K.ne hi hj e)];exact h3 j c hj hc z
theorem view_del {D:DataW Unit} {i:ι} (hi:K.ok i) (h2:∀ i,K.ok i→Maps.has D (K.kl i)=(g i).isSome) (h3:∀ i a,K.ok i→g i=some a→∀ z,D.atKey (K.kl i) z=K.ad a) :
    (∀ j,K.ok j→Maps.has (D.del (K.kl i)) (K.kl j)=(updG g i none j).isSome)∧(∀ j a,K.ok j→updG g i none j=some a→∀ z,(D.del (K.kl i)).atKey (K.kl j) z=K.ad a):=by
  refine ⟨fun j hj=>?_,fun j c hj hc z=>?_⟩
  · by_cases e:j=i
    · subst e;rw [updG_same,Maps.has_del_same];rfl
    · rw [updG_ne _ _ e,Maps.has_del_other (K.ne hi hj e)];exact h2 j hj
  · by_cases e:j=i
    · subst e;rw [updG_same] at hc;cases hc
    · rw [updG_ne _ _ e] at hc;rw [Maps.atKey_del_other (K.ne hi hj e)];exact h3 j c hj hc z
/-- delete(m, k) -/
theorem MapG.drop (h:MapG K w b n g) {i:ι} (hi:K.ok i) (ty:TypeId) :
    ∃ w',(Builtin.delete_ #[K.t,K.k] ty #[.map (some b),K.kv i]).run Tryz.prog w=.ok (.tuple #[]) w'∧MapG K w' b n (updG g i none)∧Turns (fun k=>k=b) w w':=by
  obtain ⟨D,h1,h2,h3⟩:=h
  obtain ⟨w',hrun,h',ht⟩:=h1.drop K.law K.und (K.key hi) ty
  obtain ⟨v1,v2⟩:=view_del hi h2 h3
  exact ⟨w',hrun,⟨_,h',v1,v2⟩,Turns.of_grown ht.grown rfl⟩
/-- a range under way: left: who is still to come -/
def RanG (K:MapK ι α) (w:World) (b r n:Nat) (g:ι→Option α) (left:ι→Bool) (cnt:Nat):Prop:=
  ∃ (D:DataW Unit) (lf:Lit→Bool),w.ranges Tryz.prog K.k K.R b r n D lf cnt∧(∀ i,K.ok i→Maps.has D (K.kl i)=(g i).isSome)∧(∀ i a,K.ok i→g i=some a→∀ z,D.atKey (K.kl i) z=K.ad a)∧∀ i,K.ok i→lf (K.kl i)=left i
theorem RanG.map (h:RanG K w b r n g left cnt):MapG K w b n g:=by
  obtain ⟨D,lf,h1,h2,h3,_⟩:=h
  exact ⟨D,h1.owns,h2,h3⟩
theorem RanG.ne (h:RanG K w b r n g left cnt):r≠b:=by obtain ⟨D,lf,h1,_⟩:=h;exact h1.ne
theorem RanG.lt (h:RanG K w b r n g left cnt):r<w.heap.size:=by obtain ⟨D,lf,h1,_⟩:=h;exact h1.lt
theorem RanG.turns {X:Nat→Prop} (h:RanG K w b r n g left cnt) (t:Turns X w w') (hb:¬ X b) (hr:¬ X r):RanG K w' b r n g left cnt:=by
  obtain ⟨D,lf,h1,h2,h3,h4⟩:=h
  refine ⟨D,lf,?_,h2,h3,h4⟩
  have q1:=h1.owns.lt
  have q2:=h1.lt
  obtain ⟨es,clock,since,seen,c0,hb',F,hs,hD,hr',rest⟩:=h1
  exact ⟨es,clock,since,seen,c0,(t.block b q1 hb).trans hb',F,hs,hD,(t.block r q2 hr).trans hr',rest⟩
theorem RanG.mono (h:RanG K w b r n g left cnt) (bl:Below w.heap.size w w'):RanG K w' b r n g left cnt:=h.turns (X:=fun _=>False) (Turns.of_below bl) (fun e=>e) (fun e=>e)
theorem RanG.congr {g':ι→Option α} {left':ι→Bool} (h:RanG K w b r n g left cnt) (hg:∀ i,K.ok i→g' i=g i) (hl:∀ i,K.ok i→left' i=left i):RanG K w b r n g' left' cnt:=by
  obtain ⟨D,lf,h1,h2,h3,h4⟩:=h
  exact ⟨D,lf,h1,fun i hi=>by rw [hg i hi];exact h2 i hi,fun i a hi ha=>h3 i a hi (by rw [← hg i hi];exact ha),fun i hi=>by rw [hl i hi];exact h4 i hi⟩
/-- range m -/
theorem MapG.range (h:MapG K w b n g):∃ w',(Instr.range K.t (.map (some b))).run Tryz.prog w=.ok (.pointer (some ⟨w.heap.size,0,none⟩)) w'∧(∃ cnt,RanG K w' b w.heap.size n g (fun i=>(g i).isSome) cnt)∧Below w.heap.size w w':=by
  obtain ⟨D,h1,h2,h3⟩:=h
  obtain ⟨w',hrun,r1,r2,r3⟩:=h1.range K.law K.und
  exact ⟨w',hrun,⟨_,D,_,r1,h2,h3,fun i hi=>h2 i hi⟩,⟨r2.os,r2.tape,r2.output,r2.size,fun k hk=>r2.block k hk (by simp)⟩⟩
/-- the next of a range -/
theorem RanG.next (h:RanG K w b r n g left cnt) (ty:TypeId) :
    ((∀ i,K.ok i→left i=false)∧(Instr.next (.pointer (some ⟨r,0,none⟩)) false ty).run Tryz.prog w=.ok (.tuple #[.bool false]) w) ∨
    ∃ i a w' cnt',K.ok i∧left i=true∧g i=some a∧(Instr.next (.pointer (some ⟨r,0,none⟩)) false ty).run Tryz.prog w=.ok (.tuple #[.bool true,K.kv i,K.av a]) w' ∧
      RanG K w' b r n g (fun j=>left j&&!decide (j=i)) cnt'∧cnt'<cnt∧Turns (fun k=>k=r) w w'∧(Instr.entry (.pointer (some ⟨r,0,none⟩))).run Tryz.prog w'=.ok (.tuple #[K.kv i,K.av a]) w':=by
  obtain ⟨D,lf,h1,h2,h3,h4⟩:=h
  rcases h1.next K.law ty with ⟨_,hl,hrun⟩ | ⟨key,v,kl,y,w',cnt',hkey,hlk,hv,hat,hrun,hrg,hlt,hgr,hsz,hen⟩
  · exact .inl ⟨fun i hi=>by rw [← h4 i hi];exact hl _,hrun⟩
  · obtain ⟨i,hi,rfl,rfl⟩:=K.inv hkey
    obtain ⟨a,rfl,ha⟩:=K.Rinv (show K.R v=some (y.1,y.2) from hv)
    have hh:=h2 i hi
    rw [Maps.has_true_of_atKey hat] at hh
    obtain ⟨c,hc⟩:=Option.isSome_iff_exists.1 hh.symm
    have e:=(h3 i c hi hc (K.ad a)).symm.trans ((hat _).trans ha)
    obtain rfl:=K.dinj e
    refine .inr ⟨i,c,w',cnt',hi,by rw [← h4 i hi];exact hlk,hc,hrun,⟨D,_,hrg,h2,h3,fun j hj=>?_⟩,hlt,Turns.of_grown hgr rfl,hen⟩
    rw [h4 j hj,K.same hi hj]
/-- delete within a range -/
theorem RanG.drop (h:RanG K w b r n g left cnt) {i:ι} (hi:K.ok i) (ty:TypeId) :
    ∃ w' cnt',(Builtin.delete_ #[K.t,K.k] ty #[.map (some b),K.kv i]).run Tryz.prog w=.ok (.tuple #[]) w'∧RanG K w' b r n (updG g i none) (fun j=>left j&&!decide (j=i)) cnt'∧cnt'≤cnt∧Turns (fun k=>k=b) w w':=by
  obtain ⟨D,lf,h1,h2,h3,h4⟩:=h
  obtain ⟨w',cnt',hrun,h',hc,ht⟩:=h1.drop K.law K.und (K.key hi) ty
  obtain ⟨v1,v2⟩:=view_del hi h2 h3
  exact ⟨w',cnt',hrun,⟨_,_,h',v1,v2,fun j hj=>by rw [h4 j hj,K.same hi hj]⟩,hc,Turns.of_grown ht.grown rfl⟩
end
end Go.Proofs.YtpdjnefgkcmdnaaGreatDoor
