/- All stays but some blocks; a set of numbers kept as a map; a memory as it lies. -/
import Derived.Test.YtpdjnefgkcmdnaaGreatDoorPmP
import Derived.Test.YtpdjnefgkcmdnaaGreatDoorLibI
import Derived.Maps.RangeWalk
import Derived.Maps.OwnIn
namespace Go.Proofs.YtpdjnefgkcmdnaaGreatDoor
open Go.RowKit
set_option linter.unusedSimpArgs false
set_option linter.unusedVariables false

/-- every block stays but those that X names -/
structure Turns (X:Nat→Prop) (w w':World):Prop where
  os:w'.os=w.os
  tape:w'.tape=w.tape
  output:w'.output=w.output
  size:w.heap.size≤w'.heap.size
  block:∀ k,k<w.heap.size→¬ X k→w'.heap[k]? = w.heap[k]?
theorem Turns.refl (X:Nat→Prop) (w:World):Turns X w w:=⟨rfl,rfl,rfl,Nat.le_refl _,fun _ _ _=>rfl⟩
theorem Turns.trans {X:Nat→Prop} {w w1 w2:World} (a:Turns X w w1) (b:Turns X w1 w2):Turns X w w2:=
  ⟨b.os.trans a.os,b.tape.trans a.tape,b.output.trans a.output,Nat.le_trans a.size b.size,fun k hk hx=>(b.block k (Nat.lt_of_lt_of_le hk a.size) hx).trans (a.block k hk hx)⟩
theorem Turns.mono {X Y:Nat→Prop} {w w':World} (a:Turns X w w') (h:∀ k,X k→Y k):Turns Y w w':=⟨a.os,a.tape,a.output,a.size,fun k hk hy=>a.block k hk (fun hx=>hy (h k hx))⟩
/-- what is turned beyond the old world's end does not count -/
theorem Turns.mono' {X Y:Nat→Prop} {w w':World} (a:Turns X w w') (h:∀ k,k<w.heap.size→X k→Y k):Turns Y w w':=⟨a.os,a.tape,a.output,a.size,fun k hk hy=>a.block k hk (fun hx=>hy (h k hk hx))⟩
theorem Turns.of_grown {X:Nat→Prop} {w w':World} {g:Nat} (h:w.grownBy w' (some g)) (hx:X g):Turns X w w':=
  ⟨h.os,h.tape,h.output,h.size,fun k hk hn=>h.block k hk (fun e=>hn (by cases e;exact hx))⟩
theorem Turns.of_below {X:Nat→Prop} {w w':World} (h:Below w.heap.size w w'):Turns X w w':=⟨h.os,h.tape,h.output,h.size,fun k hk _=>h.block k hk⟩
theorem Turns.below {X:Nat→Prop} {B:Nat} {w w':World} (h:Turns X w w') (hB:B≤w.heap.size) (hx:∀ k,X k→B≤k):Below B w w':=
  ⟨h.os,h.tape,h.output,h.size,fun k hk=>h.block k (Nat.lt_of_lt_of_le hk hB) (fun q=>by have:=hx k q;omega)⟩
theorem Turns.drew {X:Nat→Prop} {w w':World} (h:Turns X w w'):Turns X w w'.drew:=⟨h.os,h.tape,h.output,h.size,h.block⟩
theorem Turns.drewN {X:Nat→Prop} {w w':World} (h:Turns X w w') (n:Nat):Turns X w (w'.drewN n):=⟨h.os,h.tape,h.output,h.size,h.block⟩
theorem Turns.alloc {X:Nat→Prop} {w w':World} (h:Turns X w w') (o:Obj):Turns X w (w'.alloc o):=h.trans (Turns.of_below (albO w' o))
theorem Turns.setCell {X:Nat→Prop} {w w':World} (h:Turns X w w') {p:Addr} (hp:X p.block) (v:Value):Turns X w (w'.setCell p v):=
  h.trans ⟨rfl,rfl,rfl,by simp [World.setCell],fun k _ hn=>Below.heap_setCell _ _ _ _ (by rintro rfl;exact hn hp)⟩
theorem Turns.blk {X:Nat→Prop} {w w':World} {g:Nat} {e:TypeId} {L:List Value} (t:Turns X w w') (h:Blk w g e L) (hx:¬ X g):Blk w' g e L:=(t.block g h.lt hx).trans h
theorem Turns.row {X:Nat→Prop} {w w':World} {sz:Nat} {a:Option Addr} {n c:Nat} {cs:List Value} (t:Turns X w w') (h:Row w sz a n c cs) (hx:0<n→∀ b,(∃ off,a=some ⟨b,off,none⟩)→¬ X b):Row w' sz a n c cs:=by
  obtain ⟨h1,h2,h3,h4,h5⟩:=h
  refine ⟨h1,h2,h3,h4,fun hn=>?_⟩
  obtain ⟨b,off,e,hlt,hc⟩:=h5 hn
  refine ⟨b,off,e,Nat.lt_of_lt_of_le hlt t.size,fun j u hu=>?_⟩
  rw [← hc j u hu]
  exact World.cell?_of_block (t.block b hlt (hx hn b ⟨off,e⟩))
theorem Turns.map {X:Nat→Prop} {w w':World} {H:Type} {P:Program} {k:TypeId} {R:Value→Option (DataW H×List MemPlace)} {b n:Nat} {D:DataW H} (t:Turns X w w') (h:w.ownsMap P k R b n D) (hx:¬ X b):w'.ownsMap P k R b n D:=by
  have hlt:=h.lt
  obtain ⟨es,clock,hb,F,hs,hD⟩:=h
  exact ⟨es,clock,(t.block b hlt hx).trans hb,F,hs,hD⟩
theorem Turns.own {X:Nat→Prop} {w w':World} {B:Nat} {e:TypeId} {sz:Nat} {a:Option Addr} {n c:Nat} {cs:List Value} (t:Turns X w w') (h:Own w B e sz a n c cs) (hx:∀ k,X k→k<B):Own w' B e sz a n c cs:=by
  refine ⟨h.1,?_⟩
  rcases h.2 with hn | ⟨b,cap,cur,hv,hb,hh,rest⟩
  · exact .inl hn
  · exact .inr ⟨b,cap,cur,hv,hb,(t.block b (Array.getElem?_eq_some_iff.1 hh).1 (fun q=>by have:=hx b q;omega)).trans hh,rest⟩
/-! ### a set of numbers below n, as a map -/
def pendB (A:List Bool) (k:Int):Bool:=decide (0≤k)&&A.getD k.toNat false
theorem pendB_nat (A:List Bool) (k:Nat):pendB A (k:Int)=A.getD k false:=by simp [pendB]
def PendP (w:World) (p:Nat) (A:List Bool):Prop:=
  ∃ (D:DataW Unit) (n:Nat),w.ownsMap Tryz.prog 3 unitElem p n D∧(∀ k:Int,Maps.has D (.int .i64 k)=pendB A k)∧Maps.size D=A.count true
theorem keyedI:Maps.Keyed Tryz.prog 3:=Maps.int_keyed Tryz.underlying3
theorem keyI (k:Int) (h:(Lit.int .i64 k).wf=true):keyOf Tryz.prog 3 (.int .i64 k)=some (.int .i64 k):=Maps.keyOf_int_mk Tryz.underlying3 h
theorem isKeyI (k:Int) (h:(Lit.int .i64 k).wf=true):WideAt.IsKeyLit (.int .i64 k):=keyedI.key (keyI k h)
theorem pendB_set (A:List Bool) (k:Nat) (b:Bool) (hk:k<A.length) (i:Int):pendB (A.set k b) i=if i=k then b else pendB A i:=by
  unfold pendB
  by_cases e:i=k
  · subst e;simp [hk]
  · rw [if_neg e]
    by_cases h0:0≤i
    · simp only [List.getD_eq_getElem?_getD,List.getElem?_set]
      rw [if_neg (by omega)]
    · simp [h0]
theorem count_set_true (A:List Bool) (k:Nat) (hk:k<A.length):(A.set k true).count true+(if A.getD k false then 1 else 0)=A.count true+1:=by
  rw [List.count_set hk]
  simp [hk]
  cases h:A[k]
  · simp
  · have:0<A.count true:=List.count_pos_iff.2 (h ▸ List.getElem_mem hk)
    simp;omega
theorem count_set_false (A:List Bool) (k:Nat) (hk:k<A.length):(A.set k false).count true+(if A.getD k false then 1 else 0)=A.count true:=by
  rw [List.count_set hk]
  simp [hk]
  cases h:A[k]
  · simp
  · have:0<A.count true:=List.count_pos_iff.2 (h ▸ List.getElem_mem hk)
    simp;omega
theorem PendP.del {w w':World} {p:Nat} {A:List Bool} {D:DataW Unit} {n k:Nat} (hk:k<A.length) (hw:k≤1000000) (h:w.ownsMap Tryz.prog 3 unitElem p n D) (h1:∀ k:Int,Maps.has D (.int .i64 k)=pendB A k) (h2:Maps.size D=A.count true)
    (h':w'.ownsMap Tryz.prog 3 unitElem p n (D.del (.int .i64 k))):PendP w' p (A.set k false):=by
  refine ⟨_,n,h',fun i=>?_,?_⟩
  · rw [pendB_set A k false hk]
    by_cases e:i=k
    · subst e;rw [if_pos rfl,Maps.has_del_same]
    · rw [if_neg e,Maps.has_del_other (by simpa using e),h1]
  · have h3:=Maps.size_del (k:=.int .i64 (k:Int)) (h.tidy keyedI)
    have h4:=count_set_false A k hk
    rw [h1,pendB_nat] at h3
    omega
theorem PendP.put {w w':World} {p:Nat} {A:List Bool} {D:DataW Unit} {n m k:Nat} (hk:k<A.length) (hw:k≤1000000) (h:w.ownsMap Tryz.prog 3 unitElem p n D) (h1:∀ k:Int,Maps.has D (.int .i64 k)=pendB A k) (h2:Maps.size D=A.count true)
    (h':w'.ownsMap Tryz.prog 3 unitElem p m (D.put (.int .i64 k) (.agg []))):PendP w' p (A.set k true):=by
  have hwf:(Lit.int .i64 (k:Int)).wf=true:=WalkArith.wf_i64 (by omega)
  refine ⟨_,m,h',fun i=>?_,?_⟩
  · rw [pendB_set A k true hk]
    by_cases e:i=k
    · subst e;rw [if_pos rfl,Maps.has_put_same h.isMap (isKeyI _ hwf)]
    · rw [if_neg e,Maps.has_put_other (by simpa using e),h1]
  · have h3:=Maps.size_put (k:=.int .i64 (k:Int)) (h.tidy keyedI) (.agg [])
    have h4:=count_set_true A k hk
    rw [h1,pendB_nat] at h3
    cases h5:A.getD k false<;>simp only [h5,if_true,if_false,Bool.false_eq_true] at h3 h4<;>omega
theorem PendP.made (w:World) (n:Nat):PendP (w.alloc (.map #[] 0)) w.heap.size (tabF n fun _=>false):=by
  refine ⟨_,0,World.ownsMap_made w _ _ _,fun k=>?_,?_⟩
  · have:pendB (tabF n fun _=>false) k=false:=by
      unfold pendB tabF
      simp only [Bool.and_eq_false_iff]
      right
      simp only [List.getD_eq_getElem?_getD,List.getElem?_map]
      cases (List.range n)[k.toNat]?<;>rfl
    rw [this];rfl
  · have:(tabF n fun _=>false).count true=0:=by
      rw [List.count_eq_zero];simp [tabF]
    rw [this];rfl

/-! ### a memory as it lies; the document's memory -/