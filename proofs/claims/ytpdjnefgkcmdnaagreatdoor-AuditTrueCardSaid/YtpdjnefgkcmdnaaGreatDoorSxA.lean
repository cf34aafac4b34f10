/- Memory as a list of parts that lie apart. -/
import Derived.Test.YtpdjnefgkcmdnaaGreatDoorLibD
import Derived.Test.YtpdjnefgkcmdnaaGreatDoorPmA
namespace Go.Proofs.YtpdjnefgkcmdnaaGreatDoor
open Go.RowKit
set_option linter.unusedSimpArgs false
set_option linter.unusedVariables false

/-- a part of memory: its blocks, and what holds of them -/
structure Ch where
  F:Nat→Prop
  P:World→Prop
  keep:∀ {w w':World},P w→Turns (fun b=>¬ F b) w w'→P w'
  lt:∀ {w:World},P w→∀ b,F b→b<w.heap.size
/-- parts that lie apart -/
structure Sep (w:World) (cs:List Ch):Prop where
  all:∀ (i:Nat) (c:Ch),cs[i]? = some c→c.P w
  ap:∀ (i j:Nat) (c d:Ch),i≠j→cs[i]? = some c→cs[j]? = some d→∀ b,c.F b→d.F b→False
theorem Sep.get {w:World} {cs:List Ch} (h:Sep w cs) (i:Nat) {c:Ch} (hi:cs[i]? = some c):c.P w:=h.all i c hi
theorem Sep.nil (w:World):Sep w []:=⟨fun i c h=>by simp at h,fun i j c d _ h=>by simp at h⟩
theorem Sep.turns {w w':World} {cs:List Ch} (h:Sep w cs) {X:Nat→Prop} (t:Turns X w w') (hX:∀ k,k<w.heap.size→X k→∀ (i:Nat) (c:Ch),cs[i]? = some c→¬ c.F k):Sep w' cs:=
  ⟨fun i c hi=>c.keep (h.all i c hi) (t.mono' fun k hk hx=>hX k hk hx i c hi),h.ap⟩
theorem Sep.mono {w w':World} {cs:List Ch} (h:Sep w cs) (b:Below w.heap.size w w'):Sep w' cs:=h.turns (X:=fun _=>False) (Turns.of_below b) (fun _ _ e=>e.elim)
theorem Sep.drew {w:World} {cs:List Ch} (h:Sep w cs):Sep w.drew cs:=h.mono (Below.refl _ _).drew
/-- one part is turned -/
theorem Sep.upd {w w':World} {cs:List Ch} (h:Sep w cs) (i:Nat) {c:Ch} (hi:cs[i]? = some c) {X:Nat→Prop} (t:Turns X w w') (hX:∀ k,k<w.heap.size→X k→c.F k) {c':Ch} (hc:c'.P w') (hF:∀ k,c'.F k→c.F k∨w.heap.size≤k):Sep w' (cs.set i c'):=by
  have hil:i<cs.length:=(List.getElem?_eq_some_iff.1 hi).1
  have hset:∀ (j:Nat) (d:Ch),(cs.set i c')[j]? = some d→(j=i∧d=c')∨(j≠i∧cs[j]? = some d):=by
    intro j d hj
    rw [List.getElem?_set] at hj
    split at hj
    · subst_vars;(try rw [if_pos hil] at hj);cases hj;exact .inl ⟨rfl,rfl⟩
    · rename_i hne;exact .inr ⟨fun e=>hne e.symm,hj⟩
  refine ⟨fun j d hj=>?_,fun j k d e hjk hj hk b hd he=>?_⟩
  · rcases hset j d hj with ⟨_,rfl⟩ | ⟨hne,hj⟩
    · exact hc
    · exact d.keep (h.all j d hj) (t.mono' fun k hk hx hd=>h.ap i j c d (fun e=>hne e.symm) hi hj k (hX k hk hx) hd)
  · rcases hset j d hj with ⟨hj1,hj2⟩ | ⟨hnj,hj'⟩
    · rcases hset k e hk with ⟨hk1,hk2⟩ | ⟨hnk,hk'⟩
      · exact hjk (hj1.trans hk1.symm)
      · rw [hj2] at hd
        rcases hF b hd with q | q
        · exact h.ap i k c e (fun q=>hjk (hj1.trans q)) hi hk' b q he
        · have:=e.lt (h.all k e hk') b he;omega
    · rcases hset k e hk with ⟨hk1,hk2⟩ | ⟨hnk,hk'⟩
      · rw [hk2] at he
        rcases hF b he with q | q
        · exact h.ap i j c d (fun q=>hjk (q.symm.trans hk1.symm)) hi hj' b q hd
        · have:=d.lt (h.all j d hj') b hd;omega
      · exact h.ap j k d e hjk hj' hk' b hd he
/-- a new part -/
theorem Sep.push {w w':World} {cs:List Ch} (h:Sep w cs) (b:Below w.heap.size w w') {c:Ch} (hc:c.P w') (hF:∀ k,c.F k→w.heap.size≤k):Sep w' (c::cs):=by
  have h':=h.mono b
  refine ⟨fun i d hi=>?_,fun i j d e hij hi hj k hd he=>?_⟩
  · cases i with
    | zero=>cases hi;exact hc
    | succ i=>exact h'.all i d (by simpa using hi)
  · cases i with
    | zero=>
      cases hi
      cases j with
      | zero=>exact hij rfl
      | succ j=>have:=e.lt (h.all j e (by simpa using hj)) k he;have:=hF k hd;omega
    | succ i=>
      cases j with
      | zero=>cases hj;have:=d.lt (h.all i d (by simpa using hi)) k hd;have:=hF k he;omega
      | succ j=>exact h'.ap i j d e (fun q=>hij (by rw [q])) (by simpa using hi) (by simpa using hj) k hd he
/-- some of the parts, in another order -/
theorem Sep.pick {w:World} {cs out:List Ch} (h:Sep w cs) (is:List Nat) (hn:is.Nodup) (hc:is.map (fun i=>cs[i]?)=out.map some):Sep w out:=by
  have key:∀ (i:Nat) (c:Ch),out[i]? = some c→∃ k,is[i]? = some k∧cs[k]? = some c:=by
    intro i c hi
    have e:(is.map (fun i=>cs[i]?))[i]? = (out.map some)[i]?:=by rw [hc]
    rw [List.getElem?_map,List.getElem?_map,hi] at e
    cases hk:is[i]? with
    | none=>rw [hk] at e;cases e
    | some k=>rw [hk] at e;exact ⟨k,rfl,by simpa using e⟩
  refine ⟨fun i c hi=>?_,fun i j c d hij hi hj b hd he=>?_⟩
  · obtain ⟨k,_,hk⟩:=key i c hi;exact h.all k c hk
  · obtain ⟨k,h1,hk⟩:=key i c hi
    obtain ⟨m,h2,hm⟩:=key j d hj
    refine h.ap k m c d (fun e=>?_) hk hm b hd he
    subst e
    obtain ⟨l1,q1⟩:=List.getElem?_eq_some_iff.1 h1
    obtain ⟨l2,q2⟩:=List.getElem?_eq_some_iff.1 h2
    exact hij ((List.getElem_inj (h₀:=l1) (h₁:=l2) hn).1 (q1.trans q2.symm))
/-- many parts as one -/
def Ch.many (cs:List Ch):Ch where
  F b:=∃ (i:Nat) (c:Ch),cs[i]? = some c∧c.F b
  P w:=Sep w cs
  keep h t:=h.turns t (fun k _ hk i c hi hF=>hk ⟨i,c,hi,hF⟩)
  lt h b:=fun ⟨i,c,hi,hF⟩=>c.lt (h.all i c hi) b hF
theorem Sep.tail_many {w:World}:∀ {xs R:List Ch},Sep w (xs++R)→Sep w (xs++[Ch.many R]):=by
  intro xs R h
  have hl:∀ (i:Nat) (c:Ch),(xs++[Ch.many R])[i]? = some c→xs[i]? = some c∨(i=xs.length∧c=Ch.many R):=by
    intro i c hi
    rcases Nat.lt_trichotomy i xs.length with q | q | q
    · rw [List.getElem?_append_left q] at hi;exact .inl hi
    · subst q;rw [List.getElem?_append_right (Nat.le_refl _),Nat.sub_self] at hi;cases hi;exact .inr ⟨rfl,rfl⟩
    · rw [List.getElem?_append_right (by omega)] at hi
      have:i-xs.length≠0:=by omega
      obtain ⟨n,hn⟩:=Nat.exists_eq_succ_of_ne_zero this
      rw [hn] at hi;simp at hi
  have hL:∀ (i:Nat) (c:Ch),xs[i]? = some c→(xs++R)[i]? = some c:=fun i c hi=>by rw [List.getElem?_append_left (List.getElem?_eq_some_iff.1 hi).1];exact hi
  have hR:∀ (i:Nat) (c:Ch),R[i]? = some c→(xs++R)[xs.length+i]? = some c:=fun i c hi=>by rw [List.getElem?_append_right (by omega),Nat.add_sub_cancel_left];exact hi
  refine ⟨fun i c hi=>?_,fun i j c d hij hi hj b hc hd=>?_⟩
  · rcases hl i c hi with q | ⟨_,rfl⟩
    · exact h.all i c (hL i c q)
    · exact ⟨fun j d hj=>h.all _ d (hR j d hj),fun j k d e hjk hj hk b=>h.ap _ _ d e (by omega) (hR j d hj) (hR k e hk) b⟩
  · rcases hl i c hi with q | ⟨rfl,rfl⟩<;>rcases hl j d hj with r | ⟨rfl,rfl⟩
    · exact h.ap i j c d hij (hL i c q) (hL j d r) b hc hd
    · obtain ⟨k,e,hk,he⟩:=hd
      have:=(List.getElem?_eq_some_iff.1 q).1
      exact h.ap i _ c e (by omega) (hL i c q) (hR k e hk) b hc he
    · obtain ⟨k,e,hk,he⟩:=hc
      have:=(List.getElem?_eq_some_iff.1 r).1
      exact h.ap _ j e d (by omega) (hR k e hk) (hL j d r) b he hd
    · exact hij rfl
theorem Sep.tail_un {w:World}:∀ {xs R:List Ch},Sep w (xs++[Ch.many R])→Sep w (xs++R):=by
  intro xs R h
  have hM:(xs++[Ch.many R])[xs.length]? = some (Ch.many R):=by rw [List.getElem?_append_right (Nat.le_refl _),Nat.sub_self];rfl
  have hs:Sep w R:=h.all _ _ hM
  have hl:∀ (i:Nat) (c:Ch),(xs++R)[i]? = some c→(xs[i]? = some c∧i<xs.length)∨(xs.length≤i∧R[i-xs.length]? = some c):=by
    intro i c hi
    rcases Nat.lt_or_ge i xs.length with q | q
    · rw [List.getElem?_append_left q] at hi;exact .inl ⟨hi,q⟩
    · rw [List.getElem?_append_right q] at hi;exact .inr ⟨q,hi⟩
  have hL:∀ (i:Nat) (c:Ch),xs[i]? = some c→(xs++[Ch.many R])[i]? = some c:=fun i c hi=>by rw [List.getElem?_append_left (List.getElem?_eq_some_iff.1 hi).1];exact hi
  refine ⟨fun i c hi=>?_,fun i j c d hij hi hj b hc hd=>?_⟩
  · rcases hl i c hi with ⟨q,_⟩ | ⟨_,q⟩
    · exact h.all i c (hL i c q)
    · exact hs.all _ c q
  · rcases hl i c hi with ⟨q,q1⟩ | ⟨q1,q⟩<;>rcases hl j d hj with ⟨r,r1⟩ | ⟨r1,r⟩
    · exact h.ap i j c d hij (hL i c q) (hL j d r) b hc hd
    · exact h.ap i xs.length c _ (by omega) (hL i c q) hM b hc ⟨_,d,r,hd⟩
    · exact h.ap xs.length j _ d (by omega) hM (hL j d r) b ⟨_,c,q,hc⟩ hd
    · exact hs.ap _ _ c d (by omega) q r b hc hd
/-- several parts for one, or one for several -/
theorem Sep.swap {w:World} {A B R:List Ch} (h:Sep w (A++R)) (hB:Sep w B) (hF:∀ (i:Nat) (c:Ch),B[i]? = some c→∀ k,c.F k→∃ (j:Nat) (d:Ch),A[j]? = some d∧d.F k):Sep w (B++R):=by
  have hl:∀ (i:Nat) (c:Ch),(B++R)[i]? = some c→(B[i]? = some c∧i<B.length)∨(B.length≤i∧R[i-B.length]? = some c):=by
    intro i c hi
    rcases Nat.lt_or_ge i B.length with q | q
    · rw [List.getElem?_append_left q] at hi;exact .inl ⟨hi,q⟩
    · rw [List.getElem?_append_right q] at hi;exact .inr ⟨q,hi⟩
  have hL:∀ (i:Nat) (c:Ch),A[i]? = some c→(A++R)[i]? = some c:=fun i c hi=>by rw [List.getElem?_append_left (List.getElem?_eq_some_iff.1 hi).1];exact hi
  have hR:∀ (i:Nat) (c:Ch),R[i]? = some c→(A++R)[A.length+i]? = some c:=fun i c hi=>by rw [List.getElem?_append_right (by omega),Nat.add_sub_cancel_left];exact hi
  refine ⟨fun i c hi=>?_,fun i j c d hij hi hj b hc hd=>?_⟩
  · rcases hl i c hi with ⟨q,_⟩ | ⟨_,q⟩
    · exact hB.all i c q
    · exact h.all _ c (hR _ c q)
  · rcases hl i c hi with ⟨q,q1⟩ | ⟨q1,q⟩<;>rcases hl j d hj with ⟨r,r1⟩ | ⟨r1,r⟩
    · exact hB.ap i j c d hij q r b hc hd
    · obtain ⟨k,e,hk,he⟩:=hF i c q b hc
      have:=(List.getElem?_eq_some_iff.1 hk).1
      exact h.ap k _ e d (by omega) (hL k e hk) (hR _ d r) b he hd
    · obtain ⟨k,e,hk,he⟩:=hF j d r b hd
      have:=(List.getElem?_eq_some_iff.1 hk).1
      exact h.ap _ k c e (by omega) (hR _ c q) (hL k e hk) b hc he
    · exact h.ap _ _ c d (by omega) (hR _ c q) (hR _ d r) b hc hd

theorem Sep.cons {w:World} {c:Ch} {cs:List Ch} (hc:c.P w) (h:Sep w cs) (ha:∀ (i:Nat) (d:Ch),cs[i]? = some d→∀ b,c.F b→d.F b→False):Sep w (c::cs):=by
  refine ⟨fun i d hi=>?_,fun i j d e hij hi hj k hd he=>?_⟩
  · cases i with
    | zero=>cases hi;exact hc
    | succ i=>exact h.all i d (by simpa using hi)
  · cases i with
    | zero=>
      cases hi
      cases j with
      | zero=>exact hij rfl
      | succ j=>exact ha j e (by simpa using hj) k hd he
    | succ i=>
      cases j with
      | zero=>cases hj;exact ha i d (by simpa using hi) k he hd
      | succ j=>exact h.ap i j d e (fun q=>hij (by rw [q])) (by simpa using hi) (by simpa using hj) k hd he
/-- some parts are turned by something that turns no others -/
theorem Sep.turn {w w':World} {A A' R:List Ch} (h:Sep w (A++R)) {X:Nat→Prop} (t:Turns X w w') (hX:∀ k,k<w.heap.size→X k→∃ (j:Nat) (d:Ch),A[j]? = some d∧d.F k) (hA:Sep w' A')
    (hF:∀ (i:Nat) (c:Ch),A'[i]? = some c→∀ k,c.F k→w.heap.size≤k∨∃ (j:Nat) (d:Ch),A[j]? = some d∧d.F k):Sep w' (A'++R):=by
  have hR:∀ (i:Nat) (c:Ch),R[i]? = some c→(A++R)[A.length+i]? = some c:=fun i c hi=>by rw [List.getElem?_append_right (by omega),Nat.add_sub_cancel_left];exact hi
  have hL:∀ (i:Nat) (c:Ch),A[i]? = some c→(A++R)[i]? = some c:=fun i c hi=>by rw [List.getElem?_append_left (List.getElem?_eq_some_iff.1 hi).1];exact hi
  have hl:∀ (i:Nat) (c:Ch),(A'++R)[i]? = some c→(A'[i]? = some c∧i<A'.length)∨(A'.length≤i∧R[i-A'.length]? = some c):=by
    intro i c hi
    rcases Nat.lt_or_ge i A'.length with q | q
    · rw [List.getElem?_append_left q] at hi;exact .inl ⟨hi,q⟩
    · rw [List.getElem?_append_right q] at hi;exact .inr ⟨q,hi⟩
  have hx:∀ (i j:Nat) (c d:Ch),A'[i]? = some c→R[j]? = some d→∀ b,c.F b→d.F b→False:=by
    intro i j c d hi hj b hc hd
    rcases hF i c hi b hc with q | ⟨k,e,hk,he⟩
    · have:=d.lt (h.all _ d (hR j d hj)) b hd;omega
    · have:=(List.getElem?_eq_some_iff.1 hk).1
      exact h.ap k _ e d (by omega) (hL k e hk) (hR j d hj) b he hd
  refine ⟨fun i c hi=>?_,fun i j c d hij hi hj b hc hd=>?_⟩
  · rcases hl i c hi with ⟨q,_⟩ | ⟨_,q⟩
    · exact hA.all i c q
    · refine c.keep (h.all _ c (hR _ c q)) (t.mono' fun k hk hx' hF'=>?_)
      obtain ⟨j,d,hj,hd⟩:=hX k hk hx'
      have:=(List.getElem?_eq_some_iff.1 hj).1
      exact h.ap j _ d c (by omega) (hL j d hj) (hR _ c q) k hd hF'
  · rcases hl i c hi with ⟨q,q1⟩ | ⟨q1,q⟩<;>rcases hl j d hj with ⟨r,r1⟩ | ⟨r1,r⟩
    · exact hA.ap i j c d hij q r b hc hd
    · exact hx _ _ c d q r b hc hd
    · exact hx _ _ d c r q b hd hc
    · exact h.ap _ _ c d (by omega) (hR _ c q) (hR _ d r) b hc hd
theorem Sep.left {w:World} {A R:List Ch} (h:Sep w (A++R)):Sep w A:=
  ⟨fun i c hi=>h.all i c (by rw [List.getElem?_append_left (List.getElem?_eq_some_iff.1 hi).1];exact hi),fun i j c d hij hi hj=>h.ap i j c d hij (by rw [List.getElem?_append_left (List.getElem?_eq_some_iff.1 hi).1];exact hi) (by rw [List.getElem?_append_left (List.getElem?_eq_some_iff.1 hj).1];exact hj)⟩
theorem Sep.right {w:World} {A R:List Ch} (h:Sep w (A++R)):Sep w R:=
  ⟨fun i c hi=>h.all (A.length+i) c (by rw [List.getElem?_append_right (by omega),Nat.add_sub_cancel_left];exact hi),fun i j c d hij hi hj=>h.ap (A.length+i) (A.length+j) c d (by omega) (by rw [List.getElem?_append_right (by omega),Nat.add_sub_cancel_left];exact hi) (by rw [List.getElem?_append_right (by omega),Nat.add_sub_cancel_left];exact hj)⟩

/-- all blocks below B are as they were -/
def oldC (w0:World) (B:Nat):Ch where
  F b:=b<B
  P w:=Below B w0 w∧B≤w0.heap.size
  keep h t:=⟨h.1.trans (t.below (Nat.le_trans h.2 h.1.size) (fun k hk=>Nat.le_of_not_lt hk)),h.2⟩
  lt h b hb:=Nat.lt_of_lt_of_le (Nat.lt_of_lt_of_le hb h.2) h.1.size
theorem Sep.start (w:World):Sep w [oldC w w.heap.size]:=
  ⟨fun i c hi=>by cases i with
    | zero=>cases hi;exact ⟨Below.refl _ _,Nat.le_refl _⟩
    | succ i=>simp at hi,fun i j c d hij hi hj=>by cases i with
    | zero=>cases j with
      | zero=>exact absurd rfl hij
      | succ j=>simp at hj
    | succ i=>simp at hi⟩
/-- a block of cells -/
def blkC (g:Nat) (e:TypeId) (L:List Value):Ch where
  F b:=b=g
  P w:=Blk w g e L
  keep h t:=t.blk h (fun q=>q rfl)
  lt h b hb:=hb ▸ h.lt
/-- a slice that the call made -/
def ownC (B:Nat) (e:TypeId) (sz:Nat) (a:Option Addr) (n c:Nat) (cs:List Value):Ch where
  F b:=(Value.slice a n c).ownBlock=some b
  P w:=Own w B e sz a n c cs
  keep {w w'} h t:=by
    obtain ⟨h0,h1⟩:=h
    refine ⟨h0,?_⟩
    rcases h1 with h1 | ⟨g,cap,cur,hv,hg,hh,h1⟩
    · exact .inl h1
    · refine .inr ⟨g,cap,cur,hv,hg,(t.block g (Array.getElem?_eq_some_iff.1 hh).1 (fun hn=>hn ?_)).trans hh,h1⟩
      rw [hv];rfl
  lt h b hb:=(World.ownsRow.lt h b hb).2
end Go.Proofs.YtpdjnefgkcmdnaaGreatDoor
