/- Maps among the parts of memory. -/
import Derived.Test.YtpdjnefgkcmdnaaGreatDoorSxC
import Derived.Test.YtpdjnefgkcmdnaaGreatDoorLsB
namespace Go.Proofs.YtpdjnefgkcmdnaaGreatDoor
open Go.RowKit
set_option linter.unusedSimpArgs false
set_option linter.unusedVariables false
set_option linter.unusedSectionVars false

section
variable {ι α:Type} [DecidableEq ι] {K:MapK ι α} {w w':World} {b n r cnt:Nat} {g:ι→Option α} {left:ι→Bool}
/-- v := m[k] -/
theorem MapG.look1 (h:MapG K w b n g) {i:ι} (hi:K.ok i):(Instr.lookup K.t (.map (some b)) (K.kv i) false).run Tryz.prog w=.ok (K.av ((g i).getD K.z)) w:=by
  obtain ⟨D,h1,h2,h3⟩:=h
  obtain ⟨v,ps,hrun,hR⟩:=h1.lookup K.law K.und (K.zero w) (K.Rmk K.z) (K.key hi)
  obtain ⟨a,rfl,ha⟩:=K.Rinv hR
  rw [hrun]
  cases hg:g i with
  | some c=>
    have:=(h3 i c hi hg (K.ad K.z)).symm.trans ha
    rw [K.dinj this];rfl
  | none=>
    have z:=h2 i hi
    rw [hg] at z
    have:=(Maps.atKey_of_not_has z (K.ad K.z)).symm.trans ha
    rw [K.dinj this];rfl
def mapC (K:MapK ι α) (b n:Nat) (g:ι→Option α):Ch where
  F k:=k=b
  P w:=MapG K w b n g
  keep h t:=h.turns t (fun q=>q rfl)
  lt h k hk:=hk ▸ h.lt
def ranC (K:MapK ι α) (b r n:Nat) (g:ι→Option α) (left:ι→Bool) (cnt:Nat):Ch where
  F k:=k=b∨k=r
  P w:=RanG K w b r n g left cnt
  keep h t:=h.turns t (fun q=>q (.inl rfl)) (fun q=>q (.inr rfl))
  lt h k hk:=by rcases hk with rfl | rfl;exact h.map.lt;exact h.lt
end
section
variable {ι α:Type} [DecidableEq ι] {M:MapK ι α} {b n r cnt:Nat} {g:ι→Option α} {left:ι→Bool} {Q:Exit→Act→World→Prop} {o:Oper} {a:Act} {w w':World} {N:Nat} {l:List (Nat×Value)} {K:Act→World→Prop} {cs:List Ch}
theorem xmakeMap (M:MapK ι α) (h:Kn N l a) {d:Nat} (hd:o.dst=some d) (hdN:decide (d<N)=true) (hf:l.all (fun x=>!(x.1 == d))=true) {T:TypeId} (ho:o.op=.makeMap T none) (hS:Sep w cs)
    (k:∀ a' b w',Kn N ((d,.map (some b))::l) a'→Sep w' (mapC M b 0 (fun _=>none)::cs)→(∃ o,w'=w.alloc o)→b=w.heap.size→K a' w'):Oper.wp Tryz.prog o a w K Q:=
  xval h hd hdN hf (v:=.map (some w.heap.size)) (w':=w.alloc (.map #[] 0)) (by unfold execOp;rw [ho];rfl) fun a' h'=>k a' _ _ h' (hS.push (albO _ _) (MapG.new w) (fun k e=>by cases e;exact Nat.le_refl _)) ⟨_,rfl⟩ rfl
theorem xput (h:Kn N l a) (hd:o.dst=none) {T:TypeId} {m x y:Operand} (ho:o.op=.mapUpdate T m x y) (hT:T=M.t) (hS:Sep w cs) (i:Nat) (hi:cs[i]? = some (mapC M b n g)) (hm:opv l m=some (.map (some b))) {p:ι} {u:α} (hx:opv l x=some (M.kv p)) (hy:opv l y=some (M.av u)) (hn:n<maxLen) (hp:M.ok p)
    {cs':List Ch} (hcs:cs.set i (mapC M b (n+1) (updG g p (some u)))=cs') (k:∀ a' w',Kn N l a'→Sep w' cs'→Turns (fun k=>k=b) w w'→K a' w'):Oper.wp Tryz.prog o a w K Q:=by
  subst hT
  obtain ⟨w',hr,hm',t⟩:=(hS.get i hi:MapG M w b n g).store hn hp u
  refine op_skip (w':=w') h hd ?_ fun a' h'=>k a' _ h' (by rw [← hcs];exact hS.upd i hi t (fun k _ e=>e) hm' (fun k e=>.inl e)) t
  unfold execOp;rw [ho];simp only [h.op hm,h.op hx,h.op hy]
  rw [Sem.run_bind,hr];rfl
theorem xdel (h:Kn N l a) (hd:o.dst=none) {T T':TypeId} {m x:Operand} (ho:o.op=.call { callee:=.builtin .delete,args:=#[m,x],argTypes:=#[T,T'] }) (hT:T=M.t) (hT':T'=M.k) (hS:Sep w cs) (i:Nat) (hi:cs[i]? = some (mapC M b n g)) (hm:opv l m=some (.map (some b))) {p:ι} (hx:opv l x=some (M.kv p)) (hp:M.ok p)
    {cs':List Ch} (hcs:cs.set i (mapC M b n (updG g p none))=cs') (k:∀ a' w',Kn N l a'→Sep w' cs'→Turns (fun k=>k=b) w w'→K a' w'):Oper.wp Tryz.prog o a w K Q:=by
  subst hT;subst hT'
  obtain ⟨w',hr,hm',t⟩:=(hS.get i hi:MapG M w b n g).drop hp o.type
  refine xval0 (w':=w') h hd (v:=.tuple #[]) ?_ fun a' h'=>k a' _ h' (by rw [← hcs];exact hS.upd i hi t (fun k _ e=>e) hm' (fun k e=>.inl e)) t
  unfold execOp;rw [ho]
  simp only [resolve,invoke,builtin,Sem.run_bind,Sem.run_pure,Result.andThen_ok,List.map_toArray,List.map_cons,List.map_nil,h.op hm,h.op hx,hr]
end
end Go.Proofs.YtpdjnefgkcmdnaaGreatDoor
