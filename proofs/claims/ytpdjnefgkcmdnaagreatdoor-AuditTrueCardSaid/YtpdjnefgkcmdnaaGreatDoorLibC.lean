/- Long regions walked over an act of which only some slots are known. -/
import Derived.Test.YtpdjnefgkcmdnaaGreatDoorLibO
import Derived.Test.YtpdjnefgkcmdnaaGreatDoorLibR
namespace Go.Proofs.YtpdjnefgkcmdnaaGreatDoor
open Go.RowKit
set_option linter.unusedSimpArgs false
set_option linter.unusedVariables false

/-- an act of N slots, some of them known -/
structure Kn (N:Nat) (l:List (Nat×Value)) (a:Act):Prop where
  size:a.tmps.size=N
  known:∀ x∈l,a.tmps[x.1]? = some x.2
  defs:a.defers=[]
theorem Kn.eval {N:Nat} {l:List (Nat×Value)} {a:Act} (h:Kn N l a) {k:Nat} {v:Value} (hm:(k,v)∈l):a.eval (.tmp k)=v:=by
  have:=h.known _ hm
  show a.tmps.getD k undef=v
  rw [Array.getD_eq_getD_getElem?,this];rfl
/-- the value of a slot, looked up -/
theorem Kn.ev {N:Nat} {l:List (Nat×Value)} {a:Act} (h:Kn N l a) (k:Nat) {v:Value} (hm:l.find? (fun y=>y.1 == k)=some (k,v)):a.eval (.tmp k)=v:=h.eval (List.mem_of_find?_eq_some hm)
theorem Kn.put {N:Nat} {l:List (Nat×Value)} {a:Act} (h:Kn N l a) {d:Nat} (hd:d<N) (hf:∀ x∈l,x.1≠d) (v:Value):Kn N ((d,v)::l) (a.put (some d) v):=by
  refine ⟨by show (a.tmps.setIfInBounds d v).size=N;rw [Array.size_setIfInBounds];exact h.size,fun x hx=>?_,h.defs⟩
  show (a.tmps.setIfInBounds d v)[x.1]? = some x.2
  rw [Array.getElem?_setIfInBounds]
  rcases List.mem_cons.1 hx with rfl | hx
  · rw [if_pos rfl,if_pos (by rw [h.size];exact hd)]
  · rw [if_neg (fun e=>hf x hx e.symm)];exact h.known x hx
theorem Kn.sub {N:Nat} {l l':List (Nat×Value)} {a:Act} (h:Kn N l a) (hs:∀ x∈l',x∈l):Kn N l' a:=⟨h.size,fun x hx=>h.known x (hs x hx),h.defs⟩
/-- freshness of a slot, by a look -/
theorem fr {l:List (Nat×Value)} {d:Nat} (h:l.all (fun x=>!(x.1 == d))=true):∀ x∈l,x.1≠d:=fun x hx e=>by
  have:=List.all_eq_true.1 h x hx
  simp [e] at this
/-- some of what is known, by slots -/
theorem Kn.subs {N:Nat} {l l':List (Nat×Value)} {a:Act} (h:Kn N l a) (hs:(l'.map fun x=>l.find? fun y=>y.1 == x.1)=l'.map some):Kn N l' a:=h.sub fun x hx=>by
  have:some x∈l'.map some:=List.mem_map.2 ⟨x,hx,rfl⟩
  rw [← hs] at this
  obtain ⟨i,_,hi⟩:=List.mem_map.1 this
  exact List.mem_of_find?_eq_some hi
theorem Kn.yields {N:Nat} {l:List (Nat×Value)} {a:Act} (h:Kn N l a) {ops:Array Oper} {g prev:Nat} {b:Bool} (hg:(ops[g]?).bind (·.dst)=some prev) (hm:(prev,.bool b)∈l):yielded ops a.tmps g=some b:=by
  unfold yielded
  rw [hg,Option.bind_some]
  have:=h.known _ hm
  show (match a.tmps[prev]? with | some (.bool b)=>some b | _=>none)=some b
  rw [this]
theorem wanted_of {o:Oper} {y:Nat→Option Bool} {g:Nat} {want b:Bool} (hg:o.guard=some (g,want)) (hy:y g=some b):Region.wanted o y=(b == want):=by
  unfold Region.wanted
  rw [hg]
  simp only [hy]
  cases b<;>cases want<;>rfl
theorem wpk_val {P:Program} {ops:Array Oper} {Q:Exit→Act→World→Prop} {rest:List Oper} {o:Oper} {a:Act} {w w':World} {N:Nat} {l:List (Nat×Value)} (h:Kn N l a) (hw:Region.wanted o (yielded ops a.tmps)=true) {d:Nat} (hd:o.dst=some d) (hdN:d<N) (hf:∀ x∈l,x.1≠d) (v:Value)
    (hr:(execOp a.eval o).run P w=.ok (.value v) w') (k:∀ a',Kn N ((d,v)::l) a'→wpList P ops Q rest a' w'):wpList P ops Q (o::rest) a w:=by
  refine wpList_step fun K hK=>?_
  rw [if_pos hw]
  unfold Oper.wp
  rw [hr,Oper.upon_value,hd]
  exact hK _ _ (k _ (h.put hdN hf v))
theorem wpk_skip {P:Program} {ops:Array Oper} {Q:Exit→Act→World→Prop} {rest:List Oper} {o:Oper} {a:Act} {w:World} {N:Nat} {l:List (Nat×Value)} (h:Kn N l a) (hw:Region.wanted o (yielded ops a.tmps)=false) {d:Nat} (hd:o.dst=some d) (hdN:d<N) (hf:∀ x∈l,x.1≠d)
    (k:∀ a',Kn N ((d,undef)::l) a'→wpList P ops Q rest a' w):wpList P ops Q (o::rest) a w:=by
  refine wpList_skip hw ?_
  rw [hd]
  exact k _ (h.put hdN hf undef)
theorem wanted_none {o:Oper} {y:Nat→Option Bool} (hg:o.guard=none):Region.wanted o y=true:=by unfold Region.wanted;rw [hg]
/-- a field of two structs compared: what the five operations come to -/
structure Cmp (P:Program) (w:World) (T:TypeId) (f:Nat) (Tf:TypeId) (op:BinOp) (gp gq:Nat) (c:Bool) (off:Nat) (vp vq:Value):Prop where
  addr:∀ g,(Instr.fieldAt T (.pointer (some ⟨g,0,none⟩)) f).run P w=.ok (.pointer (some ⟨g,off,none⟩)) w
  lp:(Instr.loadAt Tf (.pointer (some ⟨gp,off,none⟩))).run P w=.ok vp w
  lq:(Instr.loadAt Tf (.pointer (some ⟨gq,off,none⟩))).run P w=.ok vq w
  cmp:∀ x y,(do eqGuard op Tf x y vp vq;binOp op Tf vp vq:Sem Value).run P w=.ok (.bool c) w
theorem run_v {P:Program} {s:Sem Value} {v:Value} {w w':World} (h:s.run P w=.ok v w'):(do pure (Next.value (← s)):Sem Next).run P w=.ok (.value v) w':=by
  rw [Sem.run_bind,h];rfl
theorem run_pick {P:Program} {o:Oper} {x y z:Operand} {w:World} (ho:o.op=.pick x y z) {ρ:Operand→Value} {b:Bool} (hb:ρ x=.bool b) {v:Value} (hv:(if b=true then ρ y else ρ z)=v):(execOp ρ o).run P w=.ok (.value v) w:=by
  subst hv
  unfold execOp
  rw [ho]
  simp only [hb]
  cases b<;>rfl
abbrev L3 (prev:Nat) (b:Bool) (pb qb gp gq:Nat):List (Nat×Value):=[(prev,.bool b),(pb,.pointer (some ⟨gp,0,none⟩)),(qb,.pointer (some ⟨gq,0,none⟩))]
/-- the pointers of two structs -/
abbrev L2 (pb qb gp gq:Nat):List (Nat×Value):=[(pb,.pointer (some ⟨gp,0,none⟩)),(qb,.pointer (some ⟨gq,0,none⟩))]
/-- in a region that draws its order: an operation that yields under S -/
theorem wpk_take {P:Program} {ops:Array Oper} {Q:Exit→Act→World→Prop} {md:Region.Mode} {S:World→Prop} {oi:Oper} {fuel:Nat} {listed:Array Bool} {a:Act} {w:World} {N:Nat} {l:List (Nat×Value)} (hS:S w) (h:Kn N l a) (i:Nat) (hi:ops[i]? = some oi) {d:Nat} (hd:oi.dst=some d) (hdN:d<N) (hf:∀ x∈l,x.1≠d)
    (hs:Region.noSelect ops=true) (hfr:Region.free md ops listed i=true) (hr:(Region.ready md ops listed).contains i=true) (hQ:∀ c a w v,Q (.panic c) (a.put oi.dst v) w→Q (.panic c) a w) (v:Value) (hy:YieldsIf P ops S oi v a)
    (k:∀ a',Kn N ((d,v)::l) a'→wpAnyH P md ops Q S fuel (listed.setIfInBounds i true) a' w):wpAnyH P md ops Q S (fuel+1) listed a w:=
  takeR hi hd hs hfr hr (fun c a w=>hQ c a w v) hy hS (k _ (h.put hdN hf v))
end Go.Proofs.YtpdjnefgkcmdnaaGreatDoor
