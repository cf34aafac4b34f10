/- Maps as functions: what a kind of map is. -/
import Derived.Test.YtpdjnefgkcmdnaaGreatDoorPmA
import Derived.DeepKeys4
import Derived.Maps.OwnSet
import Derived.Maps.RangeWalk
namespace Go.Proofs.YtpdjnefgkcmdnaaGreatDoor
open Go.RowKit
open Go.Maps (Keyed)
set_option linter.unusedSimpArgs false
set_option linter.unusedVariables false
set_option maxRecDepth 100000

theorem laidOutL:laidOutB Tryz.prog=true:=by kernel_rfl
theorem typesL:∃ d,Tryz.prog.types.size+1=d+2:=⟨Tryz.prog.types.size-1,by have:1≤Tryz.prog.types.size:=of_decide_eq_true (by kernel_rfl);omega⟩
theorem cellsIL:Tryz.prog.cellsOf 3=1:=by kernel_rfl
theorem keyLitsI (d:Nat) (n:Int) (h:(Lit.int .i64 n).wf=true):Tryz.prog.keyLits (d+1) 3 [.int .i64 n]=some [.int .i64 n]:=by
  unfold Program.keyLits
  rw [Tryz.underlying3]
  simp [h]
theorem keyLitsI_inv {d:Nat} {x:Value} {l:List Lit} (h:Tryz.prog.keyLits (d+1) 3 [x]=some l):∃ n,x=.int .i64 n∧(Lit.int .i64 n).wf=true∧l=[.int .i64 n]:=by
  unfold Program.keyLits at h
  rw [Tryz.underlying3] at h
  cases x with
  | int q n=>
    simp only [] at h
    split at h
    · rename_i hc
      obtain ⟨rfl,hw⟩:=hc
      exact ⟨n,rfl,hw,(Option.some.inj h).symm⟩
    · cases h
  | _=>simp at h
theorem arr_two {α:Type} {cs:Array α} (h:cs.size=2):∃ x y,cs=#[x,y]:=by
  obtain ⟨l⟩:=cs
  match l,h with
  | [x,y],_=>exact ⟨x,y,rfl⟩
/-- a kind of map: its keys, its elements -/
structure MapK (ι α:Type) where
  t:TypeId
  k:TypeId
  e:TypeId
  ok:ι→Prop
  kv:ι→Value
  kl:ι→Lit
  av:α→Value
  ad:α→DataW Unit
  R:Value→Option (DataW Unit×List MemPlace)
  z:α
  law:Keyed Tryz.prog k
  und:Tryz.prog.underlying t=some (.map k e)
  key:∀ {i},ok i→keyOf Tryz.prog k (kv i)=some (kl i)
  inv:∀ {v l},keyOf Tryz.prog k v=some l→∃ i,ok i∧v=kv i∧l=kl i
  inj:∀ {i j},ok i→ok j→kl i=kl j→i=j
  Rmk:∀ a,R (av a)=some (ad a,[])
  Rinv:∀ {v d ps},R v=some (d,ps)→∃ a,v=av a∧d=ad a
  dinj:∀ {a b},ad a=ad b→a=b
  zero:∀ w:World,(zeroValue e).run Tryz.prog w=.ok (av z) w
def intL (i:Int):Lit:=.int .i64 i
section
variable {ι α:Type} (K:MapK ι α) {w:World} {b n r:Nat} {g:ι→Option α}
/-- a map in memory is the function g -/
def MapG (w:World) (b n:Nat) (g:ι→Option α):Prop:=
  ∃ D:DataW Unit,w.ownsMap Tryz.prog K.k K.R b n D∧(∀ i,K.ok i→Maps.has D (K.kl i)=(g i).isSome)∧(∀ i a,K.ok i→g i=some a→∀ z,D.atKey (K.kl i) z=K.ad a)
end
end Go.Proofs.YtpdjnefgkcmdnaaGreatDoor
