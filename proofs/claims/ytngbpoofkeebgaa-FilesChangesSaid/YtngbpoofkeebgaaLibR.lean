/- Regions that draw their order, walked step by step under a condition on the world. -/
import Derived.Test.YtngbpoofkeebgaaLib
import Derived.Deep.RegionHeld
namespace Go.Proofs.Ytngbpoofkeebgaa
open Go.RowKit
set_option linter.unusedSimpArgs false
set_option linter.unusedVariables false

theorem put_someR {a : Act} {d : Option Tmp} {n : Tmp} {v : Value} (h : d = some n) : a.put d v = { a with tmps := a.tmps.setIfInBounds n v } := by subst h; rfl
theorem takeR {P : Program} {ops : Array Oper} {Q : Exit → Act → World → Prop} {md : Region.Mode} {S : World → Prop} {i : Nat} {oi : Oper} {d : Tmp} {v : Value} {fuel : Nat} {listed : Array Bool} {a : Act} {w : World}
    (hi : ops[i]? = some oi) (hd : oi.dst = some d)
    (hs : Region.noSelect ops = true) (hf : Region.free md ops listed i = true) (hr : (Region.ready md ops listed).contains i = true)
    (hQ : ∀ c a w, Q (.panic c) (a.put oi.dst v) w → Q (.panic c) a w) (hy : YieldsIf P ops S oi v a) (hS : S w)
    (h : wpAnyH P md ops Q S fuel (listed.setIfInBounds i true) { tmps := a.tmps.setIfInBounds d v, defers := a.defers } w) : wpAnyH P md ops Q S (fuel + 1) listed a w :=
  wpAnyH_take hi hs hf hr hQ hy hS (by rw [put_someR hd]; exact h)

/-- three cells, and all that was there, behind a world -/
theorem cells3_step {w0 : World} {p1 p2 p3 : Addr} {v1 v2 v3 : Value} {w w' : World} (h : (w.cell? p1 = some v1 ∧ w.cell? p2 = some v2 ∧ w.cell? p3 = some v3) ∧ Below w0.heap.size w0 w) (b : Below w.heap.size w w') :
    (w'.cell? p1 = some v1 ∧ w'.cell? p2 = some v2 ∧ w'.cell? p3 = some v3) ∧ Below w0.heap.size w0 w' :=
  ⟨⟨(b.cell (World.block_lt_of_cell? w _ h.1.1)).trans h.1.1, (b.cell (World.block_lt_of_cell? w _ h.1.2.1)).trans h.1.2.1, (b.cell (World.block_lt_of_cell? w _ h.1.2.2)).trans h.1.2.2⟩, kept_trans h.2 b⟩

end Go.Proofs.Ytngbpoofkeebgaa
