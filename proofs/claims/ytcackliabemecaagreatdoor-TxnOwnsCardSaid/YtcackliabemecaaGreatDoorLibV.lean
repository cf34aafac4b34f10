/- Whole structs and arrays loaded in a region that draws its order. -/
import Derived.Test.YtcackliabemecaaGreatDoorLibR
import Derived.Deep.MidRow
namespace Go.Proofs.YtcackliabemecaaGreatDoor
open Go.RowKit
set_option linter.unusedSimpArgs false
set_option linter.unusedVariables false

theorem range_below {w w' : World} {g o : Nat} {cs : List Value} (h : w.rangeAt g o cs) (hb : Below w.heap.size w w') : w'.rangeAt g o cs := fun j v hv => by
  have := h j v hv
  exact (hb.cell (World.block_lt_of_cell? w _ this)).trans this
theorem At.step {w0 : World} {g o : Nat} {cs : List Value} {w w' : World} (h : w.rangeAt g o cs ∧ Below w0.heap.size w0 w) (hb : Below w.heap.size w w') : w'.rangeAt g o cs ∧ Below w0.heap.size w0 w' :=
  ⟨range_below h.1 hb, kept_trans h.2 hb⟩
theorem Blk.range {w : World} {g : Nat} {e : TypeId} {L : List Value} (h : Blk w g e L) : w.rangeAt g 0 L := fun j v hv => by
  obtain ⟨h1, h2⟩ := List.getElem?_eq_some_iff.1 hv
  rw [Nat.zero_add, h.cell h1, h2]
theorem wpAnyH_loadC {P : Program} {ops : Array Oper} {Q : Exit → Act → World → Prop} {md : Region.Mode} {S : World → Prop} {i : Nat} {oi : Oper} {d : Tmp} {fuel : Nat} {listed : Array Bool} {a : Act} {w : World}
    (T : TypeId) (x : Operand) (g o : Nat) (L : List Value) (k : TypeDesc) (hi : ops[i]? = some oi) (hd : oi.dst = some d) (ho : oi.op = .load T x) (hx : a.eval x = .pointer (some ⟨g, o, none⟩)) (hw : Region.wanted oi (yielded ops a.tmps) = true)
    (hu : P.underlying T = some k) (hk : k.isRow = true) (hn : (P.info? T).map (·.size) = some L.length)
    (hs : Region.noSelect ops = true) (hf : Region.free md ops listed i = true) (hr : (Region.ready md ops listed).contains i = true)
    (hQ : ∀ c a w, Q (.panic c) (a.put oi.dst (.agg L.toArray)) w → Q (.panic c) a w) (hc : ∀ w', S w' → w'.rangeAt g o L) (hS : S w)
    (h : wpAnyH P md ops Q S fuel (listed.setIfInBounds i true) { tmps := a.tmps.setIfInBounds d (.agg L.toArray), defers := a.defers } w) : wpAnyH P md ops Q S (fuel + 1) listed a w :=
  takeR hi hd hs hf hr hQ (yieldsIf_load_mid hw T x ho g o hx L k hc hu hk hn) hS h

end Go.Proofs.YtcackliabemecaaGreatDoor
