/- few, little: patches cut. (genPlgFw.py) -/
import Derived.Test.YtcackliabemecaaDoorPlgMd
namespace Go.Proofs.YtcackliabemecaaDoor
open Go.RowKit
set_option linter.unusedSimpArgs false
set_option linter.unusedVariables false
set_option maxRecDepth 100000

def cutP (n d : Nat) (L : List PtM) : List PtM := (L.take n).map fun p => ⟨p.at_, p.d.take d⟩
theorem cutP_snoc {L : List PtM} {j D : Nat} (h : j < L.length) : cutP (j + 1) D L = cutP j D L ++ [⟨L[j].at_, L[j].d.take D⟩] := by
  unfold cutP
  rw [List.take_add_one, List.getElem?_eq_getElem h, Option.toList_some, List.map_append, List.map_singleton]
theorem storeSP {w : World} {g off : Nat} {u : Value} (h : w.cell? ⟨g, off, none⟩ = some u) (hz : w.frozen? ⟨g, off, none⟩ = false) (s : List UInt8) : (Instr.storeAt 9 (.pointer (some ⟨g, off, none⟩)) (strB s)).run Tryd.prog w = .ok () (w.setCell ⟨g, off, none⟩ (strB s)) := by
  have u3 := Tryd.underlying9
  have a3 := Tryd.isAgg9
  have z3 := Tryd.sizeOf9
  unfold strB
  go_simp
theorem own_lt_ne {w : World} {B : Nat} {e : TypeId} {sz : Nat} {a : Option Addr} {n c : Nat} {cs : List Value} (h : Own w B e sz a n c cs) : (Value.slice a n c).ownBlock ≠ some w.heap.size := by
  intro q
  rcases h.2 with ⟨hv, _⟩ | ⟨b, cap, cur, hv, hB, hh, rest⟩
  · cases hv; cases q
  · cases hv
    simp only [Value.ownBlock, Option.some.injEq] at q
    subst q
    have := (Array.getElem?_eq_some_iff.1 hh).1
    omega
theorem own_grown_apart {w w' : World} {B g : Nat} {e : TypeId} {sz : Nat} {a : Option Addr} {n c : Nat} {cs : List Value} (h : Own w B e sz a n c cs) (G : w.grownBy w' (some g)) (hne : (Value.slice a n c).ownBlock ≠ some g) : Own w' B e sz a n c cs :=
  h.staysO G (.inr hne)
theorem blk_at {w : World} {g : Nat} {e : TypeId} {L : List Value} (h : Blk w g e L) {i : Nat} {u : Value} (hu : L[i]? = some u) : w.cell? ⟨g, i, none⟩ = some u := by
  obtain ⟨hi, rfl⟩ := List.getElem?_eq_some_iff.1 hu
  exact h.cell hi
