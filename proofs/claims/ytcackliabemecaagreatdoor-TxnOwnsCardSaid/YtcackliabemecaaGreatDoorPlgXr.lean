/- Records that are handed in. -/
import Derived.Test.YtcackliabemecaaGreatDoorPlgX
import Derived.Test.YtcackliabemecaaGreatDoorPlgMc
namespace Go.Proofs.YtcackliabemecaaGreatDoor
open Go.RowKit Go.WideShapes Go.ChangeShapes Go.Deep
set_option linter.unusedSimpArgs false
set_option linter.unusedVariables false
set_option maxRecDepth 100000

structure RecsIn (W : World) (a : Option Addr) (c : Nat) (rs : List (Option Addr × Nat × List PtM)) : Prop where
  o : Row W 1 a rs.length c (rs.map recV)
  i : ∀ r ∈ rs, RowPt W r.1 r.2.1 r.2.2 ∧ inPts r.2.2
theorem RecsIn.mono {W W' : World} {a : Option Addr} {c : Nat} {rs : List (Option Addr × Nat × List PtM)} (h : RecsIn W a c rs) (b : Below W.heap.size W W') : RecsIn W' a c rs := ⟨Row.mono h.o b, fun r hr => ⟨Row.mono (h.i r hr).1 b, (h.i r hr).2⟩⟩
end Go.Proofs.YtcackliabemecaaGreatDoor
