/- Patches that are handed in. -/
import Derived.Test.YtcackliabemecaaGreatDoorPlgA
import Derived.Deep.Slices
import Derived.Deep.Fields
import Derived.ChangeSame
namespace Go.Proofs.YtcackliabemecaaGreatDoor
open Go.RowKit Go.WideShapes Go.ChangeShapes Go.Deep
set_option linter.unusedSimpArgs false
set_option linter.unusedVariables false
set_option maxRecDepth 100000

theorem spot_noneP {w : World} {x : Addr} {n : Int} (h : w.cell? x = some (.int .i64 n)) : x.spot = none := by
  unfold World.cell? at h
  cases hs : x.spot with
  | none => rfl
  | some q => simp [hs] at h; split at h <;> simp_all
def gPt : PtM := ⟨0, []⟩
def inPts (L : List PtM) : Prop := okPts L ∧ (∀ p ∈ L, p.d.length ≤ maxLen) ∧ L.length ≤ maxLen
end Go.Proofs.YtcackliabemecaaGreatDoor
