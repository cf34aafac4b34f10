/- lists that were handed in -/
import Derived.Test.YtpdjnefgkcmdnaaGreatDoorSxD
import Derived.Deep.Slices
import Derived.Deep.Fields
import Derived.ChangeSame
namespace Go.Proofs.YtpdjnefgkcmdnaaGreatDoor
open Go.RowKit
open Go.WideShapes Go.ChangeShapes Go.Deep
set_option linter.unusedSimpArgs false
set_option linter.unusedVariables false
set_option maxRecDepth 100000
/-- n elements of sz cells at a place -/
def ExtC (w : World) (b off sz n : Nat) (f : Nat → List Value) : Prop := b < w.heap.size ∧ ∀ i, i < n → ∀ (j : Nat) v, (f i)[j]? = some v → w.cell? ⟨b, off + i * sz + j, none⟩ = some v
/-- a list that was handed in -/
def ExtA (w : World) (a : Option Addr) (n c sz : Nat) (f : Nat → List Value) : Prop :=
  n ≤ c ∧ c ≤ maxLen ∧ (0 < n → ∃ b off, a = some ⟨b, off, none⟩ ∧ ExtC w b off sz n f)
theorem ExtA.at {w : World} {a : Option Addr} {n c sz : Nat} {f : Nat → List Value} (h : ExtA w a n c sz f) : ∃ b off, 0 < n → a = some ⟨b, off, none⟩ ∧ ExtC w b off sz n f := by
  by_cases hn : 0 < n
  · obtain ⟨b, off, q⟩ := h.2.2 hn
    exact ⟨b, off, fun _ => q⟩
  · exact ⟨0, 0, fun q => absurd q hn⟩
theorem ExtA.lt {w : World} {a : Option Addr} {n c sz : Nat} {f : Nat → List Value} (h : ExtA w a n c sz f) : n ≤ maxLen := Nat.le_trans h.1 h.2.1
theorem ExtC.cell {w0 w : World} {B b off sz n : Nat} {f : Nat → List Value} (h : ExtC w0 b off sz n f) (hB : w0.heap.size ≤ B) (hw : Below B w0 w) {i j : Nat} {v : Value} (hi : i < n) (hv : (f i)[j]? = some v) : w.cell? ⟨b, off + i * sz + j, none⟩ = some v :=
  (hw.cell (p := ⟨b, off + i * sz + j, none⟩) (Nat.lt_of_lt_of_le h.1 hB)).trans (h.2 i hi j v hv)
end Go.Proofs.YtpdjnefgkcmdnaaGreatDoor
