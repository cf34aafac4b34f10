/- Slices of ints. -/
import Derived.Test.YtcackliabemecaaGreatDoorLib
namespace Go.Proofs.YtcackliabemecaaGreatDoor
open Go.RowKit
set_option linter.unusedSimpArgs false
set_option linter.unusedVariables false

/-- an int as the model holds it -/
def iV (n : Int) : Value := .int .i64 n
abbrev RowI (w : World) (a : Option Addr) (c : Nat) (A : List Int) : Prop := Row w 1 a A.length c (A.map iV)
theorem rowI_len {w : World} {a : Option Addr} {c : Nat} {A : List Int} (h : RowI w a c A) : A.length ≤ 9223372036854775807 := by
  have h1 := h.2.1; have h2 := h.2.2.1; unfold maxLen at h2; omega
theorem rowI_cells {w : World} {a : Option Addr} {c : Nat} {A : List Int} (h : RowI w a c A) (hn : 0 < A.length) :
    ∃ b off, a = some ⟨b, off, none⟩ ∧ b < w.heap.size ∧ ∀ i, i < A.length → w.cell? ⟨b, off + i, none⟩ = some (.int .i64 (A.getD i 0)) := by
  obtain ⟨b, off, e, hlt, hc⟩ := h.at hn
  exact ⟨b, off, e, hlt, fun i hi => hc i _ (by simp [hi, iV])⟩