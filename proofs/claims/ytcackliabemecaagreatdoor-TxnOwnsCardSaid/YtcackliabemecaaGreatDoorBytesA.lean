/- bytes.Equal, bytes.HasPrefix: contracts in our words. -/
import Derived.Test.YtcackliabemecaaGreatDoorLib
import Derived.Laws.IdiomStrings
import Derived.Lib.BufferRead
namespace Go.Proofs.YtcackliabemecaaGreatDoor
open Go.RowKit
set_option linter.unusedSimpArgs false
set_option linter.unusedVariables false

/-- 'string(b)'. -/
theorem run_str {w : World} {a : Option Addr} {c : Nat} {xs : List UInt8} (h : RowB w a c xs) : (convert 26 9 (.slice a xs.length c)).run Tryz.prog w = .ok (.string ⟨xs.toArray⟩) w := by
  cases a with
  | none =>
    have hc : c = 0 := h.2.2.2.1 rfl
    have hl : xs = [] := List.eq_nil_of_length_eq_zero (by have := h.2.1; omega)
    subst hl
    exact Lib.run_convert_nil_bytes w 26 9 5 c Tryz.underlying26 Tryz.underlying5 Tryz.underlying9
  | some p =>
    refine run_convert_bytes_back w 26 9 5 p c xs Tryz.underlying26 Tryz.underlying5 Tryz.underlying9 (fun j hj => ?_)
    obtain ⟨b, off, e, _, hc⟩ := h.bytes (by omega)
    cases e
    have := hc j hj
    rw [bAt_eq hj] at this
    unfold Addr.add
    split
    · subst j; simpa using this
    · exact this
