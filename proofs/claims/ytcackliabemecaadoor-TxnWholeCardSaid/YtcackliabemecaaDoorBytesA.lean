/- bytes.Equal, bytes.HasPrefix: contracts in our words. -/
import Derived.Test.YtcackliabemecaaDoorLib
import Derived.Laws.IdiomStrings
import Derived.Lib.BufferRead
namespace Go.Proofs.YtcackliabemecaaDoor
open Go.RowKit
set_option linter.unusedSimpArgs false
set_option linter.unusedVariables false

/-- 'string(b)'. -/
theorem run_str {w : World} {a : Option Addr} {c : Nat} {xs : List UInt8} (h : RowB w a c xs) : (convert 22 9 (.slice a xs.length c)).run Tryd.prog w = .ok (.string ⟨xs.toArray⟩) w := by
  cases a with
  | none =>
    have hc : c = 0 := h.2.2.2.1 rfl
    have hl : xs = [] := List.eq_nil_of_length_eq_zero (by have := h.2.1; omega)
    subst hl
    exact Lib.run_convert_nil_bytes w 22 9 5 c Tryd.underlying22 Tryd.underlying5 Tryd.underlying9
  | some p =>
    refine run_convert_bytes_back w 22 9 5 p c xs Tryd.underlying22 Tryd.underlying5 Tryd.underlying9 (fun j hj => ?_)
    obtain ⟨b, off, e, _, hc⟩ := h.bytes (by omega)
    cases e
    have := hc j hj
    rw [bAt_eq hj] at this
    unfold Addr.add
    split
    · subst j; simpa using this
    · exact this
