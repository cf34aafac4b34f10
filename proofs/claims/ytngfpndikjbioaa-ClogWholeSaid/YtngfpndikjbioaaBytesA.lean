/- bytes.Equal, bytes.HasPrefix: contracts in our words. -/
import Derived.Test.YtngfpndikjbioaaLib
import Derived.Laws.IdiomStrings
import Derived.Lib.BufferRead
namespace Go.Proofs.Ytngfpndikjbioaa
open Go.RowKit
set_option linter.unusedSimpArgs false
set_option linter.unusedVariables false

/-- 'string(b)'. -/
theorem run_str {w : World} {a : Option Addr} {c : Nat} {xs : List UInt8} (h : RowB w a c xs) : (convert 25 9 (.slice a xs.length c)).run Try.prog w = .ok (.string ⟨xs.toArray⟩) w := by
  cases a with
  | none =>
    have hc : c = 0 := h.2.2.2.1 rfl
    have hl : xs = [] := List.eq_nil_of_length_eq_zero (by have := h.2.1; omega)
    subst hl
    exact Lib.run_convert_nil_bytes w 25 9 5 c Try.underlying25 Try.underlying5 Try.underlying9
  | some p =>
    refine run_convert_bytes_back w 25 9 5 p c xs Try.underlying25 Try.underlying5 Try.underlying9 (fun j hj => ?_)
    obtain ⟨b, off, e, _, hc⟩ := h.bytes (by omega)
    cases e
    have := hc j hj
    rw [bAt_eq hj] at this
    unfold Addr.add
    split
    · subst j; simpa using this
    · exact this

set_option maxHeartbeats 400000 in
theorem equal_any (a b : Option Addr) (c d : Nat) (xs ys : List UInt8) (w : World) (ha : RowB w a c xs) (hb : RowB w b d ys) :
    Calls Try.prog 44 #[.slice a xs.length c, .slice b ys.length d] w fun e w' => e = .returned (.bool (decide (xs = ys))) ∧ w = w' := by
  have h1 := run_str ha
  have h2 := run_str hb
  go_enter Try.func44, Try.ntmps44
  go_wp2
  go_ret
  exact ⟨ret_bool (by rw [Bool.eq_iff_iff]; simp), rfl⟩

set_option maxHeartbeats 400000 in
theorem hasPrefix_any (a b : Option Addr) (c d : Nat) (xs ys : List UInt8) (w : World) (ha : RowB w a c xs) (hb : RowB w b d ys) :
    Calls Try.prog 33 #[.slice a xs.length c, .slice b ys.length d] w fun e w' => e = .returned (.bool (decide (ys.length ≤ xs.length) && decide (xs.take ys.length = ys))) ∧ w = w' := by
  have hl := rowB_len ha
  have hm := rowB_len hb
  have hc : xs.length ≤ c := ha.2.1
  by_cases h : ys.length ≤ xs.length
  · have h' : (ys.length : Int) ≤ (xs.length : Int) := by omega
    have ht := rowB_take ha ys.length
    have he := equal_any a b c d (xs.take ys.length) ys w ht hb
    have hlen : (xs.take ys.length).length = ys.length := by simp; omega
    rw [hlen] at he
    have HE := hid he
    clear he hlen ht
    have HH := hid h
    go_enter Try.func33, Try.ntmps33
    go_wp2_with fail
    refine HE.out.mono ?_
    rintro e w' ⟨rfl, rfl⟩
    go_wp2_with fail
    go_ret
    exact ⟨ret_bool (by rw [decide_eq_true HH.out]; rfl), rfl⟩
  · have h' : (xs.length : Int) < (ys.length : Int) := by omega
    have hd : decide ((ys.length : Int) ≤ (xs.length : Int)) = false := decide_eq_false (by omega)
    have hd2 : decide (ys.length ≤ xs.length) = false := decide_eq_false h
    have HD := hid hd2
    clear h
    go_enter Try.func33, Try.ntmps33
    go_wp2_with fail
    go_ret
    exact ⟨ret_bool (by rw [HD.out]; rfl), rfl⟩

end Go.Proofs.Ytngfpndikjbioaa
