/- layout.In. -/
import Derived.Test.YtikakpdbokcbnaaLayD
namespace Go.Proofs.Ytikakpdbokcbnaa
open Go.RowKit
set_option linter.unusedSimpArgs false
set_option linter.unusedVariables false

def inF (p : PartT) (at_ n : Int) : Bool := decide (0 ≤ n ∧ n ≤ p.s ∧ p.a ≤ at_ ∧ at_ - p.a ≤ p.s - n)
def wfI (n : Int) : Prop := -9223372036854775808 ≤ n ∧ n ≤ 9223372036854775807
set_option maxHeartbeats 1000000 in
theorem in_any (k m a s at_ n : Int) (w : World) (ha : wfI a) (hs : wfI s) (hat : wfI at_) (hn : wfI n) :
    Calls Try.prog 12 #[.agg #[.int .i64 k, .int .i64 m, .int .i64 a, .int .i64 s], .int .i64 at_, .int .i64 n] w fun e w' => e = .returned (.bool (inF ⟨k, m, a, s⟩ at_ n)) ∧ Below w.heap.size w w' := by
  unfold wfI at *
  have hB : Below w.heap.size w (w.alloc (.cells #[.int .i64 k, .int .i64 m, .int .i64 a, .int .i64 s] 23)) := (Below.refl w.heap.size w).alloc (Nat.le_refl _) _
  have HB := hid hB
  clear hB
  by_cases h1 : n < 0
  · have e : inF ⟨k, m, a, s⟩ at_ n = false := decide_eq_false (by omega)
    rw [e]
    have d1 : decide (n < 0) = true := decide_eq_true h1
    clear e h1
    go_enter Try.func12, Try.ntmps12
    go_wp2
    go_ret
    exact ⟨rfl, HB.out⟩
  have d1 : decide (n < 0) = false := decide_eq_false h1
  by_cases h2 : s < n
  · have e : inF ⟨k, m, a, s⟩ at_ n = false := decide_eq_false (by show ¬ (0 ≤ n ∧ n ≤ s ∧ a ≤ at_ ∧ at_ - a ≤ s - n); omega)
    rw [e]
    have d2 : decide (s < n) = true := decide_eq_true h2
    clear e h2 h1
    go_enter Try.func12, Try.ntmps12
    go_wp2
    go_ret
    exact ⟨rfl, HB.out⟩
  have d2 : decide (s < n) = false := decide_eq_false h2
  by_cases h3 : at_ < a
  · have e : inF ⟨k, m, a, s⟩ at_ n = false := decide_eq_false (by show ¬ (0 ≤ n ∧ n ≤ s ∧ a ≤ at_ ∧ at_ - a ≤ s - n); omega)
    rw [e]
    have d3 : decide (at_ < a) = true := decide_eq_true h3
    clear e h3 h2 h1
    go_enter Try.func12, Try.ntmps12
    go_wp2
    go_ret
    exact ⟨rfl, HB.out⟩
  have d3 : decide (at_ < a) = false := decide_eq_false h3
  have e : inF ⟨k, m, a, s⟩ at_ n = decide (at_ - a ≤ s - n) := by
    unfold inF
    by_cases h : at_ - a ≤ s - n
    · rw [decide_eq_true h]; exact decide_eq_true (by show 0 ≤ n ∧ n ≤ s ∧ a ≤ at_ ∧ at_ - a ≤ s - n; omega)
    · rw [decide_eq_false h]; exact decide_eq_false (fun q => h q.2.2.2)
  rw [e]
  clear e
  go_enter Try.func12, Try.ntmps12
  go_wp2
  go_ret
  refine ⟨ret_bool ?_, HB.out⟩
  have ew : IntKind.u64.wrap (IntKind.u64.wrap at_ - IntKind.u64.wrap a) = at_ - a := by
    simp only [IntKind.wrap_u64]; omega
  rw [ew]

end Go.Proofs.Ytikakpdbokcbnaa
