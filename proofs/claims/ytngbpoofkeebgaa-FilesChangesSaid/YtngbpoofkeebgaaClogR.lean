import Derived.Test.YtngbpoofkeebgaaLib
import Derived.Laws.Closers25
import Derived.Laws.Closers25b
namespace Go.Proofs.Ytngbpoofkeebgaa
open Go.RowKit
set_option linter.unusedSimpArgs false
set_option linter.unusedVariables false

/-- a record as a value -/
def recV (c i : Int) (t : Bool) (o : Int) (s : ByteArray) : Value := .agg #[.int .i64 c, .int .i64 i, .bool t, .int .i64 o, .string s]
def recMay (c i : Int) (t : Bool) (o : Int) (s : ByteArray) : Bool := decide (0 ≤ c ∧ c ≤ 1099511627776 ∧ 1 ≤ i ∧ i ≤ 32 ∧ 0 ≤ o ∧ o ≤ 256 ∧ s.size ≤ 64 ∧ o + s.size ≤ 256 ∧ (t = false ∨ s = ⟨#[]⟩))

theorem isEmpty_f {s : ByteArray} (h : ¬ s = ⟨#[]⟩) : s.toList.isEmpty = false := by
  rw [← decide_eq_emptyBytes]; exact decide_eq_false h
theorem isEmpty_t : (⟨#[]⟩ : ByteArray).toList.isEmpty = true := by
  rw [← decide_eq_emptyBytes]; exact decide_eq_true rfl

theorem tcases (t : Bool) (s : ByteArray) : t = false ∨ (t = true ∧ s = ⟨#[]⟩) ∨ (t = true ∧ ¬ s = ⟨#[]⟩) := by
  cases t
  · exact .inl rfl
  · by_cases h : s = ⟨#[]⟩
    · exact .inr (.inl ⟨rfl, h⟩)
    · exact .inr (.inr ⟨rfl, h⟩)

theorem recMay_f {c i o : Int} {t : Bool} {s : ByteArray} (h : ¬ (0 ≤ c ∧ c ≤ 1099511627776 ∧ 1 ≤ i ∧ i ≤ 32 ∧ 0 ≤ o ∧ o ≤ 256 ∧ s.size ≤ 64 ∧ o + s.size ≤ 256)) : recMay c i t o s = false := decide_eq_false (fun h2 => h ⟨h2.1, h2.2.1, h2.2.2.1, h2.2.2.2.1, h2.2.2.2.2.1, h2.2.2.2.2.2.1, h2.2.2.2.2.2.2.1, h2.2.2.2.2.2.2.2.1⟩)

set_option maxHeartbeats 4000000 in
theorem recMay_any (c i : Int) (t : Bool) (o : Int) (s : ByteArray) (w : World) :
    Calls Try.prog 8 #[recV c i t o s] w fun en w' => en = .returned (.bool (recMay c i t o s)) ∧ Below w.heap.size w w' := by
  unfold recV
  have neg : ∀ (b : Bool), recMay c i t o s = b → Calls Try.prog 8 #[.agg #[.int .i64 c, .int .i64 i, .bool t, .int .i64 o, .string s]] w fun en w' => en = .returned (.bool b) ∧ Below w.heap.size w w' := by
    intro b hb
    have HB := hid hb; clear hb
    rcases (by omega : o < 0 ∨ (0 ≤ o ∧ 256 < o) ∨ (0 ≤ o ∧ o ≤ 256 ∧ 64 < s.size) ∨ (0 ≤ o ∧ o ≤ 256 ∧ s.size ≤ 64 ∧ 256 < o + s.size) ∨ (0 ≤ o ∧ o ≤ 256 ∧ s.size ≤ 64 ∧ o + s.size ≤ 256)) with a1 | ⟨a1, a2⟩ | ⟨a1, a2, a3⟩ | ⟨a1, a2, a3, a4⟩ | ⟨a1, a2, a3, a4⟩
    case inr.inr.inr.inr =>
      rcases tcases t s with rfl | ⟨rfl, rfl⟩ | ⟨rfl, hs⟩
      case inr.inr =>
        have hb : b = false := by rw [← HB.out]; exact decide_eq_false (fun h2 => by rcases h2.2.2.2.2.2.2.2.2 with h | h; cases h; exact hs h)
        subst hb
        have hs1 := isEmpty_f hs
        go_enter Try.func8, Try.ntmps8
        go_wp2
        go_ret
        exact ⟨rfl, (Below.refl _ _).alloc (Nat.le_refl _) _⟩
      all_goals
        rcases (by omega : c < 0 ∨ (0 ≤ c ∧ 1099511627776 < c) ∨ (0 ≤ c ∧ c ≤ 1099511627776 ∧ i < 1) ∨ (0 ≤ c ∧ c ≤ 1099511627776 ∧ 1 ≤ i ∧ 32 < i) ∨ (0 ≤ c ∧ c ≤ 1099511627776 ∧ 1 ≤ i ∧ i ≤ 32)) with b1 | ⟨b1, b2⟩ | ⟨b1, b2, b3⟩ | ⟨b1, b2, b3, b4⟩ | ⟨b1, b2, b3, b4⟩
      all_goals
        first
          | (have hb : b = false := by rw [← HB.out]; exact recMay_f (by omega)
             subst hb)
          | (have hb : b = true := by rw [← HB.out]; exact decide_eq_true (by simp_all)
             subst hb)
        go_enter Try.func8, Try.ntmps8
        go_wp2
        go_ret
        refine ⟨ret_bool ?_, (Below.refl _ _).alloc (Nat.le_refl _) _⟩
        first | rfl | (simp; done) | (simp; omega)
    all_goals
      have hb : b = false := by rw [← HB.out]; exact recMay_f (by omega)
      subst hb
      go_enter Try.func8, Try.ntmps8
      go_wp2
      go_ret
      refine ⟨ret_bool ?_, (Below.refl _ _).alloc (Nat.le_refl _) _⟩
      first | rfl | (simp; done) | (simp; omega)
  exact neg _ rfl

set_option maxHeartbeats 4000000 in
theorem recMayRef_any (c i : Int) (t : Bool) (o : Int) (s : ByteArray) (w : World) :
    Calls Try.prog 9 #[recV c i t o s] w fun en w' => en = .returned (.bool (recMay c i t o s)) ∧ Below w.heap.size w w' := by
  unfold recV
  have neg : ∀ (b : Bool), recMay c i t o s = b → Calls Try.prog 9 #[.agg #[.int .i64 c, .int .i64 i, .bool t, .int .i64 o, .string s]] w fun en w' => en = .returned (.bool b) ∧ Below w.heap.size w w' := by
    intro b hb
    have HB := hid hb; clear hb
    rcases (by omega : c < 0 ∨ (0 ≤ c ∧ 1099511627776 < c) ∨ (0 ≤ c ∧ c ≤ 1099511627776 ∧ i < 1) ∨ (0 ≤ c ∧ c ≤ 1099511627776 ∧ 1 ≤ i ∧ 32 < i) ∨ (0 ≤ c ∧ c ≤ 1099511627776 ∧ 1 ≤ i ∧ i ≤ 32)) with b1 | ⟨b1, b2⟩ | ⟨b1, b2, b3⟩ | ⟨b1, b2, b3, b4⟩ | ⟨b1, b2, b3, b4⟩
    case inr.inr.inr.inr =>
      rcases (by omega : o < 0 ∨ (0 ≤ o ∧ 256 < o) ∨ (0 ≤ o ∧ o ≤ 256 ∧ 64 < s.size) ∨ (0 ≤ o ∧ o ≤ 256 ∧ s.size ≤ 64 ∧ 256 < o + s.size) ∨ (0 ≤ o ∧ o ≤ 256 ∧ s.size ≤ 64 ∧ o + s.size ≤ 256)) with a1 | ⟨a1, a2⟩ | ⟨a1, a2, a3⟩ | ⟨a1, a2, a3, a4⟩ | ⟨a1, a2, a3, a4⟩
      case inr.inr.inr.inr =>
        rcases tcases t s with rfl | ⟨rfl, rfl⟩ | ⟨rfl, hs⟩
        case inr.inr =>
          have hb : b = false := by rw [← HB.out]; exact decide_eq_false (fun h2 => by rcases h2.2.2.2.2.2.2.2.2 with h | h; cases h; exact hs h)
          subst hb
          have hs1 := isEmpty_f hs
          go_enter Try.func9, Try.ntmps9
          go_wp2
          go_ret
          exact ⟨rfl, (Below.refl _ _).alloc (Nat.le_refl _) _⟩
        all_goals
          have hb : b = true := by rw [← HB.out]; exact decide_eq_true (by simp_all)
          subst hb
          have hs1 := isEmpty_t
          go_enter Try.func9, Try.ntmps9
          go_wp2
          go_ret
          refine ⟨ret_bool ?_, (Below.refl _ _).alloc (Nat.le_refl _) _⟩
          first | rfl | (simp; done) | (simp; omega)
      all_goals
        have hb : b = false := by rw [← HB.out]; exact recMay_f (by omega)
        subst hb
        go_enter Try.func9, Try.ntmps9
        go_wp2
        go_ret
        refine ⟨ret_bool ?_, (Below.refl _ _).alloc (Nat.le_refl _) _⟩
        first | rfl | (simp; done) | (simp; omega)
    all_goals
      have hb : b = false := by rw [← HB.out]; exact recMay_f (by omega)
      subst hb
      go_enter Try.func9, Try.ntmps9
      go_wp2
      go_ret
      refine ⟨ret_bool ?_, (Below.refl _ _).alloc (Nat.le_refl _) _⟩
      first | rfl | (simp; done) | (simp; omega)
  exact neg _ rfl

end Go.Proofs.Ytngbpoofkeebgaa
