/- The document's words on the parts. -/
import Derived.Test.YtikakpdbokcbnaaLayG
namespace Go.Proofs.Ytikakpdbokcbnaa
open Go.RowKit
set_option linter.unusedSimpArgs false
set_option linter.unusedVariables false

def ansR (o : Option PartT) : Value := .tuple #[.int .i64 (o.getD part0).a, .int .i64 (o.getD part0).s, .bool o.isSome]
def ansK (o : Option PartT) : Value := .tuple #[.int .i64 (o.getD part0).k, .int .i64 (o.getD part0).n]
theorem start_1 (w : World) : Calls Try.prog 15 #[.int .i64 1] w fun e w' => e = .returned (.tuple #[.int .i64 0, .int .i64 1, .int .i64 64]) ∧ w = w' := by
  go_enter Try.func15, Try.ntmps15
  go_wp2
  go_ret3
  exact ⟨rfl, rfl⟩
theorem numbered_1 (w : World) : Calls Try.prog 16 #[.int .i64 1] w fun e w' => e = .returned (.bool false) ∧ w = w' := by
  go_enter Try.func16, Try.ntmps16
  go_wp2
  go_ret
  exact ⟨rfl, rfl⟩
theorem start_2 (w : World) : Calls Try.prog 15 #[.int .i64 2] w fun e w' => e = .returned (.tuple #[.int .i64 64, .int .i64 8, .int .i64 64]) ∧ w = w' := by
  go_enter Try.func15, Try.ntmps15
  go_wp2
  go_ret3
  exact ⟨rfl, rfl⟩
theorem numbered_2 (w : World) : Calls Try.prog 16 #[.int .i64 2] w fun e w' => e = .returned (.bool true) ∧ w = w' := by
  go_enter Try.func16, Try.ntmps16
  go_wp2
  go_ret
  exact ⟨rfl, rfl⟩
theorem start_3 (w : World) : Calls Try.prog 15 #[.int .i64 3] w fun e w' => e = .returned (.tuple #[.int .i64 576, .int .i64 1, .int .i64 64]) ∧ w = w' := by
  go_enter Try.func15, Try.ntmps15
  go_wp2
  go_ret3
  exact ⟨rfl, rfl⟩
theorem numbered_3 (w : World) : Calls Try.prog 16 #[.int .i64 3] w fun e w' => e = .returned (.bool false) ∧ w = w' := by
  go_enter Try.func16, Try.ntmps16
  go_wp2
  go_ret
  exact ⟨rfl, rfl⟩
theorem start_4 (w : World) : Calls Try.prog 15 #[.int .i64 4] w fun e w' => e = .returned (.tuple #[.int .i64 640, .int .i64 32, .int .i64 64]) ∧ w = w' := by
  go_enter Try.func15, Try.ntmps15
  go_wp2
  go_ret3
  exact ⟨rfl, rfl⟩
theorem numbered_4 (w : World) : Calls Try.prog 16 #[.int .i64 4] w fun e w' => e = .returned (.bool true) ∧ w = w' := by
  go_enter Try.func16, Try.ntmps16
  go_wp2
  go_ret
  exact ⟨rfl, rfl⟩
theorem start_5 (w : World) : Calls Try.prog 15 #[.int .i64 5] w fun e w' => e = .returned (.tuple #[.int .i64 2688, .int .i64 1, .int .i64 4096]) ∧ w = w' := by
  go_enter Try.func15, Try.ntmps15
  go_wp2
  go_ret3
  exact ⟨rfl, rfl⟩
theorem numbered_5 (w : World) : Calls Try.prog 16 #[.int .i64 5] w fun e w' => e = .returned (.bool false) ∧ w = w' := by
  go_enter Try.func16, Try.ntmps16
  go_wp2
  go_ret
  exact ⟨rfl, rfl⟩
theorem start_6 (w : World) : Calls Try.prog 15 #[.int .i64 6] w fun e w' => e = .returned (.tuple #[.int .i64 6784, .int .i64 8, .int .i64 1024]) ∧ w = w' := by
  go_enter Try.func15, Try.ntmps15
  go_wp2
  go_ret3
  exact ⟨rfl, rfl⟩
theorem numbered_6 (w : World) : Calls Try.prog 16 #[.int .i64 6] w fun e w' => e = .returned (.bool true) ∧ w = w' := by
  go_enter Try.func16, Try.ntmps16
  go_wp2
  go_ret
  exact ⟨rfl, rfl⟩
theorem start_7 (w : World) : Calls Try.prog 15 #[.int .i64 7] w fun e w' => e = .returned (.tuple #[.int .i64 14976, .int .i64 128, .int .i64 64]) ∧ w = w' := by
  go_enter Try.func15, Try.ntmps15
  go_wp2
  go_ret3
  exact ⟨rfl, rfl⟩
theorem numbered_7 (w : World) : Calls Try.prog 16 #[.int .i64 7] w fun e w' => e = .returned (.bool true) ∧ w = w' := by
  go_enter Try.func16, Try.ntmps16
  go_wp2
  go_ret
  exact ⟨rfl, rfl⟩
theorem start_else (k : Int) (w : World) (h1 : k ≠ 1) (h2 : k ≠ 2) (h3 : k ≠ 3) (h4 : k ≠ 4) (h5 : k ≠ 5) (h6 : k ≠ 6) (h7 : k ≠ 7) : Calls Try.prog 15 #[.int .i64 k] w fun e w' => e = .returned (.tuple #[.int .i64 0, .int .i64 0, .int .i64 0]) ∧ w = w' := by
  have d1 : (k == 1) = false := by simpa using h1
  have d2 : (k == 2) = false := by simpa using h2
  have d3 : (k == 3) = false := by simpa using h3
  have d4 : (k == 4) = false := by simpa using h4
  have d5 : (k == 5) = false := by simpa using h5
  have d6 : (k == 6) = false := by simpa using h6
  have d7 : (k == 7) = false := by simpa using h7
  go_enter Try.func15, Try.ntmps15
  go_wp2
  go_ret3
  exact ⟨rfl, rfl⟩
theorem numbered_else (k : Int) (w : World) (h1 : k ≠ 1) (h2 : k ≠ 2) (h3 : k ≠ 3) (h4 : k ≠ 4) (h5 : k ≠ 5) (h6 : k ≠ 6) (h7 : k ≠ 7) : Calls Try.prog 16 #[.int .i64 k] w fun e w' => e = .returned (.bool false) ∧ w = w' := by
  have d1 : (k == 1) = false := by simpa using h1
  have d2 : (k == 2) = false := by simpa using h2
  have d3 : (k == 3) = false := by simpa using h3
  have d4 : (k == 4) = false := by simpa using h4
  have d5 : (k == 5) = false := by simpa using h5
  have d6 : (k == 6) = false := by simpa using h6
  have d7 : (k == 7) = false := by simpa using h7
  go_enter Try.func16, Try.ntmps16
  go_wp2
  go_ret
  exact ⟨rfl, rfl⟩
set_option maxHeartbeats 4000000 in
theorem refFind_any (kd nm : Int) (w : World) (hn : wfI nm) : Calls Try.prog 8 #[.int .i64 kd, .int .i64 nm] w fun e w' => e = .returned (ansR (findP kd nm)) ∧ w = w' := by
  unfold wfI at hn
  by_cases hk1 : kd = 1
  · subst hk1
    by_cases h : nm = 0
    · subst h
      have HR : Hid (findP 1 0 = some ⟨1, 0, 0, 64⟩) := findP_some mem_1
      go_enter Try.func8, Try.ntmps8
      go_wp2_with (first
        | (go_at_call 15; refine (start_1 _).mono ?_; rintro e w' ⟨rfl, rfl⟩)
        | (go_at_call 16; refine (numbered_1 _).mono ?_; rintro e w' ⟨rfl, rfl⟩))
      go_ret3
      exact ⟨by rw [HR.out]; rfl, rfl⟩
    · have hb : (nm != 0) = true := by simpa using h
      have HR : Hid (findP 1 nm = none) := findP_none (fun p hp h1 h2 => by unfold kindsP at hp; omega)
      clear h
      go_enter Try.func8, Try.ntmps8
      go_wp2_with (first
        | (go_at_call 15; refine (start_1 _).mono ?_; rintro e w' ⟨rfl, rfl⟩)
        | (go_at_call 16; refine (numbered_1 _).mono ?_; rintro e w' ⟨rfl, rfl⟩))
      go_ret3
      exact ⟨by rw [HR.out]; rfl, rfl⟩
  by_cases hk2 : kd = 2
  · subst hk2
    rcases (by omega : nm < 1 ∨ 8 < nm ∨ (1 ≤ nm ∧ nm ≤ 8)) with h | h | h
    · have d1 : decide (nm < 1) = true := decide_eq_true h
      have HR : Hid (findP 2 nm = none) := findP_none (fun p hp h1 h2 => by unfold kindsP at hp; omega)
      clear h
      go_enter Try.func8, Try.ntmps8
      go_wp2_with (first
        | (go_at_call 15; refine (start_2 _).mono ?_; rintro e w' ⟨rfl, rfl⟩)
        | (go_at_call 16; refine (numbered_2 _).mono ?_; rintro e w' ⟨rfl, rfl⟩))
      go_ret3
      exact ⟨by rw [HR.out]; rfl, rfl⟩
    · have d1 : decide (nm < 1) = false := decide_eq_false (by omega)
      have HR : Hid (findP 2 nm = none) := findP_none (fun p hp h1 h2 => by unfold kindsP at hp; omega)
      have d2 : decide (8 < nm) = true := decide_eq_true h
      clear h
      go_enter Try.func8, Try.ntmps8
      go_wp2_with (first
        | (go_at_call 15; refine (start_2 _).mono ?_; rintro e w' ⟨rfl, rfl⟩)
        | (go_at_call 16; refine (numbered_2 _).mono ?_; rintro e w' ⟨rfl, rfl⟩))
      go_ret3
      exact ⟨by rw [HR.out]; rfl, rfl⟩
    · obtain ⟨g1, g2⟩ := h
      have HR : Hid (findP 2 nm = some ⟨2, nm, 64 + (nm - 1) * 64, 64⟩) := findP_some (mem_2 g1 g2)
      have d1 : decide (nm < 1) = false := decide_eq_false (by omega)
      have d2 : decide (8 < nm) = false := decide_eq_false (by omega)
      go_enter Try.func8, Try.ntmps8
      go_wp2_with (first
        | (go_at_call 15; refine (start_2 _).mono ?_; rintro e w' ⟨rfl, rfl⟩)
        | (go_at_call 16; refine (numbered_2 _).mono ?_; rintro e w' ⟨rfl, rfl⟩))
      go_ret3
      exact ⟨by rw [HR.out]; rfl, rfl⟩
  by_cases hk3 : kd = 3
  · subst hk3
    by_cases h : nm = 0
    · subst h
      have HR : Hid (findP 3 0 = some ⟨3, 0, 576, 64⟩) := findP_some mem_3
      go_enter Try.func8, Try.ntmps8
      go_wp2_with (first
        | (go_at_call 15; refine (start_3 _).mono ?_; rintro e w' ⟨rfl, rfl⟩)
        | (go_at_call 16; refine (numbered_3 _).mono ?_; rintro e w' ⟨rfl, rfl⟩))
      go_ret3
      exact ⟨by rw [HR.out]; rfl, rfl⟩
    · have hb : (nm != 0) = true := by simpa using h
      have HR : Hid (findP 3 nm = none) := findP_none (fun p hp h1 h2 => by unfold kindsP at hp; omega)
      clear h
      go_enter Try.func8, Try.ntmps8
      go_wp2_with (first
        | (go_at_call 15; refine (start_3 _).mono ?_; rintro e w' ⟨rfl, rfl⟩)
        | (go_at_call 16; refine (numbered_3 _).mono ?_; rintro e w' ⟨rfl, rfl⟩))
      go_ret3
      exact ⟨by rw [HR.out]; rfl, rfl⟩
  by_cases hk4 : kd = 4
  · subst hk4
    rcases (by omega : nm < 1 ∨ 32 < nm ∨ (1 ≤ nm ∧ nm ≤ 32)) with h | h | h
    · have d1 : decide (nm < 1) = true := decide_eq_true h
      have HR : Hid (findP 4 nm = none) := findP_none (fun p hp h1 h2 => by unfold kindsP at hp; omega)
      clear h
      go_enter Try.func8, Try.ntmps8
      go_wp2_with (first
        | (go_at_call 15; refine (start_4 _).mono ?_; rintro e w' ⟨rfl, rfl⟩)
        | (go_at_call 16; refine (numbered_4 _).mono ?_; rintro e w' ⟨rfl, rfl⟩))
      go_ret3
      exact ⟨by rw [HR.out]; rfl, rfl⟩
    · have d1 : decide (nm < 1) = false := decide_eq_false (by omega)
      have HR : Hid (findP 4 nm = none) := findP_none (fun p hp h1 h2 => by unfold kindsP at hp; omega)
      have d2 : decide (32 < nm) = true := decide_eq_true h
      clear h
      go_enter Try.func8, Try.ntmps8
      go_wp2_with (first
        | (go_at_call 15; refine (start_4 _).mono ?_; rintro e w' ⟨rfl, rfl⟩)
        | (go_at_call 16; refine (numbered_4 _).mono ?_; rintro e w' ⟨rfl, rfl⟩))
      go_ret3
      exact ⟨by rw [HR.out]; rfl, rfl⟩
    · obtain ⟨g1, g2⟩ := h
      have HR : Hid (findP 4 nm = some ⟨4, nm, 640 + (nm - 1) * 64, 64⟩) := findP_some (mem_4 g1 g2)
      have d1 : decide (nm < 1) = false := decide_eq_false (by omega)
      have d2 : decide (32 < nm) = false := decide_eq_false (by omega)
      go_enter Try.func8, Try.ntmps8
      go_wp2_with (first
        | (go_at_call 15; refine (start_4 _).mono ?_; rintro e w' ⟨rfl, rfl⟩)
        | (go_at_call 16; refine (numbered_4 _).mono ?_; rintro e w' ⟨rfl, rfl⟩))
      go_ret3
      exact ⟨by rw [HR.out]; rfl, rfl⟩
  by_cases hk5 : kd = 5
  · subst hk5
    by_cases h : nm = 0
    · subst h
      have HR : Hid (findP 5 0 = some ⟨5, 0, 2688, 4096⟩) := findP_some mem_5
      go_enter Try.func8, Try.ntmps8
      go_wp2_with (first
        | (go_at_call 15; refine (start_5 _).mono ?_; rintro e w' ⟨rfl, rfl⟩)
        | (go_at_call 16; refine (numbered_5 _).mono ?_; rintro e w' ⟨rfl, rfl⟩))
      go_ret3
      exact ⟨by rw [HR.out]; rfl, rfl⟩
    · have hb : (nm != 0) = true := by simpa using h
      have HR : Hid (findP 5 nm = none) := findP_none (fun p hp h1 h2 => by unfold kindsP at hp; omega)
      clear h
      go_enter Try.func8, Try.ntmps8
      go_wp2_with (first
        | (go_at_call 15; refine (start_5 _).mono ?_; rintro e w' ⟨rfl, rfl⟩)
        | (go_at_call 16; refine (numbered_5 _).mono ?_; rintro e w' ⟨rfl, rfl⟩))
      go_ret3
      exact ⟨by rw [HR.out]; rfl, rfl⟩
  by_cases hk6 : kd = 6
  · subst hk6
    rcases (by omega : nm < 1 ∨ 8 < nm ∨ (1 ≤ nm ∧ nm ≤ 8)) with h | h | h
    · have d1 : decide (nm < 1) = true := decide_eq_true h
      have HR : Hid (findP 6 nm = none) := findP_none (fun p hp h1 h2 => by unfold kindsP at hp; omega)
      clear h
      go_enter Try.func8, Try.ntmps8
      go_wp2_with (first
        | (go_at_call 15; refine (start_6 _).mono ?_; rintro e w' ⟨rfl, rfl⟩)
        | (go_at_call 16; refine (numbered_6 _).mono ?_; rintro e w' ⟨rfl, rfl⟩))
      go_ret3
      exact ⟨by rw [HR.out]; rfl, rfl⟩
    · have d1 : decide (nm < 1) = false := decide_eq_false (by omega)
      have HR : Hid (findP 6 nm = none) := findP_none (fun p hp h1 h2 => by unfold kindsP at hp; omega)
      have d2 : decide (8 < nm) = true := decide_eq_true h
      clear h
      go_enter Try.func8, Try.ntmps8
      go_wp2_with (first
        | (go_at_call 15; refine (start_6 _).mono ?_; rintro e w' ⟨rfl, rfl⟩)
        | (go_at_call 16; refine (numbered_6 _).mono ?_; rintro e w' ⟨rfl, rfl⟩))
      go_ret3
      exact ⟨by rw [HR.out]; rfl, rfl⟩
    · obtain ⟨g1, g2⟩ := h
      have HR : Hid (findP 6 nm = some ⟨6, nm, 6784 + (nm - 1) * 1024, 1024⟩) := findP_some (mem_6 g1 g2)
      have d1 : decide (nm < 1) = false := decide_eq_false (by omega)
      have d2 : decide (8 < nm) = false := decide_eq_false (by omega)
      go_enter Try.func8, Try.ntmps8
      go_wp2_with (first
        | (go_at_call 15; refine (start_6 _).mono ?_; rintro e w' ⟨rfl, rfl⟩)
        | (go_at_call 16; refine (numbered_6 _).mono ?_; rintro e w' ⟨rfl, rfl⟩))
      go_ret3
      exact ⟨by rw [HR.out]; rfl, rfl⟩
  by_cases hk7 : kd = 7
  · subst hk7
    rcases (by omega : nm < 1 ∨ 128 < nm ∨ (1 ≤ nm ∧ nm ≤ 128)) with h | h | h
    · have d1 : decide (nm < 1) = true := decide_eq_true h
      have HR : Hid (findP 7 nm = none) := findP_none (fun p hp h1 h2 => by unfold kindsP at hp; omega)
      clear h
      go_enter Try.func8, Try.ntmps8
      go_wp2_with (first
        | (go_at_call 15; refine (start_7 _).mono ?_; rintro e w' ⟨rfl, rfl⟩)
        | (go_at_call 16; refine (numbered_7 _).mono ?_; rintro e w' ⟨rfl, rfl⟩))
      go_ret3
      exact ⟨by rw [HR.out]; rfl, rfl⟩
    · have d1 : decide (nm < 1) = false := decide_eq_false (by omega)
      have HR : Hid (findP 7 nm = none) := findP_none (fun p hp h1 h2 => by unfold kindsP at hp; omega)
      have d2 : decide (128 < nm) = true := decide_eq_true h
      clear h
      go_enter Try.func8, Try.ntmps8
      go_wp2_with (first
        | (go_at_call 15; refine (start_7 _).mono ?_; rintro e w' ⟨rfl, rfl⟩)
        | (go_at_call 16; refine (numbered_7 _).mono ?_; rintro e w' ⟨rfl, rfl⟩))
      go_ret3
      exact ⟨by rw [HR.out]; rfl, rfl⟩
    · obtain ⟨g1, g2⟩ := h
      have HR : Hid (findP 7 nm = some ⟨7, nm, 14976 + (nm - 1) * 64, 64⟩) := findP_some (mem_7 g1 g2)
      have d1 : decide (nm < 1) = false := decide_eq_false (by omega)
      have d2 : decide (128 < nm) = false := decide_eq_false (by omega)
      go_enter Try.func8, Try.ntmps8
      go_wp2_with (first
        | (go_at_call 15; refine (start_7 _).mono ?_; rintro e w' ⟨rfl, rfl⟩)
        | (go_at_call 16; refine (numbered_7 _).mono ?_; rintro e w' ⟨rfl, rfl⟩))
      go_ret3
      exact ⟨by rw [HR.out]; rfl, rfl⟩
  have HR : Hid (findP kd nm = none) := findP_none (fun p hp h1 h2 => by unfold kindsP at hp; omega)
  have HS := hid (start_else kd w hk1 hk2 hk3 hk4 hk5 hk6 hk7)
  have HN := hid (numbered_else kd w hk1 hk2 hk3 hk4 hk5 hk6 hk7)
  clear hk1 hk2 hk3 hk4 hk5 hk6 hk7
  go_enter Try.func8, Try.ntmps8
  go_wp2_with (first
    | (go_at_call 15; refine HS.out.mono ?_; rintro e w' ⟨rfl, rfl⟩)
    | (go_at_call 16; refine HN.out.mono ?_; rintro e w' ⟨rfl, rfl⟩))
  go_ret3
  exact ⟨by rw [HR.out]; rfl, rfl⟩

set_option maxHeartbeats 8000000 in
theorem refOf_any (at_ : Int) (w : World) (ha : wfI at_) : Calls Try.prog 11 #[.int .i64 at_] w fun e w' => e = .returned (ansK (ofP at_)) ∧ w = w' := by
  unfold wfI at ha
  go_enter Try.func11, Try.ntmps11
  go_wp2
  go_loop [4] (fun i => ∃ j : Int, 1 ≤ j ∧ j ≤ 8 ∧ i = .int .i64 j ∧ (at_ < 0 ∨ (j = 1 ∧ 0 ≤ at_) ∨ (j = 2 ∧ 64 ≤ at_) ∨ (j = 3 ∧ 576 ≤ at_) ∨ (j = 4 ∧ 640 ≤ at_) ∨ (j = 5 ∧ 2688 ≤ at_) ∨ (j = 6 ∧ 6784 ≤ at_) ∨ (j = 7 ∧ 14976 ≤ at_) ∨ (j = 8 ∧ 23168 ≤ at_))) (fun i => (8 - intOf i).toNat)
  case atStart => exact ⟨1, by omega, by omega, rfl, by omega⟩
  case round =>
  obtain ⟨j, hj1, hj2, rfl, hp⟩ := hrel
  rcases (by omega : j = 1 ∨ j = 2 ∨ j = 3 ∨ j = 4 ∨ j = 5 ∨ j = 6 ∨ j = 7 ∨ j = 8) with rfl | rfl | rfl | rfl | rfl | rfl | rfl | rfl
  · rcases (by omega : at_ < 0 ∨ (0 ≤ at_ ∧ 64 ≤ at_) ∨ (0 ≤ at_ ∧ at_ < 64)) with h | ⟨h, h'⟩ | ⟨h, h'⟩
    · have d1 : decide (0 ≤ at_) = false := decide_eq_false (by omega)
      have hn : at_ < 0 := by omega
      clear hp h
      go_wp2_with (go_at_call 15; refine (start_1 _).mono ?_; rintro e w' ⟨rfl, rfl⟩)
      go_round
      case rel => exact ⟨2, by omega, by omega, rfl, .inl hn⟩
      case measure => simp [intOf]
    · have d1 : decide (0 ≤ at_) = true := decide_eq_true h
      have d2 : decide (at_ < 64) = false := decide_eq_false (by omega)
      clear hp h
      go_wp2_with (go_at_call 15; refine (start_1 _).mono ?_; rintro e w' ⟨rfl, rfl⟩)
      go_round
      case rel => exact ⟨2, by omega, by omega, rfl, by omega⟩
      case measure => simp [intOf]
    · have HR : Hid (ofP at_ = some ⟨1, 0, 0, 64⟩) := ofP_some mem_1 (decide_eq_true (by show (0 : Int) ≤ 1 ∧ _; simp only; omega))
      have d1 : decide (0 ≤ at_) = true := decide_eq_true h
      have d2 : decide (at_ < 64) = true := decide_eq_true h'
      clear hp
      go_wp2_with (first
        | (go_at_call 15; refine (start_1 _).mono ?_; rintro e w' ⟨rfl, rfl⟩)
        | (go_at_call 16; refine (numbered_1 _).mono ?_; rintro e w' ⟨rfl, rfl⟩))
      go_ret2
      exact ⟨by rw [HR.out]; rfl, rfl⟩
  · rcases (by omega : at_ < 64 ∨ (64 ≤ at_ ∧ 576 ≤ at_) ∨ (64 ≤ at_ ∧ at_ < 576)) with h | ⟨h, h'⟩ | ⟨h, h'⟩
    · have d1 : decide (64 ≤ at_) = false := decide_eq_false (by omega)
      have hn : at_ < 0 := by omega
      clear hp h
      go_wp2_with (go_at_call 15; refine (start_2 _).mono ?_; rintro e w' ⟨rfl, rfl⟩)
      go_round
      case rel => exact ⟨3, by omega, by omega, rfl, .inl hn⟩
      case measure => simp [intOf]
    · have d1 : decide (64 ≤ at_) = true := decide_eq_true h
      have d2 : decide (at_ < 576) = false := decide_eq_false (by omega)
      clear hp h
      go_wp2_with (go_at_call 15; refine (start_2 _).mono ?_; rintro e w' ⟨rfl, rfl⟩)
      go_round
      case rel => exact ⟨3, by omega, by omega, rfl, by omega⟩
      case measure => simp [intOf]
    · have HR : Hid (ofP at_ = some ⟨2, (at_ - 64) / 64 + 1, 64 + ((at_ - 64) / 64 + 1 - 1) * 64, 64⟩) := ofP_some (mem_2 (n := (at_ - 64) / 64 + 1) (by omega) (by omega)) (decide_eq_true (by show (0 : Int) ≤ 1 ∧ _; simp only; omega))
      have d1 : decide (64 ≤ at_) = true := decide_eq_true h
      have d2 : decide (at_ < 576) = true := decide_eq_true h'
      clear hp
      go_wp2_with (first
        | (go_at_call 15; refine (start_2 _).mono ?_; rintro e w' ⟨rfl, rfl⟩)
        | (go_at_call 16; refine (numbered_2 _).mono ?_; rintro e w' ⟨rfl, rfl⟩))
      go_ret2
      exact ⟨by rw [HR.out]; rfl, rfl⟩
  · rcases (by omega : at_ < 576 ∨ (576 ≤ at_ ∧ 640 ≤ at_) ∨ (576 ≤ at_ ∧ at_ < 640)) with h | ⟨h, h'⟩ | ⟨h, h'⟩
    · have d1 : decide (576 ≤ at_) = false := decide_eq_false (by omega)
      have hn : at_ < 0 := by omega
      clear hp h
      go_wp2_with (go_at_call 15; refine (start_3 _).mono ?_; rintro e w' ⟨rfl, rfl⟩)
      go_round
      case rel => exact ⟨4, by omega, by omega, rfl, .inl hn⟩
      case measure => simp [intOf]
    · have d1 : decide (576 ≤ at_) = true := decide_eq_true h
      have d2 : decide (at_ < 640) = false := decide_eq_false (by omega)
      clear hp h
      go_wp2_with (go_at_call 15; refine (start_3 _).mono ?_; rintro e w' ⟨rfl, rfl⟩)
      go_round
      case rel => exact ⟨4, by omega, by omega, rfl, by omega⟩
      case measure => simp [intOf]
    · have HR : Hid (ofP at_ = some ⟨3, 0, 576, 64⟩) := ofP_some mem_3 (decide_eq_true (by show (0 : Int) ≤ 1 ∧ _; simp only; omega))
      have d1 : decide (576 ≤ at_) = true := decide_eq_true h
      have d2 : decide (at_ < 640) = true := decide_eq_true h'
      clear hp
      go_wp2_with (first
        | (go_at_call 15; refine (start_3 _).mono ?_; rintro e w' ⟨rfl, rfl⟩)
        | (go_at_call 16; refine (numbered_3 _).mono ?_; rintro e w' ⟨rfl, rfl⟩))
      go_ret2
      exact ⟨by rw [HR.out]; rfl, rfl⟩
  · rcases (by omega : at_ < 640 ∨ (640 ≤ at_ ∧ 2688 ≤ at_) ∨ (640 ≤ at_ ∧ at_ < 2688)) with h | ⟨h, h'⟩ | ⟨h, h'⟩
    · have d1 : decide (640 ≤ at_) = false := decide_eq_false (by omega)
      have hn : at_ < 0 := by omega
      clear hp h
      go_wp2_with (go_at_call 15; refine (start_4 _).mono ?_; rintro e w' ⟨rfl, rfl⟩)
      go_round
      case rel => exact ⟨5, by omega, by omega, rfl, .inl hn⟩
      case measure => simp [intOf]
    · have d1 : decide (640 ≤ at_) = true := decide_eq_true h
      have d2 : decide (at_ < 2688) = false := decide_eq_false (by omega)
      clear hp h
      go_wp2_with (go_at_call 15; refine (start_4 _).mono ?_; rintro e w' ⟨rfl, rfl⟩)
      go_round
      case rel => exact ⟨5, by omega, by omega, rfl, by omega⟩
      case measure => simp [intOf]
    · have HR : Hid (ofP at_ = some ⟨4, (at_ - 640) / 64 + 1, 640 + ((at_ - 640) / 64 + 1 - 1) * 64, 64⟩) := ofP_some (mem_4 (n := (at_ - 640) / 64 + 1) (by omega) (by omega)) (decide_eq_true (by show (0 : Int) ≤ 1 ∧ _; simp only; omega))
      have d1 : decide (640 ≤ at_) = true := decide_eq_true h
      have d2 : decide (at_ < 2688) = true := decide_eq_true h'
      clear hp
      go_wp2_with (first
        | (go_at_call 15; refine (start_4 _).mono ?_; rintro e w' ⟨rfl, rfl⟩)
        | (go_at_call 16; refine (numbered_4 _).mono ?_; rintro e w' ⟨rfl, rfl⟩))
      go_ret2
      exact ⟨by rw [HR.out]; rfl, rfl⟩
  · rcases (by omega : at_ < 2688 ∨ (2688 ≤ at_ ∧ 6784 ≤ at_) ∨ (2688 ≤ at_ ∧ at_ < 6784)) with h | ⟨h, h'⟩ | ⟨h, h'⟩
    · have d1 : decide (2688 ≤ at_) = false := decide_eq_false (by omega)
      have hn : at_ < 0 := by omega
      clear hp h
      go_wp2_with (go_at_call 15; refine (start_5 _).mono ?_; rintro e w' ⟨rfl, rfl⟩)
      go_round
      case rel => exact ⟨6, by omega, by omega, rfl, .inl hn⟩
      case measure => simp [intOf]
    · have d1 : decide (2688 ≤ at_) = true := decide_eq_true h
      have d2 : decide (at_ < 6784) = false := decide_eq_false (by omega)
      clear hp h
      go_wp2_with (go_at_call 15; refine (start_5 _).mono ?_; rintro e w' ⟨rfl, rfl⟩)
      go_round
      case rel => exact ⟨6, by omega, by omega, rfl, by omega⟩
      case measure => simp [intOf]
    · have HR : Hid (ofP at_ = some ⟨5, 0, 2688, 4096⟩) := ofP_some mem_5 (decide_eq_true (by show (0 : Int) ≤ 1 ∧ _; simp only; omega))
      have d1 : decide (2688 ≤ at_) = true := decide_eq_true h
      have d2 : decide (at_ < 6784) = true := decide_eq_true h'
      clear hp
      go_wp2_with (first
        | (go_at_call 15; refine (start_5 _).mono ?_; rintro e w' ⟨rfl, rfl⟩)
        | (go_at_call 16; refine (numbered_5 _).mono ?_; rintro e w' ⟨rfl, rfl⟩))
      go_ret2
      exact ⟨by rw [HR.out]; rfl, rfl⟩
  · rcases (by omega : at_ < 6784 ∨ (6784 ≤ at_ ∧ 14976 ≤ at_) ∨ (6784 ≤ at_ ∧ at_ < 14976)) with h | ⟨h, h'⟩ | ⟨h, h'⟩
    · have d1 : decide (6784 ≤ at_) = false := decide_eq_false (by omega)
      have hn : at_ < 0 := by omega
      clear hp h
      go_wp2_with (go_at_call 15; refine (start_6 _).mono ?_; rintro e w' ⟨rfl, rfl⟩)
      go_round
      case rel => exact ⟨7, by omega, by omega, rfl, .inl hn⟩
      case measure => simp [intOf]
    · have d1 : decide (6784 ≤ at_) = true := decide_eq_true h
      have d2 : decide (at_ < 14976) = false := decide_eq_false (by omega)
      clear hp h
      go_wp2_with (go_at_call 15; refine (start_6 _).mono ?_; rintro e w' ⟨rfl, rfl⟩)
      go_round
      case rel => exact ⟨7, by omega, by omega, rfl, by omega⟩
      case measure => simp [intOf]
    · have HR : Hid (ofP at_ = some ⟨6, (at_ - 6784) / 1024 + 1, 6784 + ((at_ - 6784) / 1024 + 1 - 1) * 1024, 1024⟩) := ofP_some (mem_6 (n := (at_ - 6784) / 1024 + 1) (by omega) (by omega)) (decide_eq_true (by show (0 : Int) ≤ 1 ∧ _; simp only; omega))
      have d1 : decide (6784 ≤ at_) = true := decide_eq_true h
      have d2 : decide (at_ < 14976) = true := decide_eq_true h'
      clear hp
      go_wp2_with (first
        | (go_at_call 15; refine (start_6 _).mono ?_; rintro e w' ⟨rfl, rfl⟩)
        | (go_at_call 16; refine (numbered_6 _).mono ?_; rintro e w' ⟨rfl, rfl⟩))
      go_ret2
      exact ⟨by rw [HR.out]; rfl, rfl⟩
  · rcases (by omega : at_ < 14976 ∨ (14976 ≤ at_ ∧ 23168 ≤ at_) ∨ (14976 ≤ at_ ∧ at_ < 23168)) with h | ⟨h, h'⟩ | ⟨h, h'⟩
    · have d1 : decide (14976 ≤ at_) = false := decide_eq_false (by omega)
      have hn : at_ < 0 := by omega
      clear hp h
      go_wp2_with (go_at_call 15; refine (start_7 _).mono ?_; rintro e w' ⟨rfl, rfl⟩)
      go_round
      case rel => exact ⟨8, by omega, by omega, rfl, .inl hn⟩
      case measure => simp [intOf]
    · have d1 : decide (14976 ≤ at_) = true := decide_eq_true h
      have d2 : decide (at_ < 23168) = false := decide_eq_false (by omega)
      clear hp h
      go_wp2_with (go_at_call 15; refine (start_7 _).mono ?_; rintro e w' ⟨rfl, rfl⟩)
      go_round
      case rel => exact ⟨8, by omega, by omega, rfl, by omega⟩
      case measure => simp [intOf]
    · have HR : Hid (ofP at_ = some ⟨7, (at_ - 14976) / 64 + 1, 14976 + ((at_ - 14976) / 64 + 1 - 1) * 64, 64⟩) := ofP_some (mem_7 (n := (at_ - 14976) / 64 + 1) (by omega) (by omega)) (decide_eq_true (by show (0 : Int) ≤ 1 ∧ _; simp only; omega))
      have d1 : decide (14976 ≤ at_) = true := decide_eq_true h
      have d2 : decide (at_ < 23168) = true := decide_eq_true h'
      clear hp
      go_wp2_with (first
        | (go_at_call 15; refine (start_7 _).mono ?_; rintro e w' ⟨rfl, rfl⟩)
        | (go_at_call 16; refine (numbered_7 _).mono ?_; rintro e w' ⟨rfl, rfl⟩))
      go_ret2
      exact ⟨by rw [HR.out]; rfl, rfl⟩
  · have HR : Hid (ofP at_ = none) := ofP_none (fun p hp h1 => by unfold kindsP at hp; unfold inF at h1; have h1 := of_decide_eq_true h1; omega)
    clear hp
    go_wp2
    go_ret2
    exact ⟨by rw [HR.out]; rfl, rfl⟩

end Go.Proofs.Ytikakpdbokcbnaa
