import Derived.Test.YtnmblbkbiehodaaInoH
import Derived.Test.YtnmblbkbiehodaaInoI
namespace Go.Proofs.Ytnmblbkbiehodaa
open Go.RowKit Go.WideShapes
set_option linter.unusedSimpArgs false
set_option linter.unusedVariables false

set_option maxHeartbeats 4000000 in
set_option maxRecDepth 100000 in
theorem InodeNeeds_walk (w : World) (n : Int) (wn : (Lit.int .i64 n).wf = true) (i : InoT) :
    Calls Try.prog 6 #[.int .i64 n, inoV i] w fun e w' => e = .returned (.bool true) ∧ Below w.heap.size w w' := by
  have bn := i64_bd wn
  have HN := fun w1 => needs_any n w1 bn.1 bn.2
  have HR := fun (h : n ≤ 60000000) w1 => needsRef_any n w1 h
  have HO := fun w1 => open_any i w1
  obtain ⟨k, l, s, b0, b1, b2, b3, o0, o1, o2, o3, o4, o5, o6, o7⟩ := i
  unfold openF InoT.O at HO
  simp only at HO
  have HB : Hid (Below w.heap.size w (w.alloc (.cells #[.int .i64 k, .int .i64 l, .int .i64 s, .int .i64 b0, .int .i64 b1, .int .i64 b2, .int .i64 b3, .int .i64 o0, .int .i64 o1, .int .i64 o2, .int .i64 o3, .int .i64 o4, .int .i64 o5, .int .i64 o6, .int .i64 o7] 25))) := (Below.refl w.heap.size w).alloc (Nat.le_refl _) _
  have K0 : Hid (Blk (w.alloc (.cells #[.int .i64 k, .int .i64 l, .int .i64 s, .int .i64 b0, .int .i64 b1, .int .i64 b2, .int .i64 b3, .int .i64 o0, .int .i64 o1, .int .i64 o2, .int .i64 o3, .int .i64 o4, .int .i64 o5, .int .i64 o6, .int .i64 o7] 25)) w.heap.size 25 [.int .i64 k, .int .i64 l, .int .i64 s, .int .i64 b0, .int .i64 b1, .int .i64 b2, .int .i64 b3, .int .i64 o0, .int .i64 o1, .int .i64 o2, .int .i64 o3, .int .i64 o4, .int .i64 o5, .int .i64 o6, .int .i64 o7]) := heap_alloc_new w _
  unfold inoV inoC at *
  obtain ⟨f, hf⟩ : ∃ f : Nat → Int, f = fun j => sumW ([o0, o1, o2, o3, o4, o5, o6, o7].take j) := ⟨_, rfl⟩
  have g0 : IntKind.i64.wrap (f 0 + o0) = f 1 := by rw [hf]; rfl
  have g1 : IntKind.i64.wrap (f 1 + o1) = f 2 := by rw [hf]; rfl
  have g2 : IntKind.i64.wrap (f 2 + o2) = f 3 := by rw [hf]; rfl
  have g3 : IntKind.i64.wrap (f 3 + o3) = f 4 := by rw [hf]; rfl
  have g4 : IntKind.i64.wrap (f 4 + o4) = f 5 := by rw [hf]; rfl
  have g5 : IntKind.i64.wrap (f 5 + o5) = f 6 := by rw [hf]; rfl
  have g6 : IntKind.i64.wrap (f 6 + o6) = f 7 := by rw [hf]; rfl
  have g7 : IntKind.i64.wrap (f 7 + o7) = f 8 := by rw [hf]; rfl
  have g8 : f 0 = 0 := by rw [hf]; rfl
  have hf8 : sumW [o0, o1, o2, o3, o4, o5, o6, o7] = f 8 := by rw [hf]; rfl
  rw [hf8] at HO
  have G8 := hid g8
  clear g8 hf hf8
  have HN := hid HN; have HR := hid HR; have HO := hid HO
  generalize needsF n = q at *
  by_cases h6 : n ≤ 60000000
  · have d6 : decide (n ≤ 60000000) = true := decide_eq_true h6
    have HR := hid (HR.out h6)
    clear h6
    go_enter Try.func6, Try.ntmps6
    go_wp2_with (first
      | (go_at_call 17; refine (HN.out _).mono ?_; rintro e w4 ⟨rfl, rfl⟩)
      | (go_at_call 18; refine (HR.out _).mono ?_; rintro e w4 ⟨rfl, rfl⟩))
    go_loopw [6, 7] (fun sm i wr => ∃ j : Nat, j ≤ 8 ∧ i = .int .i64 j ∧ sm = .int .i64 (f j) ∧ wr = (w.alloc (.cells #[.int .i64 k, .int .i64 l, .int .i64 s, .int .i64 b0, .int .i64 b1, .int .i64 b2, .int .i64 b3, .int .i64 o0, .int .i64 o1, .int .i64 o2, .int .i64 o3, .int .i64 o4, .int .i64 o5, .int .i64 o6, .int .i64 o7] 25))) (fun _ i _ => 8 - (intOf i).toNat)
    case atStart => exact ⟨0, by omega, rfl, by rw [G8.out], rfl⟩
    case round =>
    obtain ⟨j, hj, rfl, rfl, rfl⟩ := hrel
    rcases (by omega : j = 0 ∨ j = 1 ∨ j = 2 ∨ j = 3 ∨ j = 4 ∨ j = 5 ∨ j = 6 ∨ j = 7 ∨ j = 8) with rfl | rfl | rfl | rfl | rfl | rfl | rfl | rfl | rfl
    · rw [show ((0 : Nat) : Int) = 0 from rfl]
      go_wp2_with fail
      go_roundw
      case rel => exact ⟨1, by omega, rfl, rfl, by first | rfl | trivial⟩
      case measure => simp [intOf]
    · rw [show ((1 : Nat) : Int) = 1 from rfl]
      go_wp2_with fail
      go_roundw
      case rel => exact ⟨2, by omega, rfl, rfl, by first | rfl | trivial⟩
      case measure => simp [intOf]
    · rw [show ((2 : Nat) : Int) = 2 from rfl]
      go_wp2_with fail
      go_roundw
      case rel => exact ⟨3, by omega, rfl, rfl, by first | rfl | trivial⟩
      case measure => simp [intOf]
    · rw [show ((3 : Nat) : Int) = 3 from rfl]
      go_wp2_with fail
      go_roundw
      case rel => exact ⟨4, by omega, rfl, rfl, by first | rfl | trivial⟩
      case measure => simp [intOf]
    · rw [show ((4 : Nat) : Int) = 4 from rfl]
      go_wp2_with fail
      go_roundw
      case rel => exact ⟨5, by omega, rfl, rfl, by first | rfl | trivial⟩
      case measure => simp [intOf]
    · rw [show ((5 : Nat) : Int) = 5 from rfl]
      go_wp2_with fail
      go_roundw
      case rel => exact ⟨6, by omega, rfl, rfl, by first | rfl | trivial⟩
      case measure => simp [intOf]
    · rw [show ((6 : Nat) : Int) = 6 from rfl]
      go_wp2_with fail
      go_roundw
      case rel => exact ⟨7, by omega, rfl, rfl, by first | rfl | trivial⟩
      case measure => simp [intOf]
    · rw [show ((7 : Nat) : Int) = 7 from rfl]
      go_wp2_with fail
      go_roundw
      case rel => exact ⟨8, by omega, rfl, rfl, by first | rfl | trivial⟩
      case measure => simp [intOf]
    · rw [show ((8 : Nat) : Int) = 8 from rfl]
      go_wp2_with (first
        | (go_at_call 19; refine (HO.out _).mono ?_; rintro e w5 ⟨rfl, b5⟩; have B5 := hid (kept_trans HB.out b5); clear b5)
        | (go_at_call 13; refine (lives11_any _).mono ?_; rintro e w6 ⟨rfl, b6⟩; have B6 := hid (kept_trans B5.out b6); clear b6))
      go_ret
      exact ⟨rfl, B6.out⟩
  · have d6 : decide (n ≤ 60000000) = false := decide_eq_false h6
    clear h6
    go_enter Try.func6, Try.ntmps6
    go_wp2_with (first
      | (go_at_call 17; refine (HN.out _).mono ?_; rintro e w4 ⟨rfl, rfl⟩)
      | (go_at_call 18; refine (HR.out _).mono ?_; rintro e w4 ⟨rfl, rfl⟩))
    go_loopw [6, 7] (fun sm i wr => ∃ j : Nat, j ≤ 8 ∧ i = .int .i64 j ∧ sm = .int .i64 (f j) ∧ wr = (w.alloc (.cells #[.int .i64 k, .int .i64 l, .int .i64 s, .int .i64 b0, .int .i64 b1, .int .i64 b2, .int .i64 b3, .int .i64 o0, .int .i64 o1, .int .i64 o2, .int .i64 o3, .int .i64 o4, .int .i64 o5, .int .i64 o6, .int .i64 o7] 25))) (fun _ i _ => 8 - (intOf i).toNat)
    case atStart => exact ⟨0, by omega, rfl, by rw [G8.out], rfl⟩
    case round =>
    obtain ⟨j, hj, rfl, rfl, rfl⟩ := hrel
    rcases (by omega : j = 0 ∨ j = 1 ∨ j = 2 ∨ j = 3 ∨ j = 4 ∨ j = 5 ∨ j = 6 ∨ j = 7 ∨ j = 8) with rfl | rfl | rfl | rfl | rfl | rfl | rfl | rfl | rfl
    · rw [show ((0 : Nat) : Int) = 0 from rfl]
      go_wp2_with fail
      go_roundw
      case rel => exact ⟨1, by omega, rfl, rfl, by first | rfl | trivial⟩
      case measure => simp [intOf]
    · rw [show ((1 : Nat) : Int) = 1 from rfl]
      go_wp2_with fail
      go_roundw
      case rel => exact ⟨2, by omega, rfl, rfl, by first | rfl | trivial⟩
      case measure => simp [intOf]
    · rw [show ((2 : Nat) : Int) = 2 from rfl]
      go_wp2_with fail
      go_roundw
      case rel => exact ⟨3, by omega, rfl, rfl, by first | rfl | trivial⟩
      case measure => simp [intOf]
    · rw [show ((3 : Nat) : Int) = 3 from rfl]
      go_wp2_with fail
      go_roundw
      case rel => exact ⟨4, by omega, rfl, rfl, by first | rfl | trivial⟩
      case measure => simp [intOf]
    · rw [show ((4 : Nat) : Int) = 4 from rfl]
      go_wp2_with fail
      go_roundw
      case rel => exact ⟨5, by omega, rfl, rfl, by first | rfl | trivial⟩
      case measure => simp [intOf]
    · rw [show ((5 : Nat) : Int) = 5 from rfl]
      go_wp2_with fail
      go_roundw
      case rel => exact ⟨6, by omega, rfl, rfl, by first | rfl | trivial⟩
      case measure => simp [intOf]
    · rw [show ((6 : Nat) : Int) = 6 from rfl]
      go_wp2_with fail
      go_roundw
      case rel => exact ⟨7, by omega, rfl, rfl, by first | rfl | trivial⟩
      case measure => simp [intOf]
    · rw [show ((7 : Nat) : Int) = 7 from rfl]
      go_wp2_with fail
      go_roundw
      case rel => exact ⟨8, by omega, rfl, rfl, by first | rfl | trivial⟩
      case measure => simp [intOf]
    · rw [show ((8 : Nat) : Int) = 8 from rfl]
      go_wp2_with (first
        | (go_at_call 19; refine (HO.out _).mono ?_; rintro e w5 ⟨rfl, b5⟩; have B5 := hid (kept_trans HB.out b5); clear b5)
        | (go_at_call 13; refine (lives11_any _).mono ?_; rintro e w6 ⟨rfl, b6⟩; have B6 := hid (kept_trans B5.out b6); clear b6))
      go_ret
      exact ⟨rfl, B6.out⟩

end Go.Proofs.Ytnmblbkbiehodaa
