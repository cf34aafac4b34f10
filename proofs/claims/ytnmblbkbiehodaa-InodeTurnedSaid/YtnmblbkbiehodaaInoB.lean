import Derived.Test.YtnmblbkbiehodaaInoA
namespace Go.Proofs.Ytnmblbkbiehodaa
open Go.RowKit Go.WideShapes
set_option linter.unusedSimpArgs false
set_option linter.unusedVariables false

def okB (j n s : Int) : Bool := (decide (j < s) == (n != 0)) && decide (0 ≤ n ∧ n ≤ 128)
def okO (n : Int) : Bool := decide (0 ≤ n ∧ n ≤ 8)
def fileHead (l s : Int) : Bool := decide (0 ≤ l ∧ l ≤ 20 ∧ 0 ≤ s ∧ s ≤ 256)
def fileB (i : InoT) : Bool := okB 0 i.b0 i.s && okB 64 i.b1 i.s && okB 128 i.b2 i.s && okB 192 i.b3 i.s
def fileO (i : InoT) : Bool := okO i.o0 && okO i.o1 && okO i.o2 && okO i.o3 && okO i.o4 && okO i.o5 && okO i.o6 && okO i.o7
def mFile (i : InoT) : Bool := fileHead i.l i.s && fileB i && fileO i

set_option maxHeartbeats 8000000 in
set_option maxRecDepth 100000 in
theorem mayFile_any (i : InoT) (w : World) : Calls Try.prog 25 #[inoV i] w fun e w' => e = .returned (.bool (mFile i)) ∧ Below w.heap.size w w' := by
  obtain ⟨k, l, s, b0, b1, b2, b3, o0, o1, o2, o3, o4, o5, o6, o7⟩ := i
  have HB : Hid (Below w.heap.size w (w.alloc (.cells #[.int .i64 k, .int .i64 l, .int .i64 s, .int .i64 b0, .int .i64 b1, .int .i64 b2, .int .i64 b3, .int .i64 o0, .int .i64 o1, .int .i64 o2, .int .i64 o3, .int .i64 o4, .int .i64 o5, .int .i64 o6, .int .i64 o7] 25))) := (Below.refl w.heap.size w).alloc (Nat.le_refl _) _
  unfold inoV inoC
  obtain ⟨M, hM⟩ : ∃ M, M = mFile ⟨k, l, s, b0, b1, b2, b3, o0, o1, o2, o3, o4, o5, o6, o7⟩ := ⟨_, rfl⟩
  rw [← hM]
  have hMh : fileHead l s = false → M = false := fun h => by rw [hM]; simp [mFile, h]
  have hMB : (okB 0 b0 s = false ∨ okB 64 b1 s = false ∨ okB 128 b2 s = false ∨ okB 192 b3 s = false) → M = false := fun h => by rw [hM]; rcases h with h | h | h | h <;> simp [mFile, fileB, h]
  have hMO : (okO o0 = false ∨ okO o1 = false ∨ okO o2 = false ∨ okO o3 = false ∨ okO o4 = false ∨ okO o5 = false ∨ okO o6 = false ∨ okO o7 = false) → M = false := fun h => by rw [hM]; rcases h with h | h | h | h | h | h | h | h <;> simp [mFile, fileO, h]
  have hMT : fileHead l s = true → (okB 0 b0 s = true ∧ okB 64 b1 s = true ∧ okB 128 b2 s = true ∧ okB 192 b3 s = true) → (okO o0 = true ∧ okO o1 = true ∧ okO o2 = true ∧ okO o3 = true ∧ okO o4 = true ∧ okO o5 = true ∧ okO o6 = true ∧ okO o7 = true) → M = true := fun h1 h2 h3 => by rw [hM]; simp [mFile, fileB, fileO, h1, h2.1, h2.2.1, h2.2.2.1, h2.2.2.2, h3.1, h3.2.1, h3.2.2.1, h3.2.2.2.1, h3.2.2.2.2.1, h3.2.2.2.2.2.1, h3.2.2.2.2.2.2.1, h3.2.2.2.2.2.2.2]
  have HMh := hid hMh; have HMB := hid hMB; have HMO := hid hMO; have HMT := hid hMT
  clear hM hMh hMB hMO hMT
  by_cases hh : 0 ≤ l ∧ l ≤ 20 ∧ 0 ≤ s ∧ s ≤ 256
  · have hhT : fileHead l s = true := decide_eq_true hh
    have HT := hid (HMT.out hhT)
    obtain ⟨h1, h2, h3, h4⟩ := hh
    have d1 : decide (l < 0) = false := decide_eq_false (by omega)
    have d2 : decide (20 < l) = false := decide_eq_false (by omega)
    have d3 : decide (s < 0) = false := decide_eq_false (by omega)
    have d4 : decide (256 < s) = false := decide_eq_false (by omega)
    clear hhT HMh
    have ib0 : ∀ w, (Instr.index 22 (.agg #[.int .i64 b0, .int .i64 b1, .int .i64 b2, .int .i64 b3]) (.int .i64 0)).run Try.prog w = .ok (.int .i64 b0) w := fun _ => by kernel_rfl
    have ib1 : ∀ w, (Instr.index 22 (.agg #[.int .i64 b0, .int .i64 b1, .int .i64 b2, .int .i64 b3]) (.int .i64 1)).run Try.prog w = .ok (.int .i64 b1) w := fun _ => by kernel_rfl
    have ib2 : ∀ w, (Instr.index 22 (.agg #[.int .i64 b0, .int .i64 b1, .int .i64 b2, .int .i64 b3]) (.int .i64 2)).run Try.prog w = .ok (.int .i64 b2) w := fun _ => by kernel_rfl
    have ib3 : ∀ w, (Instr.index 22 (.agg #[.int .i64 b0, .int .i64 b1, .int .i64 b2, .int .i64 b3]) (.int .i64 3)).run Try.prog w = .ok (.int .i64 b3) w := fun _ => by kernel_rfl
    have z0 : okB 0 b0 s = (decide (0 < s) == (b0 != 0) && decide (0 ≤ b0 ∧ b0 ≤ 128)) := rfl
    have z1 : okB 64 b1 s = (decide (64 < s) == (b1 != 0) && decide (0 ≤ b1 ∧ b1 ≤ 128)) := rfl
    have z2 : okB 128 b2 s = (decide (128 < s) == (b2 != 0) && decide (0 ≤ b2 ∧ b2 ≤ 128)) := rfl
    have z3 : okB 192 b3 s = (decide (192 < s) == (b3 != 0) && decide (0 ≤ b3 ∧ b3 ≤ 128)) := rfl
    have Z0 := hid z0; have Z1 := hid z1; have Z2 := hid z2; have Z3 := hid z3
    clear z0 z1 z2 z3
    go_enter Try.func25, Try.ntmps25
    go_wp2_with fail
    go_loopw [28] (fun i wr => ∃ j : Nat, j ≤ 4 ∧ i = .int .i64 j ∧ ((1 ≤ j → okB 0 b0 s = true) ∧ (2 ≤ j → okB 64 b1 s = true) ∧ (3 ≤ j → okB 128 b2 s = true) ∧ (4 ≤ j → okB 192 b3 s = true)) ∧ wr = (w.alloc (.cells #[.int .i64 k, .int .i64 l, .int .i64 s, .int .i64 b0, .int .i64 b1, .int .i64 b2, .int .i64 b3, .int .i64 o0, .int .i64 o1, .int .i64 o2, .int .i64 o3, .int .i64 o4, .int .i64 o5, .int .i64 o6, .int .i64 o7] 25))) (fun i _ => 4 - (intOf i).toNat)
    case atStart => exact ⟨0, by omega, rfl, ⟨fun h => absurd h (by omega), fun h => absurd h (by omega), fun h => absurd h (by omega), fun h => absurd h (by omega)⟩, rfl⟩
    case round =>
    obtain ⟨j, hj, rfl, hp, rfl⟩ := hrel
    have HP := hid hp
    clear hp
    rcases (by omega : j = 0 ∨ j = 1 ∨ j = 2 ∨ j = 3 ∨ j = 4) with rfl | rfl | rfl | rfl | rfl
    · skip
      rw [show ((0 : Nat) : Int) = 0 from rfl]
      cases hq : decide (0 < s)
      · cases hn : (b0 != 0)
        · cases hm : decide (0 ≤ b0 ∧ b0 ≤ 128)
          · have HOK : Hid (M = false) := HMB.out (.inl (by rw [Z0.out, hq, hn, hm]; rfl))
            go_wp2_with (go_at_call 40; refine (mayBlock_any _ _).mono ?_; rintro e w4 ⟨rfl, rfl⟩; rw [hm])
            go_ret
            exact ⟨by rw [HOK.out]; rfl, HB.out⟩
          · have HOK : Hid (okB 0 b0 s = true) := by rw [Z0.out, hq, hn, hm]; rfl
            go_wp2_with (go_at_call 40; refine (mayBlock_any _ _).mono ?_; rintro e w4 ⟨rfl, rfl⟩; rw [hm])
            go_roundw
            case rel => exact ⟨1, by omega, rfl, ⟨fun _ => HOK.out, fun h => absurd h (by omega), fun h => absurd h (by omega), fun h => absurd h (by omega)⟩, by first | rfl | trivial⟩
            case measure => simp [intOf]
        · cases hm : decide (0 ≤ b0 ∧ b0 ≤ 128)
          · have HOK : Hid (M = false) := HMB.out (.inl (by rw [Z0.out, hq, hn, hm]; rfl))
            go_wp2_with (go_at_call 40; refine (mayBlock_any _ _).mono ?_; rintro e w4 ⟨rfl, rfl⟩; rw [hm])
            go_ret
            exact ⟨by rw [HOK.out]; rfl, HB.out⟩
          · have HOK : Hid (M = false) := HMB.out (.inl (by rw [Z0.out, hq, hn, hm]; rfl))
            go_wp2_with (go_at_call 40; refine (mayBlock_any _ _).mono ?_; rintro e w4 ⟨rfl, rfl⟩; rw [hm])
            go_ret
            exact ⟨by rw [HOK.out]; rfl, HB.out⟩
      · cases hn : (b0 != 0)
        · cases hm : decide (0 ≤ b0 ∧ b0 ≤ 128)
          · have HOK : Hid (M = false) := HMB.out (.inl (by rw [Z0.out, hq, hn, hm]; rfl))
            go_wp2_with (go_at_call 40; refine (mayBlock_any _ _).mono ?_; rintro e w4 ⟨rfl, rfl⟩; rw [hm])
            go_ret
            exact ⟨by rw [HOK.out]; rfl, HB.out⟩
          · have HOK : Hid (M = false) := HMB.out (.inl (by rw [Z0.out, hq, hn, hm]; rfl))
            go_wp2_with (go_at_call 40; refine (mayBlock_any _ _).mono ?_; rintro e w4 ⟨rfl, rfl⟩; rw [hm])
            go_ret
            exact ⟨by rw [HOK.out]; rfl, HB.out⟩
        · cases hm : decide (0 ≤ b0 ∧ b0 ≤ 128)
          · have HOK : Hid (M = false) := HMB.out (.inl (by rw [Z0.out, hq, hn, hm]; rfl))
            go_wp2_with (go_at_call 40; refine (mayBlock_any _ _).mono ?_; rintro e w4 ⟨rfl, rfl⟩; rw [hm])
            go_ret
            exact ⟨by rw [HOK.out]; rfl, HB.out⟩
          · have HOK : Hid (okB 0 b0 s = true) := by rw [Z0.out, hq, hn, hm]; rfl
            go_wp2_with (go_at_call 40; refine (mayBlock_any _ _).mono ?_; rintro e w4 ⟨rfl, rfl⟩; rw [hm])
            go_roundw
            case rel => exact ⟨1, by omega, rfl, ⟨fun _ => HOK.out, fun h => absurd h (by omega), fun h => absurd h (by omega), fun h => absurd h (by omega)⟩, by first | rfl | trivial⟩
            case measure => simp [intOf]
    · skip
      rw [show ((1 : Nat) : Int) = 1 from rfl]
      cases hq : decide (64 < s)
      · cases hn : (b1 != 0)
        · cases hm : decide (0 ≤ b1 ∧ b1 ≤ 128)
          · have HOK : Hid (M = false) := HMB.out (.inr (.inl (by rw [Z1.out, hq, hn, hm]; rfl)))
            go_wp2_with (go_at_call 40; refine (mayBlock_any _ _).mono ?_; rintro e w4 ⟨rfl, rfl⟩; rw [hm])
            go_ret
            exact ⟨by rw [HOK.out]; rfl, HB.out⟩
          · have HOK : Hid (okB 64 b1 s = true) := by rw [Z1.out, hq, hn, hm]; rfl
            go_wp2_with (go_at_call 40; refine (mayBlock_any _ _).mono ?_; rintro e w4 ⟨rfl, rfl⟩; rw [hm])
            go_roundw
            case rel => exact ⟨2, by omega, rfl, ⟨fun _ => HP.out.1 (by omega), fun _ => HOK.out, fun h => absurd h (by omega), fun h => absurd h (by omega)⟩, by first | rfl | trivial⟩
            case measure => simp [intOf]
        · cases hm : decide (0 ≤ b1 ∧ b1 ≤ 128)
          · have HOK : Hid (M = false) := HMB.out (.inr (.inl (by rw [Z1.out, hq, hn, hm]; rfl)))
            go_wp2_with (go_at_call 40; refine (mayBlock_any _ _).mono ?_; rintro e w4 ⟨rfl, rfl⟩; rw [hm])
            go_ret
            exact ⟨by rw [HOK.out]; rfl, HB.out⟩
          · have HOK : Hid (M = false) := HMB.out (.inr (.inl (by rw [Z1.out, hq, hn, hm]; rfl)))
            go_wp2_with (go_at_call 40; refine (mayBlock_any _ _).mono ?_; rintro e w4 ⟨rfl, rfl⟩; rw [hm])
            go_ret
            exact ⟨by rw [HOK.out]; rfl, HB.out⟩
      · cases hn : (b1 != 0)
        · cases hm : decide (0 ≤ b1 ∧ b1 ≤ 128)
          · have HOK : Hid (M = false) := HMB.out (.inr (.inl (by rw [Z1.out, hq, hn, hm]; rfl)))
            go_wp2_with (go_at_call 40; refine (mayBlock_any _ _).mono ?_; rintro e w4 ⟨rfl, rfl⟩; rw [hm])
            go_ret
            exact ⟨by rw [HOK.out]; rfl, HB.out⟩
          · have HOK : Hid (M = false) := HMB.out (.inr (.inl (by rw [Z1.out, hq, hn, hm]; rfl)))
            go_wp2_with (go_at_call 40; refine (mayBlock_any _ _).mono ?_; rintro e w4 ⟨rfl, rfl⟩; rw [hm])
            go_ret
            exact ⟨by rw [HOK.out]; rfl, HB.out⟩
        · cases hm : decide (0 ≤ b1 ∧ b1 ≤ 128)
          · have HOK : Hid (M = false) := HMB.out (.inr (.inl (by rw [Z1.out, hq, hn, hm]; rfl)))
            go_wp2_with (go_at_call 40; refine (mayBlock_any _ _).mono ?_; rintro e w4 ⟨rfl, rfl⟩; rw [hm])
            go_ret
            exact ⟨by rw [HOK.out]; rfl, HB.out⟩
          · have HOK : Hid (okB 64 b1 s = true) := by rw [Z1.out, hq, hn, hm]; rfl
            go_wp2_with (go_at_call 40; refine (mayBlock_any _ _).mono ?_; rintro e w4 ⟨rfl, rfl⟩; rw [hm])
            go_roundw
            case rel => exact ⟨2, by omega, rfl, ⟨fun _ => HP.out.1 (by omega), fun _ => HOK.out, fun h => absurd h (by omega), fun h => absurd h (by omega)⟩, by first | rfl | trivial⟩
            case measure => simp [intOf]
    · skip
      rw [show ((2 : Nat) : Int) = 2 from rfl]
      cases hq : decide (128 < s)
      · cases hn : (b2 != 0)
        · cases hm : decide (0 ≤ b2 ∧ b2 ≤ 128)
          · have HOK : Hid (M = false) := HMB.out (.inr (.inr (.inl (by rw [Z2.out, hq, hn, hm]; rfl))))
            go_wp2_with (go_at_call 40; refine (mayBlock_any _ _).mono ?_; rintro e w4 ⟨rfl, rfl⟩; rw [hm])
            go_ret
            exact ⟨by rw [HOK.out]; rfl, HB.out⟩
          · have HOK : Hid (okB 128 b2 s = true) := by rw [Z2.out, hq, hn, hm]; rfl
            go_wp2_with (go_at_call 40; refine (mayBlock_any _ _).mono ?_; rintro e w4 ⟨rfl, rfl⟩; rw [hm])
            go_roundw
            case rel => exact ⟨3, by omega, rfl, ⟨fun _ => HP.out.1 (by omega), fun _ => HP.out.2.1 (by omega), fun _ => HOK.out, fun h => absurd h (by omega)⟩, by first | rfl | trivial⟩
            case measure => simp [intOf]
        · cases hm : decide (0 ≤ b2 ∧ b2 ≤ 128)
          · have HOK : Hid (M = false) := HMB.out (.inr (.inr (.inl (by rw [Z2.out, hq, hn, hm]; rfl))))
            go_wp2_with (go_at_call 40; refine (mayBlock_any _ _).mono ?_; rintro e w4 ⟨rfl, rfl⟩; rw [hm])
            go_ret
            exact ⟨by rw [HOK.out]; rfl, HB.out⟩
          · have HOK : Hid (M = false) := HMB.out (.inr (.inr (.inl (by rw [Z2.out, hq, hn, hm]; rfl))))
            go_wp2_with (go_at_call 40; refine (mayBlock_any _ _).mono ?_; rintro e w4 ⟨rfl, rfl⟩; rw [hm])
            go_ret
            exact ⟨by rw [HOK.out]; rfl, HB.out⟩
      · cases hn : (b2 != 0)
        · cases hm : decide (0 ≤ b2 ∧ b2 ≤ 128)
          · have HOK : Hid (M = false) := HMB.out (.inr (.inr (.inl (by rw [Z2.out, hq, hn, hm]; rfl))))
            go_wp2_with (go_at_call 40; refine (mayBlock_any _ _).mono ?_; rintro e w4 ⟨rfl, rfl⟩; rw [hm])
            go_ret
            exact ⟨by rw [HOK.out]; rfl, HB.out⟩
          · have HOK : Hid (M = false) := HMB.out (.inr (.inr (.inl (by rw [Z2.out, hq, hn, hm]; rfl))))
            go_wp2_with (go_at_call 40; refine (mayBlock_any _ _).mono ?_; rintro e w4 ⟨rfl, rfl⟩; rw [hm])
            go_ret
            exact ⟨by rw [HOK.out]; rfl, HB.out⟩
        · cases hm : decide (0 ≤ b2 ∧ b2 ≤ 128)
          · have HOK : Hid (M = false) := HMB.out (.inr (.inr (.inl (by rw [Z2.out, hq, hn, hm]; rfl))))
            go_wp2_with (go_at_call 40; refine (mayBlock_any _ _).mono ?_; rintro e w4 ⟨rfl, rfl⟩; rw [hm])
            go_ret
            exact ⟨by rw [HOK.out]; rfl, HB.out⟩
          · have HOK : Hid (okB 128 b2 s = true) := by rw [Z2.out, hq, hn, hm]; rfl
            go_wp2_with (go_at_call 40; refine (mayBlock_any _ _).mono ?_; rintro e w4 ⟨rfl, rfl⟩; rw [hm])
            go_roundw
            case rel => exact ⟨3, by omega, rfl, ⟨fun _ => HP.out.1 (by omega), fun _ => HP.out.2.1 (by omega), fun _ => HOK.out, fun h => absurd h (by omega)⟩, by first | rfl | trivial⟩
            case measure => simp [intOf]
    · skip
      rw [show ((3 : Nat) : Int) = 3 from rfl]
      cases hq : decide (192 < s)
      · cases hn : (b3 != 0)
        · cases hm : decide (0 ≤ b3 ∧ b3 ≤ 128)
          · have HOK : Hid (M = false) := HMB.out (.inr (.inr (.inr (by rw [Z3.out, hq, hn, hm]; rfl))))
            go_wp2_with (go_at_call 40; refine (mayBlock_any _ _).mono ?_; rintro e w4 ⟨rfl, rfl⟩; rw [hm])
            go_ret
            exact ⟨by rw [HOK.out]; rfl, HB.out⟩
          · have HOK : Hid (okB 192 b3 s = true) := by rw [Z3.out, hq, hn, hm]; rfl
            go_wp2_with (go_at_call 40; refine (mayBlock_any _ _).mono ?_; rintro e w4 ⟨rfl, rfl⟩; rw [hm])
            go_roundw
            case rel => exact ⟨4, by omega, rfl, ⟨fun _ => HP.out.1 (by omega), fun _ => HP.out.2.1 (by omega), fun _ => HP.out.2.2.1 (by omega), fun _ => HOK.out⟩, by first | rfl | trivial⟩
            case measure => simp [intOf]
        · cases hm : decide (0 ≤ b3 ∧ b3 ≤ 128)
          · have HOK : Hid (M = false) := HMB.out (.inr (.inr (.inr (by rw [Z3.out, hq, hn, hm]; rfl))))
            go_wp2_with (go_at_call 40; refine (mayBlock_any _ _).mono ?_; rintro e w4 ⟨rfl, rfl⟩; rw [hm])
            go_ret
            exact ⟨by rw [HOK.out]; rfl, HB.out⟩
          · have HOK : Hid (M = false) := HMB.out (.inr (.inr (.inr (by rw [Z3.out, hq, hn, hm]; rfl))))
            go_wp2_with (go_at_call 40; refine (mayBlock_any _ _).mono ?_; rintro e w4 ⟨rfl, rfl⟩; rw [hm])
            go_ret
            exact ⟨by rw [HOK.out]; rfl, HB.out⟩
      · cases hn : (b3 != 0)
        · cases hm : decide (0 ≤ b3 ∧ b3 ≤ 128)
          · have HOK : Hid (M = false) := HMB.out (.inr (.inr (.inr (by rw [Z3.out, hq, hn, hm]; rfl))))
            go_wp2_with (go_at_call 40; refine (mayBlock_any _ _).mono ?_; rintro e w4 ⟨rfl, rfl⟩; rw [hm])
            go_ret
            exact ⟨by rw [HOK.out]; rfl, HB.out⟩
          · have HOK : Hid (M = false) := HMB.out (.inr (.inr (.inr (by rw [Z3.out, hq, hn, hm]; rfl))))
            go_wp2_with (go_at_call 40; refine (mayBlock_any _ _).mono ?_; rintro e w4 ⟨rfl, rfl⟩; rw [hm])
            go_ret
            exact ⟨by rw [HOK.out]; rfl, HB.out⟩
        · cases hm : decide (0 ≤ b3 ∧ b3 ≤ 128)
          · have HOK : Hid (M = false) := HMB.out (.inr (.inr (.inr (by rw [Z3.out, hq, hn, hm]; rfl))))
            go_wp2_with (go_at_call 40; refine (mayBlock_any _ _).mono ?_; rintro e w4 ⟨rfl, rfl⟩; rw [hm])
            go_ret
            exact ⟨by rw [HOK.out]; rfl, HB.out⟩
          · have HOK : Hid (okB 192 b3 s = true) := by rw [Z3.out, hq, hn, hm]; rfl
            go_wp2_with (go_at_call 40; refine (mayBlock_any _ _).mono ?_; rintro e w4 ⟨rfl, rfl⟩; rw [hm])
            go_roundw
            case rel => exact ⟨4, by omega, rfl, ⟨fun _ => HP.out.1 (by omega), fun _ => HP.out.2.1 (by omega), fun _ => HP.out.2.2.1 (by omega), fun _ => HOK.out⟩, by first | rfl | trivial⟩
            case measure => simp [intOf]
    · rw [show ((4 : Nat) : Int) = 4 from rfl]
      have HT2 := hid (HT.out ⟨HP.out.1 (by omega), HP.out.2.1 (by omega), HP.out.2.2.1 (by omega), HP.out.2.2.2 (by omega)⟩)
      clear HT HP HMB Z0 Z1 Z2 Z3 ib0 ib1 ib2 ib3
      have io0 : ∀ w, (Instr.index 23 (.agg #[.int .i64 o0, .int .i64 o1, .int .i64 o2, .int .i64 o3, .int .i64 o4, .int .i64 o5, .int .i64 o6, .int .i64 o7]) (.int .i64 0)).run Try.prog w = .ok (.int .i64 o0) w := fun _ => by kernel_rfl
      have io1 : ∀ w, (Instr.index 23 (.agg #[.int .i64 o0, .int .i64 o1, .int .i64 o2, .int .i64 o3, .int .i64 o4, .int .i64 o5, .int .i64 o6, .int .i64 o7]) (.int .i64 1)).run Try.prog w = .ok (.int .i64 o1) w := fun _ => by kernel_rfl
      have io2 : ∀ w, (Instr.index 23 (.agg #[.int .i64 o0, .int .i64 o1, .int .i64 o2, .int .i64 o3, .int .i64 o4, .int .i64 o5, .int .i64 o6, .int .i64 o7]) (.int .i64 2)).run Try.prog w = .ok (.int .i64 o2) w := fun _ => by kernel_rfl
      have io3 : ∀ w, (Instr.index 23 (.agg #[.int .i64 o0, .int .i64 o1, .int .i64 o2, .int .i64 o3, .int .i64 o4, .int .i64 o5, .int .i64 o6, .int .i64 o7]) (.int .i64 3)).run Try.prog w = .ok (.int .i64 o3) w := fun _ => by kernel_rfl
      have io4 : ∀ w, (Instr.index 23 (.agg #[.int .i64 o0, .int .i64 o1, .int .i64 o2, .int .i64 o3, .int .i64 o4, .int .i64 o5, .int .i64 o6, .int .i64 o7]) (.int .i64 4)).run Try.prog w = .ok (.int .i64 o4) w := fun _ => by kernel_rfl
      have io5 : ∀ w, (Instr.index 23 (.agg #[.int .i64 o0, .int .i64 o1, .int .i64 o2, .int .i64 o3, .int .i64 o4, .int .i64 o5, .int .i64 o6, .int .i64 o7]) (.int .i64 5)).run Try.prog w = .ok (.int .i64 o5) w := fun _ => by kernel_rfl
      have io6 : ∀ w, (Instr.index 23 (.agg #[.int .i64 o0, .int .i64 o1, .int .i64 o2, .int .i64 o3, .int .i64 o4, .int .i64 o5, .int .i64 o6, .int .i64 o7]) (.int .i64 6)).run Try.prog w = .ok (.int .i64 o6) w := fun _ => by kernel_rfl
      have io7 : ∀ w, (Instr.index 23 (.agg #[.int .i64 o0, .int .i64 o1, .int .i64 o2, .int .i64 o3, .int .i64 o4, .int .i64 o5, .int .i64 o6, .int .i64 o7]) (.int .i64 7)).run Try.prog w = .ok (.int .i64 o7) w := fun _ => by kernel_rfl
      obtain ⟨wo, hwo⟩ : ∃ x, x = (w.alloc (.cells #[.int .i64 k, .int .i64 l, .int .i64 s, .int .i64 b0, .int .i64 b1, .int .i64 b2, .int .i64 b3, .int .i64 o0, .int .i64 o1, .int .i64 o2, .int .i64 o3, .int .i64 o4, .int .i64 o5, .int .i64 o6, .int .i64 o7] 25)) := ⟨_, rfl⟩
      go_wp2_with fail
      go_loopw [49] (fun i wr => ∃ j : Nat, j ≤ 8 ∧ i = .int .i64 j ∧ ((1 ≤ j → okO o0 = true) ∧ (2 ≤ j → okO o1 = true) ∧ (3 ≤ j → okO o2 = true) ∧ (4 ≤ j → okO o3 = true) ∧ (5 ≤ j → okO o4 = true) ∧ (6 ≤ j → okO o5 = true) ∧ (7 ≤ j → okO o6 = true) ∧ (8 ≤ j → okO o7 = true)) ∧ wr = (w.alloc (.cells #[.int .i64 k, .int .i64 l, .int .i64 s, .int .i64 b0, .int .i64 b1, .int .i64 b2, .int .i64 b3, .int .i64 o0, .int .i64 o1, .int .i64 o2, .int .i64 o3, .int .i64 o4, .int .i64 o5, .int .i64 o6, .int .i64 o7] 25))) (fun i _ => 8 - (intOf i).toNat)
      case atStart => exact ⟨0, by omega, rfl, ⟨fun h => absurd h (by omega), fun h => absurd h (by omega), fun h => absurd h (by omega), fun h => absurd h (by omega), fun h => absurd h (by omega), fun h => absurd h (by omega), fun h => absurd h (by omega), fun h => absurd h (by omega)⟩, rfl⟩
      case round =>
      obtain ⟨j, hj, rfl, hp, rfl⟩ := hrel
      have HP := hid hp
      clear hp
      rcases (by omega : j = 0 ∨ j = 1 ∨ j = 2 ∨ j = 3 ∨ j = 4 ∨ j = 5 ∨ j = 6 ∨ j = 7 ∨ j = 8) with rfl | rfl | rfl | rfl | rfl | rfl | rfl | rfl | rfl
      · skip
        rw [show ((0 : Nat) : Int) = 0 from rfl]
        rcases (by omega : o0 < 0 ∨ (¬ o0 < 0 ∧ 8 < o0) ∨ (0 ≤ o0 ∧ o0 ≤ 8)) with h | ⟨h, h'⟩ | h
        · have HOK : Hid (M = false) := HMO.out (.inl (decide_eq_false (by omega)))
          have d5 : decide (o0 < 0) = true := decide_eq_true h
          clear h
          go_wp2_with fail
          go_ret
          exact ⟨by rw [HOK.out]; rfl, HB.out⟩
        · have HOK : Hid (M = false) := HMO.out (.inl (decide_eq_false (by omega)))
          have d5 : decide (o0 < 0) = false := decide_eq_false h
          have d6 : decide (8 < o0) = true := decide_eq_true h'
          clear h h'
          go_wp2_with fail
          go_ret
          exact ⟨by rw [HOK.out]; rfl, HB.out⟩
        · have HOK : Hid (okO o0 = true) := decide_eq_true h
          have d5 : decide (o0 < 0) = false := decide_eq_false (by omega)
          have d6 : decide (8 < o0) = false := decide_eq_false (by omega)
          clear h
          go_wp2_with fail
          go_roundw
          case rel => exact ⟨1, by omega, rfl, ⟨fun _ => HOK.out, fun h => absurd h (by omega), fun h => absurd h (by omega), fun h => absurd h (by omega), fun h => absurd h (by omega), fun h => absurd h (by omega), fun h => absurd h (by omega), fun h => absurd h (by omega)⟩, by first | rfl | trivial⟩
          case measure => simp [intOf]
      · skip
        rw [show ((1 : Nat) : Int) = 1 from rfl]
        rcases (by omega : o1 < 0 ∨ (¬ o1 < 0 ∧ 8 < o1) ∨ (0 ≤ o1 ∧ o1 ≤ 8)) with h | ⟨h, h'⟩ | h
        · have HOK : Hid (M = false) := HMO.out (.inr (.inl (decide_eq_false (by omega))))
          have d5 : decide (o1 < 0) = true := decide_eq_true h
          clear h
          go_wp2_with fail
          go_ret
          exact ⟨by rw [HOK.out]; rfl, HB.out⟩
        · have HOK : Hid (M = false) := HMO.out (.inr (.inl (decide_eq_false (by omega))))
          have d5 : decide (o1 < 0) = false := decide_eq_false h
          have d6 : decide (8 < o1) = true := decide_eq_true h'
          clear h h'
          go_wp2_with fail
          go_ret
          exact ⟨by rw [HOK.out]; rfl, HB.out⟩
        · have HOK : Hid (okO o1 = true) := decide_eq_true h
          have d5 : decide (o1 < 0) = false := decide_eq_false (by omega)
          have d6 : decide (8 < o1) = false := decide_eq_false (by omega)
          clear h
          go_wp2_with fail
          go_roundw
          case rel => exact ⟨2, by omega, rfl, ⟨fun _ => HP.out.1 (by omega), fun _ => HOK.out, fun h => absurd h (by omega), fun h => absurd h (by omega), fun h => absurd h (by omega), fun h => absurd h (by omega), fun h => absurd h (by omega), fun h => absurd h (by omega)⟩, by first | rfl | trivial⟩
          case measure => simp [intOf]
      · skip
        rw [show ((2 : Nat) : Int) = 2 from rfl]
        rcases (by omega : o2 < 0 ∨ (¬ o2 < 0 ∧ 8 < o2) ∨ (0 ≤ o2 ∧ o2 ≤ 8)) with h | ⟨h, h'⟩ | h
        · have HOK : Hid (M = false) := HMO.out (.inr (.inr (.inl (decide_eq_false (by omega)))))
          have d5 : decide (o2 < 0) = true := decide_eq_true h
          clear h
          go_wp2_with fail
          go_ret
          exact ⟨by rw [HOK.out]; rfl, HB.out⟩
        · have HOK : Hid (M = false) := HMO.out (.inr (.inr (.inl (decide_eq_false (by omega)))))
          have d5 : decide (o2 < 0) = false := decide_eq_false h
          have d6 : decide (8 < o2) = true := decide_eq_true h'
          clear h h'
          go_wp2_with fail
          go_ret
          exact ⟨by rw [HOK.out]; rfl, HB.out⟩
        · have HOK : Hid (okO o2 = true) := decide_eq_true h
          have d5 : decide (o2 < 0) = false := decide_eq_false (by omega)
          have d6 : decide (8 < o2) = false := decide_eq_false (by omega)
          clear h
          go_wp2_with fail
          go_roundw
          case rel => exact ⟨3, by omega, rfl, ⟨fun _ => HP.out.1 (by omega), fun _ => HP.out.2.1 (by omega), fun _ => HOK.out, fun h => absurd h (by omega), fun h => absurd h (by omega), fun h => absurd h (by omega), fun h => absurd h (by omega), fun h => absurd h (by omega)⟩, by first | rfl | trivial⟩
          case measure => simp [intOf]
      · skip
        rw [show ((3 : Nat) : Int) = 3 from rfl]
        rcases (by omega : o3 < 0 ∨ (¬ o3 < 0 ∧ 8 < o3) ∨ (0 ≤ o3 ∧ o3 ≤ 8)) with h | ⟨h, h'⟩ | h
        · have HOK : Hid (M = false) := HMO.out (.inr (.inr (.inr (.inl (decide_eq_false (by omega))))))
          have d5 : decide (o3 < 0) = true := decide_eq_true h
          clear h
          go_wp2_with fail
          go_ret
          exact ⟨by rw [HOK.out]; rfl, HB.out⟩
        · have HOK : Hid (M = false) := HMO.out (.inr (.inr (.inr (.inl (decide_eq_false (by omega))))))
          have d5 : decide (o3 < 0) = false := decide_eq_false h
          have d6 : decide (8 < o3) = true := decide_eq_true h'
          clear h h'
          go_wp2_with fail
          go_ret
          exact ⟨by rw [HOK.out]; rfl, HB.out⟩
        · have HOK : Hid (okO o3 = true) := decide_eq_true h
          have d5 : decide (o3 < 0) = false := decide_eq_false (by omega)
          have d6 : decide (8 < o3) = false := decide_eq_false (by omega)
          clear h
          go_wp2_with fail
          go_roundw
          case rel => exact ⟨4, by omega, rfl, ⟨fun _ => HP.out.1 (by omega), fun _ => HP.out.2.1 (by omega), fun _ => HP.out.2.2.1 (by omega), fun _ => HOK.out, fun h => absurd h (by omega), fun h => absurd h (by omega), fun h => absurd h (by omega), fun h => absurd h (by omega)⟩, by first | rfl | trivial⟩
          case measure => simp [intOf]
      · skip
        rw [show ((4 : Nat) : Int) = 4 from rfl]
        rcases (by omega : o4 < 0 ∨ (¬ o4 < 0 ∧ 8 < o4) ∨ (0 ≤ o4 ∧ o4 ≤ 8)) with h | ⟨h, h'⟩ | h
        · have HOK : Hid (M = false) := HMO.out (.inr (.inr (.inr (.inr (.inl (decide_eq_false (by omega)))))))
          have d5 : decide (o4 < 0) = true := decide_eq_true h
          clear h
          go_wp2_with fail
          go_ret
          exact ⟨by rw [HOK.out]; rfl, HB.out⟩
        · have HOK : Hid (M = false) := HMO.out (.inr (.inr (.inr (.inr (.inl (decide_eq_false (by omega)))))))
          have d5 : decide (o4 < 0) = false := decide_eq_false h
          have d6 : decide (8 < o4) = true := decide_eq_true h'
          clear h h'
          go_wp2_with fail
          go_ret
          exact ⟨by rw [HOK.out]; rfl, HB.out⟩
        · have HOK : Hid (okO o4 = true) := decide_eq_true h
          have d5 : decide (o4 < 0) = false := decide_eq_false (by omega)
          have d6 : decide (8 < o4) = false := decide_eq_false (by omega)
          clear h
          go_wp2_with fail
          go_roundw
          case rel => exact ⟨5, by omega, rfl, ⟨fun _ => HP.out.1 (by omega), fun _ => HP.out.2.1 (by omega), fun _ => HP.out.2.2.1 (by omega), fun _ => HP.out.2.2.2.1 (by omega), fun _ => HOK.out, fun h => absurd h (by omega), fun h => absurd h (by omega), fun h => absurd h (by omega)⟩, by first | rfl | trivial⟩
          case measure => simp [intOf]
      · skip
        rw [show ((5 : Nat) : Int) = 5 from rfl]
        rcases (by omega : o5 < 0 ∨ (¬ o5 < 0 ∧ 8 < o5) ∨ (0 ≤ o5 ∧ o5 ≤ 8)) with h | ⟨h, h'⟩ | h
        · have HOK : Hid (M = false) := HMO.out (.inr (.inr (.inr (.inr (.inr (.inl (decide_eq_false (by omega))))))))
          have d5 : decide (o5 < 0) = true := decide_eq_true h
          clear h
          go_wp2_with fail
          go_ret
          exact ⟨by rw [HOK.out]; rfl, HB.out⟩
        · have HOK : Hid (M = false) := HMO.out (.inr (.inr (.inr (.inr (.inr (.inl (decide_eq_false (by omega))))))))
          have d5 : decide (o5 < 0) = false := decide_eq_false h
          have d6 : decide (8 < o5) = true := decide_eq_true h'
          clear h h'
          go_wp2_with fail
          go_ret
          exact ⟨by rw [HOK.out]; rfl, HB.out⟩
        · have HOK : Hid (okO o5 = true) := decide_eq_true h
          have d5 : decide (o5 < 0) = false := decide_eq_false (by omega)
          have d6 : decide (8 < o5) = false := decide_eq_false (by omega)
          clear h
          go_wp2_with fail
          go_roundw
          case rel => exact ⟨6, by omega, rfl, ⟨fun _ => HP.out.1 (by omega), fun _ => HP.out.2.1 (by omega), fun _ => HP.out.2.2.1 (by omega), fun _ => HP.out.2.2.2.1 (by omega), fun _ => HP.out.2.2.2.2.1 (by omega), fun _ => HOK.out, fun h => absurd h (by omega), fun h => absurd h (by omega)⟩, by first | rfl | trivial⟩
          case measure => simp [intOf]
      · skip
        rw [show ((6 : Nat) : Int) = 6 from rfl]
        rcases (by omega : o6 < 0 ∨ (¬ o6 < 0 ∧ 8 < o6) ∨ (0 ≤ o6 ∧ o6 ≤ 8)) with h | ⟨h, h'⟩ | h
        · have HOK : Hid (M = false) := HMO.out (.inr (.inr (.inr (.inr (.inr (.inr (.inl (decide_eq_false (by omega)))))))))
          have d5 : decide (o6 < 0) = true := decide_eq_true h
          clear h
          go_wp2_with fail
          go_ret
          exact ⟨by rw [HOK.out]; rfl, HB.out⟩
        · have HOK : Hid (M = false) := HMO.out (.inr (.inr (.inr (.inr (.inr (.inr (.inl (decide_eq_false (by omega)))))))))
          have d5 : decide (o6 < 0) = false := decide_eq_false h
          have d6 : decide (8 < o6) = true := decide_eq_true h'
          clear h h'
          go_wp2_with fail
          go_ret
          exact ⟨by rw [HOK.out]; rfl, HB.out⟩
        · have HOK : Hid (okO o6 = true) := decide_eq_true h
          have d5 : decide (o6 < 0) = false := decide_eq_false (by omega)
          have d6 : decide (8 < o6) = false := decide_eq_false (by omega)
          clear h
          go_wp2_with fail
          go_roundw
          case rel => exact ⟨7, by omega, rfl, ⟨fun _ => HP.out.1 (by omega), fun _ => HP.out.2.1 (by omega), fun _ => HP.out.2.2.1 (by omega), fun _ => HP.out.2.2.2.1 (by omega), fun _ => HP.out.2.2.2.2.1 (by omega), fun _ => HP.out.2.2.2.2.2.1 (by omega), fun _ => HOK.out, fun h => absurd h (by omega)⟩, by first | rfl | trivial⟩
          case measure => simp [intOf]
      · skip
        rw [show ((7 : Nat) : Int) = 7 from rfl]
        rcases (by omega : o7 < 0 ∨ (¬ o7 < 0 ∧ 8 < o7) ∨ (0 ≤ o7 ∧ o7 ≤ 8)) with h | ⟨h, h'⟩ | h
        · have HOK : Hid (M = false) := HMO.out (.inr (.inr (.inr (.inr (.inr (.inr (.inr (decide_eq_false (by omega)))))))))
          have d5 : decide (o7 < 0) = true := decide_eq_true h
          clear h
          go_wp2_with fail
          go_ret
          exact ⟨by rw [HOK.out]; rfl, HB.out⟩
        · have HOK : Hid (M = false) := HMO.out (.inr (.inr (.inr (.inr (.inr (.inr (.inr (decide_eq_false (by omega)))))))))
          have d5 : decide (o7 < 0) = false := decide_eq_false h
          have d6 : decide (8 < o7) = true := decide_eq_true h'
          clear h h'
          go_wp2_with fail
          go_ret
          exact ⟨by rw [HOK.out]; rfl, HB.out⟩
        · have HOK : Hid (okO o7 = true) := decide_eq_true h
          have d5 : decide (o7 < 0) = false := decide_eq_false (by omega)
          have d6 : decide (8 < o7) = false := decide_eq_false (by omega)
          clear h
          go_wp2_with fail
          go_roundw
          case rel => exact ⟨8, by omega, rfl, ⟨fun _ => HP.out.1 (by omega), fun _ => HP.out.2.1 (by omega), fun _ => HP.out.2.2.1 (by omega), fun _ => HP.out.2.2.2.1 (by omega), fun _ => HP.out.2.2.2.2.1 (by omega), fun _ => HP.out.2.2.2.2.2.1 (by omega), fun _ => HP.out.2.2.2.2.2.2.1 (by omega), fun _ => HOK.out⟩, by first | rfl | trivial⟩
          case measure => simp [intOf]
      · rw [show ((8 : Nat) : Int) = 8 from rfl]
        have HOK := hid (HT2.out ⟨HP.out.1 (by omega), HP.out.2.1 (by omega), HP.out.2.2.1 (by omega), HP.out.2.2.2.1 (by omega), HP.out.2.2.2.2.1 (by omega), HP.out.2.2.2.2.2.1 (by omega), HP.out.2.2.2.2.2.2.1 (by omega), HP.out.2.2.2.2.2.2.2 (by omega)⟩)
        go_wp2_with fail
        go_ret
        exact ⟨by rw [HOK.out]; rfl, HB.out⟩
  · have HOK : Hid (M = false) := HMh.out (decide_eq_false hh)
    rcases (by omega : l < 0 ∨ (¬ l < 0 ∧ 20 < l) ∨ (¬ l < 0 ∧ ¬ 20 < l ∧ s < 0) ∨ (¬ l < 0 ∧ ¬ 20 < l ∧ ¬ s < 0 ∧ 256 < s)) with h1 | ⟨h1, h2⟩ | ⟨h1, h2, h3⟩ | ⟨h1, h2, h3, h4⟩
    · have d1 : decide (l < 0) = true := decide_eq_true h1
      clear hh h1
      go_enter Try.func25, Try.ntmps25
      go_wp2_with fail
      go_ret
      exact ⟨by rw [HOK.out]; rfl, HB.out⟩
    · have d1 : decide (l < 0) = false := decide_eq_false h1
      have d2 : decide (20 < l) = true := decide_eq_true h2
      clear hh h1 h2
      go_enter Try.func25, Try.ntmps25
      go_wp2_with fail
      go_ret
      exact ⟨by rw [HOK.out]; rfl, HB.out⟩
    · have d1 : decide (l < 0) = false := decide_eq_false h1
      have d2 : decide (20 < l) = false := decide_eq_false h2
      have d3 : decide (s < 0) = true := decide_eq_true h3
      clear hh h1 h2 h3
      go_enter Try.func25, Try.ntmps25
      go_wp2_with fail
      go_ret
      exact ⟨by rw [HOK.out]; rfl, HB.out⟩
    · have d1 : decide (l < 0) = false := decide_eq_false h1
      have d2 : decide (20 < l) = false := decide_eq_false h2
      have d3 : decide (s < 0) = false := decide_eq_false h3
      have d4 : decide (256 < s) = true := decide_eq_true h4
      clear hh h1 h2 h3 h4
      go_enter Try.func25, Try.ntmps25
      go_wp2_with fail
      go_ret
      exact ⟨by rw [HOK.out]; rfl, HB.out⟩

end Go.Proofs.Ytnmblbkbiehodaa
