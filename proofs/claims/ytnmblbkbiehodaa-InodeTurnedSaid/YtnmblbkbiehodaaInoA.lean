import Derived.Test.YtnmblbkbiehodaaNumE
import Derived.Test.YtnmblbkbiehodaaLibI
import Derived.Test.YtnmblbkbiehodaaCrcB
namespace Go.Proofs.Ytnmblbkbiehodaa
open Go.RowKit Go.WideShapes
set_option linter.unusedSimpArgs false
set_option linter.unusedVariables false

/-- an inode -/
structure InoT where
  k : Int
  l : Int
  s : Int
  b0 : Int
  b1 : Int
  b2 : Int
  b3 : Int
  o0 : Int
  o1 : Int
  o2 : Int
  o3 : Int
  o4 : Int
  o5 : Int
  o6 : Int
  o7 : Int
def InoT.B (i : InoT) : List Int := [i.b0, i.b1, i.b2, i.b3]
def InoT.O (i : InoT) : List Int := [i.o0, i.o1, i.o2, i.o3, i.o4, i.o5, i.o6, i.o7]
def inoC (i : InoT) : List Value := [.int .i64 i.k, .int .i64 i.l, .int .i64 i.s, .int .i64 i.b0, .int .i64 i.b1, .int .i64 i.b2, .int .i64 i.b3, .int .i64 i.o0, .int .i64 i.o1, .int .i64 i.o2, .int .i64 i.o3, .int .i64 i.o4, .int .i64 i.o5, .int .i64 i.o6, .int .i64 i.o7]
def inoV (i : InoT) : Value := .agg (inoC i).toArray

/-- blocks that some bytes need -/
def needsF (n : Int) : Int := if n < 1 then 0 else (n - 1) / 64 + 1
set_option maxHeartbeats 1000000 in
theorem needs_any (n : Int) (w : World) (hn : -9223372036854775808 ≤ n) (hn9 : n ≤ 9223372036854775807) :
    Calls Try.prog 17 #[.int .i64 n] w fun e w' => e = .returned (.int .i64 (needsF n)) ∧ w = w' := by
  by_cases h : n < 1
  · have hf : needsF n = 0 := by unfold needsF; rw [if_pos h]
    rw [hf]
    have d : decide (n < 1) = true := decide_eq_true h
    clear hf h
    go_enter Try.func17, Try.ntmps17
    go_wp2_with fail
    go_ret
    exact ⟨rfl, rfl⟩
  · have hf : needsF n = (n - 1) / 64 + 1 := by unfold needsF; rw [if_neg h]
    rw [hf]
    have d : decide (n < 1) = false := decide_eq_false h
    have e1 : IntKind.i64.wrap (n - 1) = n - 1 := IntWalk.i64_in _ (by omega)
    have e2 : (n - 1).tdiv 64 = (n - 1) / 64 := Int.tdiv_eq_ediv_of_nonneg (by omega)
    have e3 : IntKind.i64.wrap ((n - 1) / 64) = (n - 1) / 64 := IntWalk.i64_in _ (by omega)
    have e4 : IntKind.i64.wrap ((n - 1) / 64 + 1) = (n - 1) / 64 + 1 := IntWalk.i64_in _ (by omega)
    generalize (n - 1) / 64 = q at *
    clear hf h
    go_enter Try.func17, Try.ntmps17
    go_wp2_with fail
    go_ret
    exact ⟨rfl, rfl⟩
set_option maxHeartbeats 1000000 in
theorem needsRef_any (n : Int) (w : World) (hn : n ≤ 60000000) :
    Calls Try.prog 18 #[.int .i64 n] w fun e w' => e = .returned (.int .i64 (needsF n)) ∧ w = w' := by
  have hF0 : 0 ≤ needsF n := by unfold needsF; split <;> omega
  have hF1 : needsF n < 1000000 := by unfold needsF; split <;> omega
  have hF2 : n ≤ 64 * needsF n := by unfold needsF; split <;> omega
  have hF3 : ∀ m : Int, 0 ≤ m → m < needsF n → 64 * m < n := by
    intro m h0 h1
    unfold needsF at h1
    split at h1 <;> omega
  generalize needsF n = q at *
  have HF3 := hid hF3
  clear hF3
  go_enter Try.func18, Try.ntmps18
  go_wp2_with fail
  go_loopw [3] (fun i wr => ∃ m : Int, 0 ≤ m ∧ m ≤ q ∧ i = .int .i64 m ∧ wr = w) (fun i _ => (q - intOf i).toNat)
  case atStart => exact ⟨0, by omega, hF0, rfl, rfl⟩
  case round =>
  obtain ⟨m, hm0, hmq, rfl, rfl⟩ := hrel
  have d1 : decide (m < 1000000) = true := decide_eq_true (by omega)
  have e1 : IntKind.i64.wrap (64 * m) = 64 * m := IntWalk.i64_in _ (by omega)
  by_cases h : m < q
  · have h3 := HF3.out m hm0 h
    have d2 : decide (64 * m < n) = true := decide_eq_true h3
    have e2 : IntKind.i64.wrap (m + 1) = m + 1 := IntWalk.i64_in _ (by omega)
    clear h3
    go_wp2_with fail
    go_roundw
    case rel => exact ⟨m + 1, by omega, by omega, rfl, by first | rfl | trivial⟩
    case measure => simp [intOf]; omega
  · obtain rfl : m = q := by omega
    have d2 : decide (64 * m < n) = false := decide_eq_false (by omega)
    go_wp2_with fail
    go_ret
    exact ⟨rfl, rfl⟩
theorem mayBlock_any (n : Int) (w : World) : Calls Try.prog 40 #[.int .i64 n] w fun e w' => e = .returned (.bool (decide (0 ≤ n ∧ n ≤ 128))) ∧ w = w' := by
  by_cases h : 0 ≤ n
  · by_cases h2 : n ≤ 128
    · have hd : decide (0 ≤ n ∧ n ≤ 128) = true := decide_eq_true ⟨h, h2⟩
      rw [hd]
      have d1 : decide (0 ≤ n) = true := decide_eq_true h
      have d2 : decide (n ≤ 128) = true := decide_eq_true h2
      clear hd h h2
      go_enter Try.func40, Try.ntmps40
      go_wp2_with fail
      go_ret
      exact ⟨rfl, rfl⟩
    · have hd : decide (0 ≤ n ∧ n ≤ 128) = false := decide_eq_false (fun hh => h2 hh.2)
      rw [hd]
      have d1 : decide (0 ≤ n) = true := decide_eq_true h
      have d2 : decide (n ≤ 128) = false := decide_eq_false h2
      clear hd h h2
      go_enter Try.func40, Try.ntmps40
      go_wp2_with fail
      go_ret
      exact ⟨rfl, rfl⟩
  · have hd : decide (0 ≤ n ∧ n ≤ 128) = false := decide_eq_false (fun hh => h hh.1)
    rw [hd]
    have d1 : decide (0 ≤ n) = false := decide_eq_false h
    clear hd h
    go_enter Try.func40, Try.ntmps40
    go_wp2_with fail
    go_ret
    exact ⟨rfl, rfl⟩

def sumW (l : List Int) : Int := l.foldl (fun a o => IntKind.i64.wrap (a + o)) 0
def openF (i : InoT) : Int := sumW i.O
set_option maxHeartbeats 4000000 in
set_option maxRecDepth 100000 in
theorem open_any (i : InoT) (w : World) : Calls Try.prog 19 #[inoV i] w fun e w' => e = .returned (.int .i64 (openF i)) ∧ Below w.heap.size w w' := by
  obtain ⟨k, l, s, b0, b1, b2, b3, o0, o1, o2, o3, o4, o5, o6, o7⟩ := i
  have HB := hid ((Below.refl w.heap.size w).alloc (Nat.le_refl _) (.cells (inoC ⟨k, l, s, b0, b1, b2, b3, o0, o1, o2, o3, o4, o5, o6, o7⟩).toArray 25))
  unfold inoV inoC at *
  unfold openF InoT.O
  have e0 : sumW ([o0, o1, o2, o3, o4, o5, o6, o7].take 0) = 0 := rfl
  have e1 : IntKind.i64.wrap (sumW ([o0, o1, o2, o3, o4, o5, o6, o7].take 0) + o0) = sumW ([o0, o1, o2, o3, o4, o5, o6, o7].take 1) := rfl
  have e2 : IntKind.i64.wrap (sumW ([o0, o1, o2, o3, o4, o5, o6, o7].take 1) + o1) = sumW ([o0, o1, o2, o3, o4, o5, o6, o7].take 2) := rfl
  have e3 : IntKind.i64.wrap (sumW ([o0, o1, o2, o3, o4, o5, o6, o7].take 2) + o2) = sumW ([o0, o1, o2, o3, o4, o5, o6, o7].take 3) := rfl
  have e4 : IntKind.i64.wrap (sumW ([o0, o1, o2, o3, o4, o5, o6, o7].take 3) + o3) = sumW ([o0, o1, o2, o3, o4, o5, o6, o7].take 4) := rfl
  have e5 : IntKind.i64.wrap (sumW ([o0, o1, o2, o3, o4, o5, o6, o7].take 4) + o4) = sumW ([o0, o1, o2, o3, o4, o5, o6, o7].take 5) := rfl
  have e6 : IntKind.i64.wrap (sumW ([o0, o1, o2, o3, o4, o5, o6, o7].take 5) + o5) = sumW ([o0, o1, o2, o3, o4, o5, o6, o7].take 6) := rfl
  have e7 : IntKind.i64.wrap (sumW ([o0, o1, o2, o3, o4, o5, o6, o7].take 6) + o6) = sumW ([o0, o1, o2, o3, o4, o5, o6, o7].take 7) := rfl
  have e8 : IntKind.i64.wrap (sumW ([o0, o1, o2, o3, o4, o5, o6, o7].take 7) + o7) = sumW ([o0, o1, o2, o3, o4, o5, o6, o7].take 8) := rfl
  have e9 : [o0, o1, o2, o3, o4, o5, o6, o7].take 8 = [o0, o1, o2, o3, o4, o5, o6, o7] := rfl
  have E9 := hid e9
  obtain ⟨f, hf⟩ : ∃ f : Nat → Int, f = fun j => sumW ([o0, o1, o2, o3, o4, o5, o6, o7].take j) := ⟨_, rfl⟩
  have g0 : IntKind.i64.wrap (f 0 + o0) = f 1 := by rw [hf]; exact e1
  have g1 : IntKind.i64.wrap (f 1 + o1) = f 2 := by rw [hf]; exact e2
  have g2 : IntKind.i64.wrap (f 2 + o2) = f 3 := by rw [hf]; exact e3
  have g3 : IntKind.i64.wrap (f 3 + o3) = f 4 := by rw [hf]; exact e4
  have g4 : IntKind.i64.wrap (f 4 + o4) = f 5 := by rw [hf]; exact e5
  have g5 : IntKind.i64.wrap (f 5 + o5) = f 6 := by rw [hf]; exact e6
  have g6 : IntKind.i64.wrap (f 6 + o6) = f 7 := by rw [hf]; exact e7
  have g7 : IntKind.i64.wrap (f 7 + o7) = f 8 := by rw [hf]; exact e8
  have g8 : f 0 = 0 := by rw [hf]; exact e0
  have HF8 := hid (show f 8 = sumW [o0, o1, o2, o3, o4, o5, o6, o7] by rw [hf]; rfl)
  clear hf e0 e1 e2 e3 e4 e5 e6 e7 e8 e9
  rw [← HF8.out]
  have G8 := hid g8
  clear g8
  have i0 : ∀ w, (Instr.index 23 (.agg #[.int .i64 o0, .int .i64 o1, .int .i64 o2, .int .i64 o3, .int .i64 o4, .int .i64 o5, .int .i64 o6, .int .i64 o7]) (.int .i64 0)).run Try.prog w = .ok (.int .i64 o0) w := fun _ => by kernel_rfl
  have i1 : ∀ w, (Instr.index 23 (.agg #[.int .i64 o0, .int .i64 o1, .int .i64 o2, .int .i64 o3, .int .i64 o4, .int .i64 o5, .int .i64 o6, .int .i64 o7]) (.int .i64 1)).run Try.prog w = .ok (.int .i64 o1) w := fun _ => by kernel_rfl
  have i2 : ∀ w, (Instr.index 23 (.agg #[.int .i64 o0, .int .i64 o1, .int .i64 o2, .int .i64 o3, .int .i64 o4, .int .i64 o5, .int .i64 o6, .int .i64 o7]) (.int .i64 2)).run Try.prog w = .ok (.int .i64 o2) w := fun _ => by kernel_rfl
  have i3 : ∀ w, (Instr.index 23 (.agg #[.int .i64 o0, .int .i64 o1, .int .i64 o2, .int .i64 o3, .int .i64 o4, .int .i64 o5, .int .i64 o6, .int .i64 o7]) (.int .i64 3)).run Try.prog w = .ok (.int .i64 o3) w := fun _ => by kernel_rfl
  have i4 : ∀ w, (Instr.index 23 (.agg #[.int .i64 o0, .int .i64 o1, .int .i64 o2, .int .i64 o3, .int .i64 o4, .int .i64 o5, .int .i64 o6, .int .i64 o7]) (.int .i64 4)).run Try.prog w = .ok (.int .i64 o4) w := fun _ => by kernel_rfl
  have i5 : ∀ w, (Instr.index 23 (.agg #[.int .i64 o0, .int .i64 o1, .int .i64 o2, .int .i64 o3, .int .i64 o4, .int .i64 o5, .int .i64 o6, .int .i64 o7]) (.int .i64 5)).run Try.prog w = .ok (.int .i64 o5) w := fun _ => by kernel_rfl
  have i6 : ∀ w, (Instr.index 23 (.agg #[.int .i64 o0, .int .i64 o1, .int .i64 o2, .int .i64 o3, .int .i64 o4, .int .i64 o5, .int .i64 o6, .int .i64 o7]) (.int .i64 6)).run Try.prog w = .ok (.int .i64 o6) w := fun _ => by kernel_rfl
  have i7 : ∀ w, (Instr.index 23 (.agg #[.int .i64 o0, .int .i64 o1, .int .i64 o2, .int .i64 o3, .int .i64 o4, .int .i64 o5, .int .i64 o6, .int .i64 o7]) (.int .i64 7)).run Try.prog w = .ok (.int .i64 o7) w := fun _ => by kernel_rfl
  go_enter Try.func19, Try.ntmps19
  go_wp2_with fail
  go_loopw [3, 8] (fun sm i wr => ∃ j : Nat, j ≤ 8 ∧ i = .int .i64 j ∧ sm = .int .i64 (f j) ∧ wr = (w.alloc (.cells #[.int .i64 k, .int .i64 l, .int .i64 s, .int .i64 b0, .int .i64 b1, .int .i64 b2, .int .i64 b3, .int .i64 o0, .int .i64 o1, .int .i64 o2, .int .i64 o3, .int .i64 o4, .int .i64 o5, .int .i64 o6, .int .i64 o7] 25))) (fun _ i _ => 8 - (intOf i).toNat)
  case atStart => exact ⟨0, by omega, rfl, by rw [G8.out], rfl⟩
  case round =>
  obtain ⟨j, hj, rfl, rfl, rfl⟩ := hrel
  rcases (by omega : j = 0 ∨ j = 1 ∨ j = 2 ∨ j = 3 ∨ j = 4 ∨ j = 5 ∨ j = 6 ∨ j = 7 ∨ j = 8) with rfl | rfl | rfl | rfl | rfl | rfl | rfl | rfl | rfl
  · rw [show ((0 : Nat) : Int) = 0 from rfl]
    go_wp2_with fail
    go_roundw
    case rel => exact ⟨1, by omega, rfl, rfl, by first | rfl | trivial⟩
    case measure => simp [intOf]
  · rw [show ((1 : Nat) : Int) = 1 from rfl]
    go_wp2_with fail
    go_roundw
    case rel => exact ⟨2, by omega, rfl, rfl, by first | rfl | trivial⟩
    case measure => simp [intOf]
  · rw [show ((2 : Nat) : Int) = 2 from rfl]
    go_wp2_with fail
    go_roundw
    case rel => exact ⟨3, by omega, rfl, rfl, by first | rfl | trivial⟩
    case measure => simp [intOf]
  · rw [show ((3 : Nat) : Int) = 3 from rfl]
    go_wp2_with fail
    go_roundw
    case rel => exact ⟨4, by omega, rfl, rfl, by first | rfl | trivial⟩
    case measure => simp [intOf]
  · rw [show ((4 : Nat) : Int) = 4 from rfl]
    go_wp2_with fail
    go_roundw
    case rel => exact ⟨5, by omega, rfl, rfl, by first | rfl | trivial⟩
    case measure => simp [intOf]
  · rw [show ((5 : Nat) : Int) = 5 from rfl]
    go_wp2_with fail
    go_roundw
    case rel => exact ⟨6, by omega, rfl, rfl, by first | rfl | trivial⟩
    case measure => simp [intOf]
  · rw [show ((6 : Nat) : Int) = 6 from rfl]
    go_wp2_with fail
    go_roundw
    case rel => exact ⟨7, by omega, rfl, rfl, by first | rfl | trivial⟩
    case measure => simp [intOf]
  · rw [show ((7 : Nat) : Int) = 7 from rfl]
    go_wp2_with fail
    go_roundw
    case rel => exact ⟨8, by omega, rfl, rfl, by first | rfl | trivial⟩
    case measure => simp [intOf]
  · rw [show ((8 : Nat) : Int) = 8 from rfl]
    go_wp2_with fail
    go_ret
    exact ⟨rfl, HB.out⟩

end Go.Proofs.Ytnmblbkbiehodaa
