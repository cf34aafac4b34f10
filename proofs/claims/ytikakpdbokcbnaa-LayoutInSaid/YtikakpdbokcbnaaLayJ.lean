/- LayoutFinds, LayoutWhole. -/
import Derived.Test.YtikakpdbokcbnaaLayI
namespace Go.Proofs.Ytikakpdbokcbnaa
open Go.RowKit
set_option linter.unusedSimpArgs false
set_option linter.unusedVariables false

set_option maxHeartbeats 4000000 in
set_option maxRecDepth 100000 in
theorem LayoutFinds_walk (w : World) (kd : Int) (wk : (Lit.int .i64 kd).wf = true) (nm : Int) (wn : (Lit.int .i64 nm).wf = true) :
    Calls Try.prog 3 #[.int .i64 kd, .int .i64 nm] w fun e w' => e = .returned (.bool true) ∧ Below w.heap.size w w' := by
  have HR := fun w1 => refFind_any kd nm w1 (i64_bd wn)
  cases hf : findP kd nm with
  | none =>
    have HF := hid (fun w1 => find_no hf w1)
    rw [hf] at HR
    have HR : Hid (∀ w1 : World, Calls Try.prog 8 #[.int .i64 kd, .int .i64 nm] w1 fun e w' => e = .returned (.tuple #[.int .i64 0, .int .i64 0, .bool false]) ∧ w1 = w') := HR
    have E := eqPartR 0 0 0 0
    clear hf
    go_enter Try.func3, Try.ntmps3
    go_wp2_with fail
    refine (HF.out _).mono ?_
    rintro e w1 ⟨rfl, b1⟩
    have HB1 : Hid (Below w.heap.size w (w1.alloc (.cells #[.int .i64 0, .int .i64 0, .int .i64 0, .int .i64 0] 23))) := b1.alloc b1.size _
    have K1 : Hid (Blk (w1.alloc (.cells #[.int .i64 0, .int .i64 0, .int .i64 0, .int .i64 0] 23)) w1.heap.size 23 [.int .i64 0, .int .i64 0, .int .i64 0, .int .i64 0]) := heap_alloc_new w1 _
    clear b1
    have z0 : (w1.alloc (.cells #[.int .i64 0, .int .i64 0, .int .i64 0, .int .i64 0] 23)).cell? ⟨w1.heap.size, 0, none⟩ = some (.int .i64 0) := K1.out.cell (i := 0) (by simp)
    have z1 : (w1.alloc (.cells #[.int .i64 0, .int .i64 0, .int .i64 0, .int .i64 0] 23)).cell? ⟨w1.heap.size, 1, none⟩ = some (.int .i64 0) := K1.out.cell (i := 1) (by simp)
    have z2 : (w1.alloc (.cells #[.int .i64 0, .int .i64 0, .int .i64 0, .int .i64 0] 23)).cell? ⟨w1.heap.size, 2, none⟩ = some (.int .i64 0) := K1.out.cell (i := 2) (by simp)
    have z3 : (w1.alloc (.cells #[.int .i64 0, .int .i64 0, .int .i64 0, .int .i64 0] 23)).cell? ⟨w1.heap.size, 3, none⟩ = some (.int .i64 0) := K1.out.cell (i := 3) (by simp)
    go_wp2_with (first
      | (go_at_call 8; refine (HR.out _).mono ?_; rintro e w2 ⟨rfl, rfl⟩)
      | (go_at_call 9; refine (lives04_any _).mono ?_; rintro e w9' ⟨rfl, b9⟩; have HB9 := hid (kept_trans HB1.out b9); clear b9))
    go_ret
    exact ⟨rfl, HB9.out⟩
  | some p =>
    obtain ⟨k, n, a, s⟩ := p
    obtain ⟨_, h1, h2⟩ := findP_mem hf
    simp only at h1 h2
    subst h1 h2
    have HF := hid (fun w1 => find_at hf w1)
    rw [hf] at HR
    have HR : Hid (∀ w1 : World, Calls Try.prog 8 #[.int .i64 k, .int .i64 n] w1 fun e w' => e = .returned (.tuple #[.int .i64 a, .int .i64 s, .bool true]) ∧ w1 = w') := HR
    have E := eqPartR k n a s
    clear hf
    go_enter Try.func3, Try.ntmps3
    go_wp2_with fail
    refine (HF.out _).mono ?_
    rintro e w1 ⟨rfl, b1⟩
    have HB1 : Hid (Below w.heap.size w (w1.alloc (.cells #[.int .i64 k, .int .i64 n, .int .i64 a, .int .i64 s] 23))) := b1.alloc b1.size _
    have K1 : Hid (Blk (w1.alloc (.cells #[.int .i64 k, .int .i64 n, .int .i64 a, .int .i64 s] 23)) w1.heap.size 23 [.int .i64 k, .int .i64 n, .int .i64 a, .int .i64 s]) := heap_alloc_new w1 _
    clear b1
    have z0 : (w1.alloc (.cells #[.int .i64 k, .int .i64 n, .int .i64 a, .int .i64 s] 23)).cell? ⟨w1.heap.size, 0, none⟩ = some (.int .i64 k) := K1.out.cell (i := 0) (by simp)
    have z1 : (w1.alloc (.cells #[.int .i64 k, .int .i64 n, .int .i64 a, .int .i64 s] 23)).cell? ⟨w1.heap.size, 1, none⟩ = some (.int .i64 n) := K1.out.cell (i := 1) (by simp)
    have z2 : (w1.alloc (.cells #[.int .i64 k, .int .i64 n, .int .i64 a, .int .i64 s] 23)).cell? ⟨w1.heap.size, 2, none⟩ = some (.int .i64 a) := K1.out.cell (i := 2) (by simp)
    have z3 : (w1.alloc (.cells #[.int .i64 k, .int .i64 n, .int .i64 a, .int .i64 s] 23)).cell? ⟨w1.heap.size, 3, none⟩ = some (.int .i64 s) := K1.out.cell (i := 3) (by simp)
    go_wp2_with (first
      | (go_at_call 8; refine (HR.out _).mono ?_; rintro e w2 ⟨rfl, rfl⟩)
      | (go_at_call 9; refine (lives04_any _).mono ?_; rintro e w9' ⟨rfl, b9⟩; have HB9 := hid (kept_trans HB1.out b9); clear b9))
    go_ret
    exact ⟨rfl, HB9.out⟩

theorem part_pos {p : PartT} (h : p ∈ partsL) : 0 ≤ p.a ∧ p.a ≤ 23104 ∧ 64 ≤ p.s ∧ p.s ≤ 4096 ∧ 1 ≤ p.k := by
  have := parts_kinds p h
  unfold kindsP at this
  omega
theorem whole_cases {p : PartT} (h : p ∈ partsL) : (p.a + p.s = 23168 ∧ ofP (p.a + p.s) = none) ∨ (p.a + p.s ≠ 23168 ∧ ∃ q, ofP (p.a + p.s) = some q ∧ q.a = p.a + p.s) := by
  have hw := List.all_eq_true.1 parts_whole p h
  unfold wholeB at hw
  split at hw
  · next h1 =>
    rw [h1]
    cases hq : ofP 23168 with
    | none => exact .inl ⟨rfl, rfl⟩
    | some q => rw [hq] at hw; simp at hw
  · next h1 =>
    cases hq : ofP (p.a + p.s) with
    | none => rw [hq] at hw; simp at hw
    | some q => rw [hq] at hw; exact .inr ⟨h1, q, rfl, of_decide_eq_true hw⟩

set_option maxHeartbeats 4000000 in
set_option maxRecDepth 100000 in
theorem LayoutWhole_walk (w : World) (kd : Int) (wk : (Lit.int .i64 kd).wf = true) (nm : Int) (wn : (Lit.int .i64 nm).wf = true) :
    Calls Try.prog 6 #[.int .i64 kd, .int .i64 nm] w fun e w' => e = .returned (.bool true) ∧ Below w.heap.size w w' := by
  cases hf : findP kd nm with
  | none =>
    have HF := hid (fun w1 => find_no hf w1)
    clear hf
    go_enter Try.func6, Try.ntmps6
    go_wp2_with fail
    refine (HF.out _).mono ?_
    rintro e w1 ⟨rfl, b1⟩
    have HB1 : Hid (Below w.heap.size w (w1.alloc (.cells #[.int .i64 0, .int .i64 0, .int .i64 0, .int .i64 0] 23))) := b1.alloc b1.size _
    clear b1
    go_wp2_with (go_at_call 9; refine (lives04_any _).mono ?_; rintro e w9' ⟨rfl, b9⟩; have HB9 := hid (kept_trans HB1.out b9); clear b9)
    go_ret
    exact ⟨rfl, HB9.out⟩
  | some p =>
    have hm := (findP_mem hf).1
    have hpos := part_pos hm
    have hw := whole_cases hm
    obtain ⟨k, n, a, s⟩ := p
    simp only at hpos hw
    have HF := hid (fun w1 => find_at hf w1)
    clear hf hm
    have eas : IntKind.i64.wrap (a + s) = a + s := IntWalk.i64_in _ (by omega)
    rcases hw with ⟨h1, h2⟩ | ⟨h1, q, h2, h3⟩
    · have HO := hid (fun w1 => of_no (at_ := a + s) (by unfold wfI; omega) h2 w1)
      have hb1 : (a + s == 23168) = true := by simpa using h1
      have HE := hid h1
      clear h1 h2
      go_enter Try.func6, Try.ntmps6
      go_wp2_with fail
      refine (HF.out _).mono ?_
      rintro e w1 ⟨rfl, b1⟩
      have HB1 : Hid (Below w.heap.size w (w1.alloc (.cells #[.int .i64 k, .int .i64 n, .int .i64 a, .int .i64 s] 23))) := b1.alloc b1.size _
      have K1 : Hid (Blk (w1.alloc (.cells #[.int .i64 k, .int .i64 n, .int .i64 a, .int .i64 s] 23)) w1.heap.size 23 [.int .i64 k, .int .i64 n, .int .i64 a, .int .i64 s]) := heap_alloc_new w1 _
      clear b1
      have y2 : (w1.alloc (.cells #[.int .i64 k, .int .i64 n, .int .i64 a, .int .i64 s] 23)).cell? ⟨w1.heap.size, 2, none⟩ = some (.int .i64 a) := K1.out.cell (i := 2) (by simp)
      have y3 : (w1.alloc (.cells #[.int .i64 k, .int .i64 n, .int .i64 a, .int .i64 s] 23)).cell? ⟨w1.heap.size, 3, none⟩ = some (.int .i64 s) := K1.out.cell (i := 3) (by simp)
      go_wp2_with fail
      refine (HO.out _).mono ?_
      rintro e w2 ⟨rfl, b2⟩
      have HB2 : Hid (Below w.heap.size w (w2.alloc (.cells #[.int .i64 0, .int .i64 0, .int .i64 0, .int .i64 0] 23))) := (kept_trans HB1.out b2).alloc (kept_trans HB1.out b2).size _
      have K2 : Hid (Blk (w2.alloc (.cells #[.int .i64 0, .int .i64 0, .int .i64 0, .int .i64 0] 23)) w2.heap.size 23 [.int .i64 0, .int .i64 0, .int .i64 0, .int .i64 0]) := heap_alloc_new w2 _
      have K12 : Hid (Blk (w2.alloc (.cells #[.int .i64 0, .int .i64 0, .int .i64 0, .int .i64 0] 23)) w1.heap.size 23 [.int .i64 k, .int .i64 n, .int .i64 a, .int .i64 s]) := (K1.out.mono b2).mono ((Below.refl _ _).alloc (Nat.le_refl _) _)
      clear b2 y2 y3
      go_wp2_with fail
      refine (size_any _).mono ?_
      rintro e w3 ⟨rfl, b3⟩
      have HB3 := hid (kept_trans HB2.out b3)
      clear b3
      go_wp2_with (go_at_call 9; refine (lives04_any _).mono ?_; rintro e w9' ⟨rfl, b9⟩; have HB9 := hid (kept_trans HB3.out b9); clear b9)
      go_ret
      exact ⟨rfl, HB9.out⟩
    · obtain ⟨k', n', a', s'⟩ := q
      simp only at h3
      subst h3
      have HO := hid (fun w1 => of_at (at_ := a + s) (by unfold wfI; omega) h2 w1)
      have hb1 : (a + s == 23168) = false := by simpa using h1
      have E : ∀ w, (Op.equalIn 10000 23 (.agg #[.int .i64 k', .int .i64 n', .int .i64 (a + s), .int .i64 s']) (.agg #[.int .i64 k, .int .i64 n, .int .i64 a, .int .i64 s])).run Try.prog w = .ok false w := by
        intro w
        rw [eqPart4, decide_eq_false]
        intro h
        simp only [List.cons.injEq, and_true] at h
        omega
      clear h1 h2
      go_enter Try.func6, Try.ntmps6
      go_wp2_with fail
      refine (HF.out _).mono ?_
      rintro e w1 ⟨rfl, b1⟩
      have HB1 : Hid (Below w.heap.size w (w1.alloc (.cells #[.int .i64 k, .int .i64 n, .int .i64 a, .int .i64 s] 23))) := b1.alloc b1.size _
      have K1 : Hid (Blk (w1.alloc (.cells #[.int .i64 k, .int .i64 n, .int .i64 a, .int .i64 s] 23)) w1.heap.size 23 [.int .i64 k, .int .i64 n, .int .i64 a, .int .i64 s]) := heap_alloc_new w1 _
      clear b1
      have y2 : (w1.alloc (.cells #[.int .i64 k, .int .i64 n, .int .i64 a, .int .i64 s] 23)).cell? ⟨w1.heap.size, 2, none⟩ = some (.int .i64 a) := K1.out.cell (i := 2) (by simp)
      have y3 : (w1.alloc (.cells #[.int .i64 k, .int .i64 n, .int .i64 a, .int .i64 s] 23)).cell? ⟨w1.heap.size, 3, none⟩ = some (.int .i64 s) := K1.out.cell (i := 3) (by simp)
      go_wp2_with fail
      refine (HO.out _).mono ?_
      rintro e w2 ⟨rfl, b2⟩
      have HB2 : Hid (Below w.heap.size w (w2.alloc (.cells #[.int .i64 k', .int .i64 n', .int .i64 (a + s), .int .i64 s'] 23))) := (kept_trans HB1.out b2).alloc (kept_trans HB1.out b2).size _
      have K2 : Hid (Blk (w2.alloc (.cells #[.int .i64 k', .int .i64 n', .int .i64 (a + s), .int .i64 s'] 23)) w2.heap.size 23 [.int .i64 k', .int .i64 n', .int .i64 (a + s), .int .i64 s']) := heap_alloc_new w2 _
      have K12 : Hid (Blk (w2.alloc (.cells #[.int .i64 k', .int .i64 n', .int .i64 (a + s), .int .i64 s'] 23)) w1.heap.size 23 [.int .i64 k, .int .i64 n, .int .i64 a, .int .i64 s]) := (K1.out.mono b2).mono ((Below.refl _ _).alloc (Nat.le_refl _) _)
      clear b2 y2 y3
      go_wp2_with fail
      refine (size_any _).mono ?_
      rintro e w3 ⟨rfl, b3⟩
      have HB3 := hid (kept_trans HB2.out b3)
      have K23 := hid (K2.out.mono b3); have K13 := hid (K12.out.mono b3)
      have z0 : w3.cell? ⟨w2.heap.size, 0, none⟩ = some (.int .i64 k') := K23.out.cell (i := 0) (by simp)
      have z1 : w3.cell? ⟨w2.heap.size, 1, none⟩ = some (.int .i64 n') := K23.out.cell (i := 1) (by simp)
      have z2 : w3.cell? ⟨w2.heap.size, 2, none⟩ = some (.int .i64 (a + s)) := K23.out.cell (i := 2) (by simp)
      have z3 : w3.cell? ⟨w2.heap.size, 3, none⟩ = some (.int .i64 s') := K23.out.cell (i := 3) (by simp)
      have x0 : w3.cell? ⟨w1.heap.size, 0, none⟩ = some (.int .i64 k) := K13.out.cell (i := 0) (by simp)
      have x1 : w3.cell? ⟨w1.heap.size, 1, none⟩ = some (.int .i64 n) := K13.out.cell (i := 1) (by simp)
      have x2 : w3.cell? ⟨w1.heap.size, 2, none⟩ = some (.int .i64 a) := K13.out.cell (i := 2) (by simp)
      have x3 : w3.cell? ⟨w1.heap.size, 3, none⟩ = some (.int .i64 s) := K13.out.cell (i := 3) (by simp)
      clear b3
      go_wp2_with (go_at_call 9; refine (lives04_any _).mono ?_; rintro e w9' ⟨rfl, b9⟩; have HB9 := hid (kept_trans HB3.out b9); clear b9)
      go_ret
      exact ⟨rfl, HB9.out⟩

end Go.Proofs.Ytikakpdbokcbnaa
