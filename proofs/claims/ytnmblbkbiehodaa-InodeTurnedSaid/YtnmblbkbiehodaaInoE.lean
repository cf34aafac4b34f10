import Derived.Test.YtnmblbkbiehodaaInoD
namespace Go.Proofs.Ytnmblbkbiehodaa
open Go.RowKit Go.WideShapes
set_option linter.unusedSimpArgs false
set_option linter.unusedVariables false

def inoL (i : InoT) : List Int := [i.k, i.l, i.s, i.b0, i.b1, i.b2, i.b3, i.o0, i.o1, i.o2, i.o3, i.o4, i.o5, i.o6, i.o7]
def twI (i : InoT) : Bool := tw i.b0.toNat i.b1.toNat i.b2.toNat i.b3.toNat
/-- may an inode be? -/
def mayI (i : InoT) : Bool :=
  if i.k = 0 then decide (inoL i = [0, 0, 0, 0, 0, 0, 0, 0, 0, 0, 0, 0, 0, 0, 0])
  else if i.k = 1 then mFile i && !twI i
  else if i.k = 2 then mDir i && !twI i
  else false
theorem okB_range {j n s : Int} (h : okB j n s = true) : 0 ≤ n ∧ n ≤ 128 := by
  unfold okB at h
  rw [Bool.and_eq_true] at h
  exact of_decide_eq_true h.2
theorem mFile_blocks {i : InoT} (h : mFile i = true) : (0 ≤ i.b0 ∧ i.b0 ≤ 128) ∧ (0 ≤ i.b1 ∧ i.b1 ≤ 128) ∧ (0 ≤ i.b2 ∧ i.b2 ≤ 128) ∧ (0 ≤ i.b3 ∧ i.b3 ≤ 128) := by
  unfold mFile fileB at h
  simp only [Bool.and_eq_true] at h
  obtain ⟨⟨_, ⟨⟨h0, h1⟩, h2⟩, h3⟩, _⟩ := h
  exact ⟨okB_range h0, okB_range h1, okB_range h2, okB_range h3⟩
theorem mDir_blocks {i : InoT} (h : mDir i = true) : (0 ≤ i.b0 ∧ i.b0 ≤ 128) ∧ (0 ≤ i.b1 ∧ i.b1 ≤ 128) ∧ (0 ≤ i.b2 ∧ i.b2 ≤ 128) ∧ (0 ≤ i.b3 ∧ i.b3 ≤ 128) := by
  unfold mDir at h
  simp only [Bool.and_eq_true] at h
  obtain ⟨_, ⟨⟨h0, h1⟩, h2⟩, h3⟩ := h
  exact ⟨of_decide_eq_true h0, of_decide_eq_true h1, of_decide_eq_true h2, of_decide_eq_true h3⟩

set_option maxHeartbeats 4000000 in
set_option maxRecDepth 100000 in
theorem mayIno_any (i : InoT) (w : World) : Calls Try.prog 11 #[inoV i] w fun e w' => e = .returned (.bool (mayI i)) ∧ Below w.heap.size w w' := by
  by_cases hk0 : i.k = 0
  · have hM : mayI i = decide (inoL i = [0, 0, 0, 0, 0, 0, 0, 0, 0, 0, 0, 0, 0, 0, 0]) := by unfold mayI; rw [if_pos hk0]
    rw [hM]
    obtain ⟨k, l, s, b0, b1, b2, b3, o0, o1, o2, o3, o4, o5, o6, o7⟩ := i
    have HB : Hid (Below w.heap.size w (w.alloc (.cells #[.int .i64 k, .int .i64 l, .int .i64 s, .int .i64 b0, .int .i64 b1, .int .i64 b2, .int .i64 b3, .int .i64 o0, .int .i64 o1, .int .i64 o2, .int .i64 o3, .int .i64 o4, .int .i64 o5, .int .i64 o6, .int .i64 o7] 25))) := (Below.refl w.heap.size w).alloc (Nat.le_refl _) _
    unfold inoV inoC
    have hk0 : k = 0 := hk0
    subst hk0
    have E := eqIno 0 l s b0 b1 b2 b3 o0 o1 o2 o3 o4 o5 o6 o7 0 0 0 0 0 0 0 0 0 0 0 0 0 0 0
    unfold inoL
    clear hM
    obtain ⟨z, hz⟩ : ∃ z, decide ([0, l, s, b0, b1, b2, b3, o0, o1, o2, o3, o4, o5, o6, o7] = [0, 0, 0, 0, 0, 0, 0, 0, 0, 0, 0, 0, 0, 0, 0]) = z := ⟨_, rfl⟩
    rw [hz] at E
    simp only at hz ⊢
    rw [hz]
    clear hz
    go_enter Try.func11, Try.ntmps11
    go_wp2_with fail
    go_ret
    exact ⟨rfl, HB.out⟩
  · by_cases hk1 : i.k = 1
    · have hM : mayI i = (mFile i && !twI i) := by unfold mayI; rw [if_neg hk0]; rw [if_pos hk1]
      rw [hM]
      clear hM
      by_cases hF : mFile i = true
      · obtain ⟨q0, q1, q2, q3⟩ := mFile_blocks hF
        have HC := fun w1 => mayFile_any i w1
        rw [hF] at HC ⊢
        obtain ⟨k, l, s, b0, b1, b2, b3, o0, o1, o2, o3, o4, o5, o6, o7⟩ := i
        simp only at q0 q1 q2 q3 hk1
        subst hk1
        obtain ⟨n0, rfl⟩ := Int.eq_ofNat_of_zero_le q0.1
        obtain ⟨n1, rfl⟩ := Int.eq_ofNat_of_zero_le q1.1
        obtain ⟨n2, rfl⟩ := Int.eq_ofNat_of_zero_le q2.1
        obtain ⟨n3, rfl⟩ := Int.eq_ofNat_of_zero_le q3.1
        have HT := fun w1 => twice_any 1 l s n0 n1 n2 n3 o0 o1 o2 o3 o4 o5 o6 o7 w1 (by omega) (by omega) (by omega) (by omega)
        have hT : twI ⟨1, l, s, n0, n1, n2, n3, o0, o1, o2, o3, o4, o5, o6, o7⟩ = tw n0 n1 n2 n3 := rfl
        rw [hT]
        generalize tw n0 n1 n2 n3 = t at *
        clear hT hF q0 q1 q2 q3
        unfold inoV inoC at *
        have HC := hid HC; have HT := hid HT
        have K0 : Blk (w.alloc (.cells #[.int .i64 1, .int .i64 l, .int .i64 s, .int .i64 (n0 : Nat), .int .i64 (n1 : Nat), .int .i64 (n2 : Nat), .int .i64 (n3 : Nat), .int .i64 o0, .int .i64 o1, .int .i64 o2, .int .i64 o3, .int .i64 o4, .int .i64 o5, .int .i64 o6, .int .i64 o7] 25)) w.heap.size 25 [.int .i64 1, .int .i64 l, .int .i64 s, .int .i64 (n0 : Nat), .int .i64 (n1 : Nat), .int .i64 (n2 : Nat), .int .i64 (n3 : Nat), .int .i64 o0, .int .i64 o1, .int .i64 o2, .int .i64 o3, .int .i64 o4, .int .i64 o5, .int .i64 o6, .int .i64 o7] := heap_alloc_new w _
        have HB : Hid (Below w.heap.size w (w.alloc (.cells #[.int .i64 1, .int .i64 l, .int .i64 s, .int .i64 (n0 : Nat), .int .i64 (n1 : Nat), .int .i64 (n2 : Nat), .int .i64 (n3 : Nat), .int .i64 o0, .int .i64 o1, .int .i64 o2, .int .i64 o3, .int .i64 o4, .int .i64 o5, .int .i64 o6, .int .i64 o7] 25))) := (Below.refl w.heap.size w).alloc (Nat.le_refl _) _
        have KH := hid K0
        clear K0
        go_enter Try.func11, Try.ntmps11
        go_wp2_with (first
          | (go_at_call 25; refine (HC.out _).mono ?_; rintro e w4 ⟨rfl, b4⟩; have k4 := KH.out.mono b4; have B4 := hid (kept_trans HB.out b4)
             have z0 : w4.cell? ⟨w.heap.size, 0, none⟩ = some (.int .i64 1) := Blk.cell k4 (i := 0) (by simp)
             have z1 : w4.cell? ⟨w.heap.size, 1, none⟩ = some (.int .i64 l) := Blk.cell k4 (i := 1) (by simp)
             have z2 : w4.cell? ⟨w.heap.size, 2, none⟩ = some (.int .i64 s) := Blk.cell k4 (i := 2) (by simp)
             have z3 : w4.cell? ⟨w.heap.size, 3, none⟩ = some (.int .i64 (n0 : Nat)) := Blk.cell k4 (i := 3) (by simp)
             have z4 : w4.cell? ⟨w.heap.size, 4, none⟩ = some (.int .i64 (n1 : Nat)) := Blk.cell k4 (i := 4) (by simp)
             have z5 : w4.cell? ⟨w.heap.size, 5, none⟩ = some (.int .i64 (n2 : Nat)) := Blk.cell k4 (i := 5) (by simp)
             have z6 : w4.cell? ⟨w.heap.size, 6, none⟩ = some (.int .i64 (n3 : Nat)) := Blk.cell k4 (i := 6) (by simp)
             have z7 : w4.cell? ⟨w.heap.size, 7, none⟩ = some (.int .i64 o0) := Blk.cell k4 (i := 7) (by simp)
             have z8 : w4.cell? ⟨w.heap.size, 8, none⟩ = some (.int .i64 o1) := Blk.cell k4 (i := 8) (by simp)
             have z9 : w4.cell? ⟨w.heap.size, 9, none⟩ = some (.int .i64 o2) := Blk.cell k4 (i := 9) (by simp)
             have z10 : w4.cell? ⟨w.heap.size, 10, none⟩ = some (.int .i64 o3) := Blk.cell k4 (i := 10) (by simp)
             have z11 : w4.cell? ⟨w.heap.size, 11, none⟩ = some (.int .i64 o4) := Blk.cell k4 (i := 11) (by simp)
             have z12 : w4.cell? ⟨w.heap.size, 12, none⟩ = some (.int .i64 o5) := Blk.cell k4 (i := 12) (by simp)
             have z13 : w4.cell? ⟨w.heap.size, 13, none⟩ = some (.int .i64 o6) := Blk.cell k4 (i := 13) (by simp)
             have z14 : w4.cell? ⟨w.heap.size, 14, none⟩ = some (.int .i64 o7) := Blk.cell k4 (i := 14) (by simp)
             clear k4 b4)
          | (go_at_call 26; refine (HT.out _).mono ?_; rintro e w5 ⟨rfl, b5⟩; have B5 := hid (kept_trans B4.out b5); clear b5))
        go_ret
        exact ⟨by first | rfl | (simp; rfl), B5.out⟩
      · have hF : mFile i = false := by simpa using hF
        have HC := fun w1 => mayFile_any i w1
        rw [hF] at HC ⊢
        obtain ⟨k, l, s, b0, b1, b2, b3, o0, o1, o2, o3, o4, o5, o6, o7⟩ := i
        simp only at hk1
        subst hk1
        generalize twI _ = t at *
        clear hF
        unfold inoV inoC at *
        have HC := hid HC
        have HB : Hid (Below w.heap.size w (w.alloc (.cells #[.int .i64 1, .int .i64 l, .int .i64 s, .int .i64 b0, .int .i64 b1, .int .i64 b2, .int .i64 b3, .int .i64 o0, .int .i64 o1, .int .i64 o2, .int .i64 o3, .int .i64 o4, .int .i64 o5, .int .i64 o6, .int .i64 o7] 25))) := (Below.refl w.heap.size w).alloc (Nat.le_refl _) _
        go_enter Try.func11, Try.ntmps11
        go_wp2_with (go_at_call 25; refine (HC.out _).mono ?_; rintro e w4 ⟨rfl, b4⟩; have B4 := hid (kept_trans HB.out b4); clear b4)
        go_ret
        exact ⟨by first | rfl | (simp; rfl), B4.out⟩
    · by_cases hk2 : i.k = 2
      · have hM : mayI i = (mDir i && !twI i) := by unfold mayI; rw [if_neg hk0, if_neg hk1]; rw [if_pos hk2]
        rw [hM]
        clear hM
        by_cases hF : mDir i = true
        · obtain ⟨q0, q1, q2, q3⟩ := mDir_blocks hF
          have HC := fun w1 => mayDir_any i w1
          rw [hF] at HC ⊢
          obtain ⟨k, l, s, b0, b1, b2, b3, o0, o1, o2, o3, o4, o5, o6, o7⟩ := i
          simp only at q0 q1 q2 q3 hk2
          subst hk2
          obtain ⟨n0, rfl⟩ := Int.eq_ofNat_of_zero_le q0.1
          obtain ⟨n1, rfl⟩ := Int.eq_ofNat_of_zero_le q1.1
          obtain ⟨n2, rfl⟩ := Int.eq_ofNat_of_zero_le q2.1
          obtain ⟨n3, rfl⟩ := Int.eq_ofNat_of_zero_le q3.1
          have HT := fun w1 => twice_any 2 l s n0 n1 n2 n3 o0 o1 o2 o3 o4 o5 o6 o7 w1 (by omega) (by omega) (by omega) (by omega)
          have hT : twI ⟨2, l, s, n0, n1, n2, n3, o0, o1, o2, o3, o4, o5, o6, o7⟩ = tw n0 n1 n2 n3 := rfl
          rw [hT]
          generalize tw n0 n1 n2 n3 = t at *
          clear hT hF q0 q1 q2 q3
          unfold inoV inoC at *
          have HC := hid HC; have HT := hid HT
          have K0 : Blk (w.alloc (.cells #[.int .i64 2, .int .i64 l, .int .i64 s, .int .i64 (n0 : Nat), .int .i64 (n1 : Nat), .int .i64 (n2 : Nat), .int .i64 (n3 : Nat), .int .i64 o0, .int .i64 o1, .int .i64 o2, .int .i64 o3, .int .i64 o4, .int .i64 o5, .int .i64 o6, .int .i64 o7] 25)) w.heap.size 25 [.int .i64 2, .int .i64 l, .int .i64 s, .int .i64 (n0 : Nat), .int .i64 (n1 : Nat), .int .i64 (n2 : Nat), .int .i64 (n3 : Nat), .int .i64 o0, .int .i64 o1, .int .i64 o2, .int .i64 o3, .int .i64 o4, .int .i64 o5, .int .i64 o6, .int .i64 o7] := heap_alloc_new w _
          have HB : Hid (Below w.heap.size w (w.alloc (.cells #[.int .i64 2, .int .i64 l, .int .i64 s, .int .i64 (n0 : Nat), .int .i64 (n1 : Nat), .int .i64 (n2 : Nat), .int .i64 (n3 : Nat), .int .i64 o0, .int .i64 o1, .int .i64 o2, .int .i64 o3, .int .i64 o4, .int .i64 o5, .int .i64 o6, .int .i64 o7] 25))) := (Below.refl w.heap.size w).alloc (Nat.le_refl _) _
          have KH := hid K0
          clear K0
          go_enter Try.func11, Try.ntmps11
          go_wp2_with (first
            | (go_at_call 27; refine (HC.out _).mono ?_; rintro e w4 ⟨rfl, b4⟩; have k4 := KH.out.mono b4; have B4 := hid (kept_trans HB.out b4)
               have z0 : w4.cell? ⟨w.heap.size, 0, none⟩ = some (.int .i64 2) := Blk.cell k4 (i := 0) (by simp)
               have z1 : w4.cell? ⟨w.heap.size, 1, none⟩ = some (.int .i64 l) := Blk.cell k4 (i := 1) (by simp)
               have z2 : w4.cell? ⟨w.heap.size, 2, none⟩ = some (.int .i64 s) := Blk.cell k4 (i := 2) (by simp)
               have z3 : w4.cell? ⟨w.heap.size, 3, none⟩ = some (.int .i64 (n0 : Nat)) := Blk.cell k4 (i := 3) (by simp)
               have z4 : w4.cell? ⟨w.heap.size, 4, none⟩ = some (.int .i64 (n1 : Nat)) := Blk.cell k4 (i := 4) (by simp)
               have z5 : w4.cell? ⟨w.heap.size, 5, none⟩ = some (.int .i64 (n2 : Nat)) := Blk.cell k4 (i := 5) (by simp)
               have z6 : w4.cell? ⟨w.heap.size, 6, none⟩ = some (.int .i64 (n3 : Nat)) := Blk.cell k4 (i := 6) (by simp)
               have z7 : w4.cell? ⟨w.heap.size, 7, none⟩ = some (.int .i64 o0) := Blk.cell k4 (i := 7) (by simp)
               have z8 : w4.cell? ⟨w.heap.size, 8, none⟩ = some (.int .i64 o1) := Blk.cell k4 (i := 8) (by simp)
               have z9 : w4.cell? ⟨w.heap.size, 9, none⟩ = some (.int .i64 o2) := Blk.cell k4 (i := 9) (by simp)
               have z10 : w4.cell? ⟨w.heap.size, 10, none⟩ = some (.int .i64 o3) := Blk.cell k4 (i := 10) (by simp)
               have z11 : w4.cell? ⟨w.heap.size, 11, none⟩ = some (.int .i64 o4) := Blk.cell k4 (i := 11) (by simp)
               have z12 : w4.cell? ⟨w.heap.size, 12, none⟩ = some (.int .i64 o5) := Blk.cell k4 (i := 12) (by simp)
               have z13 : w4.cell? ⟨w.heap.size, 13, none⟩ = some (.int .i64 o6) := Blk.cell k4 (i := 13) (by simp)
               have z14 : w4.cell? ⟨w.heap.size, 14, none⟩ = some (.int .i64 o7) := Blk.cell k4 (i := 14) (by simp)
               clear k4 b4)
            | (go_at_call 26; refine (HT.out _).mono ?_; rintro e w5 ⟨rfl, b5⟩; have B5 := hid (kept_trans B4.out b5); clear b5))
          go_ret
          exact ⟨by first | rfl | (simp; rfl), B5.out⟩
        · have hF : mDir i = false := by simpa using hF
          have HC := fun w1 => mayDir_any i w1
          rw [hF] at HC ⊢
          obtain ⟨k, l, s, b0, b1, b2, b3, o0, o1, o2, o3, o4, o5, o6, o7⟩ := i
          simp only at hk2
          subst hk2
          generalize twI _ = t at *
          clear hF
          unfold inoV inoC at *
          have HC := hid HC
          have HB : Hid (Below w.heap.size w (w.alloc (.cells #[.int .i64 2, .int .i64 l, .int .i64 s, .int .i64 b0, .int .i64 b1, .int .i64 b2, .int .i64 b3, .int .i64 o0, .int .i64 o1, .int .i64 o2, .int .i64 o3, .int .i64 o4, .int .i64 o5, .int .i64 o6, .int .i64 o7] 25))) := (Below.refl w.heap.size w).alloc (Nat.le_refl _) _
          go_enter Try.func11, Try.ntmps11
          go_wp2_with (go_at_call 27; refine (HC.out _).mono ?_; rintro e w4 ⟨rfl, b4⟩; have B4 := hid (kept_trans HB.out b4); clear b4)
          go_ret
          exact ⟨by first | rfl | (simp; rfl), B4.out⟩
      · have hM : mayI i = false := by unfold mayI; rw [if_neg hk0, if_neg hk1, if_neg hk2]
        rw [hM]
        clear hM
        obtain ⟨k, l, s, b0, b1, b2, b3, o0, o1, o2, o3, o4, o5, o6, o7⟩ := i
        have HB : Hid (Below w.heap.size w (w.alloc (.cells #[.int .i64 k, .int .i64 l, .int .i64 s, .int .i64 b0, .int .i64 b1, .int .i64 b2, .int .i64 b3, .int .i64 o0, .int .i64 o1, .int .i64 o2, .int .i64 o3, .int .i64 o4, .int .i64 o5, .int .i64 o6, .int .i64 o7] 25))) := (Below.refl w.heap.size w).alloc (Nat.le_refl _) _
        unfold inoV inoC
        simp only at hk0 hk1 hk2
        have e0 : (k == 0) = false := by simpa using hk0
        have e1 : (k == 1) = false := by simpa using hk1
        have e2 : (k == 2) = false := by simpa using hk2
        clear hk0 hk1 hk2
        go_enter Try.func11, Try.ntmps11
        go_wp2_with fail
        go_ret
        exact ⟨rfl, HB.out⟩

end Go.Proofs.Ytnmblbkbiehodaa
